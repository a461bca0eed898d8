import PyProof.Rows.All
import Wide.All
import OpenK.AllK
import Wide.FinOn
import Lean
import PyProof.EqAt
import PyProof.EqKinds
import PyProof.TupleCall
import PyProof.CompUse
import PyProof.NeData
import PyProof.WalksEnum
import PyProof.EnumMake
import PyProof.ZipIter
import PyProof.Rows.EnumRows
import PyProof.Rows.FactsT2
import KE.KDictList
import PyProof.Rows.SortRuns
import PyProof.Rows.SortWalk
import KE.KSortTup
import PyProof.Rows.SortStr
import PyProof.ListRange
import PyProof.StrOps2
import PyProof.StrBlock2
import PyProof.AutoIntG3
import PyProof.ListMulRight
import PyProof.Rows.ListMulArg
import PyProof.Rows.CallKwBuiltin
import PyProof.Rows.StrMul
import KE.KMinBuiltin
import PyProof.TupleKey
import PyProof.SetKind
import PyProof.Rows.SetFrom
import PyProof.DictWalks
import KE.KRevIter
import PyProof.AutoSeq1
import PyProof.P3Eq
import PyProof.MeetsSeq3
import PyProof.FactsAll.list_2
import PyProof.FactsAll.tuple_2
import PyProof.Rows.RowHeap
import PyProof.FactsAll.list_3
import PyProof.DictUpdate
import PySem.Challenge.RW_kinlook_k57_whole_can_is_an_order
open PySem renaming wpAny_bind->ah,wpAny_pure->aw,wpAny_mono->oj
open List renaming mem_cons_of_mem->b9,mem_cons_self->b5,length_map->bS,mem_map->bI,mem_append->dy,mem_append_right->fw,mem_cons->dr,getElem?_eq_some_iff->iS,nodup_append->g9,map_cons->fe,size_toArray->h9,map_map->eP,mem_append_left->kf,getElem?_eq_getElem->mG,mem_singleton->kg,length_append->kF,sublist_append_right->om,mem_of_getElem?->mn,nodup_cons->js,getElem?_map->mr,map_append->kG,nodup_nil->lh,mem_range->mI,getElem?_eq_none->tP,pairwise_map->pE,length_cons->pS,pairwise_iff_getElem->y6,length_take->qS,drop_eq_getElem_cons->AF,append_nil->qV,replicate_succ->xD,take_length->tS,getElem?_append_right->D1,zip_cons_cons->AG,flatten_cons->AH,map_congr_left->B1,mem_filter->y8,sublist_append_left->FY,getElem_mem->AI,length_eq_zero_iff->GA,getD_eq_getElem?_getD->KL,getElem?_append_left->KP,length_drop->B3,not_mem_nil->B4,nil_sublist->B5,getElem?_set_ne->GB,ext_getElem?->D2,take_add_one->D3,all_cons->AJ,any_cons->AK,map_fst_zip->D4,append_eq_nil_iff->KW,any_eq_true->D5,nodup_iff_pairwise_ne->Qo,mem_iff_getElem?->K0,length_zip->D6,filterMap_cons->K2,all_eq_true->GH,filter_eq_self->Lc,find?_cons->GL,append_assoc->Lv,mem_iff_getElem->Qp,mem_of_mem_take->Qq,cons_ne_nil->LB,getElem?_set_self->SQ,drop_of_length_le->SV,filter_cons->Qr,countP_cons->Qs,drop_length->Qt,map_take->LD,map_drop->LG,length_filter_le->SW,eraseIdx_eq_take_drop_succ->W9,mem_of_mem_drop->SX,length_eraseIdx->SY,mem_filterMap->S0,filterMap_map->S1,length_range->S2,cons_append->S3,lookup_cons->S4,all_map->Qu
open PySem.Heap renaming get?_push_of_some->fh,lt_size->eh,get?_push_size->iX,get?_update_self->y9,get?_update_other->LH,get?_push_ne->GN,size_update->GO
open Nat renaming le_refl->ck,ne_of_lt->fN,le_trans->gE,zero_le->fE,lt_of_lt_of_le->nI,le_of_lt->pT,lt_succ_of_lt->zh,lt_succ_of_le->AO,le_of_not_lt->GP,lt_or_ge->zk,pow_succ->zo,mul_le_mul->B6,le_of_eq->AQ,not_lt_zero->D7,lt_irrefl->B7,le_of_lt_succ->LJ,succ_pos->D8,zero_add->D9,le_add_right->Qw,mul_assoc->GU,le_succ->Ee,lt_of_le_of_lt->W_,min_self->GV,sub_zero->LM,mod_lt->GW,lt_trans->S5,add_zero->Qx,mul_comm->Qy
open Bool renaming false_ne_true->hU,false_eq_true->kH,and_eq_true->kK,eq_iff_iff->sF,not_true->LN,and_true->Qz
open Array renaming getElem?_toList->oq,getElem?_eq_getElem->wo,length_toList->tT,getD_eq_getD_getElem?->B8,getElem?_eq_none->GY,getElem?_eq_some_iff->QB,toArray_toList->S6,forIn_toList->S7
open Int renaming toNat_of_nonneg->B9,le_refl->ua,toNat_natCast->G0,le_of_lt->He,emod_lt_of_pos->QC,emod_nonneg->QD,le_trans->S8
open Option renaming map_eq_some_iff->QF,isSome_iff_exists->S9,map_some->QH,isSome_map->S_
local macro_rules | `(command| def $i:declId $s:optDeclSig $v:declVal)=>`(command| noncomputable def $i:declId $s:optDeclSig $v:declVal)
local macro_rules | `(command| abbrev $i:declId $s:optDeclSig $v:declVal)=>`(command| noncomputable abbrev $i:declId $s:optDeclSig $v:declVal)
set_option compiler.extract_closed false
local macro_rules | `(tactic| walk_at "l") => `(tactic| first | lia | omega)
local macro_rules | `(tactic| walk_at "s1") => `(tactic| solve_by_elim (maxDepth := 4) [Nat.lt_of_lt_of_le, Nat.lt_of_le_of_lt, Nat.le_trans, Nat.lt_trans, Nat.le_of_lt, Nat.le_of_not_lt])
local macro_rules | `(tactic| walk_at "s2") => `(tactic| solve_by_elim (maxDepth := 5) [Nat.lt_of_lt_of_le, Nat.lt_of_le_of_lt, Nat.le_trans, Nat.le_of_lt, Nat.le_of_not_lt, Nat.lt_of_not_le, Nat.lt_of_succ_lt, Nat.le_of_succ_le])
local macro_rules | `(tactic| walk_at "s3") => `(tactic| solve_by_elim (maxDepth := 5) [Int.lt_of_lt_of_le, Int.lt_of_le_of_lt, Int.le_trans, Int.le_of_lt, Int.not_lt.mp, Int.not_le.mp])
local macro_rules | `(tactic| walk_at "s4") => `(tactic| solve_by_elim (maxDepth := 5) [Nat.le_trans, Nat.lt_of_lt_of_le, Nat.le_of_lt, Nat.le_add_right, Nat.le_add_left, Nat.add_le_add_left, Nat.add_lt_add_left, Nat.succ_le_succ, Nat.sub_le])
theorem L2.gI{α β:Type _}{A B C:α->β->Prop}{G:Prop}(x:∃ a b,A a b/\B a b/\C a b)(k:∀ a b,A a b->B a b->C a b->G):G :=
 let ⟨a,b,p,q,r⟩:=x
 k a b p q r
set_option Elab.async false
set_option linter.all false
set_option maxRecDepth 100000
namespace L2
open PySem PySem.Spec PyProof.Rows
abbrev Key:=Sum Int Str
def EA:Key->Value->Bool
 |.inl k,v=>Value.isInt k v
 |.inr x,v=>Value.isStrOf x v
def aU'(w:World):Key->Int
 |.inl k=>hashInt k
 |.inr x=>hashStr w x
theorem xE:∀ {k:Key} {v:Value},EA k v=true->(∃ i t,k=Sum.inl i/\v=Value.int i t)\/(∃ x t,k=Sum.inr x/\v=Value.str x t)
 |.inl i,v,h=>by
  obtain⟨t,e⟩:=Value.isInt_shape (k:=i) (v:=v) h
  exact .inl ⟨i,t,rfl,e⟩
 |.inr x,v,h=>by
  obtain⟨t,e⟩:=Value.isStrOf_shape (x:=x) (v:=v) h
  exact .inr ⟨x,t,rfl,e⟩
theorem Xa(i:Int)(t:Tok):EA (.inl i) (.int i t)=true:=by simp[EA,Value.isInt]
theorem Xb(x:Str)(t:Tok):EA (.inr x) (.str x t)=true:=by simp[EA,Value.isStrOf]
theorem Xc(a b:Int):decide ((Sum.inl a:Key)=Sum.inl b)=(a == b):=by
 by_cases e:a=b
 ·subst e;simp
 ·have h:¬ (Sum.inl a:Key)=Sum.inl b:=fun q=>e (Sum.inl.inj q)
  rw[decide_eq_false h]
  exact(beq_eq_false_iff_ne.mpr e).symm
theorem Xd(a b:Str):decide ((Sum.inr a:Key)=Sum.inr b)=decide (a=b):=by
 by_cases e:a=b
 ·subst e;simp
 ·have h:¬ (Sum.inr a:Key)=Sum.inr b:=fun q=>e (Sum.inr.inj q)
  rw[decide_eq_false h,decide_eq_false e]
theorem aV'(a:Int)(b:Str):decide ((Sum.inl a:Key)=Sum.inr b)=false:=decide_eq_false (fun q=>nomatch q)
theorem aW'(a:Str)(b:Int):decide ((Sum.inr a:Key)=Sum.inl b)=false:=decide_eq_false (fun q=>nomatch q)
def ka(prog:Program)(w:World):PySem.KeyKind prog w Key where
 is:=EA
 hash:=aU' w
 inj:=fun v a b ha hb=>by
  rcases xE ha with⟨i,t,rfl,rfl⟩|⟨x,t,rfl,rfl⟩
  ·rcases xE hb with⟨j,u,rfl,e⟩|⟨y,u,rfl,e⟩
   ·injection e with e1 _;rw[e1]
   ·exact nomatch e
  ·rcases xE hb with⟨j,u,rfl,e⟩|⟨y,u,rfl,e⟩
   ·exact nomatch e
   ·injection e with e1 _;rw[e1]
 byValue:=fun k v h=>by
  rcases xE h with⟨i,t,rfl,rfl⟩|⟨x,t,rfl,rfl⟩<;>rfl
 pyHash:=fun hv h=>by
  rcases xE hv with⟨i,t,rfl,rfl⟩|⟨x,t,rfl,rfl⟩
  ·exact wpAny_pyHash_int h
  ·exact wpAny_pyHash_str h
 eqBool:=fun hu hv h=>by
  rcases xE hu with⟨i,t,rfl,rfl⟩|⟨x,t,rfl,rfl⟩
  ·rcases xE hv with⟨j,u,rfl,rfl⟩|⟨y,u,rfl,rfl⟩
   ·rw[Xc] at h;exact wpAny_eqBool_int h
   ·rw[aV'] at h;exact SeqAt.EqAt.int_str i t y u _ _ _ _ h
  ·rcases xE hv with⟨j,u,rfl,rfl⟩|⟨y,u,rfl,rfl⟩
   ·rw[aW'] at h;exact SeqAt.EqAt.str_int x t j u _ _ _ _ h
   ·rw[Xd] at h;exact wpAny_eqBool_str h
 «strs» := fun k x t v h=>by
  rcases xE h with⟨i,u,rfl,e⟩|⟨y,u,rfl,e⟩
  ·exact nomatch e
  ·injection e with e1 _
   subst e1
   cases v<;>rfl
theorem aX'(prog:Program)(w:World)(k:Key)(v:Value):(ka prog w).is k v=EA k v:=rfl
theorem aY'(prog:Program)(w:World)(i:Int)(t:Tok):(ka prog w).is (.inl i) (.int i t)=true:=Xa i t
theorem aZ'(prog:Program)(w:World)(x:Str)(t:Tok):(ka prog w).is (.inr x) (.str x t)=true:=Xb x t
inductive V where
 |non|bl (b:Bool)|int (i:Int)|str (x:Str)|ub (b:Array UInt8)|AR (b:UInt64)|ref (a:Addr)|ty (n:String)
 deriving DecidableEq
def RelV:V->Value->Prop
 |.non,u=>u=Value.none
 |.bl b,u=>u=Value.bool b
 |.int i,u=>∃ t,u=Value.int i t
 |.str x,u=>∃ t,u=Value.str x t
 |.ub b,u=>∃ t,u=Value.bytes b t
 |.AR b,u=>∃ t,u=Value.float b t
 |.ref a,u=>u=Value.ref a
 |.ty n,u=>u=Value.type n
abbrev Vals:List V->List Value->Prop:=Paired RelV
theorem Vals.length(r:Vals xs us):xs.length=us.length:=Paired.length r
theorem Vals.get:∀ {xs:List V} {us:List Value} {i:Nat} {x:V},Vals xs us->xs[i]? = some x->∃ u,us[i]? = some u/\RelV x u
 |_,_,_,_,.nil,e=>by simp at e
 |_,_,0,_,.cons r _,e=>by simp at e;subst e;exact⟨_,rfl,r⟩
 |_,_,i+1,x,.cons _ t,e=>by
  obtain⟨u,h1,h2⟩:=Vals.get (i:=i) (x:=x) t (by simpa using e)
  exact⟨u,by simpa using h1,h2⟩
theorem Vals.set(r:RelV x u):∀ {xs:List V} {us:List Value} (i:Nat),Vals xs us->Vals (xs.set i x) (us.set i u)
 |_,_,_,.nil=>.nil
 |_,_,0,.cons _ t=>.cons r t
 |_,_,i+1,.cons q t=>.cons q (Vals.set r i t)
theorem Vals.append:∀ {xs ys:List V} {us ws:List Value},Vals xs us->Vals ys ws->Vals (xs++ys) (us++ws)
 |_,_,_,_,.nil,s=>s
 |_,_,_,_,.cons r t,s=>.cons r (Vals.append t s)
theorem Vals.take:∀ {xs:List V} {us:List Value} (n:Nat),Vals xs us->Vals (xs.take n) (us.take n)
 |_,_,0,_=>.nil
 |_,_,_+1,.nil=>.nil
 |_,_,n+1,.cons r t=>.cons r (Vals.take n t)
theorem Vals.drop:∀ {xs:List V} {us:List Value} (n:Nat),Vals xs us->Vals (xs.drop n) (us.drop n)
 |_,_,0,r=>r
 |_,_,_+1,.nil=>.nil
 |_,_,n+1,.cons _ t=>Vals.drop n t
def ui:Option V->Option Value->Prop
 |some v,some u=>RelV v u
 |none,none=>True
 |_,_=>False
def KV{κ:Type}:List (κ × V)->List (κ × Value)->Prop:=Paired fun(p:κ × V) (q:κ × Value)=>p.1=q.1/\RelV p.2 q.2
def kV:Key->V
 |.inl i=>.int i
 |.inr x=>.str x
inductive HO where
 /-- a list -/
 |lst (xs:List V)
 /-- a tuple (never changes) -/
 |tup (xs:List V)
 /-- a dict whose keys are ints and texts;one whose keys are tuples of ints and texts (the empty one is both) -/
 |dK (kvs:List (Key × V))|dT (kvs:List (List Key × V))
 /-- a set of ints: its members,its size -/
 |set (S:Int->Bool) (n:Nat)
 /-- an instance of the class at C,its dict at dx,its attributes -/
 |ins (C dx:Addr) (fs:List (Str × V))
 /-- the dict of the instance at x -/
 |own (x:Addr)
 /-- the dict of an exception -/
 |xd (fs:List (Str × V))
 /-- a bound method,f of x -/
 |met (f x:Addr)
 /-- a range object lo,lo+1,.. below hi -/
 |Ta (lo hi:Int)
 /-- a thing that is known to the object (the script;a dict while a loop walks it): read,never written while it is so -/
 |eC (o:Obj) (u:HO)
 /-- a code object's table -/
 |sL (ps:Array Value)
 /-- any other thing,by what is true of its one object (a def of jg' own: jh' a S n:=HO.ext fun h=>..) -/
 |ext (φ:Heap->Prop)
abbrev Hp:=Addr->Option HO
def upd(H:Hp)(a:Addr)(o:HO):Hp:=fun b=>if b=a then some o else H b
theorem fi:upd H a o a=some o:=by unfold upd;rw[if_pos rfl]
theorem cv(h:b≠a):upd H a o b=H b:=by unfold upd;rw[if_neg h]
theorem Tb{H:Hp}{a b:Addr}{o u:HO}(h:H a=some o)(h':H b=some u)(d:o≠u):a≠b:=by
 intro e;subst e;rw[h] at h';exact d (Option.some.inj h')
theorem HC{H:Hp}{a b:Addr}{o:HO}(h:H a=some o)(h':H b=none):a≠b:=by
 intro e;subst e;rw[h] at h';cases h'
section
variable (P:Program)(w:World)
def fo(H:Hp)(h:Heap)(a:Addr):HO->Prop
 |.lst xs=>xs.length<=sizeLine/\∃ (its:List Value) (n:Nat),Vals xs its/\h.get? a=some { cls:=.type "list",data:=.seq its.toArray n }
 |.tup xs=>xs.length<=sizeLine/\∃ its:List Value,Vals xs its/\IsTup h a its.toArray
 |.dK kvs=>kvs.length<=sizeLine/\(a == sysModules)=false/\∃ vs,KV kvs vs/\h.DictOf (ka P w) a vs
 |.dT kvs=>kvs.length<=sizeLine/\(a == sysModules)=false/\∃ xs:List (List Key × Addr × Value),
   Paired (fun(p:List Key × V) (q:List Key × Addr × Value)=>p.1=q.1/\H q.2.1=some (.tup (p.1.map kV))/\RelV p.2 q.2.2) kvs xs /\
   ∃ o es ep,h.get? a=some o/\o.ExactDict/\o.data=.dict es ep/\es.toList=xs.map (entryOfKey (tupleKind (ka P w)))/\(xs.map (·.1)).Nodup
 |.set S n=>h.SetOf (intKind P w) a S n
 |.ins C dx fs=>H dx=some (.own a)/\fs.length<=1000/\dx≠a/\h.get? a=some (PySem.W.instObj C dx) /\
   ∃ mA,h.Ns1 dx mA/\(∀ f,ui (fs.lookup f) (mA f))/\PySem.Within mA (fs.map (·.1))
 |.own _=>∃ o,h.get? a=some o
 |.xd fs=>∃ mA,h.Ns1 a mA/\∀ f,ui (fs.lookup f) (mA f)
 |.Ta lo hi=>∃ t u v,h.get? a=some { cls:=.type "range",data:=.fields #[.int lo t,.int hi u,.int 1 v] }
 |.eC o u=>h.get? a=some o/\fo H h a u
 |.sL ps=>h.get? a=some { cls:=.none,data:=.fields ps }
 |.met f x=>h.get? a=some (PySem.W.methodObj (.ref f) (.ref x))
 |.ext φ=>φ h/\(∃ o,h.get? a=some o)/\∀ h1 h2:Heap,φ h1->(∀ o,h1.get? a=some o->h2.get? a=some o)->φ h2
def iA(H:Hp)(h:Heap):Prop:=∀ a o,H a=some o->fo P w H h a o
end
section
variable {P:Program}{w:World}{H H':Hp}{h h':Heap}{a:Addr}{o:HO}
theorem fo.lt(x:fo P w H h a o):a<h.objs.size:=by
 cases o with
 |lst xs=>obtain⟨_,_,_,_,e⟩:=x;exact eh e
 |tup xs=>obtain⟨_,_,_,p⟩:=x;exact p.lt
 |dK kvs=>obtain⟨_,_,_,_,o,_,_,e,_⟩:=x;exact eh e
 |dT kvs=>obtain⟨_,_,_,_,o,_,_,e,_⟩:=x;exact eh e
 |set S n=>obtain⟨o,_,_,_,e,_⟩:=x;exact eh e
 |ins C dx fs=>obtain⟨_,_,_,e,_⟩:=x;exact eh e
 |own y=>obtain⟨_,e⟩:=x;exact eh e
 |xd fs=>obtain⟨_,⟨_,_,_,e,_⟩,_⟩:=x;exact eh e
 |Ta lo hi=>obtain⟨_,_,_,e⟩:=x;exact eh e
 |eC ob u=>obtain⟨e,_⟩:=x;exact eh e
 |sL ps=>exact eh (show h.get? a=some _ from x)
 |met f y=>exact eh (show h.get? a=some _ from x)
 |ext φ=>obtain⟨_,⟨_,e⟩,_⟩:=x;exact eh e
theorem Paired.Tc{α β:Type}{F G:α->β->Prop}:∀ {Xe:List α} {Xf:List β},Paired F Xe Xf->(∀ a b,F a b->G a b)->Paired G Xe Xf
 |_,_,.nil,_=>.nil
 |_,_,.cons r t,f=>.cons (f _ _ r) (Paired.Tc t f)
theorem fo.fq(x:fo P w H h a o)(k:∀ b u,(b=a\/H b=some (.own a))->h.get? b=some u->h'.get? b=some u)
  (ho:∀ b,H b=some (.own a)->H' b=some (.own a)) (ht:∀ b xs,H b=some (.tup xs)->H' b=some (.tup xs)):fo P w H' h' a o:=by
 induction o with
 |lst xs=>obtain⟨z,its,n,r,e⟩:=x;exact⟨z,its,n,r,k _ _ (.inl rfl) e⟩
 |tup xs=>obtain⟨z,its,r,ob,e,c⟩:=x;exact⟨z,its,r,ob,k _ _ (.inl rfl) e,c⟩
 |dK kvs=>obtain⟨z,y,vs,r,ob,es,ep,e,c⟩:=x;exact⟨z,y,vs,r,ob,es,ep,k _ _ (.inl rfl) e,c⟩
 |dT kvs =>
  obtain⟨z,y,xs,r,ob,es,ep,e,c⟩:=x
  exact⟨z,y,xs,Paired.Tc r fun p q z=>⟨z.1,ht _ _ z.2.1,z.2.2⟩,ob,es,ep,k _ _ (.inl rfl) e,c⟩
 |set S n=>obtain⟨ob,es,ep,t,e,c⟩:=x;exact⟨ob,es,ep,t,k _ _ (.inl rfl) e,c⟩
 |ins C dx fs =>
  obtain⟨d,z,ne,e,mA,⟨od,es,ep,e2,c⟩,r⟩:=x
  exact⟨ho _ d,z,ne,k _ _ (.inl rfl) e,mA,⟨od,es,ep,k _ _ (.inr d) e2,c⟩,r⟩
 |own y=>obtain⟨ob,e⟩:=x;exact⟨ob,k _ _ (.inl rfl) e⟩
 |xd fs=>obtain⟨mA,⟨od,es,ep,e,c⟩,r⟩:=x;exact⟨mA,⟨od,es,ep,k _ _ (.inl rfl) e,c⟩,r⟩
 |Ta lo hi=>obtain⟨t,u,v,e⟩:=x;exact⟨t,u,v,k _ _ (.inl rfl) e⟩
 |eC ob u ih=>obtain⟨e,q⟩:=x;exact⟨k _ _ (.inl rfl) e,ih q⟩
 |sL ps =>
  have e:h.get? a=some { cls:=.none,data:=.fields ps }:=x
  show h'.get? a=some { cls:=.none,data:=.fields ps }
  exact k a _ (.inl rfl) e
 |met f y =>
  have e:h.get? a=some (PySem.W.methodObj (.ref f) (.ref y)):=x
  show h'.get? a=some (PySem.W.methodObj (.ref f) (.ref y))
  exact k a _ (.inl rfl) e
 |ext φ=>obtain⟨p,⟨o,e⟩,st⟩:=x;exact⟨st _ _ p fun o q=>k _ _ (.inl rfl) q,⟨o,k _ _ (.inl rfl) e⟩,st⟩
theorem iA.lt(x:iA P w H h)(e:H a=some o):a<h.objs.size:=(x a o e).lt
theorem iA.fresh(x:iA P w H h)(e:h.objs.size<=a):H a=none:=by
 cases q:H a with
 |none=>rfl
 |some u=>exact absurd (nI (x.lt q) e) (B7 _)
theorem iA.kept(x:iA P w H h)(k:∀ b u,h.get? b=some u->h'.get? b=some u):iA P w H h':=fun a o e =>
 (x a o e).fq (fun b u _ q=>k b u q) (fun _ q=>q) fun _ _ q=>q
theorem iA.laid(x:iA P w H h)(k:∀ b u,h.get? b=some u->h'.get? b=some u)(hp:h.objs.size<=a)(new:fo P w (upd H a o) h' a o):iA P w (upd H a o) h':=fun b u e=>by
 have hn:=x.fresh hp
 by_cases hb:b=a
 ·subst hb;rw[fi] at e;cases e;exact new
 ·rw[cv hb] at e
  exact(x b u e).fq (fun c v _ q=>k c v q) (fun c q=>by rw[cv (HC q hn)];exact q) fun c xs q=>by rw[cv (HC q hn)];exact q
end
def Rd(H:Hp)(a:Addr)(u:HO):Prop:=H a=some u\/∃ o,H a=some (.eC o u)
theorem Rd.ok{P:Program}(r:Rd H a u)(x:iA P w H h):fo P w H h a u:=by
 rcases r with r|⟨o,r⟩
 ·exact x a u r
 ·obtain⟨_,q⟩:=x a _ r
  exact q
def LP:Option HO->Prop
 |some (.lst _)=>True
 |some (.dK _)=>True
 |some (.dT _)=>True
 |some (.set _ _)=>True
 |some (.ins _ _ _)=>True
 |some (.ext _)=>True
 |_=>False
section
variable {P:Program}{w:World}{H:Hp}{h h':Heap}{x e:Addr}{o':HO}
theorem iA.write(ok:iA P w H h)(mu:LP (H x))(he:e=x\/H e=some (.own x))(k:∀ b u,b≠e->h.get? b=some u->h'.get? b=some u)(xI:∃ u,h'.get? e=some u)
  (new:fo P w (upd H x o') h' x o'):iA P w (upd H x o') h':=fun b u q=>by
 have Xg:∀ c y,H c=some (.own y)->c≠x:=fun c y r z=>by subst z;rw[r] at mu;exact mu
 have ba':∀ c xs,H c=some (.tup xs)->c≠x:=fun c xs r z=>by subst z;rw[r] at mu;exact mu
 by_cases hb:b=x
 ·subst hb;rw[fi] at q;cases q;exact new
 ·rw[cv hb] at q
  by_cases EB:b=e
  ·have q':H b=some (.own x):=by
    rcases he with z|z
    ·exact absurd (EB.trans z) hb
    ·rw[EB];exact z
   rw[q] at q';cases q'
   obtain⟨v,hv⟩:=xI
   exact⟨v,by rw[EB];exact hv⟩
  ·refine(ok b u q).fq (fun c v hc r=>k c v ?_ r) (fun c r=>by rw[cv (Xg c b r)];exact r) fun c xs r=>by rw[cv (ba' c xs r)];exact r
   rcases hc with rfl|hc
   ·exact EB
   ·rintro rfl
    rcases he with z|z
    ·exact Xg c b hc z
    ·rw[hc] at z;cases z;exact hb rfl
end
structure Un(fs ex:List Addr)(H H':Hp)(h h':Heap):Prop where
 keep:∀ b o,h.get? b=some o->H b=none->b∉fs->b∉ex->h'.get? b=some o
 slot:∀ b o,h.get? b=some o->H b=none->b∈fs->b∉ex->∃ sl,h'.get? b=some { o with slots:=sl }
 free:∀ b o,h.get? b=some o->H b=none->b∉ex->H' b=none
 there:∀ b o,h.get? b=some o->b∉ex->∃ o',h'.get? b=some o'
 ib:∀ b xs,H b=some (.tup xs)->H' b=some (.tup xs)
 sM:∀ b o u,H b=some (.eC o u)->H' b=some (.eC o u)
 uj:∀ b ps,H b=some (.sL ps)->∃ more,H' b=some (.sL (ps++more))
section
variable {fs ex:List Addr}{H H1 H2:Hp}{h h1 h2 h':Heap}{a x e:Addr}{o:HO}
theorem Un.any(u:Un fs ex H H1 h h1)(q:h.get? b=some ob)(n:H b=none)(hx:b∉ex):∃ sl,h1.get? b=some { ob with slots:=sl }:=by
 by_cases hb:b∈fs
 ·exact u.slot b ob q n hb hx
 ·exact⟨ob.slots,u.keep b ob q n hb hx⟩
theorem Un.trans(a:Un fs ex H H1 h h1)(b:Un fs ex H1 H2 h1 h2):Un fs ex H H2 h h2 where
 keep:=fun c ob q n hc hx=>b.keep c ob (a.keep c ob q n hc hx) (a.free c ob q n hx) hc hx
 slot:=fun c ob q n hc hx=>by
  obtain⟨sl,e1⟩:=a.slot c ob q n hc hx
  obtain⟨Td,e2⟩:=b.slot c _ e1 (a.free c ob q n hx) hc hx
  exact⟨Td,e2⟩
 free:=fun c ob q n hx=>by
  obtain⟨o',e1⟩:=a.there c ob q hx
  exact b.free c o' e1 (a.free c ob q n hx) hx
 there:=fun c ob q hx=>by
  obtain⟨o',e1⟩:=a.there c ob q hx
  exact b.there c o' e1 hx
 ib:=fun c xs q=>b.ib c xs (a.ib c xs q)
 sM:=fun c ob xs q=>b.sM c ob xs (a.sM c ob xs q)
 uj:=fun c ps q=>by
  obtain⟨m1,e1⟩:=a.uj c ps q
  obtain⟨m2,e2⟩:=b.uj c _ e1
  exact⟨m1++m2,by rw[e2,Array.append_assoc]⟩
theorem Un.kept(k:∀ b u,h.get? b=some u->h'.get? b=some u):Un fs ex H H h h' :=
 ⟨fun b ob q _ _ _=>k b ob q,fun b ob q _ _ _=>⟨ob.slots,k b ob q⟩,fun _ _ _ n _=>n,fun b ob q _=>⟨ob,k b ob q⟩,fun _ _ q=>q,fun _ _ _ q=>q,fun _ ps q=>⟨#[],by rw[q];simp⟩⟩
theorem Un.refl:Un fs ex H H h h:=Un.kept fun _ _ q=>q
theorem Un.laid(k:∀ b u,h.get? b=some u->h'.get? b=some u)(hp:h.objs.size<=a)(hn:H a=none):Un fs ex H (upd H a o) h h' where
 keep:=fun b u q _ _ _=>k b u q
 slot:=fun b u q _ _ _=>⟨u.slots,k b u q⟩
 free:=fun b u q n _=>by rw[cv (fN (nI (eh q) hp))];exact n
 there:=fun b u q _=>⟨u,k b u q⟩
 ib:=fun b xs q=>by rw[cv (HC q hn)];exact q
 sM:=fun b u xs q=>by rw[cv (HC q hn)];exact q
 uj:=fun b ps q=>⟨#[],by rw[cv (HC q hn),q];simp⟩
theorem Un.write(mu:LP (H x))(he:e=x\/H e=some (.own x))(k:∀ b u,b≠e->h.get? b=some u->h'.get? b=some u)(xI:∃ u,h'.get? e=some u):Un fs ex H (upd H x o) h h':=by
 have hx:∀ b,H b=none->b≠x:=fun b n z=>by subst z;rw[n] at mu;exact mu
 have hb:∀ b,H b=none->b≠e:=fun b n z=>by
  subst z
  rcases he with r|r
  ·exact hx b n r
  ·rw[n] at r;cases r
 have hm:∀ b u,H b=some u->¬ LP (some u)->b≠x:=fun b u q nm z=>by subst z;rw[q] at mu;exact nm mu
 refine⟨fun b u q n _ _=>k b u (hb b n) q,fun b u q n _ _=>⟨u.slots,k b u (hb b n) q⟩,fun b u q n _=>by rw[cv (hx b n)];exact n,fun b u q _=>?_,
  fun b xs q=>by rw[cv (hm b _ q fun z=>z)];exact q,fun b u xs q=>by rw[cv (hm b _ q fun z=>z)];exact q,fun b ps q=>⟨#[],by rw[cv (hm b _ q fun z=>z),q];simp⟩⟩
 by_cases EB:b=e
 ·subst EB;exact xI
 ·exact⟨u,k b u EB q⟩
end
def QJ(h:Heap)(H:Hp):List Addr:=(List.range h.objs.size).filter fun a=>(H a).isSome
def AU(h:Heap)(H:Hp):Heap:=PySem.W.hideAll h (QJ h H)
theorem bb'(h:Heap)(H:Hp):(AU h H).objs.size=h.objs.size:=PySem.W.hideAll_size _ _
theorem bc'(e:h.get? b=some o)(n:H b=none):(AU h H).get? b=some o :=
 PySem.W.hideAll_get _ e fun hm=>by
  have q:(H b).isSome=true:=(y8.mp hm).2
  rw[n] at q;simp at q
theorem bd'(e:(AU h H).get? b=some o):h.get? b=some o/\H b=none:=by
 have e':h.get? b=some o:=PySem.W.of_hideAll (QJ h H) e
 refine⟨e',?_⟩
 cases q:H b with
 |none=>rfl
 |some x =>
  have hm:b∈QJ h H:=y8.mpr ⟨mI.mpr (eh e'),by simp[q]⟩
  have z:(AU h H).get? b=none:=PySem.W.hideAll_none (QJ h H) hm
  rw[z] at e;cases e
def be'(g h:Heap)(L:Addr):List (Addr × Obj):=(List.range h.objs.size).filterMap fun a=>if a=L\/(g.get? a).isSome=true then none else (h.get? a).map fun o=>(a,o)
def rest(g h:Heap)(L d:Addr):List (Addr × Obj):=(be' g h L).filter fun p=>decide (p.1≠d)
structure Mod(K:PySem.W.Frag)(mg:Str->Option Value)(base:Heap):Prop where
 Te:K.In base
 glob:base.Ns mainGlobals mg
 blt:∃ mb,base.Ns builtinsNs mb/\∀ x:Str,x ≠ "__name__"->mb x=bootBuiltins x
 nolimit:base.NoLimit
structure Cx where
 prog:Program
 w:World
 K:PySem.W.Frag
 mg:Str->Option Value
 base:Heap
 A:Around
 N:List Str
 ki:Shared
 nK:Hp
 env:Env
 outer:List Env
 stack:List Env
 ex:List Addr
 fn:Str->Bool
 calm:Bool
 pn:List (Addr × Obj)
 xe:Value->Shared->Prop
def xS(l:List Env):List Addr:=l.filterMap (·.frame)
abbrev Cx.fs(X:Cx):List Addr:=xS X.outer
def QK(sc:Scope)(x:Str):Prop:=sc.names.lookup x=some .local\/sc.names.lookup x=some .cell\/sc.names.lookup x=some .free
def Loc(sc:Scope)(x:Str):Prop:=sc.names.lookup x=some .local\/sc.names.lookup x=some .cell
def Look(env:Env)(h:Heap)(m:Str->Option Value)(x:Str)(u:Value):Prop :=
 (env.kindOf x=some .local/\m x=some u)\/((env.kindOf x=some .cell\/env.kindOf x=some .free)/\∃ c,env.cells.lookup x=some c/\h.IsCell c (some u))
structure Cx.Ok(X:Cx):Prop where
 mod:Mod X.K X.mg X.base
 kind:X.env.scope.kind=.function
 glob:X.env.globals=mainGlobals
 blt:X.env.builtins=builtinsNs
 above:X.ki.heap.objs.size<=X.env.locals
 inj:∀ x y c,X.env.cells.lookup x=some c->X.env.cells.lookup y=some c->x=y
 has:∀ x,(X.env.kindOf x=some .cell\/X.env.kindOf x=some .free)->∃ c,X.env.cells.lookup x=some c
 LV:∀ x c,X.fn x=true->X.env.cells.lookup x=some c->X.ki.heap.objs.size<=c
 hd:X.calm=true->X.A.handled=none
 frames:X.A.frames=some X.stack
 QL:X.stack=X.outer\/(X.stack=X.env :: X.outer/\X.env.frame=some X.env.locals)
 QN:∀ b∈X.ex,b≠X.env.locals/\∀ x c,X.env.cells.lookup x=some c->c≠b
 bs:∀ b o,X.base.get? b=some o->X.ki.heap.get? b=some o/\X.nK b=none
 Cb:X.base.objs.size<=X.ki.heap.objs.size
 LW:∀ b o,X.base.get? b=some o->b∉X.ex
 LX:∀ b∈X.ex,b∉X.fs
 x5:X.ki.heap.FunFrames X.base X.outer
 HG:∀ b∈X.fs,X.nK b=none
structure Inv(X:Cx)(pins:List (Addr × Obj))(σ:List (Option V))(H:Hp)(s:Shared):Prop where
 ok:X.Ok
 os:s.os=X.ki.os
 bare:AllBare s.gens
 base:Un X.fs X.ex X.nK H X.ki.heap s.heap
 loc:∃ m,s.heap.Ns X.env.locals m/\∀ (i:Nat) (x:Str) (v:V),X.N[i]? = some x->σ[i]? = some (some v)->QK X.env.scope x->∃ u,RelV v u/\Look X.env s.heap m x u
 cell:∀ x c,X.env.cells.lookup x=some c->∃ v,s.heap.IsCell c v
 free:H X.env.locals=none
 uk:∀ x c,X.env.cells.lookup x=some c->H c=none
 pin:∀ p∈X.pn++pins,s.heap.get? p.1=some p.2/\H p.1=none/\p.1≠X.env.locals/\p.1∉X.fs/\∀ v,p.2.data≠.cell v
 bq:iA X.prog X.w H s.heap
 len:σ.length=X.N.length
section
variable {X:Cx}{pins:List (Addr × Obj)}{σ:List (Option V)}{H H':Hp}{s:Shared}{h':Heap}
theorem Cx.Ok.bf'(ok:X.Ok)(e:X.base.get? b=some o):b∉X.fs:=fun hb=>by
 have:=(ok.x5.mem hb).1
 rw[e] at this;cases this
theorem Inv.bs(I:Inv X pins σ H s):∀ b o,X.base.get? b=some o->s.heap.get? b=some o/\H b=none:=fun b o e =>
 ⟨I.base.keep b o (I.ok.bs b o e).1 (I.ok.bs b o e).2 (I.ok.bf' e) (I.ok.LW b o e),I.base.free b o (I.ok.bs b o e).1 (I.ok.bs b o e).2 (I.ok.LW b o e)⟩
theorem Inv.bk(I:Inv X pins σ H s):∀ b o,X.base.get? b=some o->s.heap.get? b=some o:=fun b o e=>(I.bs b o e).1
theorem Inv.mod(I:Inv X pins σ H s):Mod X.K X.mg X.base:=I.ok.mod
theorem Inv.kA(I:Inv X pins σ H s):X.K.In s.heap:=I.ok.mod.Te.keeps I.bk
theorem Inv.lt(I:Inv X pins σ H s):X.env.locals<s.heap.objs.size:=let ⟨_,hn,_⟩:=I.loc;hn.lt
theorem Inv.sz(I:Inv X pins σ H s):X.ki.heap.objs.size<=s.heap.objs.size:=gE I.ok.above (pT I.lt)
theorem Inv.bg'(I:Inv X pins σ H s)(h:s.heap.objs.size<=a):a∉X.fs:=fun hb=>by
 obtain⟨_,o,ho,_⟩:=I.ok.x5.mem hb
 exact absurd (nI (eh ho) (gE I.sz h)) (B7 _)
theorem Inv.EC(I:Inv X pins σ H s):∀ x c,X.env.cells.lookup x=some c->c≠X.env.locals:=fun x c e z=>by
 obtain⟨v,o,ho,hd⟩:=I.cell x c e
 obtain⟨m,⟨o',es,ep,mM,Ct,_⟩,_⟩:=I.loc
 rw[z,mM] at ho;cases ho;rw[Ct] at hd;cases hd
theorem Inv.x5(I:Inv X pins σ H s):s.heap.FunFrames X.base X.outer:=by
 have all:∀ (l:List Env),(∀ b∈xS l,b∈X.fs)->X.ki.heap.FunFrames X.base l->s.heap.FunFrames X.base l:=by
  intro l
  induction l with
  |nil=>intro _ _;trivial
  |cons env r ih =>
   intro hs hl
   obtain⟨hk,⟨L,o,hf,hn,ho,hd⟩,hr⟩:=hl
   have hL:L∈X.fs:=hs L (by unfold xS;rw[K2,hf];exact b5)
   obtain⟨sl,e⟩:=I.base.slot L o ho (I.ok.HG L hL) hL fun z=>I.ok.LX L z hL
   exact⟨hk,⟨L,_,hf,hn,e,hd⟩,ih (fun b hb=>hs b (by unfold xS;rw[K2,hf];exact b9 _ hb)) hr⟩
 exact all X.outer (fun _ hb=>hb) I.ok.x5
theorem Inv.stack(I:Inv X pins σ H s):s.heap.FunFrames X.base X.stack:=by
 rcases I.ok.QL with e|⟨e,hf⟩
 ·rw[e];exact I.x5
 ·rw[e]
  obtain⟨m,hn,_⟩:=I.loc
  refine .cons (by rw[I.ok.kind];decide) hf hn ?_ I.x5
  exact Heap.get?_none_of_le (gE I.ok.Cb I.ok.above)
theorem Inv.Tf(I:Inv X pins σ H s):∀ b∈xS X.stack,b∈X.env.locals :: X.fs:=fun b hb=>by
 rcases I.ok.QL with e|⟨e,hf⟩
 ·rw[e] at hb;exact b9 _ hb
 ·rw[e] at hb
  unfold xS at hb
  rw[K2,hf] at hb
  exact hb
theorem Inv.Xh(I:Inv X pins σ H s):∀ b∈xS X.stack,H b=none:=fun b hb=>by
 rcases dr.mp (I.Tf b hb) with e|hb
 ·rw[e];exact I.free
 ·obtain⟨_,o,ho,_⟩:=I.ok.x5.mem hb
  exact I.base.free b o ho (I.ok.HG b hb) fun z=>I.ok.LX b z hb
theorem Inv.step{g':Array GenState}{t':Nat}{d':Drawn}{ch:List Addr}(I:Inv X pins σ H s)
  (wq:∀ b∈ch,(b∈X.ex\/X.ki.heap.objs.size<=b)/\b≠X.env.locals/\(∀ x c,X.env.cells.lookup x=some c->c≠b)/\∀ p∈X.pn++pins,p.1≠b)
  (keep:∀ b o,b≠X.env.locals->b∉X.fs->b∉ch->s.heap.get? b=some o->H b=none->h'.get? b=some o)
  (slot:∀ b o,b≠X.env.locals->b∈X.fs->b∉ch->s.heap.get? b=some o->H b=none->∃ sl,h'.get? b=some { o with slots:=sl }) (free:∀ b o,b∉ch->s.heap.get? b=some o->H b=none->H' b=none)
  (there:∀ b o,b∉ch->s.heap.get? b=some o->∃ o',h'.get? b=some o')
  (ib:∀ b xs,H b=some (.tup xs)->H' b=some (.tup xs)) (sM:∀ b o u,H b=some (.eC o u)->H' b=some (.eC o u)) (uj:∀ b ps,H b=some (.sL ps)->∃ more,H' b=some (.sL (ps++more)))
  (ns:∀ m,s.heap.Ns X.env.locals m->h'.Ns X.env.locals m) (bq:iA X.prog X.w H' h') (hg:AllBare g') :
  Inv X pins σ H' { s with heap:=h',gens:=g',drawn:=d',toks:=t' }:=by
 have Xi:∀ b o,X.ki.heap.get? b=some o->b≠X.env.locals:=fun b o e=>fN (nI (eh e) I.ok.above)
 have QQ:∀ b o,X.ki.heap.get? b=some o->b∉X.ex->b∉ch:=fun b o e hx hb=>by
  rcases (wq b hb).1 with z|z
  ·exact hx z
  ·exact absurd (nI (eh e) z) (B7 _)
 have cellK:∀ x c,X.env.cells.lookup x=some c->∀ v,s.heap.IsCell c v->h'.IsCell c v:=fun x c e v cE=>by
  obtain⟨o,ho,hd⟩:=cE
  have LY:c∉ch:=fun z=>(wq c z).2.2.1 x c e rfl
  by_cases hc:c∈X.fs
  ·obtain⟨sl,q⟩:=slot c o (I.EC x c e) hc LY ho (I.uk x c e)
   exact⟨_,q,hd⟩
  ·exact⟨o,keep c o (I.EC x c e) hc LY ho (I.uk x c e),hd⟩
 refine⟨I.ok,I.os,hg,⟨fun b o e n hb hx=>?_,fun b o e n hb hx=>?_,fun b o e n hx=>?_,fun b o e hx=>?_,fun b xs e=>ib b xs (I.base.ib b xs e),fun b o xs e=>sM b o xs (I.base.sM b o xs e),fun b ps e=>?_⟩,?_,fun x c e=>?_,?_,fun x c e=>?_,fun p hp=>?_,bq,I.len⟩
 ·exact keep b o (Xi b o e) hb (QQ b o e hx) (I.base.keep b o e n hb hx) (I.base.free b o e n hx)
 ·obtain⟨sl,e1⟩:=I.base.slot b o e n hb hx
  obtain⟨Td,e2⟩:=slot b _ (Xi b o e) hb (QQ b o e hx) e1 (I.base.free b o e n hx)
  exact⟨Td,e2⟩
 ·obtain⟨o',e1⟩:=I.base.there b o e hx
  exact free b o' (QQ b o e hx) e1 (I.base.free b o e n hx)
 ·obtain⟨o',e1⟩:=I.base.there b o e hx
  exact there b o' (QQ b o e hx) e1
 ·obtain⟨m1,e1⟩:=I.base.uj b ps e
  obtain⟨m2,e2⟩:=uj b _ e1
  exact⟨m1++m2,by rw[e2,Array.append_assoc]⟩
 ·obtain⟨m,hn,hl⟩:=I.loc
  refine⟨m,ns m hn,fun i x v e1 e2 e3=>?_⟩
  obtain⟨u,r,l⟩:=hl i x v e1 e2 e3
  refine⟨u,r,?_⟩
  rcases l with l|⟨k,c,e,z⟩
  ·exact .inl l
  ·exact .inr ⟨k,c,e,cellK x c e _ z⟩
 ·obtain⟨v,z⟩:=I.cell x c e
  exact⟨v,cellK x c e v z⟩
 ·obtain⟨m,⟨o,_,_,ho,_⟩,_⟩:=I.loc
  exact free _ o (fun z=>(wq _ z).2.1 rfl) ho I.free
 ·obtain⟨v,o,ho,hd⟩:=I.cell x c e
  exact free c o (fun z=>(wq c z).2.2.1 x c e rfl) ho (I.uk x c e)
 ·obtain⟨e,n,ne,nf,d⟩:=I.pin p hp
  have LY:p.1∉ch:=fun z=>(wq p.1 z).2.2.2 p hp rfl
  exact⟨keep p.1 p.2 ne nf LY e n,free p.1 p.2 LY e n,ne,nf,d⟩
theorem Inv.un{t':Nat}(I:Inv X pins σ H s)(u:Un X.fs [] H H' s.heap h')(bq:iA X.prog X.w H' h'):Inv X pins σ H' { s with heap:=h',toks:=t' }:=by
 obtain⟨m,⟨o,es,ep,ho,r⟩,_⟩:=id I.loc
 obtain⟨sl,hL⟩:=u.any ho I.free (by simp)
 exact I.step (g':=s.gens) (d':=s.drawn) (ch:=[]) (fun _ z=>nomatch z) (fun b o _ hb _ e n=>u.keep b o e n hb (by simp)) (fun b o _ hb _ e n=>u.slot b o e n hb (by simp)) (fun b o _ e n=>u.free b o e n (by simp)) (fun b o _ e=>u.there b o e (by simp)) u.ib u.sM u.uj (fun m' hm=>by
  obtain⟨o',Tg,ep',mM,r'⟩:=hm
  rw[ho] at mM;cases mM
  exact⟨_,Tg,ep',hL,r'⟩) bq I.bare
theorem Inv.call{g':Array GenState}{t':Nat}{d':Drawn}{ch:List Addr}(I:Inv X pins σ H s)(u:Un (xS X.stack) ch H H' s.heap h')(bq:iA X.prog X.w H' h')(hg:AllBare g')
  (wq:∀ b∈ch,(b∈X.ex\/X.ki.heap.objs.size<=b)/\b≠X.env.locals/\(∀ x c,X.env.cells.lookup x=some c->c≠b)/\∀ p∈X.pn++pins,p.1≠b) :
  Inv X pins σ H' { s with heap:=h',gens:=g',drawn:=d',toks:=t' }:=by
 obtain⟨m,⟨o,es,ep,ho,r⟩,_⟩:=id I.loc
 obtain⟨sl,hL⟩:=u.any ho I.free fun z=>(wq _ z).2.1 rfl
 exact I.step (ch:=ch) wq (fun b o hL hb hc e n=>u.keep b o e n (fun z=>(dr.mp (I.Tf b z)).elim hL hb) hc) (fun b o _ _ hc e n=>u.any e n hc) (fun b o hc e n=>u.free b o e n hc) (fun b o hc e=>u.there b o e hc) u.ib u.sM u.uj (fun m' hm=>by
  obtain⟨o',Tg,ep',mM,r'⟩:=hm
  rw[ho] at mM;cases mM
  exact⟨_,Tg,ep',hL,r'⟩) bq hg
theorem Inv.turned{t':Nat}{it:Addr}(I:Inv X pins σ H s)(k:∀ b o,b≠it->s.heap.get? b=some o->h'.get? b=some o)(hn:H it=none)(hL:it≠X.env.locals)
  (h1:it∈X.ex\/X.ki.heap.objs.size<=it) (h2:∀ x c,X.env.cells.lookup x=some c->c≠it) (h3:∀ p∈X.pn++pins,p.1≠it):Inv X pins σ H { s with heap:=h',toks:=t' }:=by
 have Xj:∀ b u,H b=some u->b≠it:=fun b u e z=>by rw[z,hn] at e;cases e
 refine I.step (g':=s.gens) (d':=s.drawn) (ch:=[it]) (fun b hb=>?_) (fun b o _ _ hc e _=>k b o (fun z=>hc (by simp[z])) e) (fun b o _ _ hc e _=>⟨o.slots,k b o (fun z=>hc (by simp[z])) e⟩) (fun _ _ _ _ n=>n)
  (fun b o hc e=>⟨o,k b o (fun z=>hc (by simp[z])) e⟩) (fun _ _ e=>e) (fun _ _ _ e=>e) (fun b ps e=>⟨#[],by rw[e];simp⟩) (fun m hm=>?_) (fun b u e=>?_) I.bare
 ·have e:b=it:=by simpa using hb
  subst e
  exact⟨h1,hL,h2,h3⟩
 ·obtain⟨o,es,ep,ho,r⟩:=hm
  exact⟨o,es,ep,k _ o (Ne.symm hL) ho,r⟩
 ·refine(I.bq b u e).fq (fun c v hc q=>k c v ?_ q) (fun _ q=>q) fun _ _ q=>q
  rcases hc with z|z
  ·rw[z];exact Xj b u e
  ·exact Xj c _ z
theorem Inv.tok(I:Inv X pins σ H s)(t:Nat):Inv X pins σ H { s with toks:=t }:=I.un (h':=s.heap) (t':=t) Un.refl I.bq
theorem Inv.kept(I:Inv X pins σ H s)(k:∀ b u,s.heap.get? b=some u->h'.get? b=some u):Inv X pins σ H { s with heap:=h',toks:=t' }:=I.un (Un.kept k) (I.bq.kept k)
theorem Inv.laid(I:Inv X pins σ H s)(k:∀ b u,s.heap.get? b=some u->h'.get? b=some u)(hp:s.heap.objs.size<=a)(new:fo X.prog X.w (upd H a o) h' a o) :
  Inv X pins σ (upd H a o) { s with heap:=h',toks:=t' }:=I.un (Un.laid k hp (I.bq.fresh hp)) (I.bq.laid k hp new)
theorem Inv.write(I:Inv X pins σ H s)(mu:LP (H x))(he:e=x\/H e=some (.own x))(k:∀ b u,b≠e->s.heap.get? b=some u->h'.get? b=some u)(xI:∃ u,h'.get? e=some u)
  (new:fo X.prog X.w (upd H x o) h' x o):Inv X pins σ (upd H x o) { s with heap:=h',toks:=t' }:=I.un (Un.write mu he k xI) (I.bq.write mu he k xI new)
theorem Inv.Xk(I:Inv X pins σ H s)(h:∀ p∈bh',s.heap.get? p.1=some p.2/\H p.1=none/\p.1≠X.env.locals/\p.1∉X.fs/\∀ v,p.2.data≠.cell v):Inv X bh' σ H s :=
 ⟨I.ok,I.os,I.bare,I.base,I.loc,I.cell,I.free,I.uk,fun p hp=>(dy.mp hp).elim (fun z=>I.pin p (kf _ z)) (h p),I.bq,I.len⟩
theorem Xl{N:List Str}(hN:N.Nodup){i j:Nat}{x:Str}(a:N[i]? = some x)(b:N[j]? = some x):i=j:=by
 obtain⟨h1,e1⟩:=iS.mp a
 obtain⟨h2,e2⟩:=iS.mp b
 exact(List.getElem_inj hN).mp (e1.trans e2.symm)
theorem Xm{M:Model}{A:Around}{E:Value->Shared->Prop}{i:Nat}{x:Str}{v:V}{u:Value}{Q:Unit->Shared->Prop}(I:Inv X pins σ H s)(hN:X.N.Nodup)(hi:X.N[i]? = some x)(hx:Loc X.env.scope x)(r:RelV v u)
  (h:∀ s',Inv X pins (σ.set i (some v)) H s'->(∃ a,Heap.SameBut a s.heap s'.heap/\(a=X.env.locals\/X.env.cells.lookup x=some a))->Q () s') (hf:X.fn x=true\/X.env.scope.names.lookup x=some .local:=by first|exact .inl rfl|exact .inr rfl|assumption):wpAny M A (storeName X.env x u) Q E s:=by
 obtain⟨m,hn,hl⟩:=id I.loc
 have bi':(X.env.scope.kind == .class || (X.env.scope.kind == .module && X.env.locals != X.env.globals))=false:=by rw[I.ok.kind];rfl
 have Xn:i<σ.length:=by rw[I.len];exact(iS.mp hi).1
 have EC:=I.EC
 have tracked:∀ {a:Addr} {h':Heap},(∃ o,s.heap.get? a=some o/\H a=none)->Heap.SameBut a s.heap h'->iA X.prog X.w H h':=fun {a h'} ha hs b ob e=>by
  obtain⟨_,_,Xo⟩:=ha
  refine(I.bq b ob e).fq (fun c w' hc q=>(hs.2 c ?_).trans q) (fun _ q=>q) fun _ _ q=>q
  rintro rfl
  rcases hc with rfl|hc
  ·rw[Xo] at e;cases e
  ·rw[Xo] at hc;cases hc
 rcases hx with hk|hk
 ·refine wpAny_storeName_local hk hn (fun h' AV hs=>?_) bi'
  obtain⟨oL,_,_,CB,_⟩:=id hn
  refine h _ ⟨I.ok,I.os,I.bare,⟨fun b o e n hb hx=>?_,fun b o e n hb hx=>?_,I.base.free,fun b o e hx=>?_,I.base.ib,I.base.sM,I.base.uj⟩,⟨_,AV,fun j y v' e1 e2 e3=>?_⟩,fun y c e=>?_,I.free,I.uk,fun p hp=>?_,tracked ⟨oL,CB,I.free⟩ hs,by simpa using I.len⟩ ⟨_,hs,.inl rfl⟩
  ·exact(hs.2 b (fN (nI (eh e) I.ok.above))).trans (I.base.keep b o e n hb hx)
  ·obtain⟨sl,e1⟩:=I.base.slot b o e n hb hx
   exact⟨sl,(hs.2 b (fN (nI (eh e) I.ok.above))).trans e1⟩
  ·obtain⟨o',e1⟩:=I.base.there b o e hx
   exact⟨o',(hs.2 b (fN (nI (eh e) I.ok.above))).trans e1⟩
  ·by_cases hj:j=i
   ·subst hj
    rw[hi] at e1;cases e1
    rw[SQ Xn] at e2
    cases e2
    exact⟨u,r,.inl ⟨hk,by simp⟩⟩
   ·rw[GB (Ne.symm hj)] at e2
    obtain⟨u',r',q⟩:=hl j y v' e1 e2 e3
    refine⟨u',r',?_⟩
    rcases q with⟨k,e⟩|⟨k,c,e,z⟩
    ·refine .inl ⟨k,?_⟩
     have:y≠x:=fun e=>hj (Xl hN e1 (e ▸ hi))
     simp[this,e]
    ·exact .inr ⟨k,c,e,z.sameBut hs (EC y c e)⟩
  ·obtain⟨w',z⟩:=I.cell y c e
   exact⟨w',z.sameBut hs (EC y c e)⟩
  ·obtain⟨e,n,ne,nf,d⟩:=I.pin p hp
   exact⟨(hs.2 p.1 ne).trans e,n,ne,nf,d⟩
 ·have Ti:X.fn x=true:=by
   rcases hf with z|z
   ·exact z
   ·rw[z] at hk;cases hk
  obtain⟨c,hc⟩:=I.ok.has x (.inl hk)
  obtain⟨w',z⟩:=I.cell x c hc
  refine wpAny_storeName_cell I.ok.kind hk hc z (fun h' ED hs=>?_)
  obtain⟨oc,HK,bj'⟩:=id z
  refine h { s with heap:=h' } ⟨I.ok,I.os,I.bare,⟨fun b o e n hb hx=>?_,fun b o e n hb hx=>?_,I.base.free,fun b o e hx=>?_,I.base.ib,I.base.sM,I.base.uj⟩,⟨m,hn.sameBut hs (Ne.symm (EC x c hc)),fun j y v' e1 e2 e3=>?_⟩,fun y c' e=>?_,I.free,I.uk,fun p hp=>?_,tracked ⟨oc,HK,I.uk x c hc⟩ hs,by simpa using I.len⟩ ⟨c,hs,.inr hc⟩
  ·exact(hs.2 b (fN (nI (eh e) (I.ok.LV x c Ti hc)))).trans (I.base.keep b o e n hb hx)
  ·obtain⟨sl,e1⟩:=I.base.slot b o e n hb hx
   exact⟨sl,(hs.2 b (fN (nI (eh e) (I.ok.LV x c Ti hc)))).trans e1⟩
  ·obtain⟨o',e1⟩:=I.base.there b o e hx
   exact⟨o',(hs.2 b (fN (nI (eh e) (I.ok.LV x c Ti hc)))).trans e1⟩
  ·by_cases hj:j=i
   ·subst hj
    rw[hi] at e1;cases e1
    rw[SQ Xn] at e2
    cases e2
    exact⟨u,r,.inr ⟨.inl hk,c,hc,ED⟩⟩
   ·rw[GB (Ne.symm hj)] at e2
    obtain⟨u',r',q⟩:=hl j y v' e1 e2 e3
    refine⟨u',r',?_⟩
    rcases q with q|⟨k,c',e,z'⟩
    ·exact .inl q
    ·refine .inr ⟨k,c',e,z'.sameBut hs ?_⟩
     rintro rfl
     exact hj (Xl hN e1 (I.ok.inj _ _ _ e hc ▸ hi))
  ·by_cases QR:c'=c
   ·subst QR;exact⟨_,ED⟩
   ·obtain⟨w2,z2⟩:=I.cell y c' e
    exact⟨w2,z2.sameBut hs QR⟩
  ·obtain⟨e,n,ne,nf,d⟩:=I.pin p hp
   refine⟨(hs.2 p.1 ?_).trans e,n,ne,nf,d⟩
   intro q
   rw[q,HK] at e
   have q':oc=p.2:=Option.some.inj e
   exact d w' (by rw[<- q'];exact bj')
theorem Xp(I:Inv X pins σ H s)(hN:X.N.Nodup)(hi:X.N[i]? = some x)(hx:Loc X.env.scope x)(r:RelV v u)
  (h:∀ s',Inv X pins (σ.set i (some v)) H s'->Q () s') (hf:X.fn x=true\/X.env.scope.names.lookup x=some .local:=by first|exact .inl rfl|exact .inr rfl|assumption):wpAny M A (storeName X.env x u) Q E s :=
 Xm I hN hi hx r (fun s' I' _=>h s' I') hf
theorem Inv.bk'(I:Inv X pins σ H s)(ho:s'.os=s.os)(u:Un (xS X.stack) ch H H' s.heap s'.heap)(bq:iA X.prog X.w H' s'.heap)(hg:AllBare s'.gens)
  (wq:∀ b∈ch,(b∈X.ex\/X.ki.heap.objs.size<=b)/\b≠X.env.locals/\(∀ x c,X.env.cells.lookup x=some c->c≠b)/\∀ p∈X.pn++pins,p.1≠b):Inv X pins σ H' s':=by
 obtain⟨h',g',d',t',o'⟩:=s'
 have e:o'=s.os:=ho
 subst e
 exact I.call (g':=g') (t':=t') (d':=d') u bq hg wq
end
abbrev XK:=Value->Option Addr->Hp->Prop
abbrev St:=List (Option V)
abbrev VK:=V->Hp->Prop
abbrev TE:=St->Hp->VK->Prop
abbrev TT:=St->Hp->(Bool->Hp->Prop)->Prop
abbrev TA:=St->Hp->(List V->Hp->Prop)->Prop
structure Ends where
 nx:St->Hp->Prop
 rt:VK
 bk:St->Hp->Prop:=fun _ _=>False
 ct:St->Hp->Prop:=fun _ _=>False
abbrev TS:=Ends->St->Hp->Prop
def EP(X:Cx)(pins:List (Addr × Obj))(σ:St)(Q:VK)(u:Value)(s':Shared):Prop:=∃ v H',Inv X pins σ H' s'/\RelV v u/\Q v H'
def TP(X:Cx)(pins:List (Addr × Obj))(σ:St)(Q:Bool->Hp->Prop)(b:Bool)(s':Shared):Prop:=∃ H',Inv X pins σ H' s'/\Q b H'
def AP(X:Cx)(pins:List (Addr × Obj))(σ:St)(Q:List V->Hp->Prop)(us:List Value)(s':Shared):Prop:=∃ vs H',Inv X pins σ H' s'/\Vals vs us/\Q vs H'
def SP(X:Cx)(pins:List (Addr × Obj))(D:Ends)(f:Flow)(s':Shared):Prop :=
 match f with
 |.next=>∃ bE H',Inv X pins bE H' s'/\D.nx bE H'
 |.brk=>∃ bE H',Inv X pins bE H' s'/\D.bk bE H'
 |.cont=>∃ bE H',Inv X pins bE H' s'/\D.ct bE H'
 |.ret u=>∃ v bE H',Inv X pins bE H' s'/\RelV v u/\D.rt v H'
def PE(X:Cx)(e:Expr)(t:TE):Prop :=
 ∀ (pins:List (Addr × Obj)) (s:Shared) (σ:St) (H:Hp) (Q:VK),Inv X pins σ H s->t σ H Q->wpAny (model X.prog X.w) X.A (eval e X.env) (EP X pins σ Q) X.xe s
def PT(X:Cx)(e:Expr)(t:TT):Prop :=
 ∀ (pins:List (Addr × Obj)) (s:Shared) (σ:St) (H:Hp) (Q:Bool->Hp->Prop),Inv X pins σ H s->t σ H Q->wpAny (model X.prog X.w) X.A (isTrue e X.env (eval e X.env)) (TP X pins σ Q) X.xe s
def PW(X:Cx)(e:Expr)(t:TT):Prop :=
 ∀ (whole:Sem Value) (pins:List (Addr × Obj)) (s:Shared) (σ:St) (H:Hp) (Q:Bool->Hp->Prop),Inv X pins σ H s->t σ H Q->wpAny (model X.prog X.w) X.A (isTrue e X.env whole) (TP X pins σ Q) X.xe s
def PA(X:Cx)(es:List Expr)(t:TA):Prop :=
 ∀ (pos:Pos) (pins:List (Addr × Obj)) (s:Shared) (σ:St) (H:Hp) (Q:List V->Hp->Prop),Inv X pins σ H s->t σ H Q->wpAny (model X.prog X.w) X.A (spliced (backTo pos (starEach es X.env))) (AP X pins σ Q) X.xe s
def PS(X:Cx)(st:Stmt)(t:TS):Prop :=
 ∀ (pins:List (Addr × Obj)) (s:Shared) (σ:St) (H:Hp) (D:Ends),Inv X pins σ H s->t D σ H->wpAny (model X.prog X.w) X.A (exec st X.env) (SP X pins D) X.xe s
def lj(X:Cx)(st:List Stmt)(t:TS):Prop :=
 ∀ (pins:List (Addr × Obj)) (s:Shared) (σ:St) (H:Hp) (D:Ends),Inv X pins σ H s->t D σ H->wpAny (model X.prog X.w) X.A (execs st X.env) (SP X pins D) X.xe s
theorem cw{α:Type}{t:Sem α}{Q Q':α->Shared->Prop}{M:Model}{A:Around}{E:Value->Shared->Prop}{s:Shared}(h:wpAny M A t Q E s)(hQ:∀ a s,Q a s->Q' a s):wpAny M A t Q' E s:=oj h hQ fun _ _ x=>x
section
variable {X:Cx}
def wt(i:Nat):TE:=fun σ H Q=>∃ v,σ[i]? = some (some v)/\Q v H
def tC(v:V):TE:=fun _ H Q=>Q v H
theorem Xq (hN:X.N[i]? = some x) (hv:QK X.env.scope x) (hd:(x == ("__debug__" : Str))=false:=by decide) (ot:(x == ("__classdict__" : Str))=false:=by decide):PE X (.Name x pos) (wt i):=by
 intro pins s σ H Q I h
 obtain⟨v,e,h⟩:=h
 obtain⟨m,hn,hl⟩:=I.loc
 obtain⟨u,r,l⟩:=hl i x v hN e hv
 have fin:EP X pins σ Q u s:=⟨v,H,I,r,h⟩
 rcases l with⟨hk,hm⟩|⟨hk,c,hc,Xr⟩
 ·exact wpAny_Name (wpAny_loadName_local I.ok.kind hk hn hm fin) hd
 ·rcases hk with hk|hk
  ·exact wpAny_Name (wpAny_loadName_cell I.ok.kind hk hc Xr fin) hd
  ·exact wpAny_Name (wpAny_loadName_free I.ok.kind hk hc Xr fin ot) hd
theorem bl'{i j pos}:PE X (.Constant (.int i) j pos) (tC (.int i)):=fun _ _ _ H _ I h=>wpAny_Constant_int ⟨.int i,H,I.tok _,⟨_,rfl⟩,h⟩
theorem bm'{b j pos}:PE X (.Constant (.bool b) j pos) (tC (.bl b)):=fun _ _ _ H _ I h=>Constant_bool ⟨.bl b,H,I,rfl,h⟩
theorem bn'{j pos}:PE X (.Constant .none j pos) (tC .non):=fun _ _ _ H _ I h=>Constant_none ⟨.non,H,I,rfl,h⟩
theorem bo'{x j pos}:PE X (.Constant (.str x) j pos) (tC (.str x)):=fun _ _ _ H _ I h=>Calls.Constant_str ⟨.str x,H,I.tok _,⟨_,rfl⟩,h⟩
def Gl(X:Cx)(x:Str):Prop:=X.env.kindOf x=some .globalImplicit
theorem Xu(I:Inv X pins σ H s)(hg:Gl X x)(hm:X.mg x=some u)(h:Q u s)
  (hd:(x == ("__debug__" : Str))=false:=by decide):wpAny (model X.prog X.w) X.A (eval (.Name x pos) X.env) Q E s :=
 Calls.Name_function_global I.ok.kind hg (Calls.loadGlobal_global (by rw[I.ok.glob];exact I.mod.glob.keeps I.bk) hm h) hd
theorem CC(I:Inv X pins σ H s)(hg:Gl X x)(hm:X.mg x=none)(hv:bootBuiltins x=some u)(h:Q u s)
  (hn:x ≠ "__name__" := by decide) (hd:(x == ("__debug__" : Str))=false:=by decide):wpAny (model X.prog X.w) X.A (eval (.Name x pos) X.env) Q E s:=by
 obtain⟨mb,h1,h2⟩:=I.mod.blt
 exact Calls.Name_function_global I.ok.kind hg (Calls.loadGlobal_builtin (by rw[I.ok.glob];exact I.mod.glob.keeps I.bk) hm (by rw[I.ok.blt];exact h1.keeps I.bk) ((h2 x hn).trans hv) h) hd
theorem Xv (hg:Gl X x) (hm:X.mg x=some u) (r:RelV v u) (hd:(x == ("__debug__" : Str))=false:=by decide):PE X (.Name x pos) (tC v) :=
 fun _ _ _ H _ I h=>Xu I hg hm ⟨v,H,I,r,h⟩ hd
theorem bp' (hg:Gl X x) (hm:X.mg x=none) (hv:bootBuiltins x=some u) (r:RelV v u) (hn:x ≠ "__name__" := by decide) (hd:(x == ("__debug__" : Str))=false:=by decide):PE X (.Name x pos) (tC v) :=
 fun _ _ _ H _ I h=>CC I hg hm hv ⟨v,H,I,r,h⟩ hn hd
variable {a b:Expr}{ta tb:TE}{pos:Pos}
def tB(t:TE):TT:=fun σ H Q=>t σ H fun x H1=>∃ c,x=.bl c/\Q c H1
theorem bq'(h:PE X e t)(he:∀ whole,isTrue e X.env whole=(do let v <- whole;standAt e.pos;holding [v] (truthy v)):=by intro _;rfl):PT X e (tB t):=by
 intro pins s σ H Q I hw
 refine isTrue_plain (cw (h pins s σ H _ I hw) fun v s1 cK=>L2.gI cK fun x H1 I1 r1 q1=>?_) (he _)
 obtain⟨d,rfl,q⟩:=q1
 cases r1
 exact wpAny_truthy_bool ⟨H1,I1,q⟩
variable {tA QV:TT}{rest:List Expr}
def bs'(t u:TT):TT:=fun σ H Q=>t σ H fun c H1=>if c=true then u σ H1 Q else Q false H1
def tOr(t u:TT):TT:=fun σ H Q=>t σ H fun c H1=>if c=true then Q true H1 else u σ H1 Q
def bu'(t:TT):TT:=fun σ H Q=>t σ H fun c H1=>Q (!c) H1
theorem pw_and1(ha:PT X a tA):PW X (.BoolOp .And [a] pos) tA:=by
 intro wh pins s σ H Q I h
 refine isTrue_and (cw (ha pins s σ H Q I h) fun c s1 e=>?_)
 cases c with
 |true=>exact isTrue_and_nil e
 |false=>exact e
theorem pw_or1(ha:PT X a tA):PW X (.BoolOp .Or [a] pos) tA:=by
 intro wh pins s σ H Q I h
 refine isTrue_or (cw (ha pins s σ H Q I h) fun c s1 e=>?_)
 cases c with
 |false=>exact isTrue_or_nil e
 |true=>exact e
theorem pw_and(ha:PT X a tA)(hb:PW X (.BoolOp .And (b :: rest) pos) QV):PW X (.BoolOp .And (a :: b :: rest) pos) (bs' tA QV):=by
 intro wh pins s σ H Q I h
 refine isTrue_and (cw (ha pins s σ H _ I h) fun c s1 cE=>?_)
 obtain⟨H1,I1,q1⟩:=cE
 cases c with
 |true=>exact hb wh pins s1 σ H1 Q I1 q1
 |false=>exact⟨H1,I1,q1⟩
theorem pw_or(ha:PT X a tA)(hb:PW X (.BoolOp .Or (b :: rest) pos) QV):PW X (.BoolOp .Or (a :: b :: rest) pos) (tOr tA QV):=by
 intro wh pins s σ H Q I h
 refine isTrue_or (cw (ha pins s σ H _ I h) fun c s1 cE=>?_)
 obtain⟨H1,I1,q1⟩:=cE
 cases c with
 |true=>exact⟨H1,I1,q1⟩
 |false=>exact hb wh pins s1 σ H1 Q I1 q1
theorem bv'(ha:PT X a tA):PT X (.UnaryOp .Not a pos) (bu' tA):=by
 intro pins s σ H Q I h
 exact isTrue_not (ha pins s σ H (fun c H1=>Q (!c) H1) I h)
def tIf(t:TT)(ta tb:TE):TE:=fun σ H Q=>t σ H fun c H1=>if c=true then ta σ H1 Q else tb σ H1 Q
theorem bx'(hc:PT X c tA)(ha:PE X a ta)(hb:PE X b tb):PE X (.IfExp c a b pos) (tIf tA ta tb):=by
 intro pins s σ H Q I h
 refine wpAny_IfExp (cw (hc pins s σ H _ I h) fun d s1 cE=>?_)
 obtain⟨H1,I1,q1⟩:=cE
 cases d with
 |true=>exact ha pins s1 σ H1 Q I1 q1
 |false=>exact hb pins s1 σ H1 Q I1 q1
end
def eR(K:PySem.W.Frag)(H:Hp)(a:Addr)(xs:List V):Prop :=
 Rd H a (.lst xs) \/
  ∃ (o:Obj) (its:Array Value) (n:Nat),K.lookup a=some o/\o.cls=.type "list"/\o.dict=none/\o.data=.seq its n/\its.size<=sizeLine/\Vals xs its.toList
def kL(K:PySem.W.Frag)(H:Hp)(a:Addr)(xs:List V):Prop :=
 Rd H a (.tup xs) \/
  ∃ (o:Obj) (its:Array Value) (n:Nat),K.lookup a=some o/\o.cls=.type "tuple"/\o.data=.seq its n/\its.size<=sizeLine/\Vals xs its.toList
def by':Value->Option V
 |.none=>some .non
 |.bool b=>some (.bl b)
 |.int i _=>some (.int i)
 |.str x _=>some (.str x)
 |.bytes b _=>some (.ub b)
 |.float b _=>some (.AR b)
 |.ref a=>some (.ref a)
 |.type n=>some (.ty n)
 |_=>none
theorem RelV.abs(r:RelV x u):by' u=some x:=by
 cases x with
 |non=>cases r;rfl
 |bl _=>cases r;rfl
 |int _=>obtain⟨t,rfl⟩:=r;rfl
 |str _=>obtain⟨t,rfl⟩:=r;rfl
 |ub _=>obtain⟨t,rfl⟩:=r;rfl
 |AR _=>obtain⟨t,rfl⟩:=r;rfl
 |ref _=>cases r;rfl
 |ty _=>cases r;rfl
theorem RelV.inj(r:RelV x u)(q:RelV y u):x=y:=Option.some.inj (r.abs.symm.trans q.abs)
theorem Vals.inj:∀ {xs ys:List V} {us:List Value},Vals xs us->Vals ys us->xs=ys
 |_,_,_,.nil,.nil=>rfl
 |_,_,_,.cons r t,.cons r' t'=>by rw[r.inj r',Vals.inj t t']
section
variable {X:Cx}{pins:List (Addr × Obj)}{σ:St}{H:Hp}{s:Shared}{a:Addr}{xs ys:List V}
theorem Inv.list(I:Inv X pins σ H s)(h:eR X.K H a xs):∃ its:List Value,Vals xs its/\PlainL s.heap a its.toArray/\xs.length<=sizeLine:=by
 rcases h with h|⟨o,its,n,hk,hc,hd,hs,hz,r⟩
 ·obtain⟨z,its,n,r,e⟩:=h.ok I.bq
  exact⟨its,r,⟨_,n,e,rfl,rfl,rfl⟩,z⟩
 ·refine⟨its.toList,r,⟨o,n,I.kA a o hk,hc,hd,by simpa using hs⟩,?_⟩
  have e:=r.length
  simp only[tT] at e
  lia
theorem Inv.tuple(I:Inv X pins σ H s)(h:kL X.K H a xs):∃ its:List Value,Vals xs its/\IsTup s.heap a its.toArray/\xs.length<=sizeLine:=by
 rcases h with h|⟨o,its,n,hk,hc,hs,hz,r⟩
 ·obtain⟨z,its,r,p⟩:=h.ok I.bq
  exact⟨its,r,p,z⟩
 ·refine⟨its.toList,r,⟨o,I.kA a o hk,hc,n,by simpa using hs⟩,?_⟩
  have e:=r.length
  simp only[tT] at e
  lia
theorem Inv.bz'(I:Inv X pins σ H s)(h:eR X.K H a xs)(h':eR X.K H a ys):xs=ys:=by
 obtain⟨its,r,⟨o,n,e,_,_,d⟩,_⟩:=I.list h
 obtain⟨its',r',⟨o',n',e',_,_,d'⟩,_⟩:=I.list h'
 rw[e] at e';cases e'
 rw[d] at d'
 injection d' with d1 _
 have:its=its':=by simpa using congrArg Array.toList d1
 subst this
 exact r.inj r'
theorem Inv.bA'(I:Inv X pins σ H s)(h:kL X.K H a xs)(h':kL X.K H a ys):xs=ys:=by
 obtain⟨its,r,⟨o,e,_,n,d⟩,_⟩:=I.tuple h
 obtain⟨its',r',⟨o',e',_,n',d'⟩,_⟩:=I.tuple h'
 rw[e] at e';cases e'
 rw[d] at d'
 injection d' with d1 _
 have:its=its':=by simpa using congrArg Array.toList d1
 subst this
 exact r.inj r'
end
abbrev Cx.wish(X:Cx)(E:Value->Shared->Prop):Cx:={ X with xe:=E }
abbrev Cx.LZ(X:Cx):Cx:=X.wish fun _ _=>False
theorem Cx.Ok.wish{X:Cx}(ok:X.Ok)(E:Value->Shared->Prop):(X.wish E).Ok :=
 ⟨ok.mod,ok.kind,ok.glob,ok.blt,ok.above,ok.inj,ok.has,ok.LV,ok.hd,ok.frames,ok.QL,ok.QN,ok.bs,ok.Cb,ok.LW,ok.LX,ok.x5,ok.HG⟩
theorem Cx.Ok.CD{X:Cx}(ok:(X.wish E).Ok):X.Ok :=
 ⟨ok.mod,ok.kind,ok.glob,ok.blt,ok.above,ok.inj,ok.has,ok.LV,ok.hd,ok.frames,ok.QL,ok.QN,ok.bs,ok.Cb,ok.LW,ok.LX,ok.x5,ok.HG⟩
section
variable {X:Cx}{pins:List (Addr × Obj)}{σ:St}{H:Hp}{s:Shared}{E:Value->Shared->Prop}
theorem Inv.wish(I:Inv X pins σ H s)(E:Value->Shared->Prop):Inv (X.wish E) pins σ H s:=⟨I.ok.wish E,I.os,I.bare,I.base,I.loc,I.cell,I.free,I.uk,I.pin,I.bq,I.len⟩
theorem Inv.CD(I:Inv (X.wish E) pins σ H s):Inv X pins σ H s:=⟨I.ok.CD,I.os,I.bare,I.base,I.loc,I.cell,I.free,I.uk,I.pin,I.bq,I.len⟩
theorem SP.CD{D:Ends}(h:SP (X.wish E) pins D f s'):SP X pins D f s':=by
 cases f with
 |next=>obtain⟨bE,H',I,q⟩:=h;exact⟨bE,H',I.CD,q⟩
 |brk=>obtain⟨bE,H',I,q⟩:=h;exact⟨bE,H',I.CD,q⟩
 |cont=>obtain⟨bE,H',I,q⟩:=h;exact⟨bE,H',I.CD,q⟩
 |ret u=>obtain⟨v,bE,H',I,r,q⟩:=h;exact⟨v,bE,H',I.CD,r,q⟩
theorem lj.LZ{st:List Stmt}(h:lj X.LZ st t):lj X st t:=fun pins s σ H D I hw =>
 oj (h pins s σ H D (I.wish _) hw) (fun _ _ q=>q.CD) fun _ _ z=>False.elim z
end
section
variable {X:Cx}{st:Stmt}{rest:List Stmt}{t u:TS}{e:Expr}{te:TE}{pos:Pos}
def bB':TS:=fun D σ H=>D.nx σ H
def Xw(t u:TS):TS:=fun D σ H=>t { D with nx:=u D } σ H
theorem bC':lj X [] bB':=fun _ _ σ H _ I h=>wpAny_execs_nil ⟨σ,H,I,h⟩
theorem Xx(h1:PS X st t)(h2:lj X rest u):lj X (st :: rest) (Xw t u):=by
 intro pins s σ H D I h
 refine wpAny_execs_cons (cw (h1 pins s σ H { D with nx:=u D } I h) fun f s1 q=>?_)
 cases f with
 |next =>
  obtain⟨bE,H',I',q⟩:=q
  exact h2 pins s1 bE H' D I' q
 |ret v=>exact q
 |brk=>exact q
 |cont=>exact q
theorem Xy(h1:PS X st t):lj X [st] t:=by
 intro pins s σ H D I h
 refine wpAny_execs_cons (cw (h1 pins s σ H D I h) fun f s1 q=>?_)
 cases f with
 |next=>exact wpAny_execs_nil q
 |ret v=>exact q
 |brk=>exact q
 |cont=>exact q
theorem Inv.quiet(I:Inv X pins σ H s):interactive X.env=false:=by simp[interactive,I.ok.kind]
def bD'(te:TE):TS:=fun D σ H=>te σ H fun _ H1=>D.nx σ H1
theorem EE(he:PE X e te)(hs:swapsWith e none pos.line X.env=pure false:=by rfl):PS X (.Expr e pos) (bD' te):=by
 intro pins s σ H D I h
 exact wpAny_Expr_any (cw (he pins s σ H _ I h) fun v s1 cK=>L2.gI cK fun x H1 I1 r1 q1=>⟨σ,H1,I1,q1⟩) I.quiet hs
def bE'(te:TE):TS:=fun D σ H=>te σ H D.rt
theorem Tj(he:PE X e te):PS X (.Return (some e) pos) (bE' te):=by
 intro pins s σ H D I h
 exact wpAny_Return_some (cw (he pins s σ H _ I h) fun v s1 cK=>L2.gI cK fun x H1 I1 r1 q1=>⟨x,σ,H1,I1,r1,q1⟩)
def bF'(c:TT)(t u:TS):TS:=fun D σ H=>c σ H fun b H1=>if b=true then t D σ H1 else u D σ H1
theorem bG'(hc:PT X c tc)(ha:lj X a t)(hb:lj X b u):PS X (.If c a b pos) (bF' tc t u):=by
 intro pins s σ H D I h
 refine wpAny_If (cw (hc pins s σ H _ I h) fun d s1 cE=>?_)
 obtain⟨H1,I1,q1⟩:=cE
 cases d with
 |true=>exact ha pins s1 σ H1 D I1 q1
 |false=>exact hb pins s1 σ H1 D I1 q1
def bH':TS:=fun _ _ _=>False
theorem bI':lj X sts bH':=fun _ _ _ _ _ _ h=>h.elim
end
abbrev TG:=V->St->Hp->(St->Hp->Prop)->Prop
abbrev HL:=List V->St->Hp->(St->Hp->Prop)->Prop
def PG(X:Cx)(target:Expr)(t:TG):Prop :=
 ∀ (pins:List (Addr × Obj)) (s:Shared) (σ:St) (H:Hp) (v:V) (u:Value) (Q:St->Hp->Prop),Inv X pins σ H s->RelV v u->t v σ H Q ->
  wpAny (model X.prog X.w) X.A (assign target X.env u) (fun _ s'=>∃ bE H',Inv X pins bE H' s'/\Q bE H') X.xe s
def zt(X:Cx)(ts:List Expr)(t:HL):Prop :=
 ∀ (pins:List (Addr × Obj)) (s:Shared) (σ:St) (H:Hp) (vs:List V) (us:List Value) (Q:St->Hp->Prop),Inv X pins σ H s->Vals vs us->t vs σ H Q ->
  wpAny (model X.prog X.w) X.A (assignInOrder ((assignEach ts X.env).map (·.2)) us) (fun _ s'=>∃ bE H',Inv X pins bE H' s'/\Q bE H') X.xe s
section
variable {X:Cx}{pos:Pos}
def Tn(i:Nat):TG:=fun v σ H Q=>Q (σ.set i (some v)) H
theorem bJ'(hN:X.N.Nodup)(hi:X.N[i]? = some x)(hx:Loc X.env.scope x)(hf:X.fn x=true\/X.env.scope.names.lookup x=some .local:=by first|exact .inl rfl|exact .inr rfl|assumption):PG X (.Name x pos) (Tn i):=by
 intro pins s σ H v u Q I r h
 exact wpAny_assign_Name (Xp I hN hi hx r (fun s' I'=>⟨_,H,I',h⟩) hf)
def bK':HL:=fun vs σ H Q=>vs=[]/\Q σ H
def bL'(t:TG)(u:HL):HL:=fun vs σ H Q=>∃ v r,vs=v :: r/\t v σ H fun bE H'=>u r bE H' Q
theorem bM':zt X [] bK':=by
 intro pins s σ H vs us Q I r h
 obtain⟨e,h⟩:=h
 subst e
 cases r
 exact assignInOrder_nil ⟨σ,H,I,h⟩
theorem bN'(h1:PG X e t)(h2:zt X es u)
  (hs:(assignEach (e :: es) X.env).map (·.2)=assign e X.env :: (assignEach es X.env).map (·.2):=by rfl):zt X (e :: es) (bL' t u):=by
 intro pins s σ H vs us Q I r h
 obtain⟨v,vr,e1,h⟩:=h
 subst e1
 cases r with
 |cons r rr =>
  rw[hs]
  refine assignInOrder_cons (cw (h1 pins s σ H _ _ _ I r h) fun _ s1 cE=>?_)
  obtain⟨nV,H1,I1,q1⟩:=cE
  exact h2 pins s1 nV H1 _ _ Q I1 rr q1
def bO'(K:PySem.W.Frag)(n:Nat)(t:HL):TG:=fun v σ H Q=>∃ a xs,v=.ref a/\kL K H a xs/\xs.length=n/\t xs σ H Q
theorem bP'(hc:X.calm=true)(h:zt X es t)
  (hn:(assignEach es X.env).length=n:=by rfl) (wx:(assignEach es X.env).findIdx? (·.1)=none:=by rfl):PG X (.Tuple es k pos) (bO' X.K n t):=by
 intro pins s σ H v u Q I r hw
 obtain⟨a,xs,e1,hq,hl,hw⟩:=hw
 subst e1
 cases r
 obtain⟨its,rv,ht,hz⟩:=I.tuple hq
 refine assign_Tuple_tuple (I.ok.hd hc) ht (by simp[hn,<- hl,rv.length]) wx fun h' hx=>?_
 have I1:Inv X pins σ H { s with heap:=h' }:=I.kept (t':=s.toks) fun b o e=>hx b o (fN (eh e)) e
 exact h pins _ σ H xs _ Q I1 (by simpa using rv) hw
def Xz(te:TE)(g:TG):TS:=fun D σ H=>te σ H fun x H1=>g x σ H1 D.nx
theorem XC(hN:X.N.Nodup)(hi:X.N[i]? = some x)(hx:Loc X.env.scope x)(he:PE X e te)(hs:swapsWith e (some (.Name x pos')) pos.line X.env=pure false:=by rfl)(hf:X.fn x=true\/X.env.scope.names.lookup x=some .local:=by first|exact .inl rfl|exact .inr rfl|assumption) :
  PS X (.Assign [.Name x pos'] e pos) (Xz te (Tn i)):=by
 intro pins s σ H D I h
 refine wpAny_Assign_Name (cw (he pins s σ H _ I h) fun v s1 cK=>L2.gI cK fun y H1 I1 r1 q1=>?_) hs
 exact Xp I1 hN hi hx r1 (fun s2 I2=>⟨_,H1,I2,q1⟩) hf
def bQ'(c:TT)(tb:TS):TS:=fun D σ H=>∃ W:Nat->St->Hp->Prop,(∃ m,W m σ H)/\∀ m σ H,W m σ H ->
 c σ H fun b H1=>if b=true then ∃ N:St->Hp->Prop,(∀ bE H',N bE H'->∃ m',m'<m/\W m' bE H')/\tb { D with nx:=N,ct:=N,bk:=D.nx } σ H1 else D.nx σ H1
theorem bR'(hp:PassesOwn (model X.prog X.w) X.A X.env X.xe)(hc:PT X c tc)(hb:lj X body tb):PS X (.While c body [] pos) (bQ' tc tb):=by
 intro pins s σ H D I h
 obtain⟨W,⟨m0,w0⟩,turn⟩:=h
 refine wpAny_While (codeAny_whileLoop (fun n s'=>∃ bE H',Inv X pins bE H' s'/\W n bE H') ?_ m0 ⟨σ,H,I,w0⟩)
 rintro n s1 ⟨nV,H1,I1,w1⟩
 refine wpAny_passesOwn hp (cw (hc pins s1 nV H1 _ I1 (turn n nV H1 w1)) fun b s2 cE=>?_)
 obtain⟨H2,I2,q2⟩:=cE
 cases b with
 |true =>
  obtain⟨N,hN,q2⟩:=q2
  rw[if_pos rfl]
  refine wpAny_passesOwn hp (cw (hb pins s2 nV H2 _ I2 q2) fun f s3 q3=>?_)
  cases f with
  |next =>
   obtain⟨nL,H3,I3,n3⟩:=q3
   obtain⟨m',hm,w3⟩:=hN nL H3 n3
   exact⟨m',hm,nL,H3,I3,w3⟩
  |cont =>
   obtain⟨nL,H3,I3,n3⟩:=q3
   obtain⟨m',hm,w3⟩:=hN nL H3 n3
   exact⟨m',hm,nL,H3,I3,w3⟩
  |brk=>exact q3
  |ret v=>exact q3
 |false =>
  rw[if_neg hU]
  exact wpAny_execs_nil ⟨nV,H2,I2,q2⟩
end
structure It where
 go:Nat->Hp->Prop
 ll:Nat->Hp->V->Hp->Prop
 stop:Nat->Hp->Prop
def x6(X:Cx)(pins:List (Addr × Obj))(H:Hp)(b:Addr):Prop :=
 H b=none/\b≠X.env.locals/\b∉X.fs/\(b∈X.ex\/X.ki.heap.objs.size<=b)/\(∀ x c,X.env.cells.lookup x=some c->c≠b)/\∀ p∈X.pn++pins,p.1≠b
theorem Inv.HM{X:Cx}(I:Inv X pins σ H s)(hb:s.heap.objs.size<=b)(hn:H' b=none):x6 X pins H' b:=by
 refine⟨hn,Nat.ne_of_gt (nI I.lt hb),I.bg' hb,.inr (gE I.sz hb),fun x c e z=>?_,fun p hp z=>?_⟩
 ·obtain⟨v,q⟩:=I.cell x c e
  exact absurd (nI q.lt (by rw[z];exact hb)) (B7 _)
 ·exact absurd (nI (eh (I.pin p hp).1) (by rw[z];exact hb)) (B7 _)
structure Turn(P:Program)(w:World)(K:PySem.W.Frag)(tg:Expr)(J:It)(fp:List Addr)(it:Addr)(tn:Nat->Heap->Prop):Prop where
 mem:it∈fp
 obj:∀ i h,tn i h->∀ b∈fp,∃ o,h.get? b=some o/\∀ v,o.data≠.cell v
 keep:∀ i h h',tn i h->(∀ b∈fp,∀ o,h.get? b=some o->h'.get? b=some o)->tn i h'
 item:∀ (X:Cx),X.prog=P->X.w=w->X.K=K->X.calm=true->∀ (i:Nat) (pins:List (Addr × Obj)) (s:Shared) (σ:St) (H:Hp) (E:Value->Shared->Prop),Inv X pins σ H s->(∀ b∈fp,x6 X pins H b)->tn i s.heap->J.go i H ->
  wpAny (model P w) X.A (pyNext (.ref it)) (fun r s1=>∃ u,r=some u /\
   wpAny (model P w) X.A (letOwnedTupleGo tg (.ref it) u) (fun _ s2=>∃ x H',Inv X pins σ H' s2/\RelV x u/\J.ll i H x H'/\tn (i+1) s2.heap/\∀ b∈fp,H' b=none) E s1) E s
 done:∀ (X:Cx),X.prog=P->X.w=w->X.K=K->X.calm=true->∀ (i:Nat) (pins:List (Addr × Obj)) (s:Shared) (σ:St) (H:Hp) (E:Value->Shared->Prop),Inv X pins σ H s->(∀ b∈fp,x6 X pins H b)->tn i s.heap->J.stop i H ->
  wpAny (model P w) X.A (pyNext (.ref it)) (fun r s1=>r=none/\Inv X pins σ H s1) E s
 self:∀ (A:Around) (i:Nat) (s:Shared) (Q:Value->Shared->Prop) (E:Value->Shared->Prop),tn i s.heap->Q (.ref it) s->wpAny (model P w) A (pyIter (.ref it)) Q E s
abbrev TI:=St->Hp->(It->Hp->Prop)->Prop
def To(X:Cx)(pins:List (Addr × Obj))(σ:St)(tg:Expr)(R:It->Hp->Prop)(Tp:Value)(s2:Shared):Prop :=
 ∃ (it:Addr) (fp:List Addr) (tn:Nat->Heap->Prop) (J:It) (H':Hp),Tp=.ref it/\Inv X pins σ H' s2/\Turn X.prog X.w X.K tg J fp it tn/\tn 0 s2.heap/\(∀ b∈fp,x6 X pins H' b)/\R J H'
def PI(X:Cx)(tg iter:Expr)(wi:TI):Prop :=
 ∀ (pins:List (Addr × Obj)) (s:Shared) (σ:St) (H:Hp) (R:It->Hp->Prop),Inv X pins σ H s->wi σ H R ->
  wpAny (model X.prog X.w) X.A (eval iter X.env) (fun v s1=>wpAny (model X.prog X.w) X.A (pyIter v) (To X pins σ tg R) X.xe s1) X.xe s
theorem L1(ho:s.heap.get? it=some o)(hc:o.cls=.type n)(hd:o.data=.fields vs)
  (hn:["enumerate", "zip", "dict_itemiterator", "dict_reverseitemiterator", "odict_iterator", "itertools.zip_longest", "itertools.pairwise"].contains n=false) (hQ:Q () s):wpAny M A (letOwnedTupleGo tg (.ref it) u) Q E s:=by
 unfold letOwnedTupleGo
 cases tg<;>first
  |exact aw hQ
  | (cases u<;>first
     |exact aw hQ
     | (refine ah (wpAny_load ho ?_)
        rw[hc,hd]
        show wpAny M A (if (["enumerate", "zip", "dict_itemiterator", "dict_reverseitemiterator", "odict_iterator", "itertools.zip_longest", "itertools.pairwise"].contains n && vs[0]? == some (rawInt _))=true then _ else _) Q E s
        rw[if_neg (by intro h;rw[hn,Bool.false_and] at h;cases h)]
        exact aw hQ))
def QX(K:PySem.W.Frag)(a:Addr):It :=
 ⟨fun i H=>∃ xs x,eR K H a xs/\xs[i]? = some x,fun i H x H'=>H'=H/\∀ xs,eR K H a xs->xs[i]? = some x,fun i H=>∃ xs,eR K H a xs/\xs.length<=i⟩
def Tq(K:PySem.W.Frag)(a:Addr):It :=
 ⟨fun i H=>∃ xs x,kL K H a xs/\xs[i]? = some x,fun i H x H'=>H'=H/\∀ xs,kL K H a xs->xs[i]? = some x,fun i H=>∃ xs,kL K H a xs/\xs.length<=i⟩
def HP(lo:Int)(n:Nat):It:=⟨fun i _=>i<n,fun i H x H'=>H'=H/\x=.int (lo+i),fun i _=>n<=i⟩
theorem bS'{P:Program}{K:PySem.W.Frag}(a it:Addr):Turn P w K tg (QX K a) [it] it (fun i h=>h.IsListIter it a i) where
 mem:=by simp
 obj:=fun i h st b hb=>by
  have e:b=it:=by simpa using hb
  subst e
  obtain⟨o,e,c,d⟩:=st
  exact⟨o,e,fun v z=>by rw[d] at z;cases z⟩
 keep:=fun i h h' st k=>st.at fun o e=>k it (by simp) o e
 item:=by
  intro X hP hw hK hc i pins s σ H E I hf st hg
  subst hP hw hK
  obtain⟨xs,x,hq,hx⟩:=hg
  obtain⟨its,rv,p,hz⟩:=I.list hq
  obtain⟨u,hu,ru⟩:=rv.get hx
  obtain⟨f0,f1,f2,f3,f4,f5⟩:=hf it (by simp)
  refine wpAny_pyNext_list_item st p.isList (x:=u) (by simpa using hu) fun h' aS sb=>?_
  have I1:Inv X pins σ H { s with heap:=h' }:=I.turned (t':=s.toks) (fun b o hb e=>(sb.2 b hb).trans e) f0 f1 f3 f4 f5
  obtain⟨o,e,c,d⟩:=id aS
  exact⟨u,rfl,L1 (s:={ s with heap:=h' }) e c d (by decide) ⟨x,H,I1,ru,⟨rfl,fun ys hy=>by rw[I.bz' hy hq];exact hx⟩,aS,fun b hb=>(hf b hb).1⟩⟩
 done:=by
  intro X hP hw hK hc i pins s σ H E I hf st hg
  subst hP hw hK
  obtain⟨xs,hq,hx⟩:=hg
  obtain⟨its,rv,p,hz⟩:=I.list hq
  obtain⟨f0,f1,f2,f3,f4,f5⟩:=hf it (by simp)
  have hl:=rv.length
  exact wpAny_pyNext_list_end (I.ok.hd hc) st p.isList (by simp;lia) fun h' eb=>⟨rfl,I.turned (t':=s.toks) (fun b o hb e=>eb b o hb e) f0 f1 f3 f4 f5⟩
 self:=fun _ _ _ _ _ st h=>wpAny_pyIter_listiter st h
theorem bT'{P:Program}{K:PySem.W.Frag}(a it:Addr):Turn P w K tg (Tq K a) [it] it (fun i h=>h.IsTupleIter it a i) where
 mem:=by simp
 obj:=fun i h st b hb=>by
  have e:b=it:=by simpa using hb
  subst e
  obtain⟨o,e,c,d⟩:=st
  exact⟨o,e,fun v z=>by rw[d] at z;cases z⟩
 keep:=fun i h h' st k=>st.at fun o e=>k it (by simp) o e
 item:=by
  intro X hP hw hK hc i pins s σ H E I hf st hg
  subst hP hw hK
  obtain⟨xs,x,hq,hx⟩:=hg
  obtain⟨its,rv,p,hz⟩:=I.tuple hq
  obtain⟨u,hu,ru⟩:=rv.get hx
  obtain⟨f0,f1,f2,f3,f4,f5⟩:=hf it (by simp)
  refine wpAny_pyNext_tuple_item st (show s.heap.IsTuple a its.toArray from p) (x:=u) (by simpa using hu) fun h' aS sb=>?_
  have I1:Inv X pins σ H { s with heap:=h' }:=I.turned (t':=s.toks) (fun b o hb e=>(sb.2 b hb).trans e) f0 f1 f3 f4 f5
  obtain⟨o,e,c,d⟩:=id aS
  exact⟨u,rfl,L1 (s:={ s with heap:=h' }) e c d (by decide) ⟨x,H,I1,ru,⟨rfl,fun ys hy=>by rw[I.bA' hy hq];exact hx⟩,aS,fun b hb=>(hf b hb).1⟩⟩
 done:=by
  intro X hP hw hK hc i pins s σ H E I hf st hg
  subst hP hw hK
  obtain⟨xs,hq,hx⟩:=hg
  obtain⟨its,rv,p,hz⟩:=I.tuple hq
  obtain⟨f0,f1,f2,f3,f4,f5⟩:=hf it (by simp)
  have hl:=rv.length
  exact wpAny_pyNext_tuple_end (I.ok.hd hc) st (show s.heap.IsTuple a its.toArray from p) (by simp;lia) fun h' eb=>⟨rfl,I.turned (t':=s.toks) (fun b o hb e=>eb b o hb e) f0 f1 f3 f4 f5⟩
 self:=fun _ _ _ _ _ st h=>wpAny_pyIter_tupleiter st h
theorem bU'{P:Program}{K:PySem.W.Frag}(it:Addr)(lo:Int)(n:Nat):Turn P w K tg (HP lo n) [it] it (fun i h=>IsRangeIter h it (lo+(i:Nat)*1) ((n:Int)-(i:Nat)) 1) where
 mem:=by simp
 obj:=fun i h st b hb=>by
  have e:b=it:=by simpa using hb
  subst e
  exact⟨_,st,fun v z=>by
   have z':Data.fields _=Data.cell v:=z
   cases z'⟩
 keep:=fun i h h' st k=>k it (by simp) _ st
 item:=by
  intro X hP hw hK hc i pins s σ H E I hf st hg
  subst hP hw hK
  obtain⟨f0,f1,f2,f3,f4,f5⟩:=hf it (by simp)
  have W:=Walks.range (prog:=X.prog) (w:=X.w) (I.ok.hd hc) it lo 1 n
  refine W.item i s _ _ hg st fun v h' tk hv aS kk=>?_
  obtain⟨t,rfl⟩:=hv
  have I1:Inv X pins σ H { s with heap:=h',toks:=tk }:=I.turned (fun b o hb e=>kk b o (by simpa using hb) e) f0 f1 f3 f4 f5
  refine⟨_,rfl,L1 (s:={ s with heap:=h',toks:=tk }) (n := "range_iterator") aS rfl rfl (by decide) ⟨.int (lo+i),H,I1,⟨t,?_⟩,⟨rfl,rfl⟩,aS,fun b hb=>(hf b hb).1⟩⟩
  rw[Int.mul_one]
 done:=by
  intro X hP hw hK hc i pins s σ H E I hf st hg
  subst hP hw hK
  obtain⟨f0,f1,f2,f3,f4,f5⟩:=hf it (by simp)
  exact wpAny_pyNext_range_end (I.ok.hd hc) st (by have:n<=i:=hg;lia) fun h' eb=>⟨rfl,I.turned (t':=s.toks) (fun b o hb e=>eb b o hb e) f0 f1 f3 f4 f5⟩
 self:=fun _ _ _ _ _ st h=>wpAny_pyIter_rangeiter st h
section
variable {X:Cx}{tg:Expr}
def bV'(K:PySem.W.Frag)(tl:TE):TI:=fun σ H R=>tl σ H fun x H1=>∃ a,x=.ref a/\(∃ xs,eR K H1 a xs)/\R (QX K a) H1
def bW'(K:PySem.W.Frag)(tl:TE):TI:=fun σ H R=>tl σ H fun x H1=>∃ a,x=.ref a/\(∃ xs,kL K H1 a xs)/\R (Tq K a) H1
theorem XD(hl:PE X l tl):PI X tg l (bV' X.K tl):=by
 intro pins s σ H R I h
 refine cw (hl pins s σ H _ I h) fun v s1 cK=>L2.gI cK fun x H1 I1 r1 q1=>?_
 obtain⟨a,e,⟨xs,hq⟩,q⟩:=q1
 subst e
 cases r1
 obtain⟨its,rv,p,hz⟩:=I1.list hq
 refine wpAny_pyIter_list p.isList ?_
 refine⟨s1.heap.objs.size,[s1.heap.objs.size],_,_,H1,rfl,I1.kept (t':=s1.toks) fun b o e=>fh _ e,bS' a _,⟨_,iX _ rfl,rfl,rfl⟩,fun b hb=>?_,q⟩
 have e:b=s1.heap.objs.size:=by simpa using hb
 subst e
 exact I1.HM (ck _) (I1.bq.fresh (ck _))
theorem bX'(hl:PE X l tl):PI X tg l (bW' X.K tl):=by
 intro pins s σ H R I h
 refine cw (hl pins s σ H _ I h) fun v s1 cK=>L2.gI cK fun x H1 I1 r1 q1=>?_
 obtain⟨a,e,⟨xs,hq⟩,q⟩:=q1
 subst e
 cases r1
 obtain⟨its,rv,p,hz⟩:=I1.tuple hq
 refine wpAny_pyIter_tuple (show s1.heap.IsTuple a its.toArray from p) ?_
 refine⟨s1.heap.objs.size,[s1.heap.objs.size],_,_,H1,rfl,I1.kept (t':=s1.toks) fun b o e=>fh _ e,bT' a _,⟨_,iX _ rfl,rfl,rfl⟩,fun b hb=>?_,q⟩
 have e:b=s1.heap.objs.size:=by simpa using hb
 subst e
 exact I1.HM (ck _) (I1.bq.fresh (ck _))
theorem bY'{R:It->Hp->Prop}{lo hi:Int}(I:Inv X pins σ H s)(h1:-(2 ^ 62)<=lo)(h2:lo<2 ^ 62)(h3:-(2 ^ 62)<=hi)(h4:hi<2 ^ 62)
  (q:R (HP lo (hi-lo).toNat) H):wpAny (model X.prog X.w) X.A (pyIter (.ref s.heap.objs.size)) (To X pins σ tg R) E { s with heap:=s.heap.push { cls:=.type "range",data:=.fields #[.int lo t,.int hi u,.int 1 v] },toks:=tk }:=by
 refine wpAny_pyIter_range (IsRange.new ..) (small_one h1 h2 h3 h4) ?_
 have I1:Inv X pins σ H { s with heap:=s.heap.push { cls:=.type "range",data:=.fields #[.int lo t,.int hi u,.int 1 v] },toks:=tk }:=I.kept fun b o e=>fh _ e
 refine⟨(s.heap.push { cls:=.type "range",data:=.fields #[.int lo t,.int hi u,.int 1 v] }).objs.size,[(s.heap.push { cls:=.type "range",data:=.fields #[.int lo t,.int hi u,.int 1 v] }).objs.size],_,_,H,rfl,
  I1.kept (t':=tk) fun b o e=>fh _ e,bU' _ lo (hi-lo).toNat,?_,fun b hb=>?_,q⟩
 ·have e1:lo+((0:Nat):Int)*1=lo:=by simp
  have e2:(((hi-lo).toNat:Nat):Int)-((0:Nat):Int)=Builtin.Range.rangeSize lo hi 1:=by rw[rangeSize_one];split<;>lia
  show IsRangeIter _ _ (lo+((0:Nat):Int)*1) ((((hi-lo).toNat:Nat):Int)-((0:Nat):Int)) 1
  rw[e1,e2]
  exact iX _ rfl
 ·have e:b=(s.heap.push { cls:=.type "range",data:=.fields #[.int lo t,.int hi u,.int 1 v] }).objs.size:=by simpa using hb
  subst e
  exact I1.HM (ck _) (I1.bq.fresh (ck _))
def bZ'(ta:TA):TI:=fun σ H R=>ta σ H fun vs H1=>∃ j:Int,vs=[.int j]/\-(2 ^ 62)<=j/\j<2 ^ 62/\R (HP 0 j.toNat) H1
theorem ca' (hg:Gl X "range") (hm:X.mg "range" = none) (ha:PA X [a] ta) (hs:starEach [a] X.env=[(false,eval a X.env)]:=by rfl):PI X tg (.Call (.Name "range" p) [a] [] pos) (bZ' ta):=by
 intro pins s σ H R I h
 refine Call_ (CC I hg hm boot_range (PyProof.Rows.callWith_type1 (cw (ha pos pins s σ H _ I h) fun us s1 cK=>L2.gI cK fun vs H1 I1 r1 q1=>?_) hs rfl))
 obtain⟨j,e,q1,q2,q⟩:=q1
 subst e
 cases r1 with
 |cons r rr =>
  cases rr
  obtain⟨t,rfl⟩:=r
  exact call_range_1 (bY' I1 (by lia) (by lia) q1 q2 (by simpa using q))
def XF(wi:TI)(g:TG)(tb:TS):TS:=fun D σ H=>wi σ H fun J H1=>∃ W:Nat->Nat->St->Hp->Prop,(∃ m,W 0 m σ H1)/\∀ i m σ H,W i m σ H ->
 (J.stop i H/\D.nx σ H)\/(J.go i H/\∃ N:St->Hp->Prop,(∀ bE H',N bE H'->∃ m',m'<m/\W (i+1) m' bE H')/\∀ x H',J.ll i H x H'->g x σ H' fun jv H2=>tb { D with nx:=N,ct:=N,bk:=D.nx } jv H2)
def L3(fp:List Addr)(h:Heap):List (Addr × Obj):=fp.filterMap fun b=>(h.get? b).map fun o=>(b,o)
theorem QY(hb:b∈fp)(e:h.get? b=some o):(b,o)∈L3 fp h:=S0.mpr ⟨b,hb,by rw[e];rfl⟩
theorem cb'(hp:p∈L3 fp h):p.1∈fp/\h.get? p.1=some p.2:=by
 obtain⟨b,hb,e⟩:=S0.mp hp
 cases q:h.get? b with
 |none=>rw[q] at e;cases e
 |some o =>
  rw[q] at e
  have e':(b,o)=p:=Option.some.inj e
  subst e'
  exact⟨hb,q⟩
theorem Inv.pinned(I:Inv X pins σ H s)(hf:∀ b∈fp,x6 X pins H b)(ho:∀ b∈fp,∃ o,s.heap.get? b=some o/\∀ v,o.data≠.cell v):Inv X (pins++L3 fp s.heap) σ H s :=
 I.Xk fun p hp=>(dy.mp hp).elim (fun z=>I.pin p (fw _ z)) fun z=>by
  obtain⟨hb,e⟩:=cb' z
  obtain⟨f0,f1,f2,_⟩:=hf p.1 hb
  obtain⟨o,e',d⟩:=ho p.1 hb
  rw[e] at e';cases e'
  exact⟨e,f0,f1,f2,d⟩
theorem Inv.QZ(I:Inv X (pins++pl) σ H s):Inv X pins σ H s:=I.Xk fun p hp=>I.pin p (fw _ (kf _ hp))
theorem XH(hp:PassesOwn (model X.prog X.w) X.A X.env X.xe)(hc:X.calm=true)(hi:PI X tg iter wi)(hg:PG X tg g)(hb:lj X body tb)
  (hs:∀ x,foldedSetIterable iter X.env x=pure x:=by intro _;rfl):PS X (.For tg iter body [] pos) (XF wi g tb):=by
 intro pins s σ H D I h
 refine wpAny_For (cw (hi pins s σ H _ I h) fun v s1 h1=>cw h1 fun Tp s2 h2=>?_) hs
 obtain⟨it,fp,tn,J,H2,e,I2,T,sN,f2,W,⟨m0,w0⟩,turn⟩:=h2
 subst e
 -- what stays true of the iterator's objects through the loop
 have stat:∀ {H':Hp},(∀ b∈fp,H' b=none)->∀ b∈fp,x6 X pins H' b:=fun hn b hb=>⟨hn b hb,(f2 b hb).2⟩
 refine codeAny_forLoop_any (fun n s'=>∃ i bE H',Inv X pins bE H' s'/\tn i s'.heap/\(∀ b∈fp,H' b=none)/\W i n bE H') ?_ m0 ⟨0,σ,H2,I2,sN,fun b hb=>(f2 b hb).1,w0⟩
 rintro n s3 ⟨i,nL,H3,I3,zv,XJ,w3⟩
 rcases turn i n nL H3 w3 with⟨stop,qn⟩|⟨go,N,hN,step⟩
 ·refine wpAny_passesOwn hp (cw (T.done X rfl rfl rfl hc i pins s3 nL H3 X.xe I3 (stat XJ) zv stop) fun r s4 cE=>?_)
  obtain⟨hr,I4⟩:=cE
  subst hr
  exact wpAny_execs_nil ⟨nL,H3,I4,qn⟩
 ·refine wpAny_passesOwn hp (cw (T.item X rfl rfl rfl hc i pins s3 nL H3 X.xe I3 (stat XJ) zv go) fun r s4 cE=>?_)
  obtain⟨u,hr,h4⟩:=cE
  subst hr
  refine wpAny_passesOwn hp (cw h4 fun _ s5 cE=>?_)
  obtain⟨x,H5,I5,r5,y5,HV,Q0⟩:=cE
  have I5':=I5.pinned (stat Q0) (T.obj _ _ HV)
  refine wpAny_passesOwn hp (cw (hg _ s5 nL H5 x u _ I5' r5 (step x H5 y5)) fun _ s6 cE=>?_)
  obtain⟨σ6,H6,I6,q6⟩:=cE
  refine wpAny_passesOwn hp (cw (hb _ s6 σ6 H6 _ I6 q6) fun f s7 q7=>?_)
  have again:∀ {x8:St} {H7:Hp},Inv X (pins++L3 fp s5.heap) x8 H7 s7->N x8 H7->∃ m,m<n/\∃ i bE H',Inv X pins bE H' s7/\tn i s7.heap/\(∀ b∈fp,H' b=none)/\W i m bE H':=fun {x8 H7} I7 n7=>by
   obtain⟨m',hm,w7⟩:=hN x8 H7 n7
   refine⟨m',hm,i+1,x8,H7,I7.QZ,T.keep _ _ _ HV fun b hb o e=>(I7.pin (b,o) (fw _ (fw _ (QY hb e)))).1,fun b hb=>?_,w7⟩
   obtain⟨o,e,d⟩:=T.obj _ _ HV b hb
   exact(I7.pin (b,o) (fw _ (fw _ (QY hb e)))).2.1
  cases f with
  |next=>obtain⟨x8,H7,I7,n7⟩:=q7;exact again I7 n7
  |cont=>obtain⟨x8,H7,I7,n7⟩:=q7;exact again I7 n7
  |brk=>obtain⟨x8,H7,I7,q7⟩:=q7;exact⟨x8,H7,I7.QZ,q7⟩
  |ret v=>obtain⟨x7,x8,H7,I7,r7,q7⟩:=q7;exact⟨x7,x8,H7,I7.QZ,r7,q7⟩
end
abbrev R2:=V->V->Hp->VK->Prop
def da(X:Cx)(f:Value->Value->Sem Value)(r:R2):Prop :=
 ∀ (pins:List (Addr × Obj)) (s:Shared) (σ:St) (H:Hp) (x y:V) (v u:Value) (Q:VK),Inv X pins σ H s->RelV x v->RelV y u->r x y H Q ->
  wpAny (model X.prog X.w) X.A (f v u) (EP X pins σ Q) X.xe s
def Q5(X:Cx)(f:Value->Sem Value)(r:V->Hp->VK->Prop):Prop :=
 ∀ (pins:List (Addr × Obj)) (s:Shared) (σ:St) (H:Hp) (x:V) (v:Value) (Q:VK),Inv X pins σ H s->RelV x v->r x H Q ->
  wpAny (model X.prog X.w) X.A (f v) (EP X pins σ Q) X.xe s
def kM(X:Cx)(f:Value)(r:List V->Hp->VK->Prop):Prop :=
 ∀ (pins:List (Addr × Obj)) (s:Shared) (σ:St) (H:Hp) (xs:List V) (us:List Value) (Q:VK),Inv X pins σ H s->Vals xs us->r xs H Q ->
  wpAny (model X.prog X.w) X.A (call f us) (EP X pins σ Q) X.xe s
def ce'(X:Cx)(r:V->Hp->(Bool->Hp->Prop)->Prop):Prop :=
 ∀ (pins:List (Addr × Obj)) (s:Shared) (σ:St) (H:Hp) (x:V) (v:Value) (Q:Bool->Hp->Prop),Inv X pins σ H s->RelV x v->r x H Q ->
  wpAny (model X.prog X.w) X.A (truthy v) (TP X pins σ Q) X.xe s
def L4(r:R2)(ta tb:TE):TE:=fun σ H Q=>ta σ H fun x H1=>tb σ H1 fun y H2=>r x y H2 Q
def Tr(r:V->Hp->VK->Prop)(ta:TE):TE:=fun σ H Q=>ta σ H fun x H1=>r x H1 Q
def rI(C:Int->Int->Prop)(g:Int->Int->V):R2:=fun x y H Q=>∃ i j,x=.int i/\y=.int j/\C i j/\Q (g i j) H
def EF(g:Int->Int->V):R2:=fun x y H Q=>∃ i j,x=.int i/\y=.int j/\Q (g i j) H
def rU(g:Int->V):V->Hp->VK->Prop:=fun x H Q=>∃ i,x=.int i/\Q (g i) H
section
variable {X:Cx}{a b:Expr}{ta tb:TE}{pos:Pos}
theorem Ts(ha:PE X a ta)(hb:PE X b tb){pins:List (Addr × Obj)}{s:Shared}{σ:St}{H:Hp}{R:V->V->Hp->Prop}(I:Inv X pins σ H s)
  (h:ta σ H fun x H1=>tb σ H1 fun y H2=>R x y H2) {Q:Value->Shared->Prop} {f:Value->Value->Sem Value}
  (hf:∀ v u s2 x y H2,Inv X pins σ H2 s2->RelV x v->RelV y u->R x y H2->wpAny (model X.prog X.w) X.A (f v u) Q X.xe s2) :
  wpAny (model X.prog X.w) X.A (eval a X.env) (fun v eM=>wpAny (model X.prog X.w) X.A (eval b X.env) (fun u EG=>wpAny (model X.prog X.w) X.A (f v u) Q X.xe EG) X.xe eM) X.xe s:=by
 refine cw (ha pins s σ H _ I h) fun v s1 cK=>L2.gI cK fun x H1 I1 r1 q1=>?_
 refine cw (hb pins s1 σ H1 _ I1 q1) fun u s2 cK=>L2.gI cK fun y H2 I2 r2 q2=>?_
 exact hf v u s2 x y H2 I2 r1 r2 q2
theorem cf'{op:Operator}{r:R2}(ho:da X (binaryOp op) r)(ha:PE X a ta)(hb:PE X b tb):PE X (.BinOp a op b pos) (L4 r ta tb):=by
 intro pins s σ H Q I h
 exact wpAny_BinOp (Ts ha hb I h fun v u s2 x y H2 I2 rx ry q=>ho pins s2 σ H2 x y v u Q I2 rx ry q)
theorem cg'(ho:Q5 X (unaryOp op) r)(ha:PE X a ta):PE X (.UnaryOp op a pos) (Tr r ta):=by
 intro pins s σ H Q I h
 exact UnaryOp_ (cw (ha pins s σ H _ I h) fun v s1 cK=>L2.gI cK fun x H1 I1 r1 q1=>ho pins s1 σ H1 x v Q I1 r1 q1)
theorem Tt{f:Value->Value->Sem Value}{C:Int->Int->Prop}{g:Int->Int->Int}
  (rule:∀ (i j:Int) (t u:Tok) (s:Shared) (Q:Value->Shared->Prop) (E:Value->Shared->Prop),C i j->Q (.int (g i j) s.toks) { s with toks:=s.toks+1 }->wpAny (model X.prog X.w) X.A (f (.int i t) (.int j u)) Q E s) :
  da X f (rI C fun i j=>.int (g i j)):=by
 intro pins s σ H x y v u Q I rx ry h
 obtain⟨i,j,rfl,rfl,hc,q⟩:=h
 obtain⟨t,rfl⟩:=rx
 obtain⟨t',rfl⟩:=ry
 exact rule i j t t' s _ _ hc ⟨.int (g i j),H,I.tok _,⟨_,rfl⟩,q⟩
theorem XM{f:Value->Value->Sem Value}{g:Int->Int->Int}
  (rule:∀ (i j:Int) (t u:Tok) (s:Shared) (Q:Value->Shared->Prop) (E:Value->Shared->Prop),Q (.int (g i j) s.toks) { s with toks:=s.toks+1 }->wpAny (model X.prog X.w) X.A (f (.int i t) (.int j u)) Q E s) :
  da X f (EF fun i j=>.int (g i j)):=by
 intro pins s σ H x y v u Q I rx ry h
 obtain⟨i,j,rfl,rfl,q⟩:=h
 obtain⟨t,rfl⟩:=rx
 obtain⟨t',rfl⟩:=ry
 exact rule i j t t' s _ _ ⟨.int (g i j),H,I.tok _,⟨_,rfl⟩,q⟩
theorem Tv{f:Value->Value->Sem Value}{g:Int->Int->Bool}
  (rule:∀ (i j:Int) (t u:Tok) (s:Shared) (Q:Value->Shared->Prop) (E:Value->Shared->Prop),Q (.bool (g i j)) s->wpAny (model X.prog X.w) X.A (f (.int i t) (.int j u)) Q E s) :
  da X f (EF fun i j=>.bl (g i j)):=by
 intro pins s σ H x y v u Q I rx ry h
 obtain⟨i,j,rfl,rfl,q⟩:=h
 obtain⟨t,rfl⟩:=rx
 obtain⟨t',rfl⟩:=ry
 exact rule i j t t' s _ _ ⟨.bl (g i j),H,I,rfl,q⟩
def ch'(i j:Int):Prop:=0<j/\j<1073741824
def EH(i j:Int):Prop:=(-(2 ^ 64)<i/\i<2 ^ 64)\/(-(2 ^ 64)<j/\j<2 ^ 64)
theorem EH.ok(h:EH i j):IntMulOk i j:=by
 rcases h with⟨h1,h2⟩|⟨h1,h2⟩
 ·exact .of_left (intBits_le_64 h1 h2)
 ·exact .of_right (intBits_le_64 h1 h2)
theorem ci':da X (binaryOp .Add) (EF fun i j=>.int (i+j)):=XM fun _ _ _ _ _ _ _ q=>add_int q
theorem cj':da X (binaryOp .Sub) (EF fun i j=>.int (i-j)):=XM fun _ _ _ _ _ _ _ q=>sub_int q
theorem ck':da X (binaryOp .Mult) (rI EH fun i j=>.int (i*j)):=Tt fun _ _ _ _ _ _ _ hc q=>mul_int q hc.ok
theorem cl':da X (binaryOp .FloorDiv) (rI ch' fun i j=>.int (i / j)):=Tt fun i j _ _ _ _ _ hc q=>by
 have h1:(0:Int)<j:=hc.1
 have h2:j<1073741824:=hc.2
 exact floordiv_int (by lia) (by rw[Int.fdiv_eq_ediv_of_nonneg i (by exact He ‹_›)];exact q) (.inl (PyProof.noPylong_small (by lia)))
theorem cm':da X (binaryOp .Mod) (rI (fun _ j=>0<j) fun i j=>.int (i % j)):=Tt fun i j _ _ _ _ _ hc q=>by
 have h1:(0:Int)<j:=hc
 exact mod_int' (by lia) (by rw[Int.fmod_eq_emod_of_nonneg i (by exact He ‹_›)];exact q)
theorem unI{f:Value->Sem Value}{g:Int->Int}
  (rule:∀ (i:Int) (t:Tok) (s:Shared) (Q:Value->Shared->Prop) (E:Value->Shared->Prop),Q (.int (g i) s.toks) { s with toks:=s.toks+1 }->wpAny (model X.prog X.w) X.A (f (.int i t)) Q E s) :
  Q5 X f (rU fun i=>.int (g i)):=by
 intro pins s σ H x v Q I rx h
 obtain⟨i,rfl,q⟩:=h
 obtain⟨t,rfl⟩:=rx
 exact rule i t s _ _ ⟨.int (g i),H,I.tok _,⟨_,rfl⟩,q⟩
theorem co':Q5 X (unaryOp .USub) (rU fun i=>.int (-i)):=unI fun _ _ _ _ _ q=>neg_int q
end
def XQ:V->V->Bool
 |.non,.non=>true|.non,.int _=>true|.int _,.non=>true|.non,.bl _=>true|.bl _,.non=>true|.non,.str _=>true|.str _,.non=>true
 |.int _,.int _=>true|.bl _,.bl _=>true|.str _,.str _=>true|.ub _,.ub _=>true
 |.int _,.str _=>true|.str _,.int _=>true|.bl _,.str _=>true|.str _,.bl _=>true
 |_,_=>false
def rEq:R2:=fun x y H Q=>XQ x y=true/\Q (.bl (decide (x=y))) H
def rNe:R2:=fun x y H Q=>XQ x y=true/\Q (.bl (!decide (x=y))) H
theorem XR:decide (V.int i=V.int j)=(i == j):=by
 rw[sF]
 simp
theorem XS:decide (V.bl i=V.bl j)=(i == j):=by
 rw[sF]
 simp
theorem XX:decide (V.str i=V.str j)=(i == j):=by
 rw[sF]
 simp
theorem X3:decide (V.ub i=V.ub j)=(i.toList == j.toList):=by
 rw[sF]
 cases i
 cases j
 simp
section
variable {X:Cx}{a b c:Expr}{ta tb tc:TE}{pos:Pos}
theorem gL(I:Inv X pins σ H s)(q:Q (.bl k) H)(e:k=k'):EP X pins σ Q (.bool k') s:=by
 subst e
 exact⟨.bl k,H,I,rfl,q⟩
theorem cr':da X (compareOp .Eq) rEq:=by
 intro pins s σ H x y v u Q I rx ry h
 obtain⟨hs,q⟩:=h
 cases x with
 |non =>
  cases rx
  cases y with
  |non=>cases ry;exact PySem.EqNone.eq_none_none (gL I q (by simp))
  |bl j=>cases ry;exact PySem.EqNone.eq_none_bool (gL I q (by simp))
  |int j=>obtain⟨t',rfl⟩:=ry;exact PySem.EqNone.eq_none_int (gL I q (by simp))
  |str j=>obtain⟨t',rfl⟩:=ry;exact PySem.EqNone.eq_none_str (gL I q (by simp))
  |_=>exact absurd (show false=true from hs) hU
 |bl i =>
  cases rx
  cases y with
  |non=>cases ry;exact PySem.EqNone.eq_bool_none (gL I q (by simp))
  |bl j=>cases ry;exact eq_bool (gL I q XS)
  |str j=>obtain⟨t',rfl⟩:=ry;exact PySem.EqMixed.eq_bool_str (gL I q (by simp))
  |_=>exact absurd (show false=true from hs) hU
 |int i =>
  obtain⟨t,rfl⟩:=rx
  cases y with
  |non=>cases ry;exact PySem.EqNone.eq_int_none (gL I q (by simp))
  |int j=>obtain⟨t',rfl⟩:=ry;exact eq_int (gL I q XR)
  |str j=>obtain⟨t',rfl⟩:=ry;exact PySem.EqMixed.eq_int_str (gL I q (by simp))
  |_=>exact absurd (show false=true from hs) hU
 |str i =>
  obtain⟨t,rfl⟩:=rx
  cases y with
  |non=>cases ry;exact PySem.EqNone.eq_str_none (gL I q (by simp))
  |bl j=>cases ry;exact PySem.EqMixed.eq_str_bool (gL I q (by simp))
  |int j=>obtain⟨t',rfl⟩:=ry;exact PySem.EqMixed.eq_str_int (gL I q (by simp))
  |str j=>obtain⟨t',rfl⟩:=ry;exact eq_str (gL I q XX)
  |_=>exact absurd (show false=true from hs) hU
 |ub i =>
  obtain⟨t,rfl⟩:=rx
  cases y with
  |ub j=>obtain⟨t',rfl⟩:=ry;exact PySem.W.eq_bytes (gL I q X3)
  |_=>exact absurd (show false=true from hs) hU
 |_=>cases y<;>exact absurd (show false=true from hs) hU
theorem ct':da X (compareOp .NotEq) rNe:=by
 intro pins s σ H x y v u Q I rx ry h
 obtain⟨hs,q⟩:=h
 cases x with
 |non =>
  cases rx
  cases y with
  |non=>cases ry;exact PySem.EqNone.ne_none_none (gL I q (by simp))
  |bl j=>cases ry;exact PySem.EqNone.ne_none_bool (gL I q (by simp))
  |int j=>obtain⟨t',rfl⟩:=ry;exact PySem.EqNone.ne_none_int (gL I q (by simp))
  |str j=>obtain⟨t',rfl⟩:=ry;exact PySem.EqNone.ne_none_str (gL I q (by simp))
  |_=>exact absurd (show false=true from hs) hU
 |bl i =>
  cases rx
  cases y with
  |non=>cases ry;exact PySem.EqNone.ne_bool_none (gL I q (by simp))
  |bl j=>cases ry;exact ne_bool (gL I q (congrArg not XS))
  |str j=>obtain⟨t',rfl⟩:=ry;exact PySem.EqMixed.ne_bool_str (gL I q (by simp))
  |_=>exact absurd (show false=true from hs) hU
 |int i =>
  obtain⟨t,rfl⟩:=rx
  cases y with
  |non=>cases ry;exact PySem.EqNone.ne_int_none (gL I q (by simp))
  |int j=>obtain⟨t',rfl⟩:=ry;exact ne_int (gL I q (congrArg not XR))
  |str j=>obtain⟨t',rfl⟩:=ry;exact PySem.EqMixed.ne_int_str (gL I q (by simp))
  |_=>exact absurd (show false=true from hs) hU
 |str i =>
  obtain⟨t,rfl⟩:=rx
  cases y with
  |non=>cases ry;exact PySem.EqNone.ne_str_none (gL I q (by simp))
  |bl j=>cases ry;exact PySem.EqMixed.ne_str_bool (gL I q (by simp))
  |int j=>obtain⟨t',rfl⟩:=ry;exact PySem.EqMixed.ne_str_int (gL I q (by simp))
  |str j=>obtain⟨t',rfl⟩:=ry;exact ne_str (gL I q (congrArg not XX))
  |_=>exact absurd (show false=true from hs) hU
 |ub i =>
  obtain⟨t,rfl⟩:=rx
  cases y with
  |ub j=>obtain⟨t',rfl⟩:=ry;exact PySem.W.ne_bytes (gL I q (congrArg not X3))
  |_=>exact absurd (show false=true from hs) hU
 |_=>cases y<;>exact absurd (show false=true from hs) hU
theorem cu':da X (compareOp .Lt) (EF fun i j=>.bl (decide (i<j))):=Tv fun _ _ _ _ _ _ _ q=>lt_int q
theorem cv':da X (compareOp .LtE) (EF fun i j=>.bl (decide (i<=j))):=Tv fun _ _ _ _ _ _ _ q=>le_int q
theorem cw':da X (compareOp .Gt) (EF fun i j=>.bl (decide (j<i))):=Tv fun _ _ _ _ _ _ _ q=>gt_int q
theorem cx':da X (compareOp .Lt) (fun x y H Q=>∃ i j,x=.str i/\y=.str j/\Q (.bl (decide (i.cps.toList<j.cps.toList))) H):=by
 intro pins s σ H x y v u Q I rx ry h
 obtain⟨i,j,rfl,rfl,q⟩:=h
 obtain⟨t,rfl⟩:=rx
 obtain⟨t',rfl⟩:=ry
 exact lt_str (gL I q rfl)
theorem cy':da X (compareOp .In) (fun x y H Q=>∃ i j,x=.str i/\y=.str j/\Q (.bl (!(Builtin.Str.occurrences j i 0 j.length 1).isEmpty)) H):=by
 intro pins s σ H x y v u Q I rx ry h
 obtain⟨i,j,rfl,rfl,q⟩:=h
 obtain⟨t,rfl⟩:=rx
 obtain⟨t',rfl⟩:=ry
 exact in_str (gL I q rfl)
theorem Q6:da X (compareOp .Is) (fun x y H Q=>y=.non/\Q (.bl (decide (x=.non))) H):=by
 intro pins s σ H x y v u Q I rx ry h
 obtain⟨rfl,q⟩:=h
 cases ry
 refine is_none_gen (gL I q ?_)
 cases x<;>first
  | (cases rx;rfl)
  | (obtain⟨t,rfl⟩:=rx;rfl)
theorem cz':da X (compareOp .IsNot) (fun x y H Q=>y=.non/\Q (.bl (!decide (x=.non))) H):=by
 intro pins s σ H x y v u Q I rx ry h
 obtain⟨rfl,q⟩:=h
 cases ry
 refine isnot_none_gen (gL I q ?_)
 cases x<;>first
  | (cases rx;rfl)
  | (obtain⟨t,rfl⟩:=rx;rfl)
theorem cA':da X (compareOp .NotIn) (fun x y H Q=>∃ i j,x=.str i/\y=.str j/\Q (.bl (!(!(Builtin.Str.occurrences j i 0 j.length 1).isEmpty))) H):=by
 intro pins s σ H x y v u Q I rx ry h
 obtain⟨i,j,rfl,rfl,q⟩:=h
 obtain⟨t,rfl⟩:=rx
 obtain⟨t',rfl⟩:=ry
 exact notIn_str (gL I q rfl)
theorem da.or(h:da X f r)(h':da X f r'):da X f (fun x y H Q=>r x y H Q\/r' x y H Q):=by
 intro pins s σ H x y v u Q I rx ry q
 rcases q with q|q
 ·exact h pins s σ H x y v u Q I rx ry q
 ·exact h' pins s σ H x y v u Q I rx ry q
theorem nX(b:Expr)(h:op≠.In:=by decide)(h2:op≠.NotIn:=by decide):behindInMarks op b=false:=by
 have e1:(op == CmpOp.In)=false:=by cases op<;>first|rfl|exact absurd rfl h
 have e2:(op == CmpOp.NotIn)=false:=by cases op<;>first|rfl|exact absurd rfl h2
 cases b<;>simp[behindInMarks,e1,e2]
theorem cB'{op:CmpOp}{r:R2}(ho:da X (compareOp op) r)(ha:PE X a ta)(hb:PE X b tb)(hm:behindInMarks op b=false):PE X (.Compare a [op] [b] pos) (L4 r ta tb):=by
 intro pins s σ H Q I h
 exact wpAny_Compare1 (Ts ha hb I h fun v u s2 x y H2 I2 rx ry q=>ho pins s2 σ H2 x y v u Q I2 rx ry q) hm
def Tw(t:TE):TT:=fun σ H Q=>t σ H fun x H'=>∃ k,x=.bl k/\Q k H'
theorem cC'(ho:da X (compareOp op) r)(ha:PE X a ta)(hb:PE X b tb)(hm:behindInMarks op b=false):PT X (.Compare a [op] [b] pos) (Tw (L4 r ta tb)):=by
 intro pins s σ H Q I h
 refine wpAny_isTrue_Compare1 (cw (ha pins s σ H _ I h) fun v s1 cK=>L2.gI cK fun x H1 I1 r1 q1=>cw (hb pins s1 σ H1 _ I1 q1) fun u s2 cK=>L2.gI cK fun y H2 I2 r2 q2 =>
  cw (ho pins s2 σ H2 x y v u _ I2 r1 r2 q2) fun c s3 ⟨z,H3,I3,r3,k,e,q3⟩=>?_) hm
 subst e
 cases r3
 exact wpAny_truthy_bool ⟨H3,I3,q3⟩
def X4(r r':R2)(ta tb tc:TE):TE:=fun σ H Q=>ta σ H fun x H1=>tb σ H1 fun y H2=>r x y H2 fun z H3=>∃ k,z=.bl k /\
 (if k=true then tc σ H3 fun w' H4=>r' y w' H4 Q else Q (.bl false) H3)
theorem cD'(ho:da X (compareOp op) r)(mM:da X (compareOp op') r')(ha:PE X a ta)(hb:PE X b tb)(hc:PE X c tc)
  (hm:lastMarks [op,op'] [b,c]=false:=by with_unfolding_all rfl):PT X (.Compare a [op,op'] [b,c] pos) (Tw (X4 r r' ta tb tc)):=by
 intro pins s σ H Q I h
 refine isTrue_chain (cw (ha pins s σ H _ I h) fun v s1 cK=>L2.gI cK fun x H1 I1 r1 q1=>test_link (cw (hb pins s1 σ H1 _ I1 q1) fun u s2 cK=>L2.gI cK fun y H2 I2 r2 q2 =>
  cw (ho pins s2 σ H2 x y v u _ I2 r1 r2 q2) fun d s3 ⟨z,H3,I3,r3,k,e,q3⟩=>?_)) hm
 subst e
 cases r3
 refine wpAny_truthy_bool ?_
 cases k with
 |false =>
  obtain⟨k',e',q'⟩:=q3
  cases e'
  exact ite_ff ⟨H3,I3,q'⟩
 |true =>
  refine ite_tt (test_last (cw (hc pins s3 σ H3 _ I3 q3) fun w' s4 ⟨z',H4,I4,r4,q4⟩=>cw (mM pins s4 σ H4 y z' u w' _ I4 r2 r4 q4) fun d' s5 cE=>?_))
  obtain⟨z2,H5,I5,r5,k2,e2,q5⟩:=cE
  subst e2
  cases r5
  exact wpAny_truthy_bool ⟨H5,I5,q5⟩
theorem Q7:(sizeLine:Nat)<2 ^ 63:=by rw[sizeLine_eq];decide
theorem cE':da X (binaryOp .Add) (fun x y H Q=>∃ i j,x=.str i/\y=.str j/\i.length+j.length<=sizeLine/\Q (.str (i++j)) H):=by
 intro pins s σ H x y v u Q I rx ry h
 obtain⟨i,j,rfl,rfl,hz,q⟩:=h
 obtain⟨t,rfl⟩:=rx
 obtain⟨t',rfl⟩:=ry
 exact add_str (fun t' tk=>⟨.str (i++j),H,I.tok _,⟨_,rfl⟩,q⟩) hz
theorem vals1(r:Vals [x] us):∃ u,us=[u]/\RelV x u:=by
 cases r with
 |cons r1 r2=>cases r2;exact⟨_,rfl,r1⟩
def cF'(K:PySem.W.Frag)(x:V)(H:Hp)(n:Nat):Prop :=
 match x with
 |.str y=>y.length<=sizeLine/\n=y.length
 |.ub y=>y.size<=sizeLine/\n=y.size
 |.ref p=>(∃ xs,eR K H p xs/\n=xs.length)\/∃ xs,kL K H p xs/\n=xs.length
 |_=>False
theorem Tx:kM X (.builtin "len") (fun xs H Q=>∃ x n,xs=[x]/\cF' X.K x H n/\Q (.int n) H):=by
 intro pins s σ H xs us Q I r h
 obtain⟨x,n,rfl,e,q⟩:=h
 obtain⟨u,rfl,rx⟩:=vals1 r
 have hl:=Q7
 have hs:sizeLine=16777216:=sizeLine_eq
 cases x with
 |str y =>
  obtain⟨t,rfl⟩:=rx
  obtain⟨hy,e'⟩:y.length<=sizeLine/\n=y.length:=e
  subst e'
  exact len_str (by lia) ⟨.int _,H,I.tok _,⟨_,rfl⟩,q⟩
 |ub y =>
  obtain⟨t,rfl⟩:=rx
  obtain⟨hy,e'⟩:y.size<=sizeLine/\n=y.size:=e
  subst e'
  exact PySem.W.len_bytes (by walk_at "s4") ⟨.int _,H,I.tok _,⟨_,rfl⟩,q⟩
 |ref p =>
  cases rx
  have e':(∃ xs,eR X.K H p xs/\n=xs.length)\/∃ xs,kL X.K H p xs/\n=xs.length:=e
  rcases e' with⟨xs,hx,e'⟩|⟨xs,hx,e'⟩
  ·subst e'
   obtain⟨its,r',pl,hz⟩:=I.list hx
   have hlen:=r'.length
   exact Calls.call_len_list pl.isList (by simp only[h9];lia) ⟨.int xs.length,H,I.tok _,⟨_,by simp only[h9];rw[hlen]⟩,q⟩
  ·subst e'
   obtain⟨its,r',pl,hz⟩:=I.tuple hx
   have hlen:=r'.length
   exact len_tuple pl (by simp only[h9];lia) ⟨.int xs.length,H,I.tok _,⟨_,by simp only[h9];rw[hlen]⟩,q⟩
 |_=>exact(show False from e).elim
end
structure Tz(h:Heap)(x dx C:Addr)(mA:Str->Option Value):Prop where
 obj:h.get? x=some (PySem.W.instObj C dx)
 ns:h.Ns1 dx mA
 ne:dx≠x
theorem lookIn_ns{h:Heap}{dx:Addr}{mA:Str->Option Value}(n:h.Ns1 dx mA):∃ od,h.get? dx=some od/\∀ name,PySem.W.lookIn name od=some (mA name):=by
 obtain⟨o,es,ep,ho,hd,hk,_,hm⟩:=n
 refine⟨o,ho,fun name=>?_⟩
 have e:=hm name
 unfold nsFind findBy at e
 rw[<- Array.find?_toList] at e
 unfold PySem.W.lookIn
 rw[hd]
 dsimp only
 split
 ·rename_i y q
  rw[q] at e
  exact congrArg some e
 ·rename_i q
  rw[q] at e
  have a:es.toList.any (·.refKey)=false:=by
   rw[List.any_eq_false]
   intro y hy
   obtain⟨z,t,Q8⟩:=hk y (Array.mem_toList_iff.mp hy)
   simp[DictEntry.refKey,Q8]
  have a':¬ es.toList.any (·.refKey)=true:=by rw[a];exact hU
  rw[if_neg a']
  exact congrArg some e
theorem Tz.look(I:Tz h x dx C mA):∃ od,PySem.W.InstAt h x (PySem.W.instObj C dx) C (some od)/\∀ name,PySem.W.lookIn name od=some (mA name) :=
 let ⟨od,ho,hl⟩:=lookIn_ns I.ns
 ⟨od,⟨I.obj,rfl,rfl,ho⟩,hl⟩
theorem ui.some_of(r:ui (some v) o):∃ u,o=some u/\RelV v u:=by
 cases o with
 |none=>exact(show False from r).elim
 |some u=>exact⟨u,rfl,r⟩
section
variable {P:Program}{w:World}{H:Hp}{h:Heap}{a C dx:Addr}{fs:List (Str × V)}
theorem Q9(bq:iA P w H h)(e:H a=some (.ins C dx fs)):∃ mA,Tz h a dx C mA/\(∀ f,ui (fs.lookup f) (mA f))/\PySem.Within mA (fs.map (·.1))/\fs.length<=1000/\H dx=some (.own a):=by
 obtain⟨d,z,ne,ob,mA,n,r,q⟩:=(show fo P w H h a (.ins C dx fs) from bq a _ e)
 exact⟨mA,⟨ob,n,ne⟩,r,q,z,d⟩
end
structure TB(K:PySem.W.Frag)(C:Addr):Prop where
 pg:PySem.W.plainGet K C Str.empty=true
 hd:PySem.W.hasDictIn K C=true
 po:PySem.W.plainOver K C=true
 sa:PySem.W.findIn K (.ref C) "__setattr__" = some (some (.builtin "object.__setattr__"))
theorem TB.get{K:PySem.W.Frag}(c:TB K C)(f:Str):PySem.W.plainGet K C f=true:=c.pg
section
variable {X:Cx}{pins:List (Addr × Obj)}{σ:St}{H:Hp}{s:Shared}{A:Around}{E:Value->Shared->Prop}{Q:Value->Shared->Prop}{c:Value}{b:Bool}
inductive w_(K:PySem.W.Frag)(H:Hp):V->Value->Prop where
 |non:w_ K H .non (.type "NoneType")
 |bl (x:Bool):w_ K H (.bl x) (.type "bool")
 |int (i:Int):w_ K H (.int i) (.type "int")
 |str (x:Str):w_ K H (.str x) (.type "str")
 |AR (x:UInt64):w_ K H (.AR x) (.type "float")
 |lst {a:Addr} {xs:List V} (e:H a=some (.lst xs)):w_ K H (.ref a) (.type "list")
 |eC {a:Addr} {o:Obj} {xs:List V} (e:H a=some (.eC o (.lst xs))):w_ K H (.ref a) (.type "list")
 |tup {a:Addr} {xs:List V} (e:H a=some (.tup xs)):w_ K H (.ref a) (.type "tuple")
 |dK {a:Addr} {kvs:List (Key × V)} (e:H a=some (.dK kvs)):w_ K H (.ref a) (.type "dict")
 |dT {a:Addr} {kvs:List (List Key × V)} (e:H a=some (.dT kvs)):w_ K H (.ref a) (.type "dict")
 |ins {a C dx:Addr} {fs:List (Str × V)} (e:H a=some (.ins C dx fs)) (cl:TB K C) (ha:PySem.W.findIn K (.ref C) "__class__" = some (some (.builtin "object.__class__")))
   (hn:PySem.W.specialIn K (.builtin "object.__class__") "__get__" = some (some (.builtin "getset_descriptor.__get__"))) (X5:PySem.W.takesIn K (.builtin "object.__class__")=some true)
   (hm:PySem.W.mroIn K C (.type "object")=some true):w_ K H (.ref a) (.ref C)
theorem L5(I:Inv X pins σ H s)(rx:RelV x u)(ty:w_ X.K H x t)(e:PySem.W.kitOne X.K t c=some b)(h:∀ tk,Q (.bool b) { s with toks:=tk }) :
  wpAny (model X.prog X.w) A (call (.builtin "isinstance") [u,c]) Q E s:=by
 cases ty with
 |non=>cases (show u=Value.none from rx);exact PySem.W.kia_one PySem.W.kitx_none I.kA True.intro e (fun z=>nomatch z) h
 |bl y=>cases (show u=Value.bool y from rx);exact PySem.W.kia_one PySem.W.kitx_bool I.kA True.intro e (fun z=>nomatch z) h
 |int i=>obtain⟨t,q⟩:=(show ∃ t,u=Value.int i t from rx);cases q;exact PySem.W.kia_one PySem.W.kitx_int I.kA True.intro e (fun z=>nomatch z) h
 |str y=>obtain⟨t,q⟩:=(show ∃ t,u=Value.str y t from rx);cases q;exact PySem.W.kia_one PySem.W.kitx_str I.kA True.intro e (fun z=>nomatch z) h
 |AR y=>obtain⟨t,q⟩:=(show ∃ t,u=Value.float y t from rx);cases q;exact PySem.W.kia_one PySem.W.kitx_float I.kA True.intro e (fun z=>nomatch z) h
 |@lst a xs ea =>
  cases (show u=Value.ref a from rx)
  obtain⟨_,_,n,_,h1⟩:=(show fo X.prog X.w H s.heap a (.lst xs) from I.bq a _ ea)
  exact PySem.W.kia_one PySem.W.kitx_list I.kA ⟨_,h1,rfl⟩ e (fun z=>nomatch z) h
 |@eC a ob xs ea =>
  cases (show u=Value.ref a from rx)
  obtain⟨_,_,_,n,_,h1⟩:=(show fo X.prog X.w H s.heap a (.eC ob (.lst xs)) from I.bq a _ ea)
  exact PySem.W.kia_one PySem.W.kitx_list I.kA ⟨_,h1,rfl⟩ e (fun z=>nomatch z) h
 |@tup a xs ea =>
  cases (show u=Value.ref a from rx)
  obtain⟨_,_,_,p⟩:=(show fo X.prog X.w H s.heap a (.tup xs) from I.bq a _ ea)
  obtain⟨o,h1,h2,_⟩:=p
  exact PySem.W.kia_one PySem.W.kitx_tuple I.kA ⟨o,h1,h2⟩ e (fun z=>nomatch z) h
 |@dK a kvs ea =>
  cases (show u=Value.ref a from rx)
  obtain⟨_,_,vs,_,p⟩:=(show fo X.prog X.w H s.heap a (.dK kvs) from I.bq a _ ea)
  obtain⟨o,es,ep,h1,h2,_⟩:=p
  exact PySem.W.kia_one PySem.W.kitx_dict I.kA ⟨o,h1,h2.1⟩ e (fun z=>nomatch z) h
 |@dT a kvs ea =>
  cases (show u=Value.ref a from rx)
  obtain⟨_,_,xs,_,o,es,ep,h1,h2,_⟩:=(show fo X.prog X.w H s.heap a (.dT kvs) from I.bq a _ ea)
  exact PySem.W.kia_one PySem.W.kitx_dict I.kA ⟨o,h1,h2.1⟩ e (fun z=>nomatch z) h
 |@ins a C dx fs ea cl ha hn X5 hm =>
  cases (show u=Value.ref a from rx)
  obtain⟨mA,O,_⟩:=Q9 I.bq ea
  obtain⟨od,J,_⟩:=O.look
  exact PySem.W.kia_one (PySem.W.kitx_own (cl.get _) cl.hd ha hn X5 hm) I.kA J e (fun z=>nomatch z) h
end
structure mN(k:Nat)(A:Around):Prop where
 hd:A.handled=none
 dp:A.depth+3*k+5<recursionLimit
 un:A.units+16*k+200<cLine
theorem mN.mono(r:mN k A)(h:j<=k):mN j A:=⟨r.hd,by have:=r.dp;lia,by have:=r.un;lia⟩
theorem mN.deeper(r:mN (k+1) A)(env:Env):mN k (A.deeper env) :=
 ⟨r.hd,by have:=r.dp;show A.depth+1+3*k+5<_;lia,by have:=r.un;show A.units+3+16*k+200<_;lia⟩
theorem mN.depth(r:mN k A):A.depth<recursionLimit:=by have:=r.dp;lia
theorem mN.units(r:mN k A):A.units+64<cLine:=by have:=r.un;lia
def TC:TA:=fun _ H Q=>Q [] H
def TF(ta:TE)(tr:TA):TA:=fun σ H Q=>ta σ H fun x H1=>tr σ H1 fun xs H2=>Q (x :: xs) H2
section
variable {X:Cx}{e:Expr}{es:List Expr}{te:TE}{t:TA}{pos:Pos}
theorem uS:PA X [] TC:=fun _ _ _ _ H Q I h=>Calls.spliced_nil ⟨[],H,I,.nil,h⟩
theorem q0(ha:PE X e te)(hr:PA X es t)(hs:starEach (e :: es) X.env=(false,eval e X.env) :: starEach es X.env:=by rfl):PA X (e :: es) (TF te t):=by
 intro pos pins s σ H Q I h
 rw[hs]
 show wpAny _ _ (spliced ((false,eval e X.env) :: backTo pos (starEach es X.env))) _ _ s
 refine Calls.spliced_cons (cw (ha pins s σ H _ I h) fun u s1 cK=>L2.gI cK fun x H1 I1 r1 q1=>?_)
 exact cw (hr pos pins s1 σ H1 _ I1 q1) fun us s2 cK=>L2.gI cK fun xs H2 I2 r2 q2=>⟨x :: xs,H2,I2,.cons r1 r2,q2⟩
def cG'(t:TA):TE:=fun σ H Q=>t σ H fun xs H1=>xs.length<=sizeLine/\∀ p,H1 p=none->Q (.ref p) (upd H1 p (.tup xs))
def cH'(t:TA):TE:=fun σ H Q=>t σ H fun xs H1=>xs.length<=sizeLine/\∀ p,H1 p=none->Q (.ref p) (upd H1 p (.lst xs))
theorem X6{x1}(h:PA X es t):PE X (.Tuple es x1 pos) (cG' t):=by
 intro pins s σ H Q I hq
 refine wpAny_Tuple_spliced (cw (h pos pins s σ H _ I hq) fun us s1 ⟨xs,H1,I1,r,z,q⟩=>⟨by rw[<- r.length];exact z,?_⟩)
 have hf:H1 s1.heap.objs.size=none:=I1.bq.fresh (ck _)
 refine⟨.ref s1.heap.objs.size,upd H1 s1.heap.objs.size (.tup xs),I1.laid (t':=s1.toks) (fun b u e=>fh _ e) (ck _) ?_,rfl,q _ hf⟩
 exact⟨z,us,r,⟨_,iX _ rfl,rfl,_,rfl⟩⟩
theorem cI'(h:PA X es t):PE X (.List es pos) (cH' t):=by
 intro pins s σ H Q I hq
 refine wpAny_List_spliced (cw (h pos pins s σ H _ I hq) fun us s1 ⟨xs,H1,I1,r,z,q⟩=>⟨by rw[<- r.length];exact z,?_⟩)
 have hf:H1 s1.heap.objs.size=none:=I1.bq.fresh (ck _)
 refine⟨.ref s1.heap.objs.size,upd H1 s1.heap.objs.size (.lst xs),I1.laid (t':=s1.toks) (fun b u e=>fh _ e) (ck _) ?_,rfl,q _ hf⟩
 exact⟨z,us,0,r,iX _ rfl⟩
end
abbrev Sp:=List V->Hp->VK->XK->Prop
abbrev CF:=List Env->Hp->Shared->XK->Value->Shared->Prop
structure Q_(P:Program)(w:World)(K:PySem.W.Frag)(mg:Str->Option Value)(base:Heap)(A:Around)(outer:List Env)(s:Shared)(H:Hp):Prop where
 frames:A.frames=some outer
 mod:Mod K mg base
 bs:∀ b o,base.get? b=some o->s.heap.get? b=some o/\H b=none
 Cb:base.objs.size<=s.heap.objs.size
 x5:s.heap.FunFrames base outer
 HG:∀ b∈xS outer,H b=none
 bq:iA P w H s.heap
 bare:AllBare s.gens
def CE(outer:List Env)(P:Program)(w:World)(H:Hp)(s:Shared)(Q:VK)(u:Value)(s':Shared):Prop :=
 ∃ v H',s'.os=s.os/\AllBare s'.gens/\Un (xS outer) [] H H' s.heap s'.heap/\iA P w H' s'.heap/\RelV v u/\Q v H'
def CR(CX:CF)(outer:List Env)(P:Program)(w:World)(H:Hp)(s:Shared)(Q:VK)(E:XK)(r:Result)(s':Shared):Prop :=
 match r with
 |.ok (.ret u)=>CE outer P w H s Q u s'
 |.ok _=>False
 |.error e=>CX outer H s E e s'
structure fz(P:Program)(w:World)(K:PySem.W.Frag)(mg:Str->Option Value)(base:Heap)(CX:CF)(k:Nat)(f:Addr)(fd:FuncData)(ps:List Str)(sp:Sp):Prop where
 len:∀ vs H Q E,sp vs H Q E->vs.length=ps.length
 run:∀ (A:Around) (outer:List Env) (s:Shared) (H:Hp) (args:Args) (us:List Value) (vs:List V) (Q:VK) (E:XK),mN k A->Q_ P w K mg base A outer s H->BindsTo s fd args (ps.zip us)->Vals vs us->sp vs H Q E ->
  codeAny (model P w) A (.call (.ref f) args) (CR CX outer P w H s Q E) s
section
variable {X:Cx}{pins:List (Addr × Obj)}{σ:St}{H:Hp}{s s':Shared}
theorem Inv.cJ'(I:Inv X pins σ H s):Q_ X.prog X.w X.K X.mg X.base X.A X.stack s H :=
 ⟨I.ok.frames,I.ok.mod,I.bs,gE I.ok.Cb I.sz,I.stack,I.Xh,I.bq,I.bare⟩
theorem Inv.after(I:Inv X pins σ H s)(h:CE X.stack X.prog X.w H s Q u s'):EP X pins σ Q u s':=by
 obtain⟨v,H',os,bare,un,bq,r,q⟩:=h
 obtain⟨hh,g,d,t,os'⟩:=s'
 obtain rfl:os'=s.os:=os
 exact⟨v,H',I.call (h':=hh) (g':=g) (d':=d) (t':=t) (ch:=[]) un bq bare (fun b z=>absurd z (by simp)),r,q⟩
end
def TH(sp:Sp)(CH:List V)(E:XK)(t:TA):TE:=fun σ H Q=>t σ H fun vs H1=>sp (vs++CH) H1 Q E
def Binds(K:PySem.W.Frag)(fd:FuncData)(ps:List Str)(ds:List Value):Prop :=
 ∀ (s:Shared) (us:List Value),K.In s.heap->(us++ds).length=ps.length->BindsTo s fd ⟨us,[]⟩ (ps.zip (us++ds))
theorem Binds.all{K:PySem.W.Frag}{ps:List Str}(h:∀ us:List Value,us.length=ps.length->bindArgs fd ⟨us,[]⟩=pure (ps.zip us)):Binds K fd ps []:=fun s us _ hl=>by
 rw[qV] at hl ⊢
 exact .of_eq (h us hl)
def Passes(CX:CF)(X:Cx)(E:XK):Prop:=∀ (pins:List (Addr × Obj)) (σ:St) (H:Hp) (s:Shared) (e:Value) (s':Shared),Inv X pins σ H s->CX X.stack H s E e s'->X.xe e s'
section
variable {X:Cx}{CX:CF}{k:Nat}{f:Addr}{fd:FuncData}{ps:List Str}{sp:Sp}{CH:List V}{ds:List Value}{E:XK}{x:Str}{p pos:Pos}{e:Expr}{es:List Expr}{t:TA}
theorem cL'(F:fz X.prog X.w X.K X.mg X.base CX k f fd ps sp)(hr:mN k X.A)(hb:Binds X.K fd ps ds)(hd:Vals CH ds)(hx:Passes CX X E)
  (I:Inv X pins σ H s) (r:Vals vs us) (h:sp (vs++CH) H Q E):wpAny (model X.prog X.w) X.A (call (.ref f) us) (EP X pins σ Q) X.xe s:=by
 have r2:Vals (vs++CH) (us++ds):=r.append hd
 have hl:(us++ds).length=ps.length:=by rw[<- r2.length];exact F.len _ _ _ _ h
 refine wpAny_call (codeAny_mono (F.run X.A X.stack s H ⟨us,[]⟩ (us++ds) (vs++CH) Q E hr I.cJ' (hb s us I.kA hl) r2 h) fun r s' hq=>?_)
 cases r with
 |error e=>exact hx pins σ H s e s' I hq
 |ok fl =>
  cases fl with
  |ret u=>exact I.after hq
  |next=>exact False.elim hq
  |brk=>exact False.elim hq
  |cont=>exact False.elim hq
theorem cM'(F:fz X.prog X.w X.K X.mg X.base CX k f fd ps sp)(hr:mN k X.A)(hg:Gl X x)(hm:X.mg x=some (.ref f))(hk:PySem.W.keepIn X.K (.ref f)=true)(hb:Binds X.K fd ps ds)(hd:Vals CH ds)(hx:Passes CX X E)
  (ha:PA X (e :: es) t) (ve:(x == ("__debug__" : Str))=false:=by decide) (he:starEach (e :: es) X.env=(false,eval e X.env) :: starEach es X.env:=by rfl) (pV:(backTo pos (starEach es X.env)).any (·.1)=false:=by rfl) :
  PE X (.Call (.Name x p) (e :: es) [] pos) (TH sp CH E t):=by
 intro pins s σ H Q I h
 refine wpAny_Call_Name_kw (Xu I hg hm ?_ ve)
 refine PySem.W.callWith_K (h₀:=X.base) I.ok.mod.Te hk (cw (ha pos pins s σ H _ I h) fun us s1 cK=>L2.gI cK fun vs H1 I1 r q=>⟨I1.kA,?_⟩) he pV
 exact cL' F hr hb hd hx I1 r q
end
structure hG(N P:List Str)(sc:Scope):Prop where
 kind:sc.kind=.function
 co:sc.isCoroutine=false
 gen:sc.isGenerator=false
 nd:N.Nodup
 pre:N.take P.length=P
 par:∀ x∈P,sc.names.lookup x=some .local\/sc.names.lookup x=some .cell
 cN':∀ y∈sc.names,y.2≠.free
theorem X7{kindOf:Str->Option NameKind}:∀ {binds:List (Str × Value)} {m:Str->Option Value},(∀ v,(x,v)∉binds)->bindL kindOf binds m x=m x
 |[],_,_=>rfl
 | (n,v) :: r,m,h=>by
  unfold bindL
  rw[X7 fun w hw=>h w (b9 _ hw)]
  split
  ·have:x≠n:=by rintro rfl;exact h v b5
   simp[this]
  ·rfl
theorem X8{kindOf:Str->Option NameKind}:∀ {binds:List (Str × Value)} {m:Str->Option Value},(∀ v,(x,v)∉binds)->bindC kindOf binds m x=m x
 |[],_,_=>rfl
 | (n,v) :: r,m,h=>by
  unfold bindC
  rw[X8 fun w hw=>h w (b9 _ hw)]
  split
  ·rfl
  ·have:x≠n:=by rintro rfl;exact h v b5
   simp[this]
theorem X_{kindOf:Str->Option NameKind}:∀ {P:List Str} {vs:List Value} {i:Nat} {m:Str->Option Value},P.Nodup->P[i]? = some x->vs[i]? = some v->kindOf x=some .local ->
  bindL kindOf (P.zip vs) m x=some v
 |[],_,_,_,_,h,_,_=>by simp at h
 |_ :: _,[],_,_,_,_,h,_=>by simp at h
 |p :: P,w :: vs,0,m,nd,h1,h2,hk=>by
  simp at h1 h2;subst h1;subst h2
  show bindL kindOf ((p,w) :: P.zip vs) m p=_
  unfold bindL
  rw[X7 fun v hv=>(js.mp nd).1 (List.of_mem_zip hv).1,if_pos hk]
  simp
 |p :: P,w :: vs,i+1,m,nd,h1,h2,hk=>by
  show bindL kindOf ((p,w) :: P.zip vs) m x=_
  unfold bindL
  exact X_ (i:=i) (js.mp nd).2 (by simpa using h1) (by simpa using h2) hk
theorem Ya{kindOf:Str->Option NameKind}:∀ {P:List Str} {vs:List Value} {i:Nat} {m:Str->Option Value},P.Nodup->P[i]? = some x->vs[i]? = some v->kindOf x≠some .local ->
  bindC kindOf (P.zip vs) m x=some v
 |[],_,_,_,_,h,_,_=>by simp at h
 |_ :: _,[],_,_,_,_,h,_=>by simp at h
 |p :: P,w :: vs,0,m,nd,h1,h2,hk=>by
  simp at h1 h2;subst h1;subst h2
  show bindC kindOf ((p,w) :: P.zip vs) m p=_
  unfold bindC
  rw[X8 fun v hv=>(js.mp nd).1 (List.of_mem_zip hv).1,if_neg hk]
  simp
 |p :: P,w :: vs,i+1,m,nd,h1,h2,hk=>by
  show bindC kindOf ((p,w) :: P.zip vs) m x=_
  unfold bindC
  exact Ya (i:=i) (js.mp nd).2 (by simpa using h1) (by simpa using h2) hk
def start(N:List Str)(vs:List V):St:=vs.map some++List.replicate (N.length-vs.length) none
def EI(CX:CF)(P:Program)(w:World)(K:PySem.W.Frag)(mg:Str->Option Value)(base:Heap)(N:List Str)(qual:Str)(scope:Scope)(f:Addr)(cd:Value)(A:Around)(outer:List Env)(s:Shared)(H:Hp)(E:XK):Cx where
 prog:=P
 w:=w
 K:=K
 mg:=mg
 base:=base
 A:=A.deeper (envOfC qual scope s.heap.objs.size f cd)
 N:=N
 ki:=s
 nK:=H
 env:=envOfC qual scope s.heap.objs.size f cd
 outer:=outer
 stack:=envOfC qual scope s.heap.objs.size f cd :: outer
 ex:=[]
 calm:=true
 fn:=fun _=>true
 pn:=[]
 xe:=fun e s'=>wpAny (model P w) (A.deeper (envOfC qual scope s.heap.objs.size f cd)) (leaving (envOfC qual scope s.heap.objs.size f cd) e) (fun _ CL=>CX outer H s E e CL) (fun e' CL=>CX outer H s E e' CL) s'
theorem Yb{sc:Scope}{n:Nat}{x:Str}(h:sc.names.lookup x=some .cell):∃ c,(cellsFrom n sc.names []).lookup x=some c:=by
 have q:=PySem.W.cellsFrom_some sc.names n [] (.inl h)
 exact S9.mp q
theorem cO'{CX:CF}{P:Program}{w:World}{K:PySem.W.Frag}{mg:Str->Option Value}{base:Heap}{N ps:List Str}{qual:Str}{scope:Scope}{f:Addr}{cd:Value}{A:Around}{outer:List Env}{s s1:Shared}{H:Hp}{E:XK}{us:List Value}{vs:List V}
  (S:hG N ps scope) (hd:A.handled=none) (e0:Q_ P w K mg base A outer s H) (hl:vs.length=ps.length) (r:Vals vs us)
  (x:InCallC s s.heap.objs.size (bindL (envOfC qual scope s.heap.objs.size f cd).kindOf (ps.zip us) fun _=>none) (cellsFrom (s.heap.objs.size+1) scope.names []) (bindC (envOfC qual scope s.heap.objs.size f cd).kindOf (ps.zip us) fun _=>none) s1) :
  Inv (EI CX P w K mg base N qual scope f cd A outer s H E) [] (start N vs) H s1:=by
 have pV:ps.length<=N.length:=by have:=congrArg List.length S.pre;rw[qS] at this;lia
 obtain⟨h1,tk,rfl,hk⟩:=x.done
 have L6:∀ b:Addr,b∉(EI CX P w K mg base N qual scope f cd A outer s H E).ex:=fun b z=>absurd (show b∈([]:List Addr) from z) (by simp)
 refine⟨⟨e0.mod,S.kind,rfl,rfl,ck _,fun y z c h1 h2=>?_,fun y hy=>?_,fun y c _ h=>?_,fun _=>hd,Around.frames_deeper e0.frames,.inr ⟨rfl,rfl⟩,fun b z=>absurd z (L6 b),e0.bs,e0.Cb,fun b _ _=>L6 b,fun b z=>absurd z (L6 b),e0.x5,e0.HG⟩,
  rfl,e0.bare,Un.kept hk,⟨_,x.toInCall.ns,fun i y v h1 h2 h3=>?_⟩,fun y c h=>⟨_,x.cell y c h⟩,e0.bq.fresh (ck _),fun y c h=>?_,fun p hp=>absurd (show p∈([]:List (Addr × Obj)) from hp) (by simp),e0.bq.kept hk,?_⟩
 ·exact name_of_addr x.apart (PySem.mem_of_lookup h1) (PySem.mem_of_lookup h2)
 ·have hy:scope.names.lookup y=some .cell\/scope.names.lookup y=some .free:=hy
  rcases hy with hy|hy
  ·exact Yb hy
  ·exact absurd rfl (S.cN' _ (PySem.mem_of_lookup hy))
 ·exact pT (x.above y c (PySem.mem_of_lookup h))
 ·have hi:i<vs.length:=by
   unfold start at h2
   by_cases hi:i<vs.length
   ·exact hi
   ·rw[D1 (by simpa using hi)] at h2
    rw[List.getElem?_replicate] at h2
    split at h2<;>cases h2
  have ha:vs[i]? = some v:=by
   unfold start at h2
   rw[KP (by simpa using hi),mr] at h2
   cases e:vs[i]? with
   |none=>rw[e] at h2;cases h2
   |some a=>rw[e] at h2;cases h2;rfl
  obtain⟨u,hu,rv⟩:=r.get ha
  have hp:ps[i]? = some y:=by
   rw[<- S.pre,List.getElem?_take_of_lt (by lia)];exact h1
  have Yc:ps.Nodup:=by rw[<- S.pre];exact S.nd.sublist (List.take_sublist _ _)
  refine⟨u,rv,?_⟩
  rcases S.par y (mn hp) with k|k
  ·exact .inl ⟨k,X_ Yc hp hu k⟩
  ·obtain⟨c,e⟩:=Yb (n:=s.heap.objs.size+1) k
   refine .inr ⟨.inl k,c,e,?_⟩
   have q:=x.cell y c e
   rw[Ya Yc hp hu (by show scope.names.lookup y≠_;rw[k];decide)] at q
   exact q
 ·exact e0.bq.fresh (pT (x.above y c (PySem.mem_of_lookup h)))
 ·unfold start
  show _=N.length
  rw[kF,bS,List.length_replicate]
  lia
theorem cP'{P:Program}{K:PySem.W.Frag}{dV kV doc pm dk ct oc:Value}
  {N ps:List Str} (lk:K.lookup f=some ⟨oc,od,.func (PySem.W.fnOf name qual params body scope dV kV doc pm an dk ct),HZ⟩) (ot:PySem.W.codeIn K dk qual=true) (S:hG N ps scope)
  (len:∀ vs H Q E,sp vs H Q E->vs.length=ps.length)
  (L7:∀ (A:Around) (outer:List Env) (s:Shared) (H:Hp) (vs:List V) (Q:VK) (E:XK),mN k (A.deeper (envOfC qual scope s.heap.objs.size f dk))->sp vs H Q E ->
   ∃ t,lj (EI CX P w K mg base N qual scope f dk A outer s H E) body t/\t { nx:=fun _ H'=>Q .non H',rt:=Q } (start N vs) H) :
  fz P w K mg base CX (k+1) f (PySem.W.fnOf name qual params body scope dV kV doc pm an dk ct) ps sp:=by
 refine⟨len,fun A outer s H args us vs Q E hr e0 hb r CM=>?_⟩
 have hl:=len _ _ _ _ CM
 have KX:K.In s.heap:=e0.mod.Te.keeps fun b o e=>(e0.bs b o e).1
 have lim:s.heap.NoLimit:=e0.mod.nolimit.keeps fun b o e=>(e0.bs b o e).1
 have cQ':∀ y∈ps.zip us,scope.names.lookup y.1=some .local\/(scope.names.lookup y.1=some .cell/\((cellsFrom (s.heap.objs.size+1) scope.names []).lookup y.1).isSome=true):=fun⟨n,v⟩ hy=>by
  rcases S.par n (List.of_mem_zip hy).1 with q|q
  ·exact .inl q
  ·exact .inr ⟨q,PySem.W.cellsFrom_some _ _ _ (.inl q)⟩
 refine codeAny_call_function hr.depth (KX _ _ lk) rfl S.co S.gen rfl (PySem.W.codeRec_of KX ot) (hb _ _ _ _ ?_)
 refine wpAny_newFunctionEnv_cells S.kind cQ' fun env he s1 x=>?_
 subst he
 refine⟨lim.keeps x.toInCall.keep,codeAny_func ?_⟩
 obtain⟨t,ht,hq⟩:=L7 A outer s H vs Q E (hr.deeper _) CM
 have I:Inv (EI CX P w K mg base N qual scope f dk A outer s H E) [] (start N vs) H s1:=cO' S hr.hd e0 hl r x
 refine oj (ht [] s1 (start N vs) H _ I hq) (fun fl s' hs=>?_) fun e s' hs=>hs
 have fin:∀ {bE:St} {H':Hp} {v:V} {u:Value},Inv (EI CX P w K mg base N qual scope f dk A outer s H E) [] bE H' s'->RelV v u->Q v H'->CE outer P w H s Q u s' :=
  fun {bE H' v u} J rv q=>⟨v,H',J.os,J.bare,J.base,J.bq,rv,q⟩
 cases fl with
 |ret u =>
  obtain⟨v,bE,H',J,rv,q⟩:=hs
  exact fin J rv q
 |next =>
  obtain⟨bE,H',J,q⟩:=hs
  exact fin (v:=V.non) (u:=Value.none) J rfl q
 |brk =>
  obtain⟨_,_,_,q⟩:=hs
  exact False.elim q
 |cont =>
  obtain⟨_,_,_,q⟩:=hs
  exact False.elim q
section
variable {X:Cx}{x:Str}{p pos:Pos}{e:Expr}{es:List Expr}{t:TA}{id T:String}{r:List V->Hp->VK->Prop}
def TJ(r:List V->Hp->VK->Prop)(t:TA):TE:=fun σ H Q=>t σ H fun vs H1=>r vs H1 Q
theorem Yd (hc:kM X (.builtin id) r) (hg:Gl X x) (hm:X.mg x=none) (hv:bootBuiltins x=some (.builtin id)) (ha:PA X (e :: es) t) (hn:x ≠ "__name__" := by decide) (ve:(x == ("__debug__" : Str))=false:=by decide)
  (he:starEach (e :: es) X.env=(false,eval e X.env) :: starEach es X.env:=by rfl) (pV:(backTo pos (starEach es X.env)).any (·.1)=false:=by rfl):PE X (.Call (.Name x p) (e :: es) [] pos) (TJ r t):=by
 intro pins s σ H Q I h
 refine wpAny_Call_Name_kw (CC I hg hm hv ?_ hn ve)
 exact PyProof.Rows.callWith_builtin1 (cw (ha pos pins s σ H _ I h) fun us s1 cK=>L2.gI cK fun vs H1 I1 r1 q1=>hc pins s1 σ H1 vs us Q I1 r1 q1) he pV
theorem cR' (hc:kM X (.type T) r) (hg:Gl X x) (hm:X.mg x=none) (hv:bootBuiltins x=some (.type T)) (ha:PA X (e :: es) t) (hn:x ≠ "__name__" := by decide) (ve:(x == ("__debug__" : Str))=false:=by decide)
  (he:starEach (e :: es) X.env=(false,eval e X.env) :: starEach es X.env:=by rfl) (pV:(backTo pos (starEach es X.env)).any (·.1)=false:=by rfl):PE X (.Call (.Name x p) (e :: es) [] pos) (TJ r t):=by
 intro pins s σ H Q I h
 refine wpAny_Call_Name_kw (CC I hg hm hv ?_ hn ve)
 exact PyProof.Rows.callWith_type1 (cw (ha pos pins s σ H _ I h) fun us s1 cK=>L2.gI cK fun vs H1 I1 r1 q1=>hc pins s1 σ H1 vs us Q I1 r1 q1) he pV
end
end L2
namespace HT
open PySem PyProof.Rows
section
open PySem.SeqAt
open PySem.AutoSeq1 (wpAny_loadPart')
open PySem.MeetsSeq PySem.MeetsSeq2 PySem.MeetsSeq3
end
section
variable {prog:Program}{w:World}{A:Around}{E:Value->Shared->Prop}{s:Shared}
theorem cS'(ht:IsTup s.heap t vs.toArray)(hb:IsTup s.heap b ws.toArray)(hv:vs≠[])
  (h1:ws=[]->Q (.ref t) s) (h2:ws≠[]->Q (.ref s.heap.objs.size) { s with heap:=s.heap.push { cls:=.type "tuple",data:=.seq (vs++ws).toArray } })
  (hsz:vs.length+ws.length<=sizeLine):wpAny (model prog w) A (binaryOp .Add (.ref t) (.ref b)) Q E s:=by
 obtain⟨⟨cls,dd,data,sl⟩,ho,hc,n,hd⟩:=id ht
 obtain⟨⟨TK,n4,data2,rg⟩,nS,ya,n2,hd2⟩:=id hb
 simp only at hc hd ya hd2
 subst hc hd ya hd2
 have e:vs.toArray++ws.toArray=(vs++ws).toArray:=by simp
 by_cases hw:ws=[]
 ·exact concat_meets ⟨_,ho,rfl⟩ ⟨_,nS,rfl⟩ noFill_tuple_add seq_tuple_add PySem.F.slot_tuple_add PySem.F.entry_tuple_add (PySem.F.args_tuple_add_2 _ _)
   (tuple_addW1 t b vs.toArray ws.toArray n n2 dd n4 sl rg (by simpa using hv) (by simp[hw])) ⟨ho,nS,h1 hw⟩
 ·refine concat_meets ⟨_,ho,rfl⟩ ⟨_,nS,rfl⟩ noFill_tuple_add seq_tuple_add PySem.F.slot_tuple_add PySem.F.entry_tuple_add (PySem.F.args_tuple_add_2 _ _)
   (tuple_addW2 t b vs.toArray ws.toArray n n2 dd n4 sl rg (by simpa using hv) (by simpa using hw) (by rw[h9,h9];exact hsz)) ⟨ho,nS,?_⟩
  rw[e]
  exact h2 hw
def bP(n d:Nat):Option Int->Nat
 |none=>d
 |some v=>if v<0 then (v+(n:Int)).toNat else min v.toNat n
theorem cT'(n d:Nat)(hd:d<=n)(o:Option Int):bP n d o<=n:=by
 cases o with
 |none=>exact hd
 |some v =>
  show(if v<0 then (v+(n:Int)).toNat else min v.toNat n)<=n
  by_cases hv:v<0
  ·rw[if_pos hv];lia
  ·rw[if_neg hv];exact Nat.min_le_right _ _
theorem Ye(v:Int)(n d:Nat):(if v<0 then max (v+(n:Int)) 0 else min v (n:Int))=((bP n d (some v):Nat):Int):=by
 show(if v<0 then max (v+(n:Int)) 0 else min v (n:Int))=(((if v<0 then (v+(n:Int)).toNat else min v.toNat n):Nat):Int)
 by_cases hv:v<0
 ·simp only[if_pos hv];lia
 ·simp only[if_neg hv];lia
theorem cU'(lo hi:Option Int)(n:Nat):Builtin.Slice.sliceAdjust lo hi 1 (n:Int)=(((bP n 0 lo:Nat):Int),((bP n n hi:Nat):Int)):=by
 have h1:¬ ((1:Int)<0):=by decide
 unfold Builtin.Slice.sliceAdjust
 simp only[h1,if_false]
 refine Prod.ext ?_ ?_
 ·cases lo with
  |none=>rfl
  |some v=>exact Ye v n 0
 ·cases hi with
  |none=>rfl
  |some v=>exact Ye v n n
theorem cV'(i j:Nat):Builtin.Slice.slicePlaces (i:Int) (j:Int) 1=j-i:=by
 unfold Builtin.Slice.slicePlaces
 have h1:(1:Int)>0:=by exact ua _
 simp only[h1,if_true,Int.ediv_one]
 split<;>lia
theorem Yf(p:IsPart v o)(h:Q o s):wpAny (model prog w) A (Builtin.Slice.slicePartIndex v) Q E s:=by
 cases p with
 |none=>exact slicePart_none h
 |int i t=>exact slicePart_int h
theorem cW'{sl:Addr}{vl vu:Value}{lo hi:Option Int}{n:Nat}{Q:Int × Int × Nat->Shared->Prop}(hs:s.heap.IsSliceOf sl vl vu .none)(pl:IsPart vl lo)(pu:IsPart vu hi)
  (h:Q (((bP n 0 lo:Nat):Int),1,bP n n hi-bP n 0 lo) s):wpAny (model prog w) A (Builtin.Slice.sliceApplied (.ref sl) (pure (n:Int))) Q E s:=by
 obtain⟨os,L8,xa,xh⟩:=id hs
 unfold Builtin.Slice.sliceApplied Builtin.Slice.sliceFields
 refine ah (ah (wpAny_field L8 xh (x:=vl) rfl (ah (wpAny_field L8 xh (x:=vu) rfl (ah (wpAny_field L8 xh (x:=.none) rfl (aw ?_)))))))
 refine ah (slicePart_none ?_)
 show wpAny _ _ (if ((1:Int) == 0)=true then _ else _) _ _ s
 rw[if_neg (by decide)]
 refine ah (Yf pl (ah (Yf pu (ah (aw ?_)))))
 show wpAny _ _ (match Builtin.Slice.sliceAdjust lo hi 1 (n:Int) with|(lo,hi)=>pure (lo,(1:Int),Builtin.Slice.slicePlaces lo hi 1)) _ _ s
 rw[cU' lo hi n]
 show wpAny _ _ (pure (((bP n 0 lo:Nat):Int),(1:Int),Builtin.Slice.slicePlaces ((bP n 0 lo:Nat):Int) ((bP n n hi:Nat):Int) 1)) _ _ s
 rw[cV']
 exact aw h
theorem cX'(xs:Array Value)(i k:Nat):((List.range k).filterMap fun(m:Nat)=>xs[((i:Int)+(m:Int)*1).toNat]?).toArray=((xs.toList.drop i).take k).toArray:=by
 have e:(fun(m:Nat)=>xs[((i:Int)+(m:Int)*1).toNat]?)=fun m=>xs[i+m]? := by
  funext m
  have:((i:Int)+(m:Int)*1).toNat=i+m:=by exact(Nat.add_assoc ..).symm
  rw[this]
 rw[e]
 have:=pick_run xs i k
 rw[S1] at this
 have e2:((fun x=>xs[x]?) ∘ fun x=>i+x)=fun m=>xs[i+m]? := rfl
 rw[e2] at this
 rw[this]
theorem cY'{lo hi:Option Int}(ht:IsTup s.heap t items)(hs:s.heap.IsSliceOf sl vl vu .none)(pl:IsPart vl lo)(pu:IsPart vu hi)
  (hw:¬ (bP items.size 0 lo=0/\bP items.size items.size hi=items.size))
  (h:Q (.ref s.heap.objs.size) { s with heap:=s.heap.push { cls:=.type "tuple",data:=.seq ((items.toList.drop (bP items.size 0 lo)).take (bP items.size items.size hi-bP items.size 0 lo)).toArray } })
  (hsz:items.size<=sizeLine):wpAny (model prog w) A (getItem (.ref t) (.ref sl)) Q E s:=by
 have Ra:sizeOk (.seq ((items.toList.drop (bP items.size 0 lo)).take (bP items.size items.size hi-bP items.size 0 lo)).toArray):=by
  show((items.toList.drop (bP items.size 0 lo)).take (bP items.size items.size hi-bP items.size 0 lo)).toArray.size<=sizeLine
  rw[h9,qS,B3,tT]
  lia
 have hj:bP items.size items.size hi<=items.size:=cT' _ _ (ck _) hi
 obtain⟨os,L8,xa,xh⟩:=id hs
 have hTs:s.TypeIs (.ref sl) "slice" := ⟨os,L8,xa⟩
 unfold getItem
 try with_reducible refine wpAny_holding ?_
 first|refine ah (aw ?_)|skip
 refine ah (wpAny_sequenceKey ht.typeIs (by decide) ?_)
 refine ah (wpAny_callSpecial?_slot (name:=Str.ofString "__getitem__") ht.typeIs PyProof.Rows.slot_tuple_getitem
  (wpAny_call_entry PyProof.Rows.slot_tuple_getitem ht.typeIs entry_tuple_getitem ?_ (args_tuple_getitem _ _)))
 show wpAny _ _ (Builtin.Tuple.tupleItemsOf (.ref t) >>= _) _ _ s
 refine ah (tupleItemsOf_ ht ?_)
 refine ah (wpAny_typeOf hTs ?_)
 rw[if_pos (by decide)]
 refine ah (cW' hs pl pu ?_)
 have xi:¬ ((((bP items.size 0 lo:Nat):Int) == 0 && (1:Int) == 1 && (bP items.size items.size hi-bP items.size 0 lo) == items.size)=true):=by
  intro q
  rw[kK,kK] at q
  have q1:((bP items.size 0 lo:Nat):Int)=0:=eq_of_beq q.1.1
  have q2:bP items.size items.size hi-bP items.size 0 lo=items.size:=eq_of_beq q.2
  exact hw ⟨by lia,by lia⟩
 show wpAny _ _ (if (((bP items.size 0 lo:Nat):Int) == 0 && (1:Int) == 1 && (bP items.size items.size hi-bP items.size 0 lo) == items.size)=true then _ else _) _ _ s
 rw[if_neg xi,cX']
 first
  |exact ah (m:=Builtin.Tuple.tupleExact _) (wpAny_newObj_type (aw ⟨_,rfl,aw h⟩) Ra)
  |exact ah (m:=Builtin.Tuple.tupleExact _) (wpAny_newObj_type (ah (aw (aw ⟨_,rfl,aw h⟩))) Ra)
  |exact ah (ah (m:=Builtin.Tuple.tupleExact _) (wpAny_newObj_type (aw (aw ⟨_,rfl,aw h⟩)) Ra))
  |exact ah (ah (m:=Builtin.Tuple.tupleExact _) (wpAny_newObj_type (aw ⟨_,rfl,aw h⟩) Ra))
end
end HT
namespace L2
open PySem PySem.Spec PyProof.Rows
abbrev TO:=St->Hp->(Option Int->Hp->Prop)->Prop
def PO(X:Cx)(e:Option Expr)(t:TO):Prop :=
 ∀ (pins:List (Addr × Obj)) (s:Shared) (σ:St) (H:Hp) (Q:Option Int->Hp->Prop),Inv X pins σ H s->t σ H Q ->
  wpAny (model X.prog X.w) X.A (evalPart e X.env) (fun u s'=>∃ o H',Inv X pins σ H' s'/\IsPart u o/\Q o H') X.xe s
def da':TO:=fun _ H Q=>Q none H
def db'(t:TE):TO:=fun σ H Q=>t σ H fun x H1=>∃ i,x=.int i/\Q (some i) H1
section
variable {X:Cx}{e:Expr}{te:TE}{lo hi:Option Expr}{tl th:TO}{pos p2:Pos}
theorem dc':PO X none da':=by
 intro pins s σ H Q I h
 rw[evalPart_none]
 exact aw ⟨none,H,I,.none,h⟩
theorem de'(h:PE X e te):PO X (some e) (db' te):=by
 intro pins s σ H Q I hw
 rw[evalPart_some]
 refine cw (h pins s σ H _ I hw) fun u s1 cK=>L2.gI cK fun x H1 I1 r1 q1=>?_
 obtain⟨i,rfl,q⟩:=q1
 obtain⟨t,rfl⟩:=r1
 exact⟨some i,H1,I1,.int i t,q⟩
def H0(X:Cx)(r:V->Option Int->Option Int->Hp->VK->Prop):Prop :=
 ∀ (pins:List (Addr × Obj)) (s:Shared) (σ:St) (H:Hp) (x:V) (v vl vu:Value) (lo hi:Option Int) (sl:Addr) (Q:VK),Inv X pins σ H s->RelV x v->s.heap.IsSliceOf sl vl vu .none->IsPart vl lo->IsPart vu hi->r x lo hi H Q ->
  ∃ T id,typeLookup (.type T) "__getitem__" = pure (some (.builtin id))/\s.TypeIs v T/\wpAny (model X.prog X.w) X.A (getItem v (.ref sl)) (EP X pins σ Q) X.xe s
def tSl(r:V->Option Int->Option Int->Hp->VK->Prop)(te:TE)(tl th:TO):TE:=fun σ H Q=>te σ H fun x H1=>tl σ H1 fun l H2=>th σ H2 fun u H3=>r x l u H3 Q
theorem dg'(hr:H0 X r)(he:PE X e te)(hl:PO X lo tl)(hu:PO X hi th):PE X (.Subscript e (.Slice lo hi none p2) pos) (tSl r te tl th):=by
 intro pins s σ H Q I h
 refine Subscript_ (cw (he pins s σ H _ I h) fun v s1 cK=>L2.gI cK fun x H1 I1 r1 q1=>?_)
 refine wpAny_Slice (cw (hl pins s1 σ H1 _ I1 q1) fun vl s2 cK=>L2.gI cK fun l H2 I2 pl q2=>cw (hu pins s2 σ H2 _ I2 q2) fun vu s3 cK=>L2.gI cK fun u H3 I3 pu q3=>?_)
 rw[evalPart_none]
 refine aw ?_
 have I4:Inv X pins σ H3 { s3 with heap:=s3.heap.push { cls:=.type "slice",data:=.fields #[vl,vu,.none] } }:=I3.kept (t':=s3.toks) fun b ob q=>fh _ q
 obtain⟨T,id,hT,ht,hg⟩:=hr pins { s3 with heap:=s3.heap.push { cls:=.type "slice",data:=.fields #[vl,vu,.none] } } σ H3 x v vl vu l u s3.heap.objs.size Q I4 r1 (Heap.IsSliceOf.new ..) pl pu q3
 show wpAny (model X.prog X.w) X.A (subscriptTail e (.Slice lo hi none p2) v (.ref s3.heap.objs.size)) (EP X pins σ Q) X.xe { s3 with heap:=s3.heap.push { cls:=.type "slice",data:=.fields #[vl,vu,.none] } }
 exact tail_any (ops:=[.ref s3.heap.objs.size,v]) ht hT hg (by with_unfolding_all rfl)
def AW(xs:List V)(lo hi:Option Int):List V:=(xs.drop (HT.bP xs.length 0 lo)).take (HT.bP xs.length xs.length hi-HT.bP xs.length 0 lo)
theorem Yg(xs:List V)(lo hi:Option Int):(AW xs lo hi).length<=xs.length:=by
 unfold AW
 rw[qS,B3]
 lia
def Yh(K:PySem.W.Frag):V->Option Int->Option Int->Hp->VK->Prop:=fun x lo hi H Q=>∃ a xs,x=.ref a/\kL K H a xs /\
 ¬ (HT.bP xs.length 0 lo=0/\HT.bP xs.length xs.length hi=xs.length)/\∀ p,H p=none->Q (.ref p) (upd H p (.tup (AW xs lo hi)))
theorem dh':H0 X (Yh X.K):=by
 intro pins s σ H x v vl vu lo hi sl Q I rx hs pl pu h
 obtain⟨a,xs,rfl,hx,hw,q⟩:=h
 cases rx
 obtain⟨its,r,ht,hz⟩:=I.tuple hx
 have hlen:its.toArray.size=xs.length:=by rw[h9];exact r.length.symm
 refine⟨"tuple",_,PyProof.Rows.slot_tuple_getitem.lookup,ht.typeIs,?_⟩
 refine HT.cY' ht hs pl pu (by rw[hlen];exact hw) ?_ (by rw[hlen];exact hz)
 rw[hlen]
 refine⟨.ref s.heap.objs.size,_,I.laid (t':=s.toks) (o:=.tup (AW xs lo hi)) (fun b ob q=>fh _ q) (ck _) ?_,rfl,q _ (I.bq.fresh (ck _))⟩
 exact⟨gE (Yg xs lo hi) hz,_,(r.drop (HT.bP xs.length 0 lo)).take (HT.bP xs.length xs.length hi-HT.bP xs.length 0 lo),IsTup.new _ _⟩
def TL(K:PySem.W.Frag):R2:=fun x y H Q=>∃ a b xs ys,x=.ref a/\y=.ref b/\kL K H a xs/\kL K H b ys/\xs≠[]/\xs.length+ys.length<=sizeLine /\
 (ys=[]->Q (.ref a) H)/\(ys≠[]->∀ p,H p=none->Q (.ref p) (upd H p (.tup (xs++ys))))
theorem Vals.TN(r:Vals xs us):us=[]↔xs=[]:=by
 cases r with
 |nil=>simp
 |cons _ _=>simp
theorem di':da X (binaryOp .Add) (TL X.K):=by
 intro pins s σ H x y v u Q I rx ry h
 obtain⟨a,b,xs,ys,rfl,rfl,ha,hb,hx,hz,q1,q2⟩:=h
 cases rx
 cases ry
 obtain⟨its,r1,p1,_⟩:=I.tuple ha
 obtain⟨AX,r2,p2,_⟩:=I.tuple hb
 refine HT.cS' p1 p2 (fun z=>hx (r1.TN.mp z)) (fun z=>⟨.ref a,H,I,rfl,q1 (r2.TN.mp z)⟩) (fun z=>?_) (by rw[<- r1.length,<- r2.length];exact hz)
 refine⟨.ref s.heap.objs.size,_,I.laid (t':=s.toks) (o:=.tup (xs++ys)) (fun b ob q=>fh _ q) (ck _) ?_,rfl,q2 (fun w=>z (r2.TN.mpr w)) _ (I.bq.fresh (ck _))⟩
 exact⟨by rw[kF];exact hz,_,r1.append r2,IsTup.new _ _⟩
end
def mw(n:Nat)(i:Int):Option Nat:=if 0<=i then (if i<n then some i.toNat else none) else if -(n:Int)<=i then some (i+n).toNat else none
def ft{α:Type}(xs:List α)(i:Int):Option α:=(mw xs.length i).bind fun j=>xs[j]?
theorem dk'(h:mw n i=some j):seqIndex? i n=some j/\j<n/\-(n:Int)<=i/\i<n:=by
 unfold mw at h
 by_cases h0:0<=i
 ·rw[if_pos h0] at h
  by_cases h1:i<n
  ·rw[if_pos h1] at h
   have e:i.toNat=j:=Option.some.inj h
   exact⟨by rw[seqIndex_of h0 h1,e],by lia,by lia,h1⟩
  ·rw[if_neg h1] at h;cases h
 ·rw[if_neg h0] at h
  by_cases h1:-(n:Int)<=i
  ·rw[if_pos h1] at h
   have e:(i+n).toNat=j:=Option.some.inj h
   exact⟨by rw[seqIndex_neg (by lia) h1,e],by lia,h1,by lia⟩
  ·rw[if_neg h1] at h;cases h
theorem TQ{α:Type}{xs:List α}{i:Int}{v:α}(h:ft xs i=some v):∃ j,seqIndex? i xs.length=some j/\xs[j]? = some v/\j<xs.length/\-(xs.length:Int)<=i/\i<xs.length:=by
 unfold ft at h
 cases e:mw xs.length i with
 |none=>rw[e] at h;cases h
 |some j =>
  rw[e] at h
  obtain⟨h1,h2,h3,h4⟩:=dk' e
  exact⟨j,h1,h,h2,h3,h4⟩
theorem L9{α:Type}{xs:List α}{j:Nat}{v:α}(h:xs[j]? = some v):ft xs (j:Int)=some v:=by
 have hj:j<xs.length:=(iS.mp h).1
 have e:mw xs.length (j:Int)=some j:=by
  unfold mw
  rw[if_pos (by walk_at "s1"),if_pos (by lia)];simp
 unfold ft;rw[e];exact h
theorem dl'{α:Type}(xs:List α)(v:α):ft (xs++[v]) (-1)=some v:=by
 have hl:(xs++[v]).length=xs.length+1:=by simp
 have e:mw (xs++[v]).length (-1)=some xs.length:=by
  unfold mw
  rw[hl,if_neg (by decide),if_pos (by lia)]
  congr 1
  lia
 unfold ft
 rw[e]
 show(xs++[v])[xs.length]? = some v
 simp
def Rb(b:Expr):Prop:=∀ o i,subscripted b false o i=operate [o,i] (getItem o i)
def vi(X:Cx)(r:R2):Prop :=
 ∀ (value slice:Expr) (pins:List (Addr × Obj)) (s:Shared) (σ:St) (H:Hp) (x y:V) (v u:Value) (Q:VK),Inv X pins σ H s->RelV x v->RelV y u->r x y H Q ->
  subscripted slice false v u=operate [v,u] (getItem v u)->wpAny (model X.prog X.w) X.A (subscriptTail value slice v u) (EP X pins σ Q) X.xe s
def TR(X:Cx)(id:String)(r:V->List V->Hp->VK->Prop):Prop :=
 ∀ (pins:List (Addr × Obj)) (s:Shared) (σ:St) (H:Hp) (x:V) (xs:List V) (v:Value) (us:List Value) (Q:VK),Inv X pins σ H s->RelV x v->Vals xs us->r x xs H Q ->
  wpAny (model X.prog X.w) X.A (call (.builtin id) (v :: us)) (EP X pins σ Q) X.xe s
section
variable {X:Cx}{a b:Expr}{ta tb:TE}{pos:Pos}
theorem vi.or(h:vi X r)(h':vi X r'):vi X (fun x y H Q=>r x y H Q\/r' x y H Q):=by
 intro value slice pins s σ H x y v u Q I rx ry q hs
 rcases q with q|q
 ·exact h value slice pins s σ H x y v u Q I rx ry q hs
 ·exact h' value slice pins s σ H x y v u Q I rx ry q hs
theorem TV{r:R2}(hr:vi X r)(ha:PE X a ta)(hb:PE X b tb)(hs:Rb b):PE X (.Subscript a b pos) (L4 r ta tb):=by
 intro pins s σ H Q I h
 exact Subscript_ (Ts ha hb I h fun v u s2 x y H2 I2 rx ry q=>hr a b pins s2 σ H2 x y v u Q I2 rx ry q (hs _ _))
def Yi(K:PySem.W.Frag):R2:=fun x y H Q=>∃ p xs i v,x=.ref p/\y=.int i/\eR K H p xs/\ft xs i=some v/\Q v H
def Yj(K:PySem.W.Frag):R2:=fun x y H Q=>∃ p xs i v,x=.ref p/\y=.int i/\kL K H p xs/\ft xs i=some v/\Q v H
def Yk:R2:=fun x y H Q=>∃ z i c,x=.str z/\y=.int i/\z.length<=sizeLine/\ft z.cps.toList i=some c/\Q (.str ⟨#[c]⟩) H
theorem dm':vi X (Yi X.K):=by
 intro value slice pins s σ H x y v u Q I rx ry h hs
 obtain⟨p,xs,i,z,rfl,rfl,hq,he,q⟩:=h
 cases rx
 obtain⟨t,rfl⟩:=ry
 obtain⟨its,r,pl,hz⟩:=I.list hq
 obtain⟨j,h1,h2,h3,h4,h5⟩:=TQ he
 obtain⟨w,ew,kr⟩:=r.get h2
 have hl:=r.length
 have hn:=Q7
 have fin:EP X pins σ Q w s:=⟨z,H,I,kr,q⟩
 by_cases h0:0<=i
 ·have hj:i.toNat=j:=by
   rw[seqIndex_of h0 h5] at h1
   exact Option.some.inj h1
  exact item_listR pl.isList h0 (by lia) (by rw[hj];simpa using ew) fin hs
 ·have hj:(i+(its.toArray.size:Int)).toNat=j:=by
   rw[seqIndex_neg (by exact Int.not_le.mp ‹_›) h4] at h1
   rw[h9,<- hl]
   exact Option.some.inj h1
  exact subscriptTail_builtinR (x:=w) pl.isList.typeIs slot_list_getitem.lookup
   (wpAny_getItem_list_neg (Q:=fun r s'=>r=w/\EP X pins σ Q r s') pl.isList (by exact Int.not_le.mp ‹_›) (by rw[h9]<;>lia) (by lia) (by rw[hj];simpa using ew) ⟨rfl,fin⟩) hs
theorem dn':vi X (Yj X.K):=by
 intro value slice pins s σ H x y v u Q I rx ry h hs
 obtain⟨p,xs,i,z,rfl,rfl,hq,he,q⟩:=h
 cases rx
 obtain⟨t,rfl⟩:=ry
 obtain⟨its,r,pl,hz⟩:=I.tuple hq
 obtain⟨j,h1,h2,h3,h4,h5⟩:=TQ he
 obtain⟨w,ew,kr⟩:=r.get h2
 have hl:=r.length
 have hn:=Q7
 have fin:EP X pins σ Q w s:=⟨z,H,I,kr,q⟩
 exact subscriptTail_builtinR (x:=w) pl.typeIs slot_tuple_getitem.lookup
  (getItem_tuple (j:=j) (Q:=fun r s'=>r=w/\EP X pins σ Q r s') pl (by lia) (by lia) (by rw[h9,<- hl];exact h1) (by simpa using ew) ⟨rfl,fin⟩) hs
theorem dq':vi X Yk:=by
 intro value slice pins s σ H x y v u Q I rx ry h hs
 obtain⟨z,i,c,rfl,rfl,hz,he,q⟩:=h
 obtain⟨t,rfl⟩:=rx
 obtain⟨t',rfl⟩:=ry
 obtain⟨j,h1,h2,h3,h4,h5⟩:=TQ he
 have hl:z.cps.toList.length=z.length:=by simp[Str.length]
 rw[hl] at h1 h4 h5
 have hn:=Q7
 exact tail_any (typeIs_str s z t) slot_str_getitem.lookup (getItem_str (c:=c) (by
  have e1:decide (i < -(2 ^ 63:Int))=false:=decide_eq_false (by lia)
  have e2:decide (i >= 2 ^ 63)=false:=decide_eq_false (by lia)
  rw[e1,e2,Bool.or_false]) (by rw[h1];simpa using h2) ⟨.str ⟨#[c]⟩,H,I.tok _,⟨_,rfl⟩,q⟩) hs
def rIx(K:PySem.W.Frag):R2:=fun x y H Q=>Yi K x y H Q\/Yj K x y H Q\/Yk x y H Q
theorem ds':vi X (rIx X.K):=dm'.or (dn'.or dq')
theorem dt'(lo hi:Option Int)(n:Nat):(sliceBounds lo hi none n).1=((HT.bP n 0 lo:Nat):Int)/\(sliceBounds lo hi none n).2.1=((HT.bP n n hi:Nat):Int)/\(sliceBounds lo hi none n).2.2=1:=by
 refine⟨?_,?_,rfl⟩
 ·cases lo with
  |none=>simp[sliceBounds,HT.bP]
  |some i =>
   simp only[sliceBounds,HT.bP,Option.getD_none,show(1:Int)>0 by decide,if_true]
   by_cases h:i<0
   ·simp only[h,if_true]<;>lia
   ·simp only[h,if_false]<;>lia
 ·cases hi with
  |none=>simp[sliceBounds,HT.bP]
  |some i =>
   simp only[sliceBounds,HT.bP,Option.getD_none,show(1:Int)>0 by decide,if_true]
   by_cases h:i<0
   ·simp only[h,if_true]<;>lia
   ·simp only[h,if_false]<;>lia
theorem du'(its:List Value)(lo hi:Option Int):slicePick its.toArray lo hi none=((its.drop (HT.bP its.length 0 lo)).take (HT.bP its.length its.length hi-HT.bP its.length 0 lo)).toArray:=by
 obtain⟨h1,h2,h3⟩:=dt' lo hi its.toArray.size
 unfold slicePick
 rw[h1,h2,h3]
 simp only[sliceRange_one,pick_run,h9]<;>rfl
def dv'(K:PySem.W.Frag):V->Option Int->Option Int->Hp->VK->Prop:=fun x lo hi H Q=>∃ a xs,x=.ref a/\eR K H a xs/\∀ p,H p=none->Q (.ref p) (upd H p (.lst (AW xs lo hi)))
theorem dw':H0 X (dv' X.K):=by
 intro pins s σ H x v vl vu lo hi sl Q I rx hs pl pu h
 obtain⟨a,xs,rfl,hx,q⟩:=h
 cases rx
 obtain⟨its,r,ht,hz⟩:=I.list hx
 have hlen:=r.length
 refine⟨"list",_,slot_list_getitem.lookup,ht.isList.typeIs,?_⟩
 refine wpAny_getItem_list_slice ht.isList hs pl pu .none (by simp) ?_ (by rw[h9]<;>lia)
 rw[du',<- hlen]
 refine⟨.ref s.heap.objs.size,_,I.laid (t':=s.toks) (o:=.lst (AW xs lo hi)) (fun b ob q=>fh _ q) (ck _) ?_,rfl,q _ (I.bq.fresh (ck _))⟩
 exact⟨gE (Yg xs lo hi) hz,_,0,(r.drop (HT.bP xs.length 0 lo)).take (HT.bP xs.length xs.length hi-HT.bP xs.length 0 lo),iX _ rfl⟩
def zC:V->Bool
 |.non=>true
 |.bl _=>true
 |.int _=>true
 |.str _=>true
 |_=>false
def AY:V->V->Bool
 |.non,.non=>true
 |.bl a,.bl b=>a == b
 |.bl a,.int b=>(if a then 1 else 0) == b
 |.int a,.bl b=>a == (if b then 1 else 0)
 |.int a,.int b=>a == b
 |.str a,.str b=>a == b
 |_,_=>false
theorem dx'(ry:RelV y u)(rx:RelV x v)(fy:zC y=true)(fx:zC x=true):SeqAt.EqAt A s u v (AY y x):=by
 cases y with
 |non =>
  cases ry
  cases x with
  |non=>cases rx;exact SeqAt.EqAt.same _
  |bl b=>cases rx;exact SeqAt.EqAt.none_bool b
  |int b=>obtain⟨t,rfl⟩:=rx;exact SeqAt.EqAt.none_int b t
  |str b=>obtain⟨t,rfl⟩:=rx;exact SeqAt.EqAt.none_str b t
  |_=>exact absurd (show false=true from fx) hU
 |bl a =>
  cases ry
  cases x with
  |non=>cases rx;exact SeqAt.EqAt.bool_none a
  |bl b=>cases rx;exact SeqAt.EqAt.bool_bool a b
  |int b=>obtain⟨t,rfl⟩:=rx;exact SeqAt.EqAt.bool_int a b t
  |str b=>obtain⟨t,rfl⟩:=rx;exact SeqAt.EqAt.bool_str a b t
  |_=>exact absurd (show false=true from fx) hU
 |int a =>
  obtain⟨t',rfl⟩:=ry
  cases x with
  |non=>cases rx;exact SeqAt.EqAt.int_none a t'
  |bl b=>cases rx;exact SeqAt.EqAt.int_bool a t' b
  |int b=>obtain⟨t,rfl⟩:=rx;exact SeqAt.EqAt.int_int a t' b t
  |str b=>obtain⟨t,rfl⟩:=rx;exact SeqAt.EqAt.int_str a t' b t
  |_=>exact absurd (show false=true from fx) hU
 |str a =>
  obtain⟨t',rfl⟩:=ry
  cases x with
  |non=>cases rx;exact SeqAt.EqAt.str_none a t'
  |bl b=>cases rx;exact SeqAt.EqAt.str_bool a t' b
  |int b=>obtain⟨t,rfl⟩:=rx;exact SeqAt.EqAt.str_int a t' b t
  |str b=>obtain⟨t,rfl⟩:=rx;exact SeqAt.EqAt.str_str a t' b t
  |_=>exact absurd (show false=true from fx) hU
 |_=>exact absurd (show false=true from fy) hU
def rh(x:V)(u:Value):Bool:=match u with
 |.none=>AY .non x
 |.bool b=>AY (.bl b) x
 |.int i _=>AY (.int i) x
 |.str z _=>AY (.str z) x
 |_=>false
theorem Yl(r:RelV y u)(f:zC y=true):rh x u=AY y x:=by
 cases y with
 |non=>cases r;rfl
 |bl b=>cases r;rfl
 |int i=>obtain⟨t,rfl⟩:=r;rfl
 |str z=>obtain⟨t,rfl⟩:=r;rfl
 |_=>exact absurd (show false=true from f) hU
theorem Mb:∀ {xs:List V} {us:List Value},Vals xs us->xs.all zC=true->us.any (rh x)=xs.any fun y=>AY y x
 |_,_,.nil,_=>rfl
 |y :: xs,u :: us,.cons r t,f=>by
  rw[AJ,kK] at f
  rw[AK,AK,Yl r f.1,Mb t f.2]
theorem Mk(rx:RelV x v)(fx:zC x=true):∀ {xs:List V} {us:List Value},Vals xs us->xs.all zC=true->∀ u∈us,SeqAt.EqAt A s u v (rh x u)
 |_,_,.nil,_=>fun u hu=>by cases hu
 |y :: xs,u :: us,.cons r t,f=>fun u' hu=>by
  rw[AJ,kK] at f
  rcases dr.mp hu with rfl|hu
  ·rw[Yl r f.1];exact dx' r rx f.1 fx
  ·exact Mk rx fx t f.2 u' hu
def Rc(x:V)(xs:List V):Bool:=xs.any fun y=>AY y x
def My(K:PySem.W.Frag)(neg:Bool):R2:=fun x y H Q=>∃ p xs,y=.ref p/\(eR K H p xs\/kL K H p xs)/\zC x=true/\xs.all zC=true/\Q (.bl (if neg then !Rc x xs else Rc x xs)) H
theorem dy':da X (compareOp .In) (My X.K false):=by
 intro pins s σ H x y v u Q I rx ry h
 obtain⟨p,xs,rfl,hq,fx,fs,q⟩:=h
 cases ry
 rcases hq with hq|hq
 ·obtain⟨its,r,pl,hz⟩:=I.list hq
  refine SeqAt.in_listAt (rh x) pl.isList (fun w hw=>Mk rx fx r fs w (by simpa using hw)) ⟨.bl _,H,I,rfl,?_⟩
  rw[show its.toArray.any (rh x)=its.any (rh x) by simp,Mb r fs]
  exact q
 ·obtain⟨its,r,pl,hz⟩:=I.tuple hq
  refine SeqAt.in_tupleAt (rh x) pl (fun w hw=>Mk rx fx r fs w (by simpa using hw)) ⟨.bl _,H,I,rfl,?_⟩
  rw[show its.toArray.any (rh x)=its.any (rh x) by simp,Mb r fs]
  exact q
theorem dz':da X (compareOp .NotIn) (My X.K true):=by
 intro pins s σ H x y v u Q I rx ry h
 obtain⟨p,xs,rfl,hq,fx,fs,q⟩:=h
 cases ry
 rcases hq with hq|hq
 ·obtain⟨its,r,pl,hz⟩:=I.list hq
  refine SeqAt.notIn_listAt (rh x) pl.isList (fun w hw=>Mk rx fx r fs w (by simpa using hw)) ⟨.bl _,H,I,rfl,?_⟩
  rw[show its.toArray.any (rh x)=its.any (rh x) by simp,Mb r fs]
  exact q
 ·obtain⟨its,r,pl,hz⟩:=I.tuple hq
  refine SeqAt.notIn_tupleAt (rh x) pl (fun w hw=>Mk rx fx r fs w (by simpa using hw)) ⟨.bl _,H,I,rfl,?_⟩
  rw[show its.toArray.any (rh x)=its.any (rh x) by simp,Mb r fs]
  exact q
theorem kM.or(h:kM X f r)(h':kM X f r'):kM X f (fun xs H Q=>r xs H Q\/r' xs H Q):=by
 intro pins s σ H xs us Q I rs q
 rcases q with q|q
 ·exact h pins s σ H xs us Q I rs q
 ·exact h' pins s σ H xs us Q I rs q
theorem dA':kM X (.type "list") (fun xs H Q=>∃ p ys,xs=[.ref p]/\(eR X.K H p ys\/kL X.K H p ys)/\∀ l,H l=none->Q (.ref l) (upd H l (.lst ys))):=by
 intro pins s σ H xs us Q I r h
 obtain⟨p,ys,rfl,hq,q⟩:=h
 obtain⟨u,rfl,rx⟩:=vals1 r
 cases rx
 have fin:∀ (its:List Value),Vals ys its->ys.length<=sizeLine->∀ (h':Heap) (c':Nat),(∀ b o',s.heap.get? b=some o'->h'.get? b=some o') ->
   h'.get? s.heap.objs.size=some { cls:=.type "list",dict:=none,data:=.seq its.toArray c',slots:=#[] }->EP X pins σ Q (.ref s.heap.objs.size) { s with heap:=h' }:=fun its r' hz h' c' kp e =>
  ⟨.ref s.heap.objs.size,_,I.laid (t':=s.toks) kp (ck _) (show fo X.prog X.w _ h' _ (.lst ys) from⟨hz,its,c',r',e⟩),rfl,q _ (I.bq.fresh (ck _))⟩
 rcases hq with hq|hq
 ·obtain⟨its,r',pl,hz⟩:=I.list hq
  have hlen:=r'.length
  obtain⟨o,ho,hc,n,hd⟩:=pl.isList
  exact call_list_seq p (.inl rfl) ho hc hd (fun h' c' kp e=>fin its r' hz h' c' kp e) (by simp only[h9]<;>lia)
 ·obtain⟨its,r',pl,hz⟩:=I.tuple hq
  have hlen:=r'.length
  obtain⟨o,ho,hc,n,hd⟩:=pl
  exact call_list_seq p (.inr rfl) ho hc hd (fun h' c' kp e=>fin its r' hz h' c' kp e) (by simp only[h9]<;>lia)
def TX(K:PySem.W.Frag)(T:String)(x:V)(H:Hp):Prop:=match x with
 |.str _=>T = "str"
 |.int _=>T = "int"
 |.ref p=>(T = "list"/\∃ xs,eR K H p xs)\/(T = "tuple"/\∃ o,K.lookup p=some o/\o.cls=.type "tuple"/\o.dict=none) \/
   (T = "dict"/\((∃ kvs,H p=some (.dK kvs))\/∃ kvs,H p=some (.dT kvs)))\/(T = "set"/\∃ S n,H p=some (.set S n))
 |_=>False
theorem dB'{T:String}(I:Inv X pins σ H s)(r:RelV x v)(ty:TX X.K T x H) :
  s.TypeIs v T/\∀ a,v=.ref a->∃ ob,s.heap.get? a=some ob/\ob.dict=none:=by
 cases x with
 |str z =>
  obtain⟨t,rfl⟩:=r
  cases (show T = "str" from ty)
  exact⟨typeIs_str s z t,fun _ e=>nomatch e⟩
 |int i =>
  obtain⟨t,rfl⟩:=r
  cases (show T = "int" from ty)
  exact⟨typeIs_int s i t,fun _ e=>nomatch e⟩
 |ref p =>
  cases r
  rcases ty with⟨rfl,xs,hq⟩|⟨rfl,o,hk,hc,hd⟩|⟨rfl,hk⟩|⟨rfl,S,n,hk⟩
  ·obtain⟨its,_,pl,_⟩:=I.list hq
   refine⟨pl.isList.typeIs,fun a e=>?_⟩
   cases e
   obtain⟨o,n,e,c,hd,_⟩:=pl
   exact⟨o,e,hd⟩
  ·refine⟨⟨o,I.kA p o hk,hc⟩,fun a e=>?_⟩
   cases e
   exact⟨o,I.kA _ o hk,hd⟩
  ·have z:∃ o,s.heap.get? p=some o/\o.ExactDict:=by
    rcases hk with⟨kvs,hk⟩|⟨kvs,hk⟩
    ·obtain⟨_,_,_,_,o,_,_,e,ex,_⟩:=I.bq p _ hk
     exact⟨o,e,ex⟩
    ·obtain⟨_,_,_,_,o,_,_,e,ex,_⟩:=I.bq p _ hk
     exact⟨o,e,ex⟩
   obtain⟨o,e,ex⟩:=z
   refine⟨⟨o,e,ex.1⟩,fun a e2=>?_⟩
   cases e2
   exact⟨o,e,ex.2.1⟩
  ·obtain⟨o,_,_,_,e,ex,_⟩:=I.bq p _ hk
   refine⟨⟨o,e,ex.1⟩,fun a e2=>?_⟩
   cases e2
   exact⟨o,e,ex.2.1⟩
 |_=>exact False.elim ty
def tBM(K:PySem.W.Frag)(T:String)(r:V->List V->Hp->VK->Prop)(to:TE)(t:TA):TE:=fun σ H Q=>to σ H fun x H1=>TX K T x H1/\t σ H1 fun xs H2=>r x xs H2 Q
variable {o e:Expr}{es:List Expr}{to:TE}{t:TA}{name:Str}{apos dE:Pos}{T id:String}{r:V->List V->Hp->VK->Prop}
theorem EJ (pa:PlainAttrs T) (slot:Slot T name id) (Ic:typeOf (.builtin id)=pure (.type "method_descriptor")) (hm:TR X id r) (ho:PE X o to) (ha:PA X (e :: es) t)
  (vj:attributeBase o name X.env (eval o X.env)=eval o X.env:=by rfl)
  (oz:((backTo dE (starEach (e :: es) X.env)).all (fun x=>!x.1) && (backToKw dE (keywordEach [] X.env)).all (fun x=>x.1.isSome)
   && decide ((e :: es).length+([]:List Keyword).length+(if ([]:List Keyword).isEmpty then 0 else 1)<30))=true:=by rfl)
  (hline:(apos.endLine == dE.line)=true:=by rfl) (hs:starEach (e :: es) X.env=(false,eval e X.env) :: starEach es X.env:=by rfl) (vk:(backTo dE (starEach es X.env)).any (·.1)=false:=by rfl) :
  PE X (.Call (.Attribute o name apos) (e :: es) [] dE) (tBM X.K T r to t):=by
 intro pins s σ H Q I h
 refine wpAny_Call_method_late vj oz hline rfl (cw (ho pins s σ H _ I h) fun v s1 cE=>?_)
 obtain⟨x,H1,I1,r1,ty,q1⟩:=cE
 obtain⟨h1,h2⟩:=dB' I1 r1 ty
 refine⟨T,id,pa,slot,Ic,h1,h2,?_⟩
 have hA:=ha dE pins s1 σ H1 _ I1 q1
 rw[hs] at hA ⊢
 refine Calls.callWith_builtin (by show(false || (backTo dE (starEach es X.env)).any (·.1))=false;rw[vk]<;>rfl) (Calls.evalArgs_plain ?_)
 exact cw hA fun us s2 cK=>L2.gI cK fun vs H2 I2 r2 q2=>hm pins s2 σ H2 x vs v us Q I2 r1 r2 q2
end
def TY(X:Cx)(id:String)(r:V->List V->Hp->VK->Prop):Prop :=
 ∀ (pins:List (Addr × Obj)) (s:Shared) (σ:St) (H:Hp) (x:V) (xs:List V) (v:Value) (us:List Value) (Q:VK),Inv X pins σ H s->RelV x v->Vals xs us->r x xs H Q ->
  wpAny (model X.prog X.w) X.A (call (.builtin id) (v :: us)) (EP X pins σ Q) X.xe s
theorem Vals.one{x:V}{us:List Value}(h:Vals [x] us):∃ u,us=[u]/\RelV x u:=by
 cases h
 rename_i r h
 cases h
 exact⟨_,rfl,‹_›⟩
theorem Vals.two{x y:V}{us:List Value}(h:Vals [x,y] us):∃ u v,us=[u,v]/\RelV x u/\RelV y v:=by
 cases h
 rename_i r h
 cases h
 rename_i q h
 cases h
 exact⟨_,_,rfl,‹_›,‹_›⟩
theorem Vals.eraseIdx:∀ {xs:List V} {us:List Value} (i:Nat),Vals xs us->Vals (xs.eraseIdx i) (us.eraseIdx i)
 |_,_,_,.nil=>.nil
 |_,_,0,.cons _ t=>t
 |_,_,i+1,.cons r t=>.cons r (Vals.eraseIdx i t)
theorem Ym{α:Type}:∀ (l:List α) (i:Nat),(l.eraseIdx i).length<=l.length
 |[],_=>ck _
 |_ :: _,0=>Ee _
 |_ :: r,i+1=>Nat.succ_le_succ (Ym r i)
section
variable {X:Cx}{pins:List (Addr × Obj)}{σ:St}{H:Hp}{s:Shared}{l:Addr}{xs ys:List V}
theorem Inv.T1{its its':List Value}{n:Nat}{f:Array Value->Array Value}{t':Nat}(I:Inv X pins σ H s)(hH:H l=some (.lst xs))
  (e:s.heap.get? l=some { cls:=.type "list",data:=.seq its.toArray n }) (hf:f its.toArray=its'.toArray) (hv:Vals ys its') (hz:ys.length<=sizeLine) :
  Inv X pins σ (upd H l (.lst ys)) { s with heap:=s.heap.update l (Obj.mapSeq f),toks:=t' }:=by
 have q:=PySem.IsL.update e f
 rw[hf] at q
 refine I.write (x:=l) (e:=l) (by rw[hH];exact trivial) (.inl rfl) (fun b' u hb hu=>(LH s.heap (Obj.mapSeq f) (Ne.symm hb)).trans hu) ⟨_,q⟩ ?_
 exact⟨hz,its',_,hv,q⟩
theorem Inv.T3(I:Inv X pins σ H s)(hv:Vals ys its)(hz:ys.length<=sizeLine) :
  Inv X pins σ (upd H s.heap.objs.size (.lst ys)) { s with heap:=s.heap.push { cls:=.type "list",data:=.seq its.toArray },toks:=t' } :=
 I.laid (fun _ _ q=>fh _ q) (ck _) ⟨hz,its,0,hv,iX _ rfl⟩
theorem Inv.fresh(I:Inv X pins σ H s):H s.heap.objs.size=none:=I.bq.fresh (ck _)
theorem Inv.Rf (I:Inv X pins σ H s) (hH:H l=some (.lst xs)):xs.length<=sizeLine/\∃ (its:List Value) (n:Nat),Vals xs its/\xs.length=its.length/\s.heap.get? l=some { cls:=.type "list",data:=.seq its.toArray n }:=by
 obtain⟨z,its,n,r,e⟩:=I.bq l _ hH
 exact⟨z,its,n,r,r.length,e⟩
theorem dD'(h:n<=sizeLine):Builtin.List.listTooLong n=false:=by
 unfold Builtin.List.listTooLong
 exact decide_eq_false (by lia)
end
section
variable {X:Cx}
def Yn:V->List V->Hp->VK->Prop:=fun x vs H Q=>∃ l xs y,x=.ref l/\vs=[y]/\H l=some (.lst xs)/\xs.length<sizeLine/\Q .non (upd H l (.lst (xs++[y])))
theorem Rg:TY X "list.append" Yn:=by
 intro pins s σ H x vs v us Q I rx rv h
 obtain⟨l,xs,y,rfl,rfl,hH,hz,q⟩:=h
 cases rx
 obtain⟨u,rfl,ru⟩:=rv.one
 obtain⟨z,its,n,r,hl,e⟩:=I.Rf hH
 refine call_meets F.slot_list_append ⟨_,e,rfl⟩ F.entry_list_append (F.args_list_append_2 _ _) (PySem.list_append l its.toArray n u (by rw[h9];lia)) ⟨e,?_⟩
 refine⟨.non,_,I.T1 (its':=its++[u]) hH e (by simp) (r.append (.cons ru .nil)) ?_,rfl,q⟩
 rw[kF,List.length_singleton]
 assumption
def dE':V->List V->Hp->VK->Prop:=fun x vs H Q=>∃ l b xs zs,x=.ref l/\vs=[.ref b]/\H l=some (.lst xs)/\H b=some (.lst zs)/\xs.length+zs.length<=sizeLine/\Q .non (upd H l (.lst (xs++zs)))
theorem dF':TY X "list.extend" dE':=by
 intro pins s σ H x vs v us Q I rx rv h
 obtain⟨l,b,xs,zs,rfl,rfl,hH,hB,hz,q⟩:=h
 cases rx
 obtain⟨u,rfl,ru⟩:=rv.one
 cases ru
 obtain⟨z,its,n,r,hl,e⟩:=I.Rf hH
 obtain⟨z2,AX,n2,r2,sP,e2⟩:=I.Rf hB
 have hsz:its.toArray.size+AX.toArray.size<=sizeLine:=by rw[h9,h9];lia
 have dG':¬ (!its.toArray.isEmpty && Builtin.List.listTooLong (its.toArray.size+AX.toArray.size))=true:=by
  rw[dD' hsz,Bool.and_false]
  exact hU
 refine call_meets F.slot_list_extend ⟨_,e,rfl⟩ F.entry_list_extend (F.args_list_extend_2 _ _)
  (AutoSeq1.list_extend_list_list_0 l its.toArray n b AX.toArray n2 dG' (by rw[h9];lia) (by lia)) ⟨e,e2,?_⟩
 refine⟨.non,_,I.T1 (its':=its++AX) hH e (by simp) (r.append r2) ?_,rfl,q⟩
 rw[kF]
 lia
def dH':V->List V->Hp->VK->Prop:=fun x vs H Q=>∃ l xs i k y,x=.ref l/\vs=[.int i]/\H l=some (.lst xs)/\-(2 ^ 63)<=i/\i<2 ^ 63/\seqIndex? i xs.length=some k/\xs[k]? = some y/\Q y (upd H l (.lst (xs.eraseIdx k)))
theorem dI':TY X "list.pop" dH':=by
 intro pins s σ H x vs v us Q I rx rv h
 obtain⟨l,xs,i,k,y,rfl,rfl,hH,h1,h2,hk,hy,q⟩:=h
 cases rx
 obtain⟨u,rfl,ru⟩:=rv.one
 obtain⟨t,rfl⟩:=ru
 obtain⟨z,its,n,r,hl,e⟩:=I.Rf hH
 obtain⟨w,hw,kr⟩:=r.get hy
 refine call_meets F.slot_list_pop ⟨_,e,rfl⟩ F.entry_list_pop (F.args_list_pop_2 _ _)
  (MeetsSeq.list_pop_at l its.toArray n i t k w (fitsIndex_both h1 h2) (by rw[h9,<- hl];exact hk) (by rw[<- oq];exact hw) (by rw[h9];lia)) ⟨e,?_⟩
 refine⟨y,_,I.T1 (its':=its.eraseIdx k) hH e ?_ (r.eraseIdx k) ?_,kr,q⟩
 ·show its.toArray.eraseIdxIfInBounds k=(its.eraseIdx k).toArray
  rw[List.eraseIdxIfInBounds_toArray]
 ·have:=Ym xs k
  lia
theorem len_rep{α:Type}(xs:List α)(k:Nat):(List.replicate k xs).flatten.length=k*xs.length:=by
 induction k with
 |zero=>simp
 |succ k ih=>rw[xD,AH,kF,ih,Nat.succ_mul,Nat.add_comm]
end
section
set_option maxRecDepth 100000 in
end
section
variable {κ:Type}[DecidableEq κ]
def gp(kvs:List (κ × V))(k:κ):Option V:=(kvs.find? fun kv=>decide (kv.1=k)).map (·.2)
def putK(kvs:List (κ × V))(k:κ)(v:V):List (κ × V) :=
 if (kvs.any fun kv=>decide (kv.1=k))=true then kvs.map (fun kv=>if kv.1=k then (kv.1,v) else kv) else kvs++[(k,v)]
def Yo(kvs:List (κ × V))(k:κ):List (κ × V):=kvs.filter fun kv=>decide (kv.1≠k)
theorem vn{p:κ × V}{r:List (κ × V)}{k:κ}(e:p.1=k):gp (p :: r) k=some p.2:=by simp[gp,GL,e]
theorem vt{p:κ × V}{r:List (κ × V)}{k:κ}(e:¬ p.1=k):gp (p :: r) k=gp r k:=by simp[gp,GL,e]
theorem MA(k:κ):∀ kvs:List (κ × V),(kvs.any fun kv=>decide (kv.1=k))=(gp kvs k).isSome
 |[]=>rfl
 |p :: r=>by
  rw[AK]
  by_cases e:p.1=k
  ·simp only[vn e,decide_eq_true e,Bool.true_or,Option.isSome_some]
  ·rw[vt e,decide_eq_false e,Bool.false_or];exact MA k r
theorem Yp(k j:κ)(y:V):∀ kvs:List (κ × V),gp (kvs.map fun kv=>if kv.1=k then (kv.1,y) else kv) j=(gp kvs j).map fun x=>if j=k then y else x
 |[]=>rfl
 |p :: r=>by
  have ih:=Yp k j y r
  rw[fe]
  by_cases h:p.1=k
  ·rw[if_pos h]
   by_cases e:p.1=j
   ·rw[vn (p:=(p.1,y)) e,vn e,QH,if_pos (e.symm.trans h)]
   ·rw[vt (p:=(p.1,y)) e,vt e,ih]
  ·rw[if_neg h]
   by_cases e:p.1=j
   ·rw[vn (p:=p) e,vn e,QH,if_neg (fun z=>h (e.trans z))]
   ·rw[vt (p:=p) e,vt e,ih]
theorem Yq(k j:κ)(y:V):∀ kvs:List (κ × V),gp kvs k=none->gp (kvs++[(k,y)]) j=if j=k then some y else gp kvs j
 |[],_=>by
  by_cases e:k=j
  ·rw[if_pos e.symm];exact vn (p:=(k,y)) e
  ·rw[if_neg (fun z=>e z.symm)];exact vt (p:=(k,y)) e
 |p :: r,hn=>by
  rw[S3]
  have hk:¬ p.1=k:=fun z=>by rw[vn z] at hn;cases hn
  rw[vt hk] at hn
  have ih:=Yq k j y r hn
  by_cases e:p.1=j
  ·rw[vn e,vn e,if_neg (fun z=>hk (e.trans z))]
  ·rw[vt e,vt e,ih]
theorem dJ'(kvs:List (κ × V))(k j:κ)(y:V):gp (putK kvs k y) j=if j=k then some y else gp kvs j:=by
 unfold putK
 by_cases a:(kvs.any fun kv=>decide (kv.1=k))=true
 ·rw[if_pos a,Yp]
  rw[MA] at a
  by_cases e:j=k
  ·obtain⟨x,hx⟩:=S9.mp a
   rw[if_pos e,e,hx,QH,if_pos rfl]
  ·rw[if_neg e]
   cases gp kvs j with
   |none=>rfl
   |some x=>rw[QH,if_neg e]
 ·rw[if_neg a]
  refine Yq k j y kvs ?_
  rw[MA] at a
  cases q:gp kvs k with
  |none=>rfl
  |some x=>rw[q] at a;exact(a rfl).elim
theorem T4(kvs:List (κ × V))(k:κ)(v:V):(putK kvs k v).length<=kvs.length+1:=by
 unfold putK
 split
 ·rw[bS];exact Qw _ _
 ·rw[kF,pS,List.length_nil];exact ck _
theorem ui.MB(r:ui o u):o.isSome=u.isSome:=by
 cases o with
 |none=>cases u with
  |none=>rfl
  |some _=>exact(show False from r).elim
 |some _=>cases u with
  |none=>exact(show False from r).elim
  |some _=>rfl
theorem ui.getD(r:ui o u)(rd:RelV d d'):RelV (o.getD d) (u.getD d'):=by
 cases o with
 |none=>cases u with
  |none=>exact rd
  |some _=>exact(show False from r).elim
 |some _=>cases u with
  |none=>exact(show False from r).elim
  |some _=>exact r
theorem KV.val{kvs:List (κ × V)}{vs:List (κ × Value)}(r:KV kvs vs)(k:κ):ui (gp kvs k) (valueAt vs k):=by
 unfold KV at r
 induction r with
 |nil=>exact True.intro
 |@cons p q ps qs h t ih =>
  obtain⟨h1,h2⟩:=h
  by_cases e:p.1=k
  ·have e':q.1=k:=h1.symm.trans e
   have b:valueAt (q :: qs) k=some q.2:=by simp[valueAt,GL,e']
   rw[vn e,b];exact h2
  ·have e':¬ q.1=k:=fun z=>e (h1.trans z)
   have b:valueAt (q :: qs) k=valueAt qs k:=by simp[valueAt,GL,e']
   rw[vt e,b];exact ih
theorem KV.any(r:KV kvs vs)(k:κ):(kvs.any fun kv=>decide (kv.1=k))=vs.any fun kv=>decide (kv.1=k):=by
 unfold KV at r
 induction r with
 |nil=>rfl
 |cons h t ih=>rw[AK,AK,ih,h.1]
theorem KV.repl(r:KV kvs vs)(k:κ)(ry:RelV y u) :
  KV (kvs.map fun kv=>if kv.1=k then (kv.1,y) else kv) (vs.map fun kv=>if kv.1=k then (kv.1,u) else kv):=by
 unfold KV at r ⊢
 induction r with
 |nil=>exact .nil
 |@cons p q ps qs h t ih =>
  rw[fe,fe]
  refine .cons ?_ ih
  obtain⟨h1,h2⟩:=h
  by_cases e:p.1=k
  ·rw[if_pos e,if_pos (h1.symm.trans e)];exact⟨h1,ry⟩
  ·rw[if_neg e,if_neg (fun z=>e (h1.trans z))];exact⟨h1,h2⟩
theorem KV.put(r:KV kvs vs)(k:κ)(ry:RelV y u):KV (putK kvs k y) (stored vs k u):=by
 unfold putK stored
 rw[r.any k]
 by_cases e:(vs.any fun kv=>decide (kv.1=k))=true
 ·rw[if_pos e,if_pos e];exact r.repl k ry
 ·rw[if_neg e,if_neg e];exact Paired.snoc r ⟨rfl,ry⟩
theorem KV.drop(r:KV kvs vs)(k:κ):KV (Yo kvs k) (without vs k):=by
 unfold KV at r ⊢
 unfold Yo without
 induction r with
 |nil=>exact .nil
 |@cons p q ps qs h t ih =>
  obtain⟨h1,h2⟩:=h
  rw[Qr,Qr]
  by_cases e:p.1=k
  ·have a:¬ decide (p.1≠k)=true:=by simp[e]
   have b:¬ decide (q.1≠k)=true:=by simp[h1.symm.trans e]
   rw[if_neg a,if_neg b];exact ih
  ·have e':¬ q.1=k:=fun z=>e (h1.trans z)
   have a:decide (p.1≠k)=true:=by simp[e]
   have b:decide (q.1≠k)=true:=by simp[e']
   rw[if_pos a,if_pos b];exact .cons ⟨h1,h2⟩ ih
theorem KV.length(r:KV kvs vs):kvs.length=vs.length:=Paired.length r
end
theorem Iq{P:Program}(r:RelV (kV k) u):(ka P w).is k u=true:=by
 cases k with
 |inl i=>obtain⟨t,e⟩:=(show ∃ t,u=Value.int i t from r);subst e;exact aY' P w i t
 |inr x=>obtain⟨t,e⟩:=(show ∃ t,u=Value.str x t from r);subst e;exact aZ' P w x t
theorem T5{P:Program}:∀ {ks:List Key} {us:List Value},Vals (ks.map kV) us->ItemsAre (ka P w) ks us
 |[],_,r=>by rw[List.map_nil] at r;cases r;exact .nil
 |k :: ks,_,r=>by
  rw[fe] at r
  cases r with
  |cons h t=>exact .cons (Iq h) (T5 t)
abbrev KT(H:Hp):List (List Key × V)->List (List Key × Addr × Value)->Prop:=Paired fun p q=>p.1=q.1/\H q.2.1=some (.tup (p.1.map kV))/\RelV p.2 q.2.2
theorem KT.val{H:Hp}{kvs:List (List Key × V)}{xs:List (List Key × Addr × Value)}(r:KT H kvs xs)(k:List Key):ui (gp kvs k) ((atKey xs k).map (·.2)):=by
 induction r with
 |nil=>exact True.intro
 |@cons p q ps qs h t ih =>
  obtain⟨h1,_,h2⟩:=h
  by_cases e:p.1=k
  ·have e':q.1=k:=h1.symm.trans e
   have b:atKey (q :: qs) k=some q.2:=by simp[atKey,GL,e']
   rw[vn e,b];exact h2
  ·have e':¬ q.1=k:=fun z=>e (h1.trans z)
   have b:atKey (q :: qs) k=atKey qs k:=by simp[atKey,GL,e']
   rw[vt e,b];exact ih
theorem KT.repl(r:KT H kvs xs)(k:List Key)(ry:RelV y u) :
  KT H (kvs.map fun kv=>if kv.1=k then (kv.1,y) else kv) (xs.map (putAt k u)):=by
 induction r with
 |nil=>exact .nil
 |@cons p q ps qs h t ih =>
  rw[fe,fe]
  refine .cons ?_ ih
  obtain⟨h1,h2,h3⟩:=h
  unfold putAt
  by_cases e:p.1=k
  ·rw[if_pos e,if_pos (h1.symm.trans e)];exact⟨h1,h2,ry⟩
  ·rw[if_neg e,if_neg (fun z=>e (h1.trans z))];exact⟨h1,h2,h3⟩
theorem KT.put(r:KT H kvs xs)(k:List Key)(hb:H b=some (.tup (k.map kV)))(ry:RelV y u) :
  KT H (putK kvs k y) (storedH xs k b u):=by
 have e:(kvs.any fun kv=>decide (kv.1=k))=(atKey xs k).isSome:=by
  rw[MA,(r.val k).MB,S_]
 unfold putK storedH
 rw[e]
 by_cases q:(atKey xs k).isSome=true
 ·rw[if_pos q,if_pos q];exact r.repl k ry
 ·rw[if_neg q,if_neg q];exact Paired.snoc r ⟨rfl,hb,ry⟩
theorem KT.keeps(r:KT H kvs xs)(ht:∀ b ys,H b=some (.tup ys)->H' b=some (.tup ys)):KT H' kvs xs :=
 Paired.Tc r fun _ _ z=>⟨z.1,ht _ _ z.2.1,z.2.2⟩
section
variable {P:Program}{w:World}{H:Hp}{h:Heap}{a:Addr}
theorem Yr(ok:iA P w H h)(e:Rd H a u):fo P w H h a u:=e.ok ok
theorem CY(ok:iA P w H h)(e:Rd H a (.dK kvs)):kvs.length<=sizeLine/\(a == sysModules)=false/\∃ vs,KV kvs vs/\h.DictOf (ka P w) a vs :=
 show fo P w H h a (.dK kvs) from Yr ok e
theorem dK'(ok:iA P w H h)(e:H a=some (.dK kvs)):kvs.length<=sizeLine/\(a == sysModules)=false/\∃ vs,KV kvs vs/\h.DictOf (ka P w) a vs:=CY ok (.inl e)
theorem EK(ok:iA P w H h)(e:H a=some (.tup (ks.map kV))):(tupleKind (ka P w)).is h ks a:=by
 obtain⟨_,its,r,o,h1,h2,n,h3⟩:=(show fo P w H h a (.tup (ks.map kV)) from ok a _ e)
 exact⟨o,its.toArray,n,h1,h2,h3,by simpa using T5 r⟩
theorem EL(ok:iA P w H h)(e:Rd H a (.dT kvs)):kvs.length<=sizeLine/\(a == sysModules)=false /\
  ∃ xs,KT H kvs xs/\h.DictOfH (tupleKind (ka P w)) a xs:=by
 obtain⟨z,y,xs,r,o,es,ep,h1,h2,h3,h4,h5⟩:=(show fo P w H h a (.dT kvs) from Yr ok e)
 refine⟨z,y,xs,r,o,es,ep,h1,h2,h3,h4,fun x hx=>?_,h5⟩
 have all:∀ {l:List (List Key × V)} {m:List (List Key × Addr × Value)},KT H l m->∀ x∈m,(tupleKind (ka P w)).is h x.1 x.2.1:=by
  intro l m q
  induction q with
  |nil=>intro x hx;exact nomatch hx
  |@cons p q ps qs hq t ih =>
   intro x hx
   rcases dr.mp hx with e|hx
   ·subst e
    exact EK ok (by rw[<- hq.1];exact hq.2.1)
   ·exact ih x hx
 exact all r x hx
theorem MC(ok:iA P w H h)(e:H a=some (.dT kvs)):kvs.length<=sizeLine/\(a == sysModules)=false /\
  ∃ xs,KT H kvs xs/\h.DictOfH (tupleKind (ka P w)) a xs:=EL ok (.inl e)
end
def kP(H:Hp)(a:Addr)(y:V)(r:Option V):Prop :=
 (∃ kvs k,Rd H a (.dK kvs)/\y=kV k/\r=gp kvs k)\/∃ kvs k b,Rd H a (.dT kvs)/\y=.ref b/\H b=some (.tup (k.map kV))/\r=gp kvs k
def Dp(H:Hp)(a:Addr)(y v:V)(H':Hp):Prop :=
 (∃ kvs k,H a=some (.dK kvs)/\y=kV k/\kvs.length<sizeLine/\H'=upd H a (.dK (putK kvs k v))) \/
 ∃ kvs k b,H a=some (.dT kvs)/\y=.ref b/\H b=some (.tup (k.map kV))/\kvs.length<sizeLine/\H'=upd H a (.dT (putK kvs k v))
theorem kP.k{H:Hp}{a:Addr}{kvs:List (Key × V)}{k:Key}(e:H a=some (.dK kvs)):kP H a (kV k) (gp kvs k):=.inl ⟨kvs,k,.inl e,rfl,rfl⟩
theorem kP.t{H:Hp}{a b:Addr}{kvs:List (List Key × V)}{k:List Key}(e:H a=some (.dT kvs))(eb:H b=some (.tup (k.map kV))):kP H a (.ref b) (gp kvs k):=.inr ⟨kvs,k,b,.inl e,rfl,eb,rfl⟩
theorem Dp.k{H:Hp}{a:Addr}{kvs:List (Key × V)}{k:Key}{v:V}(e:H a=some (.dK kvs))(hl:kvs.length<sizeLine):Dp H a (kV k) v (upd H a (.dK (putK kvs k v))):=.inl ⟨kvs,k,e,rfl,hl,rfl⟩
theorem Dp.t{H:Hp}{a b:Addr}{kvs:List (List Key × V)}{k:List Key}{v:V}(e:H a=some (.dT kvs))(eb:H b=some (.tup (k.map kV)))(hl:kvs.length<sizeLine) :
  Dp H a (.ref b) v (upd H a (.dT (putK kvs k v))):=.inr ⟨kvs,k,b,e,rfl,eb,hl,rfl⟩
section
variable {X:Cx}{pins:List (Addr × Obj)}{σ:St}{H:Hp}{s:Shared}{a:Addr}{y v:V}{u r:Value}{o:Option V}{A:Around}{E:Value->Shared->Prop}
theorem Inv.big(I:Inv X pins σ H s):sysModules<s.heap.objs.size:=by
 have h:mainGlobals<s.heap.objs.size:=(I.mod.glob.keeps I.bk).lt
 exact S5 (by decide) h
theorem dL'(hu:A.units+1<cLine)(I:Inv X pins σ H s)(g:kP H a y (some v))(ry:RelV y u)(h:∀ w' s',Inv X pins σ H s'->RelV v w'->Q w' s') :
  wpAny (model X.prog X.w) A (getItem (.ref a) u) Q E s:=by
 rcases g with⟨kvs,k,e,ey,l⟩|⟨kvs,k,b,e,ey,eb,l⟩
 ·subst ey
  obtain⟨z,hd,vs,rel,dd⟩:=CY I.bq e
  obtain⟨w',hw,kr⟩:=ui.some_of (v:=v) (o:=valueAt vs k) (by rw[l];exact rel.val k)
  exact wpAny_getItem_of (Iq ry) dd.mapOf hw (h w' _ (I.tok _) kr)
 ·subst ey
  cases (show u=Value.ref b from ry)
  obtain⟨z,hd,xs,rel,dd⟩:=EL I.bq e
  obtain⟨w',hw,kr⟩:=ui.some_of (v:=v) (o:=(atKey xs k).map (·.2)) (by rw[l];exact rel.val k)
  obtain⟨p,hp,hp2⟩:=QF.mp hw
  refine wpAny_getItem_heap (tupleKind_room_in1 hu) (EK I.bq eb) dd hp ?_
  rw[hp2]
  exact h w' _ (I.tok _) kr
theorem dN'(hu:A.units+1<cLine)(I:Inv X pins σ H s)(g:kP H a y o)(ry:RelV y u)(h:∀ s',Inv X pins σ H s'->Q (.bool o.isSome) s') :
  wpAny (model X.prog X.w) A (compareOp .In u (.ref a)) Q E s:=by
 rcases g with⟨kvs,k,e,ey,l⟩|⟨kvs,k,b,e,ey,eb,l⟩
 ·subst ey
  obtain⟨z,hd,vs,rel,dd⟩:=CY I.bq e
  refine wpAny_in_of (Iq ry) hd dd.mapOf ?_
  rw[<- (rel.val k).MB,<- l]
  exact h _ (I.tok _)
 ·subst ey
  cases (show u=Value.ref b from ry)
  obtain⟨z,hd,xs,rel,dd⟩:=EL I.bq e
  refine wpAny_in_heap (tupleKind_room_in1 hu) (EK I.bq eb) hd dd ?_
  have q:=(rel.val k).MB
  rw[S_] at q
  rw[<- q,<- l]
  exact h _ (I.tok _)
theorem dO'(hu:A.units+1<cLine)(I:Inv X pins σ H s)(g:kP H a y o)(ry:RelV y u)(h:∀ s',Inv X pins σ H s'->Q (.bool (!o.isSome)) s') :
  wpAny (model X.prog X.w) A (compareOp .NotIn u (.ref a)) Q E s:=by
 rcases g with⟨kvs,k,e,ey,l⟩|⟨kvs,k,b,e,ey,eb,l⟩
 ·subst ey
  obtain⟨z,hd,vs,rel,dd⟩:=CY I.bq e
  refine wpAny_notIn_of (Iq ry) hd dd.mapOf ?_
  rw[<- (rel.val k).MB,<- l]
  exact h _ (I.tok _)
 ·subst ey
  cases (show u=Value.ref b from ry)
  obtain⟨z,hd,xs,rel,dd⟩:=EL I.bq e
  refine wpAny_notIn_heap (tupleKind_room_in1 hu) (EK I.bq eb) hd dd ?_
  have q:=(rel.val k).MB
  rw[S_] at q
  rw[<- q,<- l]
  exact h _ (I.tok _)
theorem Rh(I:Inv X pins σ H s)(mu:LP (H a))(hs:Heap.SameBut a s.heap h')(he:∃ q,h'.get? a=some q)(new:fo X.prog X.w (upd H a ob) h' a ob) :
  Inv X pins σ (upd H a ob) { s with heap:=h',toks:=t' } :=
 I.write (x:=a) (e:=a) mu (.inl rfl) (fun b q hb z=>(hs.2 b hb).trans z) he new
theorem dP'{P:Program}(z:kvs.length<=sizeLine)(hd:(a == sysModules)=false)(rel:KV kvs vs)(dd:h'.DictOf (ka P w) a vs) :
  fo P w H' h' a (.dK kvs):=⟨z,hd,vs,rel,dd⟩
theorem dQ'(hu:A.units+1<cLine)(I:Inv X pins σ H s)(g:Dp H a y v H')(ry:RelV y u)(rv:RelV v r)(h:∀ s',Inv X pins σ H' s'->Q () s') :
  wpAny (model X.prog X.w) A (setItem (.ref a) u r) Q E s:=by
 rcases g with⟨kvs,k,e,ey,l,eH⟩|⟨kvs,k,b,e,ey,eb,l,eH⟩
 ·subst ey eH
  obtain⟨z,hd,vs,rel,dd⟩:=dK' I.bq e
  have hz:vs.length<=sizeLine:=by rw[<- rel.length];exact z
  have hl:(putK kvs k v).length<=sizeLine:=by have:=T4 kvs k v;lia
  refine wpAny_setItem_pairs (hsz:=hz) (Iq ry) dd fun h' Dx hs=>h _ ?_
  have he:∃ q,h'.get? a=some q:=let ⟨q,_,_,hq,_⟩:=Dx;⟨q,hq⟩
  exact Rh I (by rw[e];exact True.intro) hs he (dP' hl hd (rel.put k rv) Dx)
 ·subst ey eH
  cases (show u=Value.ref b from ry)
  obtain⟨z,hd,xs,rel,dd⟩:=MC I.bq e
  have hz:xs.length<=sizeLine:=by rw[<- Paired.length rel];exact z
  have hl:(putK kvs k v).length<=sizeLine:=by have:=T4 kvs k v;lia
  refine wpAny_setItem_heap (hsz:=hz) (tupleKind_room_in1 hu) (EK I.bq eb) dd fun h' Dx hs=>h _ ?_
  obtain⟨q,es,ep,hq,h2,h3,h4,_,h5⟩:=Dx
  refine Rh I (by rw[e];exact True.intro) hs ⟨q,hq⟩ ⟨hl,hd,_,(rel.put k eb rv).keeps fun c ys ec=>?_,q,es,ep,hq,h2,h3,h4,h5⟩
  rw[cv (Tb ec e (fun z=>nomatch z))]
  exact ec
end
section
variable {X:Cx}{pins:List (Addr × Obj)}{σ:St}{H:Hp}{s:Shared}{a:Addr}{kvs:List (Key × V)}{A:Around}{E:Value->Shared->Prop}
theorem dR' (I:Inv X pins σ H s) (e:Rd H a (.dK kvs)) (h:∀ t s',Inv X pins σ H s'->Q (.int kvs.length t) s'):wpAny (model X.prog X.w) A (call (.builtin "len") [.ref a]) Q E s:=by
 obtain⟨z,hd,vs,rel,dd⟩:=CY I.bq e
 refine call_len_dict hd dd (by rw[<- rel.length];rw[sizeLine_eq] at z;lia) ?_
 rw[<- rel.length]
 exact h _ _ (I.tok _)
end
theorem dS' {X:Cx} (I:Inv X pins σ H s) (g:kP H a y o):s.TypeIs (.ref a) "dict" := by
 rcases g with⟨kvs,k,e,_,_⟩|⟨kvs,k,b,e,_,_,_⟩
 ·obtain⟨_,_,vs,_,dd⟩:=CY I.bq e
  exact dd.typeIs
 ·obtain⟨_,_,xs,_,dd⟩:=EL I.bq e
  exact dd.typeIs
def dT'(td ty tv:TE):TS:=fun D σ H=>tv σ H fun v H1=>td σ H1 fun x H2=>ty σ H2 fun y H3=>∃ a H4,x=.ref a/\Dp H3 a y v H4/\D.nx σ H4
section
variable {X:Cx}{o i value:Expr}{pos pos':Pos}{td ty tv:TE}
theorem dU'(hu:X.A.units+1<cLine)(ho:PE X o td)(hi:PE X i ty)(hv:PE X value tv)(hs:swapsWith value (some (.Subscript o i pos')) pos.line X.env=pure false) :
  PS X (.Assign [.Subscript o i pos'] value pos) (dT' td ty tv):=by
 intro pins s σ H D I h
 refine wpAny_Assign_Subscript (cw (hv pins s σ H _ I h) fun r s1 cK=>L2.gI cK fun v H1 I1 rv q1=>cw (ho pins s1 σ H1 _ I1 q1) fun u s2 cK=>L2.gI cK fun x H2 I2 rx q2=>cw (hi pins s2 σ H2 _ I2 q2) fun iv s3 cE=>?_) hs
 obtain⟨y,H3,I3,ry,a,H4,ex,g,q3⟩:=cE
 subst ex
 obtain rfl:u=Value.ref a:=rx
 exact dQ' hu I3 g ry rv fun s4 I4=>⟨σ,H4,I4,q3⟩
end
theorem dV' {P:Program} (h:Heap) (hb:sysModules<h.objs.size):fo P w H (h.push { cls:=.type "dict",data:=.dict #[] }) h.objs.size (.dT []) :=
 ⟨fE _,beq_eq_false_iff_ne.mpr (Ne.symm (fN hb)),[],.nil,_,#[],0,iX _ rfl,⟨rfl,rfl,rfl⟩,rfl,rfl,lh⟩
def dW':TE:=fun _ H Q=>∀ p,H p=none->Q (.ref p) (upd H p (.dT []))
section
variable {X:Cx}{pos:Pos}
theorem dX':PE X (.Dict [] [] pos) dW':=fun pins s σ H Q I h =>
 wpAny_Dict_empty ⟨.ref s.heap.objs.size,_,I.laid (a:=s.heap.objs.size) (o:=.dT []) (t':=s.toks) (fun _ _ q=>fh _ q) (ck _) (dV' s.heap I.big),rfl,h _ (I.bq.fresh (ck _))⟩
end
structure M1(X:Cx)(o:Expr)(m:Str)(apos:Pos)(e:Expr)(dE:Pos):Prop where
 base:attributeBase o m X.env (eval o X.env)=eval o X.env
 few:((backTo dE (starEach [e] X.env)).all (fun x=>!x.1) && (backToKw dE (keywordEach [] X.env)).all (fun x=>x.1.isSome)
  && decide (([e]:List Expr).length+([]:List Keyword).length+(if ([]:List Keyword).isEmpty then 0 else 1)<30))=true
 line:(apos.endLine == dE.line)=true
 trees:backTo dE (starEach [e] X.env)=[(false,eval e X.env)]
structure M2(X:Cx)(o:Expr)(m:Str)(apos:Pos)(e f:Expr)(dE:Pos):Prop where
 base:attributeBase o m X.env (eval o X.env)=eval o X.env
 few:((backTo dE (starEach [e,f] X.env)).all (fun x=>!x.1) && (backToKw dE (keywordEach [] X.env)).all (fun x=>x.1.isSome)
  && decide (([e,f]:List Expr).length+([]:List Keyword).length+(if ([]:List Keyword).isEmpty then 0 else 1)<30))=true
 line:(apos.endLine == dE.line)=true
 trees:backTo dE (starEach [e,f] X.env)=[(false,eval e X.env),(false,eval f X.env)]
def Ri(H:Hp)(a:Addr):Prop:=(∃ kvs,Rd H a (.dK kvs))\/∃ kvs,Rd H a (.dT kvs)
theorem Ys{X:Cx}(I:Inv X pins σ H s)(d:Ri H a) :
  s.TypeIs (.ref a) "dict"/\(∀ b,Value.ref a=.ref b->∃ ob,s.heap.get? b=some ob/\ob.dict=none)/\(a == sysModules)=false:=by
 rcases d with⟨kvs,e⟩|⟨kvs,e⟩
 ·obtain⟨_,hd,vs,_,dd⟩:=CY I.bq e
  refine⟨dd.typeIs,fun b q=>?_,hd⟩
  cases q
  obtain⟨ob,_,_,h1,h2,_⟩:=dd
  exact⟨ob,h1,h2.2.1⟩
 ·obtain⟨_,hd,xs,_,dd⟩:=EL I.bq e
  refine⟨dd.typeIs,fun b q=>?_,hd⟩
  cases q
  obtain⟨ob,_,_,h1,h2,_⟩:=dd
  exact⟨ob,h1,h2.2.1⟩
section
variable {X:Cx}{pins:List (Addr × Obj)}{σ:St}{H:Hp}{s:Shared}{a:Addr}{y d:V}{u r:Value}{o:Option V}{A:Around}{E:Value->Shared->Prop}
theorem dY'(hu:A.units+1<cLine)(I:Inv X pins σ H s)(g:kP H a y o)(ry:RelV y u)(rd:RelV d r)(h:∀ w' s',Inv X pins σ H s'->RelV (o.getD d) w'->Q w' s') :
  wpAny (model X.prog X.w) A (call (.builtin "dict.get") [.ref a,u,r]) Q E s:=by
 rcases g with⟨kvs,k,e,ey,l⟩|⟨kvs,k,b,e,ey,eb,l⟩
 ·subst ey
  obtain⟨z,hd,vs,rel,dd⟩:=CY I.bq e
  refine call_meetsIn PySem.F.slot_dict_get dd.typeIs PySem.F.entry_dict_get (PySem.F.args_dict_get_3 _ _ _) (meets_dict_get_default (ka X.prog X.w) a (Iq ry) hd r) ⟨_,dd.mapOf,h _ _ (I.tok _) ?_⟩
  rw[l]
  exact(rel.val k).getD rd
 ·subst ey
  cases (show u=Value.ref b from ry)
  obtain⟨z,hd,xs,rel,dd⟩:=EL I.bq e
  refine call_meetsIn PySem.F.slot_dict_get dd.typeIs PySem.F.entry_dict_get (PySem.F.args_dict_get_3 _ _ _) (meetsH_dict_get_default (tupleKind (ka X.prog X.w)) a b hd r) ⟨tupleKind_room_in1 hu,k,xs,EK I.bq eb,dd,h _ _ (I.tok _) ?_⟩
  rw[l]
  exact(rel.val k).getD rd
end
def Yt(td ty tx:TE):TE:=fun σ H Q=>td σ H fun x H1=>∃ a,x=.ref a/\Ri H1 a/\ty σ H1 fun y H2=>tx σ H2 fun z H3=>∃ o,kP H3 a y o/\Q (o.getD z) H3
section
variable {X:Cx}{o e f:Expr}{apos dE:Pos}{td ty tx:TE}
theorem dZ' (hu:X.A.units+1<cLine) (ho:PE X o td) (he:PE X e ty) (hf:PE X f tx) (m:M2 X o "get" apos e f dE):PE X (.Call (.Attribute o "get" apos) [e,f] [] dE) (Yt td ty tx):=by
 intro pins s σ H Q I h
 refine wpAny_Call_method m.base m.few m.line PySem.F.plainAttrs_dict PySem.F.slot_dict_get PySem.F.type_dict_get (cw (ho pins s σ H _ I h) fun u s1 cE=>?_)
 obtain⟨x,H1,I1,rx,a,ex,d,q1⟩:=cE
 subst ex
 obtain rfl:u=Value.ref a:=rx
 obtain⟨t1,t2,_⟩:=Ys I1 d
 refine⟨t1,t2,?_⟩
 rw[m.trees]
 refine Calls.callWith_builtin rfl (Calls.evalArgs_plain (Calls.spliced_cons (cw (he pins s1 σ H1 _ I1 q1) fun iv s2 cK=>L2.gI cK fun y H2 I2 ry q2 =>
  Calls.spliced_cons (cw (hf pins s2 σ H2 _ I2 q2) fun fv s3 ⟨z,H3,I3,rz,ov,g,q3⟩=>Calls.spliced_nil ?_))))
 exact dY' hu I3 g ry rz fun w' s4 I4 kr=>⟨_,H3,I4,kr,q3⟩
end
end L2
namespace Yu
open PySem PySem.W PySem.Calls PyProof.Rows
theorem ea'{P:Params}:∀ (ns:List Int) (vs:List Value),WellAll P h vs (ns.map WData.int)->IntsAre vs ns:=by
 intro ns
 induction ns with
 |nil =>
  intro vs w
  rw[List.map_nil] at w
  cases w
  exact .nil
 |cons n ns ih =>
  intro vs w
  rw[fe] at w
  cases w with
  |cons a b =>
   cases a
   exact .cons _ _ (ih _ b)
theorem eb'{l:OpenLaw}{n:Nat}(hn:l.most=some n){P:Params}{h:Heap}{args:List WData}{vals:List Value}
  (Rj:l.row.toRowW.claim.pre args=true) (T6:WellAll P h vals args) :
  ∃ a vs ns,vals=[Value.ref a]/\args=[WData.list (ns.map WData.int)]/\h.get? a=some { cls:=.type "list",data:=.seq vs.toArray }/\IntsAre vs ns/\ns.length<=n:=by
 have zD:WShape.hasAll [] args [.list .int]=true:=(pre_splitW Rj).1
 have hc:l.pre.holds [] { args:=args }=true:=(pre_splitW Rj).2
 obtain⟨d,r,rfl,h1,h2⟩:=hasAllW_cons zD
 obtain rfl:=hasAllW_nil h2
 obtain⟨xs,rfl,h3⟩:=hasW_list h1
 obtain⟨ns,rfl⟩:=items_int h3
 have hlen:ns.length<=n:=by
  unfold OpenLaw.pre at hc
  have h4:(WTm.not (.lt (.lit (.int (n:Int))) (.len (.arg 0)))).holds [] { args:=[.list (ns.map .int)] }=true:=by
   have h4:=(holds_andW hc).1
   rw[hn] at h4
   exact h4
  have h5:=condW_of h4 (w_not (w_lt w_lit (w_len_list (w_arg rfl))))
  rw[bS] at h5
  refine GP fun q=>?_
  have q':(n:Int)<((ns.length:Nat):Int):=by lia
  first
   | (rw[decide_eq_true q'] at h5;exact absurd h5 (by decide))
   | (simp at h5;lia)
 cases T6 with
 |cons w1 w2 =>
  cases w2
  cases w1 with
  |list ho mP=>exact⟨_,_,ns,rfl,rfl,ho,ea' ns _ mP,hlen⟩
theorem ec'(l:OpenLaw)(args:List WData):l.row.toRowW.claim.post args (.bool true) args=true :=
 postW_of (r:=l.row.toRowW) (X:=(true == true))
  (show WShape.has [] (.bool true) .bool=true by first|rfl|decide|simp[WShape.has,WShape.arms,WShape.armsAll])
  (show(WTm.eq .res (.lit (.bool true))).value [] { args:=args,res:=some (.bool true),after:=args }=some (.bool (true == true)) from w_eq_bool (w_res rfl) w_lit) rfl
theorem ed'{l:OpenLaw}{n:Nat}{q:Program}{loose:List Str}{XP:(Str->Option Value)->Heap->Prop}{YP:World->Heap->Prop}{d:DefRec}
  (hn:l.most=some n) (MD:d.params.defaults=[])
  (call:∀ (w:World) (ki eM:Shared) (mg mb:Str->Option Value) (fa:Addr) (o:Obj) (pm cd doc:Value) (a:Addr) (vs:List Value) (ns:List Int),
   Ground q loose [] XP w ki mg mb eM.heap->YP w eM.heap ->
   eM.heap.get? fa=some o->o.data=.func (docDef d.name d.params d.body d.scope pm cd doc)->eM.heap.CodeRec cd d.name->mg d.name=some (.ref fa) ->
   eM.heap.get? a=some { cls:=.type "list",data:=.seq vs.toArray }->IntsAre vs ns->ns.length<=n->eM.gens = #[] ->
   codeAny (model l.prog w) callerA (.call (.ref fa) ⟨[.ref a],[]⟩) (fun r s'=>r=.ok (.ret (.bool true))/\OldK eM.heap s'.heap/\s'.os=eM.os/\AllBare s'.gens) eM) :
  WalkO q loose XP YP l.row.toRowW d [] (fun f vs=>PySem.call f vs):=by
 intro w ki eM mg mb G Y fa o pm cd doc dV kV ho hd ot hD MG hg args vals as Rj hlay hrd T6 ER
 obtain rfl:dV=.none:=Dflts.none hD MD
 obtain rfl:kV=.none:=Dflts.noKw hD
 obtain⟨a,vs,ns,rfl,rfl,T7,hints,hlen⟩:=eb' hn Rj T6
 refine enter_call (codeAny_mono (call w ki eM mg mb fa o pm cd doc a vs ns G Y ho (fd_plain hd) ot MG T7 hints hlen hg) fun r s' hq=>?_)
 obtain⟨rfl,h2,h3,h4⟩:=hq
 exact⟨.inl ⟨.bool true,.bool true,[],rfl,fun _=>rfl,.bool true,ec' l _,fun _=>⟨List.Pairwise.nil,fun _ hm=>(nomatch hm)⟩⟩,h2,h3,h4⟩
end Yu
namespace L2
open PySem PySem.Spec PyProof.Rows
theorem Yv:∀ {vs:List Value} {ns:List Int},IntsAre vs ns->Vals (ns.map V.int) vs
 |_,_,.nil=>.nil
 |_,_,.cons n t h=>.cons ⟨t,rfl⟩ (Yv h)
def Only(H:Hp):Prop:=∀ b,H b=none\/∃ o xs,H b=some (.eC o (.lst xs))
theorem ee'{P:Program}{K:PySem.W.Frag}
  (KX:K.In eM.heap) (Yw:eM.heap.Ns mainGlobals mg) (hb:eM.heap.Ns builtinsNs mb) (T8:∀ x:Str,x ≠ "__name__"->mb x=bootBuiltins x) (ef':eM.heap.NoLimit) (hg:eM.gens = #[])
  (ha:eM.heap.get? a=some { cls:=.type "list",data:=.seq vs.toArray }) (hi:IntsAre vs ns) (hl:ns.length<=sizeLine) (hr:mN k callerA)
  (F:∀ base:Heap,K.In base->base.Ns mainGlobals mg->fz P w K mg base CX k fa fd [x] sp) (eg':∀ (s:Shared) (u:Value),BindsTo s fd ⟨[u],[]⟩ [(x,u)])
  (CM:∀ H:Hp,Only H->eR K H a (ns.map V.int)->sp [.ref a] H (fun v _=>v=.bl true) fun _ _ _=>False)
  (T9:∀ H e s',CX [] H eM (fun _ _ _=>False) e s'->False) :
  codeAny (model P w) callerA (.call (.ref fa) ⟨[.ref a],[]⟩) (fun r s'=>r=.ok (.ret (.bool true))/\OldK eM.heap s'.heap/\s'.os=eM.os/\AllBare s'.gens) eM:=by
 have rv:=Yv hi
 have eh':=hi.length
 -- from an abstract heap in which nothing but the script may be tracked
 have core:∀ H:Hp,Only H->eR K H a (ns.map V.int)->iA P w H eM.heap->(∀ b,H b≠none->b=a)->(H a≠none->K.lookup a=none) ->
   codeAny (model P w) callerA (.call (.ref fa) ⟨[.ref a],[]⟩) (fun r s'=>r=.ok (.ret (.bool true))/\OldK eM.heap s'.heap/\s'.os=eM.os/\AllBare s'.gens) eM:=by
  intro H hO hS bq hA hK
  have Yx:∀ {b:Addr} {o:Obj},eM.heap.get? b=some o->H b=none->(AU eM.heap H).get? b=some o:=fun e n=>bc' e n
  have L6:∀ {b:Addr} {o:Obj} {es:Array DictEntry} {ep:Nat},eM.heap.get? b=some o->o.data=.dict es ep->H b=none:=fun {b o es ep} e d=>by
   cases q:H b with
   |none=>rfl
   |some u =>
    have e':b=a:=hA b (by rw[q];simp)
    subst e'
    rw[ha] at e;cases e
    have d':Data.seq vs.toArray _=Data.dict es ep:=d
    cases d'
  have Rl:∀ {b:Addr} {m:Str->Option Value},eM.heap.Ns b m->(AU eM.heap H).Ns b m:=fun {b m} ⟨o,es,ep,e,d,r⟩=>⟨o,es,ep,Yx e (L6 e d),d,r⟩
  have Yy:K.In (AU eM.heap H):=fun b o e=>Yx (KX b o e) (by
   cases q:H b with
   |none=>rfl
   |some u =>
    have e':b=a:=hA b (by rw[q];simp)
    subst e'
    rw[hK (by rw[q];simp)] at e;cases e)
  have hM:Mod K mg (AU eM.heap H):=⟨Yy,Rl Yw,⟨mb,Rl hb,T8⟩,let ⟨mc,h1,h2⟩:=ef';⟨mc,Rl h1,h2⟩⟩
  have e0:Q_ P w K mg (AU eM.heap H) callerA [] eM H:=⟨rfl,hM,fun b o e=>bd' e,AQ (bb' _ _),trivial,fun b hb=>absurd (show b∈([]:List Addr) from hb) (by simp),bq,.of_eq hg⟩
  refine codeAny_mono ((F _ Yy (Rl Yw)).run callerA [] eM H ⟨[.ref a],[]⟩ [.ref a] [.ref a] _ _ hr e0 (eg' eM (.ref a)) (.cons rfl .nil) (CM H hO hS)) fun r s' h=>?_
  cases r with
  |error e=>exact(T9 H e s' h).elim
  |ok fl =>
   cases fl with
   |next=>exact False.elim h
   |brk=>exact False.elim h
   |cont=>exact False.elim h
   |ret u =>
    obtain⟨v,H',os,bare,un,ej',r',q⟩:=h
    have q':v=.bl true:=q
    subst q'
    obtain rfl:u=Value.bool true:=r'
    refine⟨rfl,OldK.of_keep fun b o e=>?_,os,bare⟩
    cases q:H b with
    |none=>exact un.keep b o e q (by intro z;exact absurd (show b∈([]:List Addr) from z) (by simp)) (by simp)
    |some u =>
     rcases hO b with z|⟨ob,xs,z⟩
     ·rw[q] at z;cases z
     ·have z2:=un.sM b ob _ z
      obtain⟨e1,_⟩:=bq b _ z
      obtain⟨e2,_⟩:=ej' b _ z2
      rw[e] at e1;cases e1
      exact e2
 cases hk:K.lookup a with
 |some o =>
  -- the script is one of the module's own objects
  have e:=KX a o hk
  rw[ha] at e
  cases e
  refine core (fun _=>none) (fun _=>.inl rfl) (.inr ⟨_,vs.toArray,_,hk,rfl,rfl,rfl,by rw[h9,eh'];exact hl,by simpa using rv⟩) (fun b u z=>by have z':(none:Option HO)=some u:=z;cases z') (fun b z=>absurd rfl z) fun z=>absurd rfl z
 |none =>
  refine core (fun b=>if b=a then some (.eC { cls:=.type "list",data:=.seq vs.toArray } (.lst (ns.map V.int))) else none) (fun b=>?_) (.inl (.inr ⟨{ cls:=.type "list",data:=.seq vs.toArray },if_pos rfl⟩)) (fun b u z=>?_) (fun b z=>?_) fun _=>hk
  ·by_cases hb:b=a
   ·exact .inr ⟨_,_,if_pos hb⟩
   ·exact .inl (if_neg hb)
  ·by_cases hb:b=a
   ·have z':=(if_pos hb).symm.trans z
    cases z'
    subst hb
    exact⟨ha,by rw[bS];exact hl,vs,_,rv,ha⟩
   ·have z':=(if_neg hb).symm.trans z
    cases z'
  ·by_cases hb:b=a
   ·exact hb
   ·exact absurd (if_neg hb) z
theorem ek'{l:PySem.W.OpenLaw}{n k:Nat}{q:Program}{loose:List Str}{XP:(Str->Option Value)->Heap->Prop}{YP:World->Heap->Prop}{d:DefRec}{K:Params->PySem.W.Frag}{CX:World->CF}{sp:World->Sp}{x:Str}
  (hn:l.most=some n) (Iy:n<=sizeLine) (MD:d.params.defaults=[]) (hr:mN k callerA)
  (hY:∀ (w:World) (h:Heap),YP w h->(K w.params).In h)
  (F:∀ (w:World) (mg:Str->Option Value) (fa:Addr) (h:Heap),(K w.params).In h->h.Ns mainGlobals mg->mg d.name=some (.ref fa) ->
   ∃ fd:FuncData,(∀ (s:Shared) (u:Value),BindsTo s fd ⟨[u],[]⟩ [(x,u)]) /\
    ∀ base:Heap,(K w.params).In base->base.Ns mainGlobals mg->fz l.prog w (K w.params) mg base (CX w) k fa fd [x] (sp w))
  (CM:∀ (w:World) (H:Hp) (a:Addr) (ns:List Int),ns.length<=n->Only H->eR (K w.params) H a (ns.map V.int)->sp w [.ref a] H (fun v _=>v=.bl true) fun _ _ _=>False)
  (T9:∀ (w:World) (H:Hp) (s:Shared) (e:Value) (s':Shared),CX w [] H s (fun _ _ _=>False) e s'->False) :
  PySem.W.WalkO q loose XP YP l.row.toRowW d [] (fun f vs=>PySem.call f vs):=by
 refine Yu.ed' hn MD fun w ki eM mg mb fa o pm cd doc a vs ns G Y ho hd ot MG T7 hints hlen hg=>?_
 have KX:=hY w _ Y
 obtain⟨fd,hb,hF⟩:=F w mg fa _ KX G.T.g MG
 exact ee' KX G.T.g G.T.b G.T.builtins G.T.nolimit hg T7 hints (gE hlen Iy) hr hF hb (fun H hO hS=>CM w H a ns hlen hO hS) fun H e s'=>T9 w H eM e s'
def gx(s:Stmt):Arguments:=match s with
 |.FunctionDef _ a _ _ _ _ _ _ _ _=>a
 |_=>{ posonlyargs:=[],args:=[],vararg:=none,kwonlyargs:=[],kw_defaults:=[],kwarg:=none,defaults:=[] }
def fS(s:Stmt):List Stmt:=match s with
 |.FunctionDef _ _ b _ _ _ _ _ _ _=>b
 |_=>[]
def cf(s:Stmt):Scope:=match s with
 |.FunctionDef _ _ _ _ _ _ sc _ _ _=>sc
 |_=>{ kind:=.function,names:=[],isGenerator:=false,isCoroutine:=false }
abbrev fF:CF:=fun _ _ _ _ _ _=>False
abbrev E0:XK:=fun _ _ _=>False
theorem el'{X:Cx}:Passes fF X E0:=fun _ _ _ _ _ _ _ h=>h.elim
structure fT(K:PySem.W.Frag)(x qual:Str)(st:Stmt)(f:Addr)(fd:FuncData):Prop where
 ex:∃ (oc:Value) (od:Option Addr) (kV doc pm:Value) (an:Option Addr) (dk ct:Value) (HZ:Array (Option Value)),
  fd=PySem.W.fnOf x qual (gx st) (fS st) (cf st) .none kV doc pm an dk ct/\K.lookup f=some ⟨oc,od,.func fd,HZ⟩/\PySem.W.codeIn K dk qual=true
 kp:PySem.W.keepIn K (.ref f)=true
section
variable {P:Program}{w:World}{K:PySem.W.Frag}{mg:Str->Option Value}{base:Heap}
theorem fT.ok{st:Stmt}{N ps:List Str}(F:fT K x qual st f fd)(S:hG N ps (cf st))(len:∀ vs H Q E,sp vs H Q E->vs.length=ps.length)
  (L7:∀ (dk:Value) (A:Around) (outer:List Env) (s:Shared) (H:Hp) (vs:List V) (Q:VK) (E:XK),mN k (A.deeper (envOfC qual (cf st) s.heap.objs.size f dk))->sp vs H Q E ->
   ∃ t,lj (EI fF P w K mg base N qual (cf st) f dk A outer s H E).LZ (fS st) t/\t { nx:=fun _ H'=>Q .non H',rt:=Q } (start N vs) H):fz P w K mg base fF (k+1) f fd ps sp:=by
 obtain⟨oc,od,kV,doc,pm,an,dk,ct,HZ,rfl,lk,ot⟩:=F.ex
 refine cP' lk ot S len fun A outer s H vs Q E hr CM=>?_
 obtain⟨t,h,q⟩:=L7 dk A outer s H vs Q E hr CM
 exact⟨t,h.LZ,q⟩
theorem fT.binds{st:Stmt}{ps:List Str}(F:fT K x qual st f fd)
  (h:∀ (kV doc pm:Value) (an:Option Addr) (dk ct:Value) (us:List Value),us.length=ps.length->bindArgs (PySem.W.fnOf x qual (gx st) (fS st) (cf st) .none kV doc pm an dk ct) ⟨us,[]⟩=pure (ps.zip us)):Binds K fd ps []:=by
 obtain⟨oc,od,kV,doc,pm,an,dk,ct,HZ,rfl,lk,ot⟩:=F.ex
 exact .all (h kV doc pm an dk ct)
theorem iE{st:Stmt}{kV doc pm dk ct:Value}(l:K.lookup f=some ⟨oc,od,.func (PySem.W.fnOf x qual (gx st) (fS st) (cf st) .none kV doc pm an dk ct),HZ⟩)
  (c:PySem.W.codeIn K dk qual=true) (k:PySem.W.keepIn K (.ref f)=true):fT K x qual st f (PySem.W.fnOf x qual (gx st) (fS st) (cf st) .none kV doc pm an dk ct):=⟨⟨oc,od,kV,doc,pm,an,dk,ct,HZ,rfl,l,c⟩,k⟩
end
section
variable {X:Cx}
theorem pv (i:Nat) (hN:X.N[i]? = some x:=by rfl) (hv:QK X.env.scope x:=by first|exact Or.inl rfl|exact Or.inr (Or.inl rfl)|exact Or.inr (Or.inr rfl)) (hd:(x == ("__debug__" : Str))=false:=by decide)
  (ot:(x == ("__classdict__" : Str))=false:=by decide):PE X (.Name x pos) (wt i):=Xq hN hv hd ot
end
def ax(H H':Hp):Prop:=∀ b o,H b=some o->H' b=some o
theorem ax.refl(H:Hp):ax H H:=fun _ _ h=>h
theorem ax.trans(a:ax H H1)(b:ax H1 H2):ax H H2:=fun c o h=>b c o (a c o h)
theorem ax.free(e:ax H H')(h:H' l=Option.none):H l=Option.none:=by
 cases q:H l with
 |none=>rfl
 |some o =>
  rw[e l o q] at h
  cases h
theorem ax.seq{K:PySem.W.Frag}(e:ax H H')(h:eR K H a xs):eR K H' a xs:=by
 rcases h with(h|⟨o,h⟩)|h
 ·exact .inl (.inl (e _ _ h))
 ·exact .inl (.inr ⟨o,e _ _ h⟩)
 ·exact .inr h
end L2
set_option maxHeartbeats 4000000
namespace L2
open PySem PySem.Spec PyProof.Rows
def rp(env:Env):List (Str × NameKind)->List (Str × Addr)->List (Str × Addr)
 |[],cs=>cs
 | (n,k) :: r,cs=>rp env r (if k == NameKind.free then (n,(env.cells.lookup n).getD 0) :: cs else cs)
theorem jf(env:Env):∀ (names:List (Str × NameKind)) (cs:List (Str × Addr)),(∀ y∈names,y.2=.free->∃ c,env.cells.lookup y.1=some c) ->
  (forIn names cs fun x r=>match x with
   | (name,kind)=>if (kind == NameKind.free)=true then do let a <- cellOf env name;pure (ForInStep.yield ((name,a) :: r)) else pure (ForInStep.yield r):Sem (List (Str × Addr)))=pure (rp env names cs)
 |[],cs,_=>rfl
 | (n,k) :: r,cs,h=>by
  rw[List.forIn_cons]
  have ih:=jf env r
  by_cases hk:k=.free
  ·subst hk
   obtain⟨c,e⟩:=h (n,.free) b5 rfl
   have e:env.cells.lookup n=some c:=e
   have e2:cellOf env n=pure c:=by unfold cellOf;rw[e]
   have e3:rp env ((n,.free) :: r) cs=rp env r ((n,c) :: cs):=by
    show rp env r (if (NameKind.free == NameKind.free)=true then (n,(env.cells.lookup n).getD 0) :: cs else cs)=_
    rw[e];rfl
   rw[e3,<- ih ((n,c) :: cs) fun y hy=>h y (b9 _ hy)]
   simp only[beq_self_eq_true,if_true,e2]
   rfl
  ·have hb:(k == NameKind.free)=false:=by simpa using hk
   have e3:rp env ((n,k) :: r) cs=rp env r cs:=by
    show rp env r (if (k == NameKind.free)=true then _ else cs)=_
    rw[hb];rfl
   rw[e3,<- ih cs fun y hy=>h y (b9 _ hy)]
   simp only[hb,kH,if_false]
   rfl
theorem qz(h:∀ y∈scope.names,y.2=.free->∃ c,env.cells.lookup y.1=some c):closureFor scope env=pure (rp env scope.names []):=by
 have:=jf env scope.names [] h
 unfold closureFor
 rw[<- bind_pure (forIn scope.names [] _)] at this
 exact this
theorem pN:∀ {names:List (Str × NameKind)} {cs:List (Str × Addr)},(∀ y∈names,y.2=.free->∃ c,env.cells.lookup y.1=some c)->(∀ y d,cs.lookup y=some d->env.cells.lookup y=some d) ->
  (rp env names cs).lookup x=some c->env.cells.lookup x=some c
 |[],cs,_,h,e=>h x c e
 | (n,k) :: r,cs,hf,h,e=>by
  refine pN (names:=r) (fun y hy=>hf y (b9 _ hy)) ?_ e
  intro y d hd
  by_cases hk:k=.free
  ·subst hk
   obtain⟨c',e'⟩:=hf (n,.free) b5 rfl
   have e':env.cells.lookup n=some c':=e'
   simp only[beq_self_eq_true,if_true,e',Option.getD_some,S4] at hd
   cases hb:y == n with
   |true=>rw[hb] at hd;have:y=n:=eq_of_beq hb;subst this;rw[e'];exact hd
   |false=>rw[hb] at hd;exact h y d hd
  ·have hb:(k == NameKind.free)=false:=by simpa using hk
   simp only[hb,kH,if_false] at hd
   exact h y d hd
theorem lW:∀ {names:List (Str × NameKind)} {cs:List (Str × Addr)},((x,NameKind.free)∈names\/∃ c,cs.lookup x=some c)->∃ c,(rp env names cs).lookup x=some c
 |[],cs,h=>by
  rcases h with h|h
  ·exact nomatch h
  ·exact h
 | (n,k) :: r,cs,h=>by
  refine lW (names:=r) ?_
  rcases h with h|⟨c,h⟩
  ·rcases dr.mp h with e|h
   ·cases e
    refine .inr ⟨(env.cells.lookup x).getD 0,?_⟩
    simp only[beq_self_eq_true,if_true,S4]
   ·exact .inl h
  ·refine .inr ?_
   by_cases hk:(k == NameKind.free)=true
   ·simp only[hk,if_true,S4]
    cases hb:x == n with
    |true=>exact⟨_,rfl⟩
    |false=>exact⟨c,h⟩
   ·simp only[hk,if_false]
    exact⟨c,h⟩
def bf(X:Cx)(scope:Scope)(C:Addr)(N:List Str)(fp:List Addr)(gS:Shared)(iq:Hp):Cx :=
 { X with N:=N,ki:=gS,nK:=iq,env:=compEnvC scope (rp X.env scope.names []) C X.env,outer:=X.stack,stack:=X.stack,ex:=fp,fn:=fun _=>false,pn:=[],xe:=fun _ _=>False }
def zI(X:Cx)(ifs:List Expr)(t:TT):Prop :=
 ∀ (pins:List (Addr × Obj)) (s:Shared) (σ:St) (H:Hp) (Q:Bool->Hp->Prop),Inv X pins σ H s->t σ H Q ->
  wpAny (model X.prog X.w) X.A (forIn ifs true fun c r=>if r=true then do let ok <- isTrue c X.env (eval c X.env);pure (ForInStep.yield ok) else pure (ForInStep.yield r)) (TP X pins σ Q) X.xe s
def em':TT:=fun _ H Q=>Q true H
theorem GX{X:Cx}:zI X [] em':=fun _ _ _ H _ I h=>wpAny_tests_nil ⟨H,I,h⟩
theorem Fl{X:Cx}(h:PT X c t):zI X [c] t:=fun pins s σ H Q I hw=>wpAny_tests_one (h pins s σ H Q I hw)
theorem gW{R:Result->Shared->Prop}(I:Nat->Shared->Prop)(E:Value->Shared->Prop)
  (turn:∀ n s,I n s->wpAny (model prog w) A (pyNext it) (fun r eM=>match r with
   |none=>R (.ok .next) eM
   |some v=>wpAny (model prog w) A (letOwnedTupleGo target it v) (fun _ ki=>wpAny (model prog w) A (assign target env v) (fun _ EG =>
     wpAny (model prog w) A (forIn ifs true fun c r=>if r=true then do let ok <- isTrue c env (eval c env);pure (ForInStep.yield ok) else pure (ForInStep.yield r)) (fun ok gS =>
      if ok=true then wpAny (model prog w) A (eval elt env) (fun x Yz =>
       wpAny (model prog w) A (call (.builtin "list.append") [acc,x]) (fun _ YB=>∃ m,m<n/\I m YB) E Yz) E gS
      else ∃ m,m<n/\I m gS) E EG) E ki) E eM) E s)
  (hE:∀ e s',E e s'->notedBy (model prog w) A env (fun e s'=>R (.error e) s') e s')
  (n:Nat) (h:I n s) :
  codeAny (model prog w) A (.compLoop (.ListComp elt [⟨target,iter,ifs,0⟩] scope pos) 0 it acc env) R s:=by
 refine codeAny_loop rfl I (fun n s hI=>?_) n h
 show wpAny _ A ((compTurn (.ListComp elt [⟨target,iter,ifs,0⟩] scope pos) 0 it acc env).onRaise (fun x=>do noteFrame x env;theTreesLotGoes x)) _ _ s
 refine wpAny_noted ?_
 rw[compTurn_list]
 refine oj (Q:=_) (E:=E) ?_ (fun _ _ q=>q) hE
 refine ah (wpAny_standAt (ah (oj (turn n s hI) (fun r eM MH=>?_) fun _ _ h'=>h')))
 cases r with
 |none=>exact aw MH
 |some v =>
  refine ah (oj MH (fun _ ki h₀=>?_) fun _ _ h'=>h')
  refine ah (oj h₀ (fun _ EG en'=>ah (oj en' (fun ok gS YC=>?_) fun _ _ h'=>h')) fun _ _ h'=>h')
  cases ok with
  |false=>exact aw ⟨rfl,YC⟩
  |true =>
   exact ah (ah (oj YC (fun x Yz eo'=>ah (oj eo' (fun _ YB eq'=>aw (aw ⟨rfl,eq'⟩)) fun _ _ h'=>h')) fun _ _ h'=>h'))
def qj(tn:Nat)(ix:List Nat)(σ:St):St:=List.replicate tn none++ix.map fun j=>(σ[j]?).join
def Aw(wi:TI)(g:TG)(tc:TT)(te:TE)(tn:Nat)(ix:List Nat):TE:=fun σ H Q=>wi σ H fun J H1=>∀ D,H1 D=none ->
 ∃ W:Nat->Nat->St->Hp->Prop,(∃ m,W 0 m (qj tn ix σ) (upd H1 D (.lst [])))/\∀ i m τ H,W i m τ H ->
  (J.stop i H/\Q (.ref D) H)\/(J.go i H/\∃ (N1:St->V->Hp->Prop) (N2:St->Hp->Prop),
   (∀ mz v H4,N1 mz v H4->∃ ys m',H4 D=some (.lst ys)/\ys.length<sizeLine/\m'<m/\W (i+1) m' mz (upd H4 D (.lst (ys++[v])))) /\
   (∀ mz H3,N2 mz H3->∃ m',m'<m/\W (i+1) m' mz H3) /\
   ∀ x H',J.ll i H x H'->g x τ H' fun mz H2=>tc mz H2 fun b H3=>if b=true then te mz H3 (N1 mz) else N2 mz H3)
section
variable {X:Cx}{tg iter elt:Expr}{ifs:List Expr}{scope:Scope}{pos:Pos}{wi:TI}{g:TG}{tc:TT}{te:TE}{tn cn:List Str}{ix:List Nat}
structure cL(X:Cx)(scope:Scope)(tn cn:List Str)(ix:List Nat):Prop where
 kind:scope.kind=.function
 er':∀ y∈scope.names,y.2≠.cell
 free:∀ y∈scope.names,y.2=.free->X.env.scope.names.lookup y.1=some .cell\/X.env.scope.names.lookup y.1=some .free
 names:∀ y∈scope.names,y.2=.local->scope.names.lookup y.1=some .local
 len:ix.length=cn.length
 cap:∀ (k j:Nat),ix[k]? = some j->∃ y,cn[k]? = some y/\X.N[j]? = some y/\(X.env.scope.names.lookup y=some .cell\/X.env.scope.names.lookup y=some .free)/\(y,NameKind.free)∈scope.names /\
  ((relabel scope X.env).names.lookup y=some .cell\/(relabel scope X.env).names.lookup y=some .free)
 all:∀ x,(relabel scope X.env).names.lookup x=some .cell\/(relabel scope X.env).names.lookup x=some .free->(x,NameKind.free)∈scope.names
theorem yG(O:cL X scope tn cn ix)(I:Inv X pins σ H s)(hf:∀ b∈fp,x6 X pins H b)(T_:∀ b∈fp,b<s.heap.objs.size)(hC:s.heap.objs.size<=C) :
  (bf X scope C (tn++cn) fp s H).Ok:=by
 have EV:∀ y∈scope.names,y.2=.free->∃ c,X.env.cells.lookup y.1=some c:=fun y hy hk=>I.ok.has y.1 (O.free y hy hk)
 have sub:∀ x c,(rp X.env scope.names []).lookup x=some c->X.env.cells.lookup x=some c:=fun x c e=>pN EV (fun y d h=>by simp at h) e
 refine⟨I.ok.mod,O.kind,I.ok.glob,I.ok.blt,hC,fun x y c h1 h2=>I.ok.inj x y c (sub x c h1) (sub y c h2),fun x hx=>lW (.inl (O.all x hx)),(fun x c h _=>nomatch h),I.ok.hd,I.ok.frames,.inl rfl,fun b hb=>⟨?_,fun x c e=>?_⟩,
  I.bs,gE I.ok.Cb I.sz,fun b o e hb=>?_,fun b hb=>?_,I.stack,I.Xh⟩
 ·exact fN (nI (T_ b hb) hC)
 ·exact(hf b hb).2.2.2.2.1 x c (sub x c e)
 ·rcases (hf b hb).2.2.2.1 with z|z
  ·exact I.ok.LW b o e z
  ·exact absurd (nI (eh e) (gE I.ok.Cb z)) (B7 _)
 ·intro hz
  rcases dr.mp (I.Tf b hz) with e|e
  ·exact(hf b hb).2.1 e
  ·exact(hf b hb).2.2.1 e
theorem vU{P:Value->Shared->Prop}(hc:X.calm=true)(hi:PI X tg iter wi)(O:cL X scope tn cn ix)
  (hg:∀ C fp gS iq,PG (bf X scope C (tn++cn) fp gS iq) tg g) (xa:∀ C fp gS iq,zI (bf X scope C (tn++cn) fp gS iq) ifs tc) (he:∀ C fp gS iq,PE (bf X scope C (tn++cn) fp gS iq) elt te)
  (hs:∀ x,foldedSetIterable iter X.env x=pure x) (I:Inv X pins σ H s) (h:Aw wi g tc te tn.length ix σ H Q)
  (fin:∀ (C D:Addr) (m:Str->Option Value) (H5:Hp) (s6:Shared) (r:Flow),Inv X pins σ H5 s6->s6.heap.Ns C m->H5 C=none->x6 X pins H5 C->Q (.ref D) H5->compPost (model X.prog X.w) X.A X.xe use P (.ref D) C (.ok r) s6) :
  wpAny (model X.prog X.w) X.A (comprehension (.ListComp elt [⟨tg,iter,ifs,0⟩] scope pos) scope X.env jk' (newList []) false (eval iter X.env) use) P X.xe s:=by
 have EV:∀ y∈scope.names,y.2=.free->∃ c,X.env.cells.lookup y.1=some c:=fun y hy hk=>I.ok.has y.1 (O.free y hy hk)
 have sub:∀ x c,(rp X.env scope.names []).lookup x=some c->X.env.cells.lookup x=some c:=fun x c e=>pN EV (fun y d h=>by simp at h) e
 refine wpAny_comprehension_free (use:=use) rfl hs (qz EV) O.kind O.names (cw (hi pins s σ H _ I h) fun v s1 h1=>cw h1 fun Tp s2 h2=>?_)
 obtain⟨it,fp,Rm,J,H2,e,I2,T,sN,f2,h2⟩:=h2
 subst e
 obtain⟨W,⟨m0,w0⟩,turn⟩:=h2 s2.heap.objs.size (I2.bq.fresh (ck _))
 refine wpAny_newObj_type ?_
 have I3:Inv X pins σ (upd H2 s2.heap.objs.size (.lst [])) { s2 with heap:=s2.heap.push { cls:=.type "list",data:=.seq ([]:List Value).toArray } }:=I2.T3 (its:=[]) (t':=s2.toks) .nil (fE _)
 generalize hD:s2.heap.objs.size=D at *
 generalize YD:({ s2 with heap:=s2.heap.push { cls:=.type "list",data:=.seq ([]:List Value).toArray } }:Shared)=s3 at *
 have ML:∀ b o,s2.heap.get? b=some o->s3.heap.get? b=some o:=fun b o e=>by rw[<- YD];exact fh _ e
 have sz3:s3.heap.objs.size=D+1:=by rw[<- YD,<- hD];exact Heap.size_push ..
 have f3:∀ b∈fp,x6 X pins (upd H2 D (.lst [])) b:=fun b hb=>by
  obtain⟨f0,fr⟩:=f2 b hb
  obtain⟨o,ho,_⟩:=T.obj _ _ sN b hb
  refine⟨?_,fr⟩
  rw[cv (fN (by rw[<- hD];exact eh ho))]
  exact f0
 have zv:Rm 0 s3.heap:=T.keep _ _ _ sN fun b hb o e=>ML b o e
 have lt3:∀ b∈fp,b<s3.heap.objs.size:=fun b hb=>by
  obtain⟨o,ho,_⟩:=T.obj _ _ zv b hb
  exact eh ho
 refine wpAny_newFunctionEnv O.er' (by intro y hy;simp at hy) (fun MH eu' ew'=>?_) O.kind
 have EW:∀ b o,s3.heap.get? b=some o->MH.get? b=some o:=fun b o e=>ew'.extBut b o (fN (eh e)) (fh _ e)
 -- the block's context
 have Rn:=yG (C:=s3.heap.objs.size) O I3 f3 lt3 (ck _)
 have I4:Inv (bf X scope s3.heap.objs.size (tn++cn) fp s3 (upd H2 D (.lst []))) [] (qj tn.length ix σ) (upd H2 D (.lst [])) { s3 with heap:=MH,toks:=s3.toks+([]:List (Str × Value)).length }:=by
  refine⟨Rn,rfl,I3.bare,Un.kept EW,⟨_,eu',fun i x v e1 e2 e3=>?_⟩,fun x c e=>?_,I3.bq.fresh (ck _),fun x c e=>I3.uk x c (sub x c e),fun p hp=>absurd hp (by simp[bf]),I3.bq.kept EW,?_⟩
  ·have iF:tn.length<=i:=by
    by_cases q:i<tn.length
    ·unfold qj at e2
     rw[KP (by simpa using q),List.getElem?_replicate] at e2
     simp[q] at e2
    ·lia
   unfold qj at e2
   rw[D1 (by simpa using iF),List.length_replicate,mr] at e2
   have e1:(tn++cn)[i]? = some x:=e1
   rw[D1 iF] at e1
   cases q:ix[i-tn.length]? with
   |none=>rw[q] at e2;cases e2
   |some j =>
    rw[q] at e2
    obtain⟨y,c1,c2,c3,c4,c5⟩:=O.cap _ _ q
    rw[c1] at e1;cases e1
    have e2:σ[j]?.join=some v:=Option.some.inj e2
    have ej:σ[j]? = some (some v):=by
     cases z:σ[j]? with
     |none=>rw[z] at e2;cases e2
     |some o=>rw[z] at e2;exact congrArg some e2
    obtain⟨m,hn,hl⟩:=I3.loc
    obtain⟨u,r,l⟩:=hl j x v c2 ej (c3.elim (fun z=>.inr (.inl z)) fun z=>.inr (.inr z))
    refine⟨u,r,.inr ⟨c5,?_⟩⟩
    rcases l with⟨hk,_⟩|⟨hk,c,QR,hce⟩
    ·have hk:X.env.scope.names.lookup x=some .local:=hk
     rcases c3 with z|z
     ·rw[z] at hk;cases hk
     ·rw[z] at hk;cases hk
    ·obtain⟨c',ED⟩:=lW (env:=X.env) (cs:=[]) (Or.inl c4)
     have:=sub x c' ED
     rw[QR] at this;cases this
     obtain⟨o,ho,hd⟩:=hce
     exact⟨c,ED,o,EW _ _ ho,hd⟩
  ·obtain⟨v,o,ho,hd⟩:=I3.cell x c (sub x c e)
   exact⟨v,o,EW _ _ ho,hd⟩
  ·show(qj tn.length ix σ).length=(tn++cn).length
   unfold qj
   simp[O.len]
 -- from the block back to the body
 have back:∀ {τ:St} {H':Hp} {s':Shared},Inv (bf X scope s3.heap.objs.size (tn++cn) fp s3 (upd H2 D (.lst []))) [] τ H' s'->Inv X pins σ H' s':=fun {τ H' s'} I' =>
  Inv.bk' (ch:=fp) I3 I'.os I'.base I'.bq I'.bare fun b hb=>by
   obtain⟨_,f1,_,f3',f4,f5⟩:=f3 b hb
   exact⟨f3',f1,f4,f5⟩
 have Ua:∀ {H':Hp},(∀ b∈fp,H' b=none)->∀ b∈fp,x6 (bf X scope s3.heap.objs.size (tn++cn) fp s3 (upd H2 D (.lst []))) [] H' b:=fun hn b hb =>
  ⟨hn b hb,(Rn.QN b hb).1,Rn.LX b hb,.inl hb,(Rn.QN b hb).2,fun p hp=>absurd hp (by simp[bf])⟩
 have loop:∀ s4:Shared,Inv (bf X scope s3.heap.objs.size (tn++cn) fp s3 (upd H2 D (.lst []))) [] (qj tn.length ix σ) (upd H2 D (.lst [])) s4->Rm 0 s4.heap ->
   codeAny (model X.prog X.w) X.A (.compLoop (.ListComp elt [⟨tg,iter,ifs,0⟩] scope pos) 0 (.ref it) (.ref D) (compEnvC scope (rp X.env scope.names []) s3.heap.objs.size X.env))
    (compPost (model X.prog X.w) X.A X.xe use P (.ref D) s3.heap.objs.size) s4:=by
  intro s4 I4 st4
  refine gW (fun n s'=>∃ i τ H',Inv (bf X scope s3.heap.objs.size (tn++cn) fp s3 (upd H2 D (.lst []))) [] τ H' s'/\Rm i s'.heap/\(∀ b∈fp,H' b=none)/\W i n τ H') (fun _ _=>False) ?_ (fun _ _ z=>z.elim) m0
   ⟨0,_,_,I4,st4,fun b hb=>(f3 b hb).1,w0⟩
  rintro n s5 ⟨i,τ,H5,I5,HV,Q0,w5⟩
  rcases turn i n τ H5 w5 with⟨stop,qn⟩|⟨go,N1,N2,hN1,MQ,step⟩
  ·refine cw (T.done (bf X scope s3.heap.objs.size (tn++cn) fp s3 (upd H2 D (.lst []))) rfl rfl rfl hc i [] s5 τ H5 (fun _ _=>False) I5 (Ua Q0) HV stop) fun r s6 cE=>?_
   obtain⟨hr,I6⟩:=cE
   subst hr
   have J6:=back I6
   obtain⟨m,hn,_⟩:=I6.loc
   exact fin _ D m H5 s6 _ J6 hn I6.free (I3.HM (b:=s3.heap.objs.size) (H':=H5) (ck _) I6.free) qn
  ·refine cw (T.item (bf X scope s3.heap.objs.size (tn++cn) fp s3 (upd H2 D (.lst []))) rfl rfl rfl hc i [] s5 τ H5 (fun _ _=>False) I5 (Ua Q0) HV go) fun r s6 cE=>?_
   obtain⟨u,hr,h6⟩:=cE
   subst hr
   refine cw h6 fun _ s7 cE=>?_
   obtain⟨x,H7,I7,r7,y7,Ub,fr7⟩:=cE
   have I7':=I7.pinned (Ua fr7) (T.obj _ _ Ub)
   refine cw (hg _ _ _ _ _ s7 τ H7 x u _ I7' r7 (step x H7 y7)) fun _ s8 cE=>?_
   obtain⟨IA,H8,I8,q8⟩:=cE
   refine cw (xa _ _ _ _ _ s8 IA H8 _ I8 q8) fun ok s9 cE=>?_
   obtain⟨H9,I9,q9⟩:=cE
   have again:∀ {s':Shared} {H':Hp} {m':Nat},Inv (bf X scope s3.heap.objs.size (tn++cn) fp s3 (upd H2 D (.lst []))) ([]++L3 fp s7.heap) IA H' s'->m'<n->W (i+1) m' IA H' ->
     ∃ m,m<n/\∃ i τ H',Inv (bf X scope s3.heap.objs.size (tn++cn) fp s3 (upd H2 D (.lst []))) [] τ H' s'/\Rm i s'.heap/\(∀ b∈fp,H' b=none)/\W i m τ H':=fun {s' H' m'} J hm w'=>by
    refine⟨m',hm,i+1,IA,H',J.QZ,T.keep _ _ _ Ub fun b hb o e=>(J.pin (b,o) (fw _ (fw _ (QY hb e)))).1,fun b hb=>?_,w'⟩
    obtain⟨o,e,d⟩:=T.obj _ _ Ub b hb
    exact(J.pin (b,o) (fw _ (fw _ (QY hb e)))).2.1
   cases ok with
   |false =>
    rw[if_neg hU] at q9 ⊢
    obtain⟨m',hm,w'⟩:=MQ _ _ q9
    exact again I9 hm w'
   |true =>
    rw[if_pos rfl] at q9 ⊢
    refine cw (he _ _ _ _ _ s9 IA H9 _ I9 q9) fun x9 s10 cK=>L2.gI cK fun v10 YF I10 Uc q10=>?_
    obtain⟨ys,m',hH,hz,hm,w'⟩:=hN1 _ _ _ q10
    refine cw (Rg _ s10 IA YF (.ref D) [v10] (.ref D) [x9] (fun _ H'=>H'=upd YF D (.lst (ys++[v10]))) I10 rfl (.cons Uc .nil) ⟨D,ys,v10,rfl,rfl,hH,hz,rfl⟩) fun _ s11 cK=>L2.gI cK fun _ H11 I11 _ q11=>?_
    subst q11
    exact again I11 hm w'
 exact codeAny_compStart_list (loop _ I4 (T.keep _ _ _ zv fun b hb o e=>EW b o e)) (T.self _ 0 _ _ _ (T.keep _ _ _ zv fun b hb o e=>EW b o e) (loop _ I4 (T.keep _ _ _ zv fun b hb o e=>EW b o e)))
theorem EY(hc:X.calm=true)(hi:PI X tg iter wi)(O:cL X scope tn cn ix)
  (hg:∀ C fp gS iq,PG (bf X scope C (tn++cn) fp gS iq) tg g) (xa:∀ C fp gS iq,zI (bf X scope C (tn++cn) fp gS iq) ifs tc) (he:∀ C fp gS iq,PE (bf X scope C (tn++cn) fp gS iq) elt te)
  (hs:∀ x,foldedSetIterable iter X.env x=pure x:=by intro _;rfl):PE X (.ListComp elt [⟨tg,iter,ifs,0⟩] scope pos) (Aw wi g tc te tn.length ix):=by
 intro pins s σ H Q I h
 rw[eval_ListComp]
 refine vU (use:=none) (P:=EP X pins σ Q) hc hi O hg xa he hs I h fun C D m H5 s6 r J6 hn hf ⟨_,g1,_,g3,g4,g5⟩ qn=>⟨m,hn,fun h' Ro=>⟨.ref D,H5,?_,rfl,qn⟩⟩
 exact J6.turned (t':=s6.toks) (fun b o hb e=>Ro.extBut b o hb e) hf g1 g3 g4 g5
theorem xq(hN:X.N.Nodup)(AZ:X.N[i]? = some x)(hx:Loc X.env.scope x)(hc:X.calm=true)(hi:PI X tg iter wi)(O:cL X scope tn cn ix)
  (hg:∀ C fp gS iq,PG (bf X scope C (tn++cn) fp gS iq) tg g) (xa:∀ C fp gS iq,zI (bf X scope C (tn++cn) fp gS iq) ifs tc) (he:∀ C fp gS iq,PE (bf X scope C (tn++cn) fp gS iq) elt te)
  (Ud:swapsWith (.ListComp elt [⟨tg,iter,ifs,0⟩] scope pos) (some (.Name x pos')) Rp.line X.env=pure true)
  (hs:∀ x,foldedSetIterable iter X.env x=pure x:=by intro _;rfl) (hf:X.fn x=true\/X.env.scope.names.lookup x=some .local:=by first|exact .inl rfl|exact .inr rfl|assumption) :
  PS X (.Assign [.Name x pos'] (.ListComp elt [⟨tg,iter,ifs,0⟩] scope pos) Rp) (Xz (Aw wi g tc te tn.length ix) (Tn i)):=by
 intro pins s σ H D0 I h
 rw[exec_Assign_Name_used _ _ _ _ Ud]
 refine ah (wpAny_standAt (ah ?_))
 show wpAny _ _ (do let _ <- comprehension (.ListComp elt [⟨tg,iter,ifs,0⟩] scope pos) scope X.env _ (newList []) false (eval iter X.env) (some (assign (.Name x pos') X.env))) _ _ s
 refine ah (oj (vU (use:=some (assign (.Name x pos') X.env)) (P:=fun _ s'=>SP X pins D0 .next s') hc hi O hg xa he hs I h fun C D m H5 s6 r J6 hn DB ⟨_,g1,_,g3,g4,g5⟩ qn=>?_) (fun _ s' hq=>aw (aw hq)) fun _ _ e=>e)
 refine(show wpAny _ _ (assign (.Name x pos') X.env (.ref D)) _ _ s6 from wpAny_assign_Name (Xm J6 hN AZ hx (v:=.ref D) rfl (fun s7 I7 cE=>?_) hf))
 obtain⟨a,sb,ha⟩:=cE
 have hCa:C≠a:=by
  rcases ha with rfl|ha
  ·exact g1
  ·exact Ne.symm (g4 _ a ha)
 refine⟨m,hn.sameBut sb hCa,fun h' Ro=>⟨_,H5,?_,qn⟩⟩
 exact I7.turned (t':=s7.toks) (fun b o hb e=>Ro.extBut b o hb e) DB g1 g3 g4 g5
end
def IB (a b:String):Bool:=a == b || (a == "bool" && b == "int")
def Ue (b:String):Bool:=["str", "int", "bool", "list", "tuple", "dict"].contains b
theorem jO (K:PySem.W.Frag) (a b:String) (ha:a∈["NoneType", "bool", "int", "str", "list", "tuple", "dict"]) (hb:b∈["str", "int", "bool", "list", "tuple", "dict"]):PySem.W.kitOne K (.type a) (.type b)=some (IB a b):=by
 simp only[dr,B4,or_false] at ha hb
 rcases ha with rfl|rfl|rfl|rfl|rfl|rfl|rfl<;>rcases hb with rfl|rfl|rfl|rfl|rfl|rfl<;>kernel_rfl
section
variable {X:Cx}
theorem da.imp(h:da X f r)(hi:∀ x y H Q,r' x y H Q->r x y H Q):da X f r' :=
 fun pins s σ H x y v u Q I rx ry q=>h pins s σ H x y v u Q I rx ry (hi x y H Q q)
def Kl(K:PySem.W.Frag):R2:=fun x y H Q=>∃ l b xs zs,x=.ref l/\y=.ref b/\eR K H l xs/\eR K H b zs/\xs.length+zs.length<=sizeLine/\∀ p,H p=none->Q (.ref p) (upd H p (.lst (xs++zs)))
theorem G5:da X (binaryOp .Add) (Kl X.K):=by
 intro pins s σ H x y v u Q I rx ry h
 obtain⟨l,b,xs,zs,rfl,rfl,hH,hB,hz,q⟩:=h
 cases rx
 cases ry
 obtain⟨its,r,pl,z⟩:=I.list hH
 obtain⟨AX,r2,pl2,z2⟩:=I.list hB
 have hl:=r.length
 have sP:=r2.length
 obtain⟨⟨cls,dd,data,sl⟩,ho,hc,n,hd⟩:=id pl.isList
 obtain⟨⟨TK,n4,data2,rg⟩,nS,ya,n2,hd2⟩:=id pl2.isList
 simp only at hc hd ya hd2
 subst hc hd ya hd2
 have ea:its.toArray++AX.toArray=(its++AX).toArray:=by simp
 refine concat_meets ⟨_,ho,rfl⟩ ⟨_,nS,rfl⟩ noFill_list_add seq_list_add PySem.F.slot_list_add PySem.F.entry_list_add (PySem.F.args_list_add_2 _ _) (list_addW l b its.toArray AX.toArray n n2 dd n4 sl rg (by simp only[h9];lia)) ⟨ho,nS,?_⟩
 rw[ea]
 exact⟨.ref _,_,I.T3 (t':=s.toks) (r.append r2) (by rw[kF];lia),rfl,q _ I.fresh⟩
def Ds(K:PySem.W.Frag):R2:=fun x y H Q=>match x,y with
 |.int i,.int j=>Q (.int (i+j)) H
 |.str i,.str j=>i.length+j.length<=sizeLine/\Q (.str (i++j)) H
 |.ref a,.ref b=>∃ xs zs,eR K H a xs/\eR K H b zs/\xs.length+zs.length<=sizeLine/\∀ p,H p=none->Q (.ref p) (upd H p (.lst (xs++zs)))
 |_,_=>False
theorem Hh:da X (binaryOp .Add) (Ds X.K):=by
 refine(ci'.or (cE'.or G5)).imp fun x y H Q h=>?_
 unfold Ds at h
 split at h
 ·exact .inl ⟨_,_,rfl,rfl,h⟩
 ·exact .inr (.inl ⟨_,_,rfl,rfl,h.1,h.2⟩)
 ·obtain⟨xs,zs,h1,h2,h3,h4⟩:=h
  exact .inr (.inr ⟨_,_,xs,zs,rfl,rfl,h1,h2,h3,h4⟩)
 ·exact h.elim
def Gm:R2:=fun x y H Q=>match x,y with
 |.int i,.int j=>Q (.int (i-j)) H
 |_,_=>False
theorem Hu:da X (binaryOp .Sub) Gm:=cj'.imp fun x y H Q h=>by
 unfold Gm at h
 split at h
 ·exact⟨_,_,rfl,rfl,h⟩
 ·exact h.elim
def Ff:R2:=fun x y H Q=>match x,y with
 |.int i,.int j=>EH i j/\Q (.int (i*j)) H
 |_,_=>False
theorem Hy:da X (binaryOp .Mult) Ff:=ck'.imp fun x y H Q h=>by
 unfold Ff at h
 split at h
 ·exact⟨_,_,rfl,rfl,h.1,h.2⟩
 ·exact h.elim
def Hw:R2:=fun x y H Q=>match x,y with
 |.int i,.int j=>(0<j/\j<1073741824)/\Q (.int (i / j)) H
 |_,_=>False
theorem Hr:da X (binaryOp .FloorDiv) Hw:=cl'.imp fun x y H Q h=>by
 unfold Hw at h
 split at h
 ·exact⟨_,_,rfl,rfl,h.1,h.2⟩
 ·exact h.elim
def Gd:R2:=fun x y H Q=>match x,y with
 |.int i,.int j=>0<j/\Q (.int (i % j)) H
 |_,_=>False
theorem GK:da X (binaryOp .Mod) Gd:=cm'.imp fun x y H Q h=>by
 unfold Gd at h
 split at h
 ·exact⟨_,_,rfl,rfl,h.1,h.2⟩
 ·exact h.elim
def oB(x y:Str):Bool:=decide (x.cps.toList<y.cps.toList)
def Ug:R2:=fun x y H Q=>match x,y with
 |.int i,.int j=>Q (.bl (decide (i<j))) H
 |.str i,.str j=>Q (.bl (oB i j)) H
 |_,_=>False
theorem DN:da X (compareOp .Lt) Ug:=(cu'.or cx').imp fun x y H Q h=>by
 unfold Ug at h
 split at h
 ·exact .inl ⟨_,_,rfl,rfl,h⟩
 ·exact .inr ⟨_,_,rfl,rfl,h⟩
 ·exact h.elim
theorem zF:da X (compareOp .LtE) (fun x y H Q=>∃ i j,x=.str i/\y=.str j/\Q (.bl (!oB j i)) H):=by
 intro pins s σ H x y v u Q I rx ry h
 obtain⟨i,j,rfl,rfl,q⟩:=h
 obtain⟨t,rfl⟩:=rx
 obtain⟨t',rfl⟩:=ry
 exact PySem.P.le_str ⟨.bl _,H,I,rfl,q⟩
def Uh:R2:=fun x y H Q=>match x,y with
 |.int i,.int j=>Q (.bl (decide (i<=j))) H
 |.str i,.str j=>Q (.bl (!oB j i)) H
 |_,_=>False
theorem Be:da X (compareOp .LtE) Uh:=(cv'.or zF).imp fun x y H Q h=>by
 unfold Uh at h
 split at h
 ·exact .inl ⟨_,_,rfl,rfl,h⟩
 ·exact .inr ⟨_,_,rfl,rfl,h⟩
 ·exact h.elim
def Ui:R2:=fun x y H Q=>match x,y with
 |.int i,.int j=>Q (.bl (decide (j<i))) H
 |_,_=>False
theorem zQ:da X (compareOp .Gt) Ui:=cw'.imp fun x y H Q h=>by
 unfold Ui at h
 split at h
 ·exact⟨_,_,rfl,rfl,h⟩
 ·exact h.elim
theorem Inv.rd(I:Inv X pins σ H s)(e:Rd H a u):fo X.prog X.w H s.heap a u:=e.elim (I.bq a _) fun⟨o,e⟩=>(show fo X.prog X.w H s.heap a (.eC o u) from I.bq a _ e).2
def Rq(K:PySem.W.Frag):List V->Hp->VK->Prop:=fun xs H Q=>match xs with
 |[.str y]=>y.length<=sizeLine/\Q (.int y.length) H
 |[.ref p]=>(∃ ys,eR K H p ys/\Q (.int ys.length) H)\/(∃ ys,kL K H p ys/\Q (.int ys.length) H)\/∃ kvs,Rd H p (.dK kvs)/\Q (.int kvs.length) H
 |_=>False
theorem zA:kM X (.builtin "len") (Rq X.K):=by
 intro pins s σ H xs us Q I r h
 unfold Rq at h
 split at h
 ·exact Tx pins s σ H _ us Q I r ⟨_,_,rfl,⟨h.1,rfl⟩,h.2⟩
 ·rcases h with⟨ys,h1,h2⟩|⟨ys,h1,h2⟩|⟨kvs,h1,h2⟩
  ·exact Tx pins s σ H _ us Q I r ⟨_,_,rfl,.inl ⟨ys,h1,rfl⟩,h2⟩
  ·exact Tx pins s σ H _ us Q I r ⟨_,_,rfl,.inr ⟨ys,h1,rfl⟩,h2⟩
  ·obtain⟨u,rfl,ru⟩:=vals1 r
   cases ru
   exact dR' I h1 fun t s' I'=>⟨.int kvs.length,H,I',⟨t,rfl⟩,h2⟩
 ·exact h.elim
def Rr(K:PySem.W.Frag):R2:=fun x y H Q=>match x,y with
 |.ref p,.int i=>(∃ xs v,eR K H p xs/\ft xs i=some v/\Q v H)\/∃ xs v,kL K H p xs/\ft xs i=some v/\Q v H
 |.str z,.int i=>z.length<=sizeLine/\∃ c,ft z.cps.toList i=some c/\Q (.str ⟨#[c]⟩) H
 |_,_=>False
theorem DG:vi X (Rr X.K):=by
 intro value slice pins s σ H x y v u Q I rx ry h hs
 refine ds' value slice pins s σ H x y v u Q I rx ry ?_ hs
 unfold Rr at h
 split at h
 ·rcases h with⟨xs,w,h1,h2,h3⟩|⟨xs,w,h1,h2,h3⟩
  ·exact .inl ⟨_,xs,_,w,rfl,rfl,h1,h2,h3⟩
  ·exact .inr (.inl ⟨_,xs,_,w,rfl,rfl,h1,h2,h3⟩)
 ·obtain⟨h1,c,h2,h3⟩:=h
  exact .inr (.inr ⟨_,_,c,rfl,rfl,h1,h2,h3⟩)
 ·exact h.elim
def rq(z:Str)(lo hi:Option Int):Str:=⟨((z.cps.toList.drop (HT.bP z.length 0 lo)).take (HT.bP z.length z.length hi-HT.bP z.length 0 lo)).toArray⟩
end
theorem Bj(l:List Nat)(lo hi:Option Int)(h:((l.drop (HT.bP l.length 0 lo)).take (HT.bP l.length l.length hi-HT.bP l.length 0 lo)).length=l.length) :
  (l.drop (HT.bP l.length 0 lo)).take (HT.bP l.length l.length hi-HT.bP l.length 0 lo)=l:=by
 generalize HT.bP l.length 0 lo=a at *
 generalize HT.bP l.length l.length hi=b at *
 by_cases hl:l.length=0
 ·have:l=[]:=GA.mp hl
  subst this;simp
 ·rw[qS,B3] at h
  have h1:a=0:=by lia
  subst h1
  rw[List.drop_zero]
  exact List.take_of_length_le (by lia)
theorem zT(lo hi:Option Int)(n:Nat):Builtin.Str.strSliceIndices lo hi 1 n=(List.range (HT.bP n n hi-HT.bP n 0 lo)).map (HT.bP n 0 lo + ·):=by
 unfold Builtin.Str.strSliceIndices
 have e1:(match lo with|none=>(0:Int)|some i=>max 0 (min (if i<0 then i+n else i) n))=((HT.bP n 0 lo:Nat):Int):=by
  cases lo with
  |none=>simp[HT.bP]
  |some i =>
   simp only[HT.bP]
   by_cases h:i<0
   ·simp only[h,if_true]<;>lia
   ·simp only[h,if_false]<;>lia
 have e2:(match hi with|none=>(n:Int)|some i=>max 0 (min (if i<0 then i+n else i) n))=((HT.bP n n hi:Nat):Int):=by
  cases hi with
  |none=>simp[HT.bP]
  |some i =>
   simp only[HT.bP]
   by_cases h:i<0
   ·simp only[h,if_true]<;>lia
   ·simp only[h,if_false]<;>lia
 rw[<- sliceRange_one,<- e1,<- e2]
 simp only[show(1:Int)>0 by decide,if_true]
 cases lo<;>cases hi<;>rfl
section
variable {X:Cx}
theorem part_of(h:IsPart v o):∃ p:Option (Int × Tok),v=partValue p/\p.map (·.1)=o:=by
 cases h with
 |none=>exact⟨none,rfl,rfl⟩
 |int i t=>exact⟨some (i,t),rfl,rfl⟩
def Uj(K:PySem.W.Frag):V->Option Int->Option Int->Hp->VK->Prop:=fun x lo hi H Q=>match x with
 |.str z=>z.length<=sizeLine/\Q (.str (rq z lo hi)) H
 |.ref a=>∃ xs,eR K H a xs/\∀ p,H p=none->Q (.ref p) (upd H p (.lst (AW xs lo hi)))
 |_=>False
theorem JX:H0 X (fun x lo hi H Q=>∃ z,x=.str z/\z.length<=sizeLine/\Q (.str (rq z lo hi)) H):=by
 intro pins s σ H x v vl vu lo hi sl Q I rx hs pl pu h
 obtain⟨z,rfl,hz,q⟩:=h
 obtain⟨t,rfl⟩:=rx
 obtain⟨p1,rfl,e1⟩:=part_of pl
 obtain⟨p2,rfl,e2⟩:=part_of pu
 refine⟨"str",_,F.slot_str_getitem.lookup,typeIs_str s z t,wpAny_getItem_str_slice (l:=p1) (u:=p2) (st:=none) hs rfl ?_⟩
 have hl:z.cps.toList.length=z.length:=by simp[Str.length]
 have ep:slicePicked z p1 p2 none=(List.range (HT.bP z.length z.length hi-HT.bP z.length 0 lo)).map (HT.bP z.length 0 lo + ·):=by
  unfold slicePicked
  rw[e1,e2]
  exact zT lo hi z.length
 have ef:(slicePicked z p1 p2 none).filterMap (z.cps[·]?)=(z.cps.toList.drop (HT.bP z.length 0 lo)).take (HT.bP z.length z.length hi-HT.bP z.length 0 lo):=by
  rw[ep];exact pick_run z.cps _ _
 unfold sliceMade
 split
 ·rename_i hc
  have hw:(slicePicked z p1 p2 none).length=z.length:=by simpa using hc
  have:rq z lo hi=z:=by
   unfold rq
   have e3:((z.cps.toList.drop (HT.bP z.cps.toList.length 0 lo)).take (HT.bP z.cps.toList.length z.cps.toList.length hi-HT.bP z.cps.toList.length 0 lo)).length=z.cps.toList.length:=by
    rw[hl,qS,B3,hl]
    rw[ep,bS,S2] at hw
    have h0:HT.bP z.length 0 lo<=z.length:=by
     cases lo with
     |none=>simp[HT.bP]
     |some i=>simp only[HT.bP];split<;>lia
    have h1:HT.bP z.length z.length hi<=z.length:=by
     cases hi with
     |none=>simp[HT.bP]
     |some i=>simp only[HT.bP];split<;>lia
    lia
   have:=Bj z.cps.toList lo hi e3
   rw[hl] at this
   rw[this]
  rw[this] at q
  exact⟨.str z,H,I,⟨t,rfl⟩,q⟩
 ·rw[ef]
  exact⟨by
   show(rq z lo hi).length<=sizeLine
   unfold rq Str.length
   simp only[h9,qS,B3,hl]
   have:z.cps.toList.length=z.length:=hl
   lia,⟨.str (rq z lo hi),H,I.tok _,⟨_,rfl⟩,q⟩⟩
theorem Ia:H0 X (Uj X.K):=by
 intro pins s σ H x v vl vu lo hi sl Q I rx hs pl pu h
 unfold Uj at h
 split at h
 ·exact JX pins s σ H _ v vl vu lo hi sl Q I rx hs pl pu ⟨_,rfl,h.1,h.2⟩
 ·obtain⟨xs,h1,h2⟩:=h
  exact dw' pins s σ H _ v vl vu lo hi sl Q I rx hs pl pu ⟨_,xs,rfl,h1,h2⟩
 ·exact h.elim
def MR(z:Str):It:=⟨fun i _=>i<z.cps.size,fun i H x H'=>H'=H/\∃ c,z.cps[i]? = some c/\x=.str ⟨#[c]⟩,fun i _=>z.cps.size<=i⟩
theorem wY {P:Program} {K:PySem.W.Frag} (Ic:ty = "str_ascii_iterator"\/ty = "str_iterator") :
  Turn P w K tg (MR z) [it] it (fun i h=>h.IsStrIter it ty z t i/\i<=z.cps.size) where
 mem:=by simp
 obj:=fun i h st b hb=>by
  have e:b=it:=by simpa using hb
  subst e
  obtain⟨⟨o,e,c,d⟩,_⟩:=st
  exact⟨o,e,fun v z=>by rw[d] at z;cases z⟩
 keep:=fun i h h' st k=>let ⟨⟨o,e,c,d⟩,l⟩:=st;⟨⟨o,k it (by simp) o e,c,d⟩,l⟩
 item:=by
  intro X hP hw hK hc i pins s σ H E I hf st hg
  subst hP hw hK
  obtain⟨f0,f1,f2,f3,f4,f5⟩:=hf it (by simp)
  obtain⟨st,_⟩:=st
  have hg:i<z.cps.size:=hg
  have W:Walks X.prog X.w X.A it [it] [it] z.cps.size (SignAt z) (fun i h=>h.IsStrIter it ty z t i):=by
   rcases Ic with rfl|rfl
   ·exact Walks.strAscii (I.ok.hd hc) it z t
   ·exact Walks.strWide (I.ok.hd hc) it z t
  refine W.item i s _ _ hg st fun v h' tk hv aS kk=>?_
  obtain⟨c,u,ec,rfl⟩:=hv
  have I1:Inv X pins σ H { s with heap:=h',toks:=tk }:=I.turned (fun b o hb e=>kk b o (by simpa using hb) e) f0 f1 f3 f4 f5
  obtain⟨o,e,c',d⟩:=id aS
  exact⟨_,rfl,L1 (s:={ s with heap:=h',toks:=tk }) e c' d (by rcases Ic with rfl|rfl<;>decide) ⟨.str ⟨#[c]⟩,H,I1,⟨u,rfl⟩,⟨rfl,c,ec,rfl⟩,⟨aS,hg⟩,fun b hb=>(hf b hb).1⟩⟩
 done:=by
  intro X hP hw hK hc i pins s σ H E I hf st hg
  subst hP hw hK
  obtain⟨f0,f1,f2,f3,f4,f5⟩:=hf it (by simp)
  obtain⟨st,hle⟩:=st
  have hg:z.cps.size<=i:=hg
  have e:i=z.cps.size:=Nat.le_antisymm hle hg
  subst e
  have W:Walks X.prog X.w X.A it [it] [it] z.cps.size (SignAt z) (fun i h=>h.IsStrIter it ty z t i):=by
   rcases Ic with rfl|rfl
   ·exact Walks.strAscii (I.ok.hd hc) it z t
   ·exact Walks.strWide (I.ok.hd hc) it z t
  exact W.done s _ _ st fun h' tk kk=>⟨rfl,I.turned (fun b o hb e=>kk b o (by simpa using hb) e) f0 f1 f3 f4 f5⟩
 self:=fun A i s Q E st h=>by
  rcases Ic with rfl|rfl
  ·exact wpAny_pyIter_striter_ascii st.1 h
  ·exact wpAny_pyIter_striter_wide st.1 h
theorem JL(hl:PE X l tl):PI X tg l (fun σ H R=>tl σ H fun x H1=>∃ z,x=.str z/\R (MR z) H1):=by
 intro pins s σ H R I h
 refine cw (hl pins s σ H _ I h) fun v s1 cK=>L2.gI cK fun x H1 I1 r1 q1=>?_
 obtain⟨z,rfl,q⟩:=q1
 obtain⟨t,rfl⟩:=r1
 have fp:∀ b∈[s1.heap.objs.size],x6 X pins H1 b:=fun b hb=>by
  have e:b=s1.heap.objs.size:=by simpa using hb
  subst e
  exact I1.HM (ck _) (I1.bq.fresh (ck _))
 cases ha:z.cps.all (· < 128)
 ·exact wpAny_pyIter_wide ha ⟨s1.heap.objs.size,[s1.heap.objs.size],_,_,H1,rfl,I1.kept (t':=s1.toks) fun b o e=>fh _ e,wY (.inr rfl),⟨⟨_,iX _ rfl,rfl,rfl⟩,fE _⟩,fp,q⟩
 ·exact wpAny_pyIter_ascii ha ⟨s1.heap.objs.size,[s1.heap.objs.size],_,_,H1,rfl,I1.kept (t':=s1.toks) fun b o e=>fh _ e,wY (.inl rfl),⟨⟨_,iX _ rfl,rfl,rfl⟩,fE _⟩,fp,q⟩
end
structure jZ(J:It)(its:List V)(cond:Hp->Prop):Prop where
 go:∀ i H,cond H->i<its.length->J.go i H
 ll:∀ i H x H',cond H->i<its.length->J.ll i H x H'->H'=H/\its[i]? = some x
 stop:∀ H,cond H->J.stop its.length H
def Rt(z:Str):List V:=z.cps.toList.map fun c=>.str ⟨#[c]⟩
theorem Eu(z:Str):jZ (MR z) (Rt z) (fun _=>True) where
 go:=fun i H _ h=>by simpa[Rt,MR] using h
 ll:=fun i H x H' _ _ h=>by
  obtain⟨rfl,c,e,rfl⟩:=h
  refine⟨rfl,?_⟩
  unfold Rt
  rw[mr,oq,e]
  rfl
 stop:=fun H _=>by simp[Rt,MR]
theorem Cm(K:PySem.W.Frag)(a:Addr)(xs:List V):jZ (QX K a) xs (fun H=>eR K H a xs) where
 go:=fun i H h hi=>⟨xs,xs[i],h,by simp[hi]⟩
 ll:=fun i H x H' h _ y=>⟨y.1,y.2 xs h⟩
 stop:=fun H h=>⟨xs,h,ck _⟩
theorem E_(K:PySem.W.Frag)(a:Addr)(xs:List V):jZ (Tq K a) xs (fun H=>kL K H a xs) where
 go:=fun i H h hi=>⟨xs,xs[i],h,by simp[hi]⟩
 ll:=fun i H x H' h _ y=>⟨y.1,y.2 xs h⟩
 stop:=fun H h=>⟨xs,h,ck _⟩
def yC(lo:Int)(n:Nat):List V:=(List.range n).map fun i=>.int (lo+(i:Nat))
theorem G3(lo:Int)(n:Nat):jZ (HP lo n) (yC lo n) (fun _=>True) where
 go:=fun i H _ h=>by simpa[yC,HP] using h
 ll:=fun i H x H' _ hi h=>by
  have hi:i<n:=by simpa[yC] using hi
  obtain⟨rfl,rfl⟩:=h
  refine⟨rfl,?_⟩
  simp[yC,hi]
 stop:=fun H _=>by simp[yC,HP]
def Ru(J:It)(g:TG)(tb:TS)(D:Ends)(σ:St)(H:Hp):Prop :=
 ∃ W:Nat->Nat->St->Hp->Prop,(∃ m,W 0 m σ H)/\∀ i m σ H,W i m σ H ->
   (J.stop i H/\D.nx σ H)\/(J.go i H/\∃ N:St->Hp->Prop,(∀ bE H',N bE H'->∃ m',m'<m/\W (i+1) m' bE H')/\∀ x H',J.ll i H x H'->g x σ H' fun jv H2=>tb { D with nx:=N,ct:=N,bk:=D.nx } jv H2)
theorem zM(wi:TI)(g:TG)(tb:TS)(D:Ends)(σ:St)(H:Hp):XF wi g tb D σ H=wi σ H fun J H1=>Ru J g tb D σ H1:=rfl
def K4(J:It)(g:TG)(tc:TT)(te:TE)(τ0:St)(H1:Hp)(D:Addr)(Q:VK):Prop :=
 ∃ W:Nat->Nat->St->Hp->Prop,(∃ m,W 0 m τ0 (upd H1 D (.lst [])))/\∀ i m τ H,W i m τ H ->
  (J.stop i H/\Q (.ref D) H)\/(J.go i H/\∃ (N1:St->V->Hp->Prop) (N2:St->Hp->Prop),
   (∀ mz v H4,N1 mz v H4->∃ ys m',H4 D=some (.lst ys)/\ys.length<sizeLine/\m'<m/\W (i+1) m' mz (upd H4 D (.lst (ys++[v])))) /\
   (∀ mz H3,N2 mz H3->∃ m',m'<m/\W (i+1) m' mz H3) /\
   ∀ x H',J.ll i H x H'->g x τ H' fun mz H2=>tc mz H2 fun b H3=>if b=true then te mz H3 (N1 mz) else N2 mz H3)
theorem Cd(wi:TI)(g:TG)(tc:TT)(te:TE)(tn:Nat)(ix:List Nat)(σ:St)(H:Hp)(Q:VK):Aw wi g tc te tn ix σ H Q=wi σ H fun J H1=>∀ D,H1 D=none->K4 J g tc te (qj tn ix σ) H1 D Q:=rfl
mutual
inductive Rep(K:PySem.W.Frag)(H:Hp):PyData->V->Prop
 |none:Rep K H .none .non
 |bool (b:Bool):Rep K H (.bool b) (.bl b)
 |int (i:Int):Rep K H (.int i) (.int i)
 |str (x:Str):Rep K H (.str x) (.str x)
 |list {a:Addr} {vs:List V} {ds:List PyData}:eR K H a vs->aI K H ds vs->Rep K H (.list ds) (.ref a)
 |tuple {a:Addr} {vs:List V} {ds:List PyData}:kL K H a vs->aI K H ds vs->Rep K H (.tuple ds) (.ref a)
inductive aI(K:PySem.W.Frag)(H:Hp):List PyData->List V->Prop
 |nil:aI K H [] []
 |cons {d:PyData} {v:V} {ds:List PyData} {vs:List V}:Rep K H d v->aI K H ds vs->aI K H (d :: ds) (v :: vs)
end
section
variable {X:Cx}{pins:List (Addr × Obj)}{σ:St}{H:Hp}{s:Shared}
mutual
theorem Rep.reads(I:Inv X pins σ H s):∀ {d:PyData} {v:V} {u:Value},Rep X.K H d v->RelV v u->∃ as,Reads s.heap u d as
 |_,_,_,.none,r=>by cases (show _=Value.none from r);exact⟨_,.none⟩
 |_,_,_,.bool b,r=>by cases (show _=Value.bool b from r);exact⟨_,.bool b⟩
 |_,_,_,.int i,r=>by obtain⟨t,e⟩:=r;subst e;exact⟨_,.int i t⟩
 |_,_,_,.str x,r=>by obtain⟨t,e⟩:=r;subst e;exact⟨_,.str x t⟩
 |_,_,_,.list h hs,r=>by
  cases r
  obtain⟨its,rv,pl,_⟩:=I.list h
  obtain⟨o,e,c,n,d⟩:=pl.isList
  obtain⟨as,q⟩:=aI.reads I hs rv
  exact⟨_,.list e c d q⟩
 |_,_,_,.tuple h hs,r=>by
  cases r
  obtain⟨its,rv,⟨o,e,c,n,d⟩,_⟩:=I.tuple h
  obtain⟨as,q⟩:=aI.reads I hs rv
  exact⟨_,.tuple e c d q⟩
theorem aI.reads(I:Inv X pins σ H s):∀ {ds:List PyData} {vs:List V} {us:List Value},aI X.K H ds vs->Vals vs us->∃ as,ReadsAll s.heap us ds as
 |_,_,_,.nil,.nil=>⟨_,.nil⟩
 |_,_,_,.cons h hs,.cons r rs=>by
  obtain⟨as,q⟩:=Rep.reads I h r
  obtain⟨bs,q'⟩:=aI.reads I hs rs
  exact⟨_,.cons q q'⟩
end
def Uk(K:PySem.W.Frag):R2:=fun x y H Q=>∃ d e,Rep K H d x/\Rep K H e y/\d.canLay0=true/\e.canLay0=true/\d.depth<=60/\Q (.bl (PyData.eqv d e)) H
def Ul(K:PySem.W.Frag):R2:=fun x y H Q=>∃ d e,Rep K H d x/\Rep K H e y/\d.canLay0=true/\e.canLay0=true/\d.depth<=60/\Q (.bl (!PyData.eqv d e)) H
theorem Ik(hu:X.A.units+64<cLine):da X (compareOp .Eq) (Uk X.K):=by
 intro pins s σ H x y v u Q I rx ry h
 obtain⟨d,e,h1,h2,h3,h4,h5,q⟩:=h
 obtain⟨as,r1⟩:=h1.reads I rx
 obtain⟨bs,r2⟩:=h2.reads I ry
 exact PySem.SeqAt.rcAt_reads r1 r2 h3 h4 (by lia) X.prog X.w X.xe _ ⟨.bl _,H,I,rfl,q⟩
theorem Iu(hu:X.A.units+64<cLine):da X (compareOp .NotEq) (Ul X.K):=by
 intro pins s σ H x y v u Q I rx ry h
 obtain⟨d,e,h1,h2,h3,h4,h5,q⟩:=h
 obtain⟨as,r1⟩:=h1.reads I rx
 obtain⟨bs,r2⟩:=h2.reads I ry
 exact PySem.SeqAt.rcNeAt_reads r1 r2 h3 h4 (by lia) X.prog X.w X.xe _ ⟨.bl _,H,I,rfl,q⟩
def Rv(K:PySem.W.Frag):R2:=fun x y H Q=>match x,y with
 |.int i,.int j=>Q (.bl (decide (i=j))) H
 |.str i,.str j=>Q (.bl (decide (i=j))) H
 |.bl i,.bl j=>Q (.bl (decide (i=j))) H
 |_,_=>Uk K x y H Q
theorem Jq(hu:X.A.units+64<cLine):da X (compareOp .Eq) (Rv X.K):=(cr'.or (Ik hu)).imp fun x y H Q h=>by
 unfold Rv at h
 split at h
 ·refine .inl ⟨rfl,?_⟩;simpa using h
 ·refine .inl ⟨rfl,?_⟩;simpa using h
 ·refine .inl ⟨rfl,?_⟩;simpa using h
 ·exact .inr h
def Rw(K:PySem.W.Frag):R2:=fun x y H Q=>match x,y with
 |.int i,.int j=>Q (.bl (!decide (i=j))) H
 |.str i,.str j=>Q (.bl (!decide (i=j))) H
 |.bl i,.bl j=>Q (.bl (!decide (i=j))) H
 |_,_=>Ul K x y H Q
theorem Jc(hu:X.A.units+64<cLine):da X (compareOp .NotEq) (Rw X.K):=(ct'.or (Iu hu)).imp fun x y H Q h=>by
 unfold Rw at h
 split at h
 ·refine .inl ⟨rfl,?_⟩;simpa using h
 ·refine .inl ⟨rfl,?_⟩;simpa using h
 ·refine .inl ⟨rfl,?_⟩;simpa using h
 ·exact .inr h
def Rx(K:PySem.W.Frag):List V->Hp->VK->Prop:=fun xs H Q=>match xs with
 |[.ref a]=>∃ bs:List Bool,eR K H a (bs.map V.bl)/\Q (.bl (bs.all id)) H
 |_=>False
theorem yN (hc:X.calm=true):kM X (.builtin "all") (Rx X.K):=by
 intro pins s σ H xs us Q I r h
 unfold Rx at h
 split at h
 ·rename_i a
  obtain⟨bs,e,q⟩:=h
  obtain⟨u,rfl,ru⟩:=Vals.one r
  cases ru
  obtain⟨its,rv,pl,hz⟩:=I.list e
  have hl:s.heap.IsList a its.toArray:=pl.isList
  obtain⟨o,ho,HK,n,rL⟩:=id hl
  have hlen:=rv.length
  rw[bS] at hlen
  refine call_all_walk (wpAny_pyIter_list hl ?_)
  have gV:a≠s.heap.objs.size:=fN (eh ho)
  have A2:X.A.in1.handled=none:=I.ok.hd hc
  refine⟨s.heap.objs.size,_,_,_,_,_,fun i=>bs.getD i true,rfl,Walks.list A2 s.heap.objs.size a gV its.toArray,⟨⟨_,iX _ rfl,rfl,rfl⟩,⟨_,fh _ ho,HK,n,rL⟩⟩,?_,fun h' tk hk=>?_⟩
  ·intro i v s' Q' E' hv hq
   have hv:its.toArray[i]? = some v:=hv
   have oC:its[i]? = some v:=by simpa using hv
   have hi:i<bs.length:=by
    have:=(iS.mp oC).1
    lia
   obtain⟨w',e1,r1⟩:=rv.get (i:=i) (x:=V.bl bs[i]) (by simp[hi])
   rw[oC] at e1
   cases e1
   cases (show v=Value.bool bs[i] from r1)
   have e2:bs.getD i true=bs[i]:=by simp[List.getD,hi]
   have hq:Q' (bs.getD i true) s':=hq
   rw[e2] at hq
   exact wpAny_truthy_bool hq
  ·have e3:((List.range its.toArray.size).all fun i=>bs.getD i true)=bs.all id:=by
    rw[h9,<- hlen]
    apply sF.mpr
    simp only[GH,mI,id]
    constructor
    ·intro h b hb
     obtain⟨i,hi,rfl⟩:=Qp.mp hb
     have:=h i hi
     simpa[List.getD,hi] using this
    ·intro h i hi
     have:=h bs[i] (AI hi)
     simpa[List.getD,hi] using this
   rw[e3]
   refine⟨.bl (bs.all id),H,?_,rfl,q⟩
   exact I.kept (t':=tk) fun b o e=>hk b o (by simp;exact fN (eh e)) (fh _ e)
 ·exact h.elim
end
end L2
namespace L2
open PySem PySem.Spec PyProof.Rows
def MS(sc:Scope)(names:List (Str × NameKind)):List (Str × NameKind):=names.map fun y=>if (y.2 == NameKind.free && sc.kind == .function && sc.names.lookup y.1 == some .cell)=true then (y.1,NameKind.cell) else (y.1,y.2)
def MV(o:Option NameKind):Bool:=o == some .cell || o == some .free
def JH(sc scope:Scope)(N cn:List Str)(ix:List Nat):Bool :=
 scope.kind == .function && scope.names.all (fun y=>y.2 != .cell) && scope.names.all (fun y=>y.2 != .free || MV (sc.names.lookup y.1)) && scope.names.all (fun y=>y.2 != .local || scope.names.lookup y.1 == some .local) &&
 ix.length == cn.length && (List.range ix.length).all (fun k=>match ix[k]?,cn[k]? with
  |some j,some y=>N[j]? == some y && MV (sc.names.lookup y) && scope.names.contains (y,NameKind.free) && MV ((MS sc scope.names).lookup y)
  |_,_=>false) &&
 (MS sc scope.names).all (fun y=>!(y.2 == .cell || y.2 == .free) || scope.names.contains (y.1,NameKind.free))
theorem vz(h:MV o=true):o=some .cell\/o=some .free:=by
 unfold MV at h
 simpa using h
theorem cL.of{X:Cx}(rS:X.env.scope=sc)(hN:X.N=N)(h:JH sc scope N cn ix=true):cL X scope tn cn ix:=by
 unfold JH at h
 simp only[kK] at h
 obtain⟨⟨⟨⟨⟨⟨h1,h2⟩,h3⟩,h4⟩,h5⟩,h6⟩,h7⟩:=h
 rw[GH] at h2 h3 h4 h6 h7
 have YG:(relabel scope X.env).names=MS sc scope.names:=by
  unfold relabel MS
  rw[<- rS]
  rfl
 refine⟨by simpa using h1,fun y hy=>by simpa using h2 y hy,fun y hy hk=>?_,fun y hy hk=>?_,by simpa using h5,fun k j hk=>?_,fun x hx=>?_⟩
 ·have:=h3 y hy
  rw[hk] at this
  rw[rS]
  exact vz (by simpa using this)
 ·have:=h4 y hy
  rw[hk] at this
  simpa using this
 ·have kb:k<ix.length:=(iS.mp hk).1
  have:=h6 k (mI.mpr kb)
  rw[hk] at this
  cases e:cn[k]? with
  |none=>rw[e] at this;cases this
  |some y =>
   rw[e] at this
   simp only[kK] at this
   obtain⟨⟨⟨a1,a2⟩,a3⟩,a4⟩:=this
   refine⟨y,rfl,by rw[hN];simpa using a1,by rw[rS];exact vz a2,by simpa using a3,by rw[YG];exact vz a4⟩
 ·rw[YG] at hx
  have mem:∃ k,(x,k)∈MS sc scope.names/\(k=.cell\/k=.free):=by
   rcases hx with hx|hx
   ·exact⟨_,PySem.mem_of_lookup hx,.inl rfl⟩
   ·exact⟨_,PySem.mem_of_lookup hx,.inr rfl⟩
  obtain⟨k,hm,hk⟩:=mem
  have:=h7 _ hm
  rcases hk with rfl|rfl<;>simpa using this
structure cy(P:Program)(w:World)(K:PySem.W.Frag)(mg:Str->Option Value)(base:Heap)(k:Nat)(x:Str)(ps:List Str)(sp:Sp):Prop where
 ex:∃ (g:Addr) (fd:FuncData),mg x=some (.ref g)/\PySem.W.keepIn K (.ref g)=true/\Binds K fd ps []/\fz P w K mg base fF k g fd ps sp
section
variable {X:Cx}{k:Nat}{x:Str}{ps:List Str}{sp:Sp}{p pos:Pos}{e:Expr}{es:List Expr}{t:TA}
theorem HS (C:cy X.prog X.w X.K X.mg X.base k x ps sp) (hr:mN k X.A) (ha:PA X (e :: es) t) (hg:Gl X x:=by rfl) (ve:(x == ("__debug__" : Str))=false:=by decide) (he:starEach (e :: es) X.env=(false,eval e X.env) :: starEach es X.env:=by rfl)
  (pV:(backTo pos (starEach es X.env)).any (·.1)=false:=by rfl):PE X (.Call (.Name x p) (e :: es) [] pos) (TH sp [] E0 t):=by
 obtain⟨g,fd,hm,hk,hb,F⟩:=C.ex
 exact cM' F hr hg hm hk hb .nil el' ha ve he pV
end
theorem fT.i5{P:Program}{K:PySem.W.Frag}{st:Stmt}{ps:List Str}(F:fT K x qual st f fd)(hm:mg x=some (.ref f))
  (G:fz P w K mg base fF k f fd ps sp)
  (h:∀ (kV doc pm:Value) (an:Option Addr) (dk ct:Value) (us:List Value),us.length=ps.length->bindArgs (PySem.W.fnOf x qual (gx st) (fS st) (cf st) .none kV doc pm an dk ct) ⟨us,[]⟩=pure (ps.zip us)):cy P w K mg base k x ps sp :=
 ⟨f,fd,hm,F.kp,F.binds h,G⟩
def Um(mg:Str->Option Value)(x:Str)(z:Str):Prop:=∃ t,mg x=some (.str z t)
def IC(mg:Str->Option Value)(x:Str)(i:Int):Prop:=∃ t,mg x=some (.int i t)
theorem K1 {X:Cx} (h:Um X.mg x z) (hg:Gl X x:=by rfl) (hd:(x == ("__debug__" : Str))=false:=by decide):PE X (.Name x pos) (tC (.str z)):=by
 obtain⟨t,e⟩:=h
 exact Xv hg e ⟨t,rfl⟩ hd
theorem KJ {X:Cx} (h:IC X.mg x i) (hg:Gl X x:=by rfl) (hd:(x == ("__debug__" : Str))=false:=by decide):PE X (.Name x pos) (tC (.int i)):=by
 obtain⟨t,e⟩:=h
 exact Xv hg e ⟨t,rfl⟩ hd
theorem Jf:bootBuiltins "str" = some (.type "str"):=by decide +kernel
theorem uR:bootBuiltins "list" = some (.type "list"):=by decide +kernel
theorem qO:bootBuiltins "isinstance" = some (.builtin "isinstance"):=by decide +kernel
theorem HR:bootBuiltins "all" = some (.builtin "all"):=by decide +kernel
theorem g8:bootBuiltins "len" = some (.builtin "len"):=by decide +kernel
theorem Kh {X:Cx} {T:String} (hm:X.mg x=none) (hv:bootBuiltins x=some (.type T)) (hg:Gl X x:=by rfl) (hn:x ≠ "__name__" := by decide) (hd:(x == ("__debug__" : Str))=false:=by decide):PE X (.Name x pos) (tC (.ty T)) :=
 bp' hg hm hv rfl hn hd
def zS(i j:Str):Bool:=!(Builtin.Str.occurrences j i 0 j.length 1).isEmpty
theorem Gq(c:Nat)(j:Str):zS ⟨#[c]⟩ j=decide (c∈j.cps.toList):=PySem.StrLaws.found_one j c
def EX(K:PySem.W.Frag)(neg:Bool):R2:=fun x y H Q=>match x,y with
 |.str i,.str j=>Q (.bl (if neg then !zS i j else zS i j)) H
 |_,.ref p=>(∃ o,kP H p x o/\Q (.bl (if neg then !o.isSome else o.isSome)) H)\/My K neg x y H Q
 |_,_=>False
theorem Jy{X:Cx}(hu:X.A.units+64<cLine):da X (compareOp .In) (EX X.K false):=by
 intro pins s σ H x y v u Q I rx ry h
 unfold EX at h
 split at h
 ·exact cy' pins s σ H _ _ v u Q I rx ry ⟨_,_,rfl,rfl,h⟩
 ·rcases h with⟨o,g,q⟩|h
  ·cases ry
   exact dN' (by lia) I g rx fun s3 I3=>⟨.bl o.isSome,H,I3,rfl,q⟩
  ·exact dy' pins s σ H _ _ v u Q I rx ry h
 ·exact h.elim
theorem Bm{X:Cx}(hu:X.A.units+64<cLine):da X (compareOp .NotIn) (EX X.K true):=by
 intro pins s σ H x y v u Q I rx ry h
 unfold EX at h
 split at h
 ·exact cA' pins s σ H _ _ v u Q I rx ry ⟨_,_,rfl,rfl,h⟩
 ·rcases h with⟨o,g,q⟩|h
  ·cases ry
   exact dO' (by lia) I g rx fun s3 I3=>⟨.bl (!o.isSome),H,I3,rfl,q⟩
  ·exact dz' pins s σ H _ _ v u Q I rx ry h
 ·exact h.elim
theorem ax.upd(h:ax H H')(hp:H' p=none):ax H (upd H' p o):=fun b u e=>by
 have e':=h b u e
 rw[cv (HC e' hp)]
 exact e'
theorem ax.lst{K:PySem.W.Frag}(e:ax H H')(h:eR K H a xs):eR K H' a xs:=e.seq h
theorem ax.tup{K:PySem.W.Frag}(e:ax H H')(h:kL K H a xs):kL K H' a xs:=by
 rcases h with(h|⟨o,h⟩)|h
 ·exact .inl (.inl (e _ _ h))
 ·exact .inl (.inr ⟨o,e _ _ h⟩)
 ·exact .inr h
mutual
theorem Rep.same{K:PySem.W.Frag}(s:ax H H'):∀ {d:PyData} {v:V},Rep K H d v->Rep K H' d v
 |_,_,.none=>.none
 |_,_,.bool b=>.bool b
 |_,_,.int i=>.int i
 |_,_,.str x=>.str x
 |_,_,.list h hs=>.list (s.lst h) (aI.same s hs)
 |_,_,.tuple h hs=>.tuple (s.tup h) (aI.same s hs)
theorem aI.same{K:PySem.W.Frag}(s:ax H H'):∀ {ds:List PyData} {vs:List V},aI K H ds vs->aI K H' ds vs
 |_,_,.nil=>.nil
 |_,_,.cons h hs=>.cons (Rep.same s h) (aI.same s hs)
end
section
variable {X:Cx}{K:PySem.W.Frag}
theorem kIx(hK:X.K=K:=by rfl):vi X (Rr K):=by subst hK;exact DG
theorem EZ(hu:X.A.units+64<cLine)(hK:X.K=K:=by rfl):da X (compareOp .Eq) (Rv K):=by subst hK;exact Jq hu
theorem YH(hu:X.A.units+64<cLine)(hK:X.K=K:=by rfl):da X (compareOp .NotEq) (Rw K):=by subst hK;exact Jc hu
theorem kA(hu:X.A.units+64<cLine)(hK:X.K=K:=by rfl):da X (compareOp .In) (EX K false):=by subst hK;exact Jy hu
theorem zW(hu:X.A.units+64<cLine)(hK:X.K=K:=by rfl):da X (compareOp .NotIn) (EX K true):=by subst hK;exact Bm hu
theorem eM' (hc:X.calm=true:=by rfl) (hK:X.K=K:=by rfl):kM X (.builtin "all") (Rx K):=by subst hK;exact yN hc
end
theorem Ou{α:Type}{a:α}{p:α->Prop}:(∃ v,a=v/\p v)↔p a:=⟨fun⟨_,e,h⟩=>e ▸ h,fun h=>⟨a,rfl,h⟩⟩
end L2
namespace L2
open PySem PySem.Spec PyProof.Rows
abbrev MX:=Array DictEntry
def qa(h:Heap)(d:Addr)(es:MX)(ep:Nat):Prop:=∃ o,h.get? d=some o/\o.ExactDict/\o.data=.dict es ep
theorem qa.typ {s:Shared} {d:Addr} {es:MX} {ep:Nat} (x:qa s.heap d es ep):s.TypeIs (.ref d) "dict" := let ⟨o,e,c,_⟩:=x;⟨o,e,c.1⟩
section
variable {prog:Program}{w:World}{A:Around}{E:Value->Shared->Prop}{s:Shared}{d it:Addr}{es:MX}{ep i:Nat}
theorem wN{Q:Value->Shared->Prop}(lo:(d == sysModules)=false)(x:qa s.heap d es ep)
  (q:Q (.ref s.heap.objs.size) { s with heap:=s.heap.push { cls:=.type "dict_keyiterator",data:=.fields #[.ref d,.int 0 0,.int es.size 0,.int ep 0] } }):wpAny (model prog w) A (pyIter (.ref d)) Q E s:=by
 obtain⟨o,ho,hc,DC⟩:=id x
 refine wpAny_pyIter_slot x.typ F.slot_dict_iter (wpAny_call_entry F.slot_dict_iter x.typ F.entry_dict_iter ?_ (F.args_dict_iter_1 _))
 unfold Builtin.«dict.__iter__»
 refine ah ?_
 unfold Builtin.Dict.dictSlotNone
 refine ah (wpAny_notOrdered_dict x.typ ?_)
 refine(show wpAny _ _ (pure (Value.ref d)) _ _ s from aw ?_)
 refine(show wpAny _ _ (Builtin.Dict.showsAll d >>= _) _ _ s from ?_)
 unfold Builtin.Dict.showsAll
 rw[if_neg (by rw[lo];decide)]
 refine ah (aw (ah (wpAny_dictEntries ho DC (ah (wpAny_dictEpoch ho DC (ah (wpAny_newObj_type (aw ⟨_,rfl, "dict_keyiterator",_,⟨_,iX _ rfl,rfl⟩,F.slot_dict_keyiterator_next.lookup,?_⟩))))))))
 simpa[rawInt] using q
theorem vL(hit:s.heap.IsKeyIter it d i es.size ep)(x:qa s.heap d es ep)(hx:i<es.size)
  (q:∀ h',h'.IsKeyIter it d (i+1) es.size ep->Heap.SameBut it s.heap h'->Q (some es[i].key) { s with heap:=h' }):wpAny (model prog w) A (pyNext (.ref it)) Q E s:=by
 obtain⟨o,ho,hc,hd⟩:=id hit
 obtain⟨od,rL,ot,xk⟩:=id x
 have ty:=hit.typeIs
 unfold pyNext
 refine ah (wpAny_attempt (wpAny_callSpecial?_slot (name:=Str.ofString "__next__") ty F.slot_dict_keyiterator_next (wpAny_call_entry F.slot_dict_keyiterator_next ty F.entry_dict_keyiterator_next ?_ (F.args_dict_keyiterator_next_1 _))))
 refine ah (aw (ah (ah ?_)))
 first|refine ah (wpAny_typeNameOfWhole_keyiter ty (aw ?_))|refine ah (wpAny_typeNameOf_keyiter ty (aw ?_))
 refine ah (wpAny_fieldsOf ho hd ?_)
 simp only[show Builtin.Dict_items.ownsTuple "dict_keyiterator" = false by decide,kH,if_false]
 refine(show wpAny _ _ (if (Value.ref d == Value.none)=true then _ else _) _ _ s from ?_)
 rw[if_neg (show ¬ ((Value.ref d == Value.none)=true) by intro h;cases h)]
 refine ah (aw (ah (wpAny_dictEntries rL xk ?_)))
 rw[if_neg (by intro h;simp at h)]
 refine ah (aw (ah (wpAny_dictEpoch rL xk ?_)))
 rw[if_neg (by intro h;simp at h)]
 refine aw ?_
 simp only[show ¬ ((i:Int)<0) by lia,if_false,G0,wo hx]
 refine ah ?_
 first|refine ah (wpAny_typeNameOfWhole_keyiter ty (aw ?_))|refine ah (wpAny_typeNameOf_keyiter ty (aw ?_))
 refine ah (wpAny_isOneOf_keyiter ty ?_)
 refine(show wpAny _ _ (setField (.ref it) 1 (rawInt ((i:Int)+1)) >>= _) _ _ s from ah (wpAny_setField ho hd (by simp) ?_))
 have YJ:(s.heap.update it (Obj.mapFields (·.setIfInBounds 1 (rawInt ((i:Int)+1))))).IsKeyIter it d (i+1) es.size ep :=
  ⟨_,y9 _ ho (Obj.isFreed_of_fields (Obj.data_mapFields hd _)),(Obj.cls_mapFields ..).trans hc,by rw[Obj.data_mapFields hd];simp[rawInt]⟩
 refine ah (wpAny_holding (ah (wpAny_isOneOf_keyiter (s:={ s with heap:=s.heap.update it (Obj.mapFields (·.setIfInBounds 1 (rawInt ((i:Int)+1)))) }) YJ.typeIs ?_)))
 refine(show wpAny _ _ (pure es[i].key) _ _ _ from aw (aw ⟨_,rfl,aw (q _ YJ (Heap.SameBut.update ..))⟩))
theorem vK(hh:A.handled=none)(hit:s.heap.IsKeyIter it d es.size es.size ep)(x:qa s.heap d es ep)(q:∀ h',Heap.ExtBut it s.heap h'->Q none { s with heap:=h' }) :
  wpAny (model prog w) A (pyNext (.ref it)) Q E s:=by
 obtain⟨o,ho,hc,hd⟩:=id hit
 obtain⟨od,rL,ot,xk⟩:=id x
 have ty:=hit.typeIs
 unfold pyNext
 refine ah (wpAny_attempt (wpAny_callSpecial?_slot (name:=Str.ofString "__next__") ty F.slot_dict_keyiterator_next (wpAny_call_entry F.slot_dict_keyiterator_next ty F.entry_dict_keyiterator_next ?_ (F.args_dict_keyiterator_next_1 _))))
 refine ah (aw (ah (ah ?_)))
 first|refine ah (wpAny_typeNameOfWhole_keyiter ty (aw ?_))|refine ah (wpAny_typeNameOf_keyiter ty (aw ?_))
 refine ah (wpAny_fieldsOf ho hd ?_)
 simp only[show Builtin.Dict_items.ownsTuple "dict_keyiterator" = false by decide,kH,if_false]
 refine(show wpAny _ _ (if (Value.ref d == Value.none)=true then _ else _) _ _ s from ?_)
 rw[if_neg (show ¬ ((Value.ref d == Value.none)=true) by intro h;cases h)]
 refine ah (aw (ah (wpAny_dictEntries rL xk ?_)))
 rw[if_neg (by intro h;simp at h)]
 refine ah (aw (ah (wpAny_dictEpoch rL xk ?_)))
 rw[if_neg (by intro h;simp at h)]
 refine aw ?_
 simp only[show ¬ ((es.size:Int)<0) by lia,if_false,G0,GY (ck es.size)]
 refine ah ?_
 first|refine ah (wpAny_typeNameOfWhole_keyiter ty (aw ?_))|refine ah (wpAny_typeNameOf_keyiter ty (aw ?_))
 refine(show wpAny _ _ (setField (.ref it) 0 .none >>= _) _ _ s from ah (wpAny_setField ho hd (by simp) ?_))
 refine(show wpAny _ _ (newExc (.type "StopIteration") [] >>= _) _ _ _ from ah ?_)
 simp only[newExc,newTuple]
 refine ah (wpAny_newObj_type ?_ (by size_fits))
 refine ah (m:=firstArgMember _ _) (wpAny_of_eq (a:=Value.none) (by first|rfl|(simp only[firstArgMember];rfl)) (wpAny_newObj_type ?_ (by size_fits)))
 simp only[raiseNew]
 refine ah (wpAny_handled ?_)
 rw[show A.in1.handled=none from hh]
 refine ah (aw (wpAny_throw ?_))
 refine ah (wpAny_isInstance (b:=true) (T := "StopIteration") ⟨_,iX _ rfl,rfl⟩ isSubtype_stop ?_)
 exact aw (q _ (((Heap.SameBut.update ..).extBut.push _).push _))
theorem qa.at(x:qa h d es ep)(e:∀ o,h.get? d=some o->h'.get? d=some o):qa h' d es ep:=let ⟨o,ho,r⟩:=x;⟨o,e o ho,r⟩
theorem qa.lt(x:qa h d es ep):d<h.objs.size:=let ⟨_,e,_⟩:=x;eh e
theorem zJ(hh:A.handled=none)(I:Addr)(gV:d≠I):Walks prog w A I [I,d] [I] es.size (fun i v=>∃ e,es[i]? = some e/\v=e.key) (fun i h=>h.IsKeyIter I d i es.size ep/\qa h d es ep) where
 sub:=fun b hb=>by simp at hb;simp[hb]
 frame:=fun _ _ _ st hk=>⟨st.1.at fun o e=>hk I (by simp) o e,st.2.at fun o e=>hk d (by simp) o e⟩
 item:=fun i s Q E hi st hQ=>vL st.1 st.2 hi fun h' a b=>hQ _ h' s.toks ⟨es[i],by simp[hi],rfl⟩ ⟨a,st.2.at fun o e=>b.extBut d o gV e⟩ fun c o hb e=>b.extBut c o (fun h=>hb (by simp[h])) e
 done:=fun s Q E st hQ=>vK hh st.1 st.2 fun h' IE=>hQ h' s.toks fun b o hb e=>IE b o (fun h=>hb (by simp[h])) e
 self:=fun _ _ _ _ st hQ=>wpAny_pyIter_keyiter st.1 hQ
theorem FZ (lo:(d == sysModules)=false):PySem.W.KdlSrc prog w "dict" d d es.size (fun i v=>∃ e,es[i]? = some e/\v=e.key) (fun h=>qa h d es ep) where
 type:=fun _ x=>x.typ
 there:=fun _ x=>⟨x.lt,x.lt⟩
 keep:=fun _ _ x hk=>x.at fun o e=>hk d (.inl rfl) o e
 notList:=by decide
 notTuple:=by decide
 hint:=fun _ _ _ _ x hq=>PySem.W.kdl_hint_dict x.typ hq
 iter:=fun _ _ hh x=>⟨_,_,(fun _ _ hq=>wN lo x hq),zJ hh _ (fN x.lt),⟨⟨_,iX _ rfl,rfl,rfl⟩,x.at fun o e=>fh _ e⟩⟩
end
theorem Paired.n0{α β:Type}{R:α->β->Prop}{bs:List β}(h:Paired R [] bs):bs=[]:=by cases h;rfl
theorem Paired.c{α β:Type}{R:α->β->Prop}{a:α}{as:List α}{bs:List β}(h:Paired R (a :: as) bs):∃ b cs,bs=b :: cs/\R a b/\Paired R as cs:=by
 cases h with
 |cons r t=>exact⟨_,_,rfl,r,t⟩
def cG(H:Hp)(ys:List V)(ks:List (List Key)):Prop:=Paired (fun(v:V) (k:List Key)=>∃ b,v=.ref b/\H b=some (.tup (k.map kV))) ys ks
section
variable {X:Cx}
def wQ:List V->Hp->VK->Prop:=fun xs H Q=>match xs with
 |[.ref p]=>∃ kvs,Rd H p (.dT kvs)/\∀ ys l,cG H ys (kvs.map (·.1))->H l=none->Q (.ref l) (upd H l (.lst ys))
 |_=>False
theorem yQ
  (h:Paired (fun(p:List Key × V) (q:List Key × Addr × Value)=>p.1=q.1/\H q.2.1=some (.tup (p.1.map kV))/\RelV p.2 q.2.2) kvs xs) :
  cG H (xs.map fun q=>.ref q.2.1) (kvs.map (·.1))/\Vals (xs.map fun q=>.ref q.2.1) ((xs.map (entryOfKey (tupleKind (ka prog w)))).map (·.key)):=by
 induction h with
 |nil=>exact⟨.nil,.nil⟩
 |cons r t ih=>exact⟨.cons ⟨_,rfl,r.2.1⟩ ih.1,.cons rfl ih.2⟩
theorem xV (hc:X.calm=true):kM X (.type "list") wQ:=by
 intro pins s σ H xs us Q I r h
 unfold wQ at h
 split at h
 ·rename_i p
  obtain⟨kvs,e,q⟩:=h
  obtain⟨u,rfl,ru⟩:=Vals.one r
  cases ru
  obtain⟨z,y,ps,rel,o,es,ep,h1,h2,h3,h4,h5⟩:=(show fo X.prog X.w H s.heap p (.dT kvs) from I.rd e)
  obtain⟨ta,va⟩:=yQ (prog:=X.prog) (w:=X.w) rel
  have hlen:es.size=kvs.length:=by
   have:=congrArg List.length h4
   rw[tT,bS] at this
   rw[this];exact rel.length.symm
  refine PySem.W.kdl_call (FZ (es:=es) (ep:=ep) y) (I.ok.hd hc) ⟨o,h1,h2,h3⟩ (by lia) fun h' tk acc c kp eo MY=>?_
  have hv:acc.toList=(ps.map (entryOfKey (tupleKind (ka X.prog X.w)))).map (·.key):=by
   apply D2
   intro i
   by_cases hi:i<es.size
   ·have z0:i<acc.size:=by rw[MY.1];exact hi
    obtain⟨en,e1,e2⟩:=MY.2 i acc[i] (by simp[z0])
    rw[<- h4,mr,oq,oq,e1]
    simp[z0,e2]
   ·rw[<- h4,mr,oq,oq,GY (by rw[MY.1];lia),GY (by lia)]
    rfl
  refine⟨.ref s.heap.objs.size,_,I.laid (t':=tk) kp (ck _) (show fo X.prog X.w _ h' _ (.lst (ps.map fun q=>.ref q.2.1)) from⟨?_,acc.toList,c,?_,?_⟩),rfl,q _ _ ta (I.bq.fresh (ck _))⟩
  ·rw[bS,<- rel.length];exact z
  ·rw[hv];exact va
  ·rw[S6];exact eo
 ·exact h.elim
end
end L2
namespace xl
open PySem PyProof.Rows
def R(r:Value->Int)(xs:Array Keyed)(i:Nat):Int:=match xs[i]? with
 |some p=>r p.1
 |none=>0
theorem mR(h:xs[i]? = ys[j]?):R r xs i=R r ys j:=by unfold R;rw[h]
def rV(prog:Program)(w:World)(A:Around)(s:Shared)(κ:SortKind)(r:Value->Int)(P:Value->Prop):Prop :=
 ∀ x y,P x->P y->∀ (Q:Bool->Shared->Prop) (E:Value->Shared->Prop),Q (decide (r x<r y)) s->wpAny (model prog w) A (keyLt' κ x y) Q E s
def AllP(P:Value->Prop)(xs:Array Keyed):Prop:=∀ p∈xs.toList,P p.1
theorem AllP.perm{P:Value->Prop}(h:AllP P xs)(hp:ys.Perm xs):AllP P ys:=fun p hm=>h p ((Array.perm_iff_toList_perm.mp hp).mem_iff.mp hm)
theorem AllP.at{P:Value->Prop}{xs:Array Keyed}(h:AllP P xs){i:Nat}{p:Keyed}(e:xs[i]? = some p):P p.1:=h p (by
 obtain⟨hi,rfl⟩:=QB.mp e
 simp)
structure lI(lo hi:Nat)(st aS:SortSt):Prop where
 kind:kindOf aS=kindOf st
 failed:failedOf aS=failedOf st
 pend:pendingOf aS=pendingOf st
 perm:(arrOf aS).Perm (arrOf st)
 out:∀ k,k<lo\/hi<=k->(arrOf aS)[k]? = (arrOf st)[k]?
theorem lI.refl(lo hi:Nat)(st:SortSt):lI lo hi st st:=⟨rfl,rfl,rfl,Array.Perm.refl _,fun _ _=>rfl⟩
theorem lI.trans{lo hi:Nat}{a b c:SortSt}(h:lI lo hi a b)(g:lI lo hi b c):lI lo hi a c :=
 ⟨g.kind.trans h.kind,g.failed.trans h.failed,g.pend.trans h.pend,g.perm.trans h.perm,fun k hk=>(g.out k hk).trans (h.out k hk)⟩
theorem lI.mono{lo hi YK iF:Nat}{a b:SortSt}(h:lI lo hi a b)(h1:YK<=lo)(h2:hi<=iF):lI YK iF a b :=
 ⟨h.kind,h.failed,h.pend,h.perm,fun k hk=>h.out k (by lia)⟩
theorem lI.size{lo hi:Nat}{a b:SortSt}(h:lI lo hi a b):(arrOf b).size=(arrOf a).size:=h.perm.size_eq
def Up(r:Value->Int)(xs:Array Keyed)(lo hi:Nat):Prop:=∀ i j,lo<=i->i<=j->j<hi->R r xs i<=R r xs j
def Down(r:Value->Int)(xs:Array Keyed)(lo hi:Nat):Prop:=∀ i j,lo<=i->i<=j->j<hi->R r xs j<=R r xs i
theorem vV(hs:src<xs.size)(hd:d<=src)(k:Nat) :
  R r (bubble xs src d) k=if k=src-d then R r xs src else if src-d<k/\k<=src then R r xs (k-1) else R r xs k:=by
 have e:=getElem?_bubble hs d hd k
 by_cases h1:k=src-d
 ·rw[if_pos h1] at e ⊢;exact mR e
 ·rw[if_neg h1] at e ⊢
  by_cases h2:src-d<k/\k<=src
  ·rw[if_pos h2] at e ⊢;exact mR e
  ·rw[if_neg h2] at e ⊢;exact mR e
theorem qX(hj:j<=xs.size)(k:Nat) :
  R r (mirror xs i j ((j-i) / 2)) k=if i<=k/\k<j then R r xs (i+j-1-k) else R r xs k:=by
 have e:=getElem?_mirror_all (i:=i) hj k
 by_cases h1:i<=k/\k<j
 ·rw[if_pos h1] at e ⊢;exact mR e
 ·rw[if_neg h1] at e ⊢;exact mR e
theorem cj(hj:j<=xs.size)(heq:∀ k,i<=k->k<j->R r xs k=R r xs (j-1))(k:Nat) :
  R r (mirror xs i j ((j-i) / 2)) k=R r xs k:=by
 rw[qX hj]
 split
 ·rw[heq _ (by lia) (by lia),heq k (by lia) (by lia)]
 ·rfl
section
variable {prog:Program}{w:World}{A:Around}{E:Value->Shared->Prop}{s:Shared}{κ:SortKind}{r:Value->Int}{P:Value->Prop}
theorem JF{st:SortSt}{x y:Keyed}{Q:Option Bool->SortSt->Prop}(C:rV prog w A s κ r P)(hk:kindOf st=κ)(hx:P x.1)(hy:P y.1)(h:Q (some (decide (r x.1<r y.1))) st) :
  wpS (model prog w) A E s (lt' x y) Q st:=by
 rw[lt'_eq]
 refine wpS_bind (wpS_get ?_)
 rw[hk]
 refine wpS_bind (wpS_lift (wpAny_attempt (C x.1 y.1 hx hy _ _ ⟨rfl,?_⟩)))
 exact wpS_pure h
theorem v_{xs:Array Keyed}{i:Nat}{Q:Keyed->SortSt->Prop}{st:SortSt}(hi:i<xs.size)(h:∀ p,xs[i]? = some p->Q p st):wpS (model prog w) A E s (elem' xs i) Q st:=by
 rw[elem'_eq,getElem?_pos xs i hi]
 exact wpS_pure (h _ (getElem?_pos xs i hi))
theorem mq{st:SortSt}{i j:Nat}{Q:Option Bool->SortSt->Prop}(C:rV prog w A s κ r P)(hk:kindOf st=κ)(hP:AllP P (arrOf st))(hi:i<(arrOf st).size)(hj:j<(arrOf st).size)
  (h:Q (some (decide (R r (arrOf st) i<R r (arrOf st) j))) st):wpS (model prog w) A E s (ltAt' i j) Q st:=by
 rw[ltAt'_eq]
 refine wpS_bind (wpS_get ?_)
 show wpS _ _ _ _ (do let x <- elem' (arrOf st) i;let y <- elem' (arrOf st) j;lt' x y) Q st
 refine wpS_bind (v_ hi fun p ep=>wpS_bind (v_ hj fun q eq=>JF C hk (hP.at ep) (hP.at eq) ?_))
 have e1:R r (arrOf st) i=r p.1:=by unfold R;rw[ep]
 have e2:R r (arrOf st) j=r q.1:=by unfold R;rw[eq]
 rw[<- e1,<- e2]
 exact h
theorem dZ{st:SortSt}{i j:Nat}{Q:Unit->SortSt->Prop}(h:Q () (setArr st (mirror (arrOf st) i j ((j-i) / 2)))) :
  wpS (model prog w) A E s (reverseSlice' i j) Q st:=by
 rw[reverseSlice'_eq];exact wpS_modify h
theorem gU{st:SortSt}{i j:Nat}(hj:j<=(arrOf st).size):lI i j st (setArr st (mirror (arrOf st) i j ((j-i) / 2))) :=
 ⟨rfl,rfl,rfl,mirror_perm _ _ _ _,fun k hk=>by
  have e:=getElem?_mirror_all (i:=i) hj k
  rw[if_neg (by lia)] at e
  exact e⟩
theorem yl{st:SortSt}{lo src d:Nat}(hs:src<(arrOf st).size)(hd:lo+d<=src):lI lo (src+1) st (setArr st (bubble (arrOf st) src d)) :=
 ⟨rfl,rfl,rfl,bubble_perm _ _ _,fun k hk=>by
  have e:=getElem?_bubble hs d (by walk_at "s4") k
  rw[if_neg (by lia),if_neg (by lia)] at e
  exact e⟩
theorem wpS_binarySort{st:SortSt}{lo n ok:Nat}{Q:Bool->SortSt->Prop}(C:rV prog w A s κ r P)(hk:kindOf st=κ)(hP:AllP P (arrOf st))(hn:lo+n<=(arrOf st).size)(bq:ok<=n)(hs:Up r (arrOf st) lo (lo+ok))
  (h:∀ aS,lI lo (lo+n) st aS->Up r (arrOf aS) lo (lo+n)->Q true aS):wpS (model prog w) A E s (binarySort' lo n ok) Q st:=by
 rw[binarySort'_eq]
 refine wpS_bind (wpS_mono (wpS_forRange (I:=fun k c aS=>c=(none,())/\lI lo (lo+n) st aS/\Up r (arrOf aS) lo (lo+min k n))
  (Q:=fun c aS=>c=(none,())/\lI lo (lo+n) st aS/\Up r (arrOf aS) lo (lo+n)) ?step ?fin ?init) ?post)
 case post =>
  rintro c aS ⟨rfl,i6,fA⟩
  exact wpS_pure (h aS i6 fA)
 case init =>
  refine⟨rfl,.refl _ _ _,fun i j hl kB hj=>?_⟩
  by_cases h1:ok=0
  ·have:i=j:=by lia
   subst this;exact ua _
  ·exact hs i j hl kB (by lia)
 case fin =>
  rintro c aS ⟨hc,i6,fA⟩
  refine⟨hc,i6,?_⟩
  rwa[show min (max (max ok 1) n) n=n by lia] at fA
 case step =>
  rintro k c aS hak hkn ⟨rfl,i6,fA⟩
  rw[show min k n=k by lia] at fA
  have hsz:=i6.size
  have kb:kindOf aS=κ:=i6.kind.trans hk
  have E1:=hP.perm i6.perm
  refine wpS_bind (wpS_mono (wpS_forRange (I:=fun x c yb=>yb=aS/\∃ l r',c=(none,l,r')/\l<=r'/\r'<=k/\r'-l<=k-x /\
    (∀ i,lo<=i->i<lo+l->R r (arrOf aS) i<=R r (arrOf aS) (lo+k))/\(∀ i,lo+r'<=i->i<lo+k->R r (arrOf aS) (lo+k)<R r (arrOf aS) i))
   (Q:=fun c yb=>yb=aS/\∃ l r',c=(none,l,r')/\l<=k /\
    (∀ i,lo<=i->i<lo+l->R r (arrOf aS) i<=R r (arrOf aS) (lo+k))/\(∀ i,lo+l<=i->i<lo+k->R r (arrOf aS) (lo+k)<R r (arrOf aS) i)) ?eN' ?eO' ?eP') ?eQ')
  case eP'=>exact⟨rfl,0,k,rfl,by exact fE _,by exact ck _,by exact Nat.sub_le _ _,fun i _ hi=>by lia,fun i h1 h2=>by lia⟩
  case eO' =>
   rintro c yb ⟨rfl,l,r',rfl,hlr,E2,hm,ER,IG⟩
   have:l=r':=by lia
   subst this
   exact⟨rfl,l,l,rfl,E2,ER,IG⟩
  case eN' =>
   rintro x c yb _ hxk ⟨rfl,l,r',rfl,hlr,E2,hm,ER,IG⟩
   dsimp only
   by_cases Uo:l >= r'
   ·rw[if_pos Uo]
    have:l=r':=by exact Nat.le_antisymm ‹_› ‹_›
    subst this
    exact wpS_pure ⟨rfl,l,l,rfl,E2,ER,IG⟩
   ·rw[if_neg Uo]
    refine wpS_bind (mq C kb E1 (by lia) (by lia) ?_)
    by_cases vv:R r (arrOf yb) (lo+k)<R r (arrOf yb) (lo+(l+r') / 2)
    ·simp only[vv,decide_true,if_true]
     refine wpS_pure ⟨rfl,l,(l+r') / 2,rfl,by lia,by lia,by lia,ER,fun i h1 h2=>?_⟩
     exact Int.lt_of_lt_of_le vv (fA _ _ (by exact Qw _ _) h1 h2)
    ·simp only[vv,decide_false,kH,if_false]
     refine wpS_pure ⟨rfl,(l+r') / 2+1,r',rfl,by lia,by lia,by lia,fun i h0 h1=>?_,IG⟩
     exact S8 (fA i (lo+(l+r') / 2) h0 (by lia) (by lia)) (Int.not_lt.mp vv)
  case eQ' =>
   rintro c yb ⟨rfl,l,r',rfl,hlk,ER,IG⟩
   show wpS _ _ _ _ (do moveDown' (lo+k) (lo+l);pure (ForInStep.yield (none,()))) _ _
   rw[moveDown'_eq]
   have yi:lo+k<(arrOf yb).size:=by lia
   refine wpS_bind (wpS_modify (wpS_pure ⟨rfl,i6.trans ((yl (lo:=lo) yi (by lia)).mono (ck _) (by lia)),?_⟩))
   rw[show min (k+1) n=k+1 by exact Nat.min_eq_left ‹_›]
   intro i j hl kB hj
   show R r (bubble (arrOf yb) (lo+k) (lo+k-(lo+l))) i<=R r (bubble (arrOf yb) (lo+k) (lo+k-(lo+l))) j
   rw[vV yi (by exact Nat.sub_le _ _),vV yi (by exact Nat.sub_le _ _),show lo+k-(lo+k-(lo+l))=lo+l by lia]
   repeat' split
   all_goals first
    | (exfalso;lia)
    |exact ua _
    |exact ER _ (by lia) (by lia)
    |exact He (IG _ (by lia) (by lia))
    |exact fA _ _ (by lia) (by lia) (by lia)
end
def ascL(lo a nrem:Nat):StateT SortSt Sem AscSt :=
 forIn [a:nrem] ((none,a):AscSt) fun _ __s=>do
  let __x ← ltAt' (lo + __s.snd) (lo + __s.snd - 1)
  match __x with
  |some smaller=>if smaller=true then pure (ForInStep.done (none,__s.snd)) else pure (ForInStep.yield (none,__s.snd+1))
  |_=>pure (ForInStep.done (some none,__s.snd))
def sV(lo n nrem:Nat):StateT SortSt Sem (Option Nat):=do
 reverseSlice' lo (lo+n)
 let __s ← ascL lo n nrem
 match __s.fst with
 |some r=>pure r
 |none=>pure (some __s.snd)
def Bx(lo n nrem:Nat):StateT SortSt Sem DescSt :=
 forIn [n:nrem] ((none,n,0):DescSt) fun _ __s=>do
  let __x ← ltAt' (lo + __s.snd.fst) (lo + __s.snd.fst - 1)
  match __x with
  |some smaller =>
   if smaller=true then
    if __s.snd.snd>0 then do
     reverseSlice' (lo+__s.snd.fst-(__s.snd.snd+1)) (lo+__s.snd.fst)
     pure (ForInStep.yield (none,__s.snd.fst+1,0))
    else pure (ForInStep.yield (none,__s.snd.fst+1,0))
   else do
    let __x ← ltAt' (lo+__s.snd.fst - 1) (lo+__s.snd.fst)
    match __x with
    |some larger =>
     if larger=true then pure (ForInStep.done (none,__s.snd.fst,__s.snd.snd))
     else pure (ForInStep.yield (none,__s.snd.fst+1,__s.snd.snd+1))
    |_=>pure (ForInStep.done (some none,__s.snd.fst,__s.snd.snd))
  |_=>pure (ForInStep.done (some none,__s.snd.fst,__s.snd.snd))
def gh(lo n nrem:Nat):StateT SortSt Sem (Option Nat):=do
 liftM (rule "list.sort.descending-run")
 let __s ← Bx lo (n+1) nrem
 match __s.fst with
 |some r=>pure r
 |none =>
  if __s.snd.snd>0 then do
   reverseSlice' (lo+__s.snd.fst-(__s.snd.snd+1)) (lo+__s.snd.fst)
   sV lo __s.snd.fst nrem
  else sV lo __s.snd.fst nrem
theorem sI(lo nrem:Nat):countRun' lo nrem=(do
  let __s ← ascL lo 1 nrem
  match __s.fst with
  |some r=>pure r
  |none =>
   if (__s.snd == nrem)=true then pure (some __s.snd)
   else if __s.snd>1 then do
    let __x ← ltAt' lo (lo+__s.snd - 1)
    match __x with
    |some YL=>if YL=true then pure (some __s.snd) else do
      reverseSlice' lo (lo+__s.snd)
      gh lo __s.snd nrem
    |_=>pure none
   else gh lo __s.snd nrem):=by
 rw[countRun'_eq]
 dsimp only
 unfold gh sV Bx ascL
 congr 1
 funext __s
 obtain⟨r,n⟩:=__s
 cases r with
 |some r=>rfl
 |none =>
  dsimp only
  split
  ·rfl
  ·split
   ·congr 1
    funext x
    cases x with
    |none=>rfl
    |some YL =>
     dsimp only
     split
     ·rfl
     ·congr 1
      funext _r
      (congr 1;funext _u;congr 1;congr 1;funext s2;obtain⟨r2,n2,q2⟩:=s2;cases r2 with
       |some r2=>rfl
       |none=>(dsimp only;split;(congr 1;funext _v;(congr 1;funext _w;congr 1;(funext s3;obtain⟨r3,n3⟩:=s3;cases r3<;>rfl)));(congr 1;funext _w;congr 1;(funext s3;obtain⟨r3,n3⟩:=s3;cases r3<;>rfl))))
   ·(congr 1;funext _u;congr 1;congr 1;funext s2;obtain⟨r2,n2,q2⟩:=s2;cases r2 with
     |some r2=>rfl
     |none=>(dsimp only;split;(congr 1;funext _v;(congr 1;funext _w;congr 1;(funext s3;obtain⟨r3,n3⟩:=s3;cases r3<;>rfl)));(congr 1;funext _w;congr 1;(funext s3;obtain⟨r3,n3⟩:=s3;cases r3<;>rfl))))
section
variable {prog:Program}{w:World}{A:Around}{E:Value->Shared->Prop}{s:Shared}{κ:SortKind}{r:Value->Int}{P:Value->Prop}
theorem wM{st:SortSt}{lo a nrem:Nat}{Q:AscSt->SortSt->Prop}(C:rV prog w A s κ r P)(hk:kindOf st=κ)(hP:AllP P (arrOf st))(hn:lo+nrem<=(arrOf st).size)(ha:1<=a)(han:a<=nrem)
  (hs:Up r (arrOf st) lo (lo+a))
  (h:∀ n,a<=n->n<=nrem->Up r (arrOf st) lo (lo+n)->(n=nrem\/R r (arrOf st) (lo+n)<R r (arrOf st) (lo+n-1))->Q (none,n) st) :
  wpS (model prog w) A E s (ascL lo a nrem) Q st:=by
 unfold ascL
 refine wpS_forRange (I:=fun x c aS=>aS=st/\c=(none,x)/\Up r (arrOf st) lo (lo+x)) ?step ?fin ⟨rfl,rfl,hs⟩
 case fin =>
  rintro c aS ⟨rfl,rfl,fA⟩
  rw[show max a nrem=nrem by lia] at fA ⊢
  exact h nrem han (ck _) fA (.inl rfl)
 case step =>
  rintro x c aS Uq hxn ⟨rfl,rfl,fA⟩
  dsimp only
  refine wpS_bind (mq C hk hP (by lia) (by lia) ?_)
  by_cases vv:R r (arrOf aS) (lo+x)<R r (arrOf aS) (lo+x-1)
  ·simp only[vv,decide_true,if_true]
   exact wpS_pure (h x Uq (by exact pT ‹_›) fA (.inr vv))
  ·simp only[vv,decide_false,kH,if_false]
   refine wpS_pure ⟨rfl,rfl,fun i j hl kB hj=>?_⟩
   by_cases MZ:j<lo+x
   ·exact fA i j hl kB MZ
   ·have xo:j=lo+x:=by lia
    subst xo
    by_cases iF:i=lo+x
    ·subst iF;exact ua _
    ·exact S8 (fA i (lo+x-1) hl (by lia) (by lia)) (Int.not_lt.mp vv)
theorem pH{st:SortSt}{lo n nrem:Nat}{Q:Option Nat->SortSt->Prop}(C:rV prog w A s κ r P)(hk:kindOf st=κ)(hP:AllP P (arrOf st))(hn:lo+nrem<=(arrOf st).size)(h1:1<=n)(A3:n<=nrem)
  (hs:Down r (arrOf st) lo (lo+n)) (h:∀ m aS,lI lo (lo+nrem) st aS->1<=m->m<=nrem->Up r (arrOf aS) lo (lo+m)->Q (some m) aS) :
  wpS (model prog w) A E s (sV lo n nrem) Q st:=by
 unfold sV
 have hsz:lo+n<=(arrOf st).size:=by lia
 refine wpS_bind (dZ ?_)
 have i6:=gU (i:=lo) hsz
 refine wpS_bind (wM C (i6.kind.trans hk) (hP.perm i6.perm) (by rw[i6.size];exact hn) h1 A3 ?_ fun m M0 oD Ur _=>wpS_pure (h m _ (i6.mono (ck _) (by lia)) (by walk_at "s1") oD Ur))
 intro i j hl kB hj
 show R r (mirror (arrOf st) lo (lo+n) ((lo+n-lo) / 2)) i<=R r (mirror (arrOf st) lo (lo+n) ((lo+n-lo) / 2)) j
 rw[qX hsz,qX hsz,if_pos (by lia),if_pos (by lia)]
 exact hs _ _ (by lia) (by lia) (by lia)
theorem Ae{st:SortSt}{lo n nrem:Nat}{Q:DescSt->SortSt->Prop}(C:rV prog w A s κ r P)(hk:kindOf st=κ)(hP:AllP P (arrOf st))(hn:lo+nrem<=(arrOf st).size)(h1:1<=n)(A3:n<=nrem)
  (hs:Down r (arrOf st) lo (lo+n))
  (h:∀ m qc aS,lI lo (lo+nrem) st aS->n<=m->m<=nrem->Down r (arrOf aS) lo (lo+m)->qc+1<=m->(∀ i,lo+m-(qc+1)<=i->i<lo+m->R r (arrOf aS) i=R r (arrOf aS) (lo+m-1))->Q (none,m,qc) aS) :
  wpS (model prog w) A E s (Bx lo n nrem) Q st:=by
 unfold Bx
 refine wpS_forRange (I:=fun x c aS=>∃ qc,c=(none,x,qc)/\lI lo (lo+nrem) st aS/\Down r (arrOf aS) lo (lo+x)/\qc+1<=x /\
   (∀ i,lo+x-(qc+1)<=i->i<lo+x->R r (arrOf aS) i=R r (arrOf aS) (lo+x-1))) ?step ?fin ⟨0,rfl,.refl _ _ _,hs,by lia,fun i h1 h2=>by congr 1;lia⟩
 case fin =>
  rintro c aS ⟨qc,rfl,i6,fA,hq,he⟩
  rw[show max n nrem=nrem by lia] at fA hq he ⊢
  exact h nrem qc aS i6 A3 (ck _) fA hq he
 case step =>
  rintro x c aS Uq hxn ⟨qc,rfl,i6,fA,hq,he⟩
  dsimp only
  have hz:=i6.size
  have hsz:lo+x<=(arrOf aS).size:=by lia
  have kb:=i6.kind.trans hk
  have E1:=hP.perm i6.perm
  refine wpS_bind (mq C kb E1 (by lia) (by lia) ?_)
  by_cases vv:R r (arrOf aS) (lo+x)<R r (arrOf aS) (lo+x-1)
  ·simp only[vv,decide_true,if_true]
   have YM:∀ xs:Array Keyed,(∀ k,R r xs k=R r (arrOf aS) k)->Down r xs lo (lo+(x+1)):=by
    intro xs YN i j hl kB hj
    rw[YN,YN]
    by_cases MZ:j<lo+x
    ·exact fA i j hl kB MZ
    ·have xo:j=lo+x:=by lia
     subst xo
     by_cases iF:i=lo+x
     ·subst iF;exact ua _
     ·exact S8 (He vv) (fA i (lo+x-1) hl (by lia) (by lia))
   by_cases Nc:qc>0
   ·rw[if_pos Nc]
    refine wpS_bind (dZ (wpS_pure ⟨0,rfl,i6.trans ((gU hsz).mono (by lia) (by lia)),YM _ (cj hsz he),by exact D8 _,fun i h1 h2=>by congr 1;lia⟩))
   ·rw[if_neg Nc]
    exact wpS_pure ⟨0,rfl,i6,YM _ (fun _=>rfl),by exact D8 _,fun i h1 h2=>by congr 1;lia⟩
  ·simp only[vv,decide_false,kH,if_false]
   refine wpS_bind (mq C kb E1 (by lia) (by lia) ?_)
   by_cases YQ:R r (arrOf aS) (lo+x-1)<R r (arrOf aS) (lo+x)
   ·simp only[YQ,decide_true,if_true]
    exact wpS_pure (h x qc aS i6 Uq (by exact pT ‹_›) fA hq he)
   ·simp only[YQ,decide_false,kH,if_false]
    have YR:R r (arrOf aS) (lo+x)=R r (arrOf aS) (lo+x-1):=by lia
    refine wpS_pure ⟨qc+1,rfl,i6,fun i j hl kB hj=>?_,by exact AO ‹_›,fun i h1 h2=>?_⟩
    ·by_cases MZ:j<lo+x
     ·exact fA i j hl kB MZ
     ·have xo:j=lo+x:=by lia
      subst xo
      by_cases iF:i=lo+x
      ·subst iF;exact ua _
      ·rw[YR];exact fA i (lo+x-1) hl (by lia) (by lia)
    ·rw[show lo+(x+1)-1=lo+x by rfl]
     by_cases xt:i=lo+x
     ·subst xt;rfl
     ·rw[YR];exact he i (by lia) (by lia)
theorem iR{st:SortSt}{lo n nrem:Nat}{Q:Option Nat->SortSt->Prop}(C:rV prog w A s κ r P)(hk:kindOf st=κ)(hP:AllP P (arrOf st))(hn:lo+nrem<=(arrOf st).size)(A3:n+1<=nrem)
  (hs:Down r (arrOf st) lo (lo+(n+1))) (h:∀ m aS,lI lo (lo+nrem) st aS->1<=m->m<=nrem->Up r (arrOf aS) lo (lo+m)->Q (some m) aS) :
  wpS (model prog w) A E s (gh lo n nrem) Q st:=by
 unfold gh
 refine wpS_bind (wpS_lift (wpAny_rule ⟨rfl,?_⟩))
 refine wpS_bind (Ae C hk hP hn (by exact D8 _) A3 hs fun m qc aS i6 M0 oD fA hq he=>?_)
 dsimp only
 have hz:=i6.size
 have hsz:lo+m<=(arrOf aS).size:=by lia
 have kb:=i6.kind.trans hk
 have E1:=hP.perm i6.perm
 by_cases Nc:qc>0
 ·rw[if_pos Nc]
  have hW:=gU (i:=lo+m-(qc+1)) hsz
  refine wpS_bind (dZ (pH C (hW.kind.trans kb) (E1.perm hW.perm) (by rw[hW.size,hz];exact hn) (by walk_at "s2") oD ?_ fun m2 sN Nn=>h m2 sN ((i6.trans (hW.mono (by lia) (by lia))).trans Nn)))
  intro i j hl kB hj
  show R r (mirror (arrOf aS) _ _ _) j<=R r (mirror (arrOf aS) _ _ _) i
  rw[cj hsz he,cj hsz he]
  exact fA i j hl kB hj
 ·rw[if_neg Nc]
  exact pH C kb E1 (by rw[hz];exact hn) (by lia) oD fA fun m2 sN Nn=>h m2 sN (i6.trans Nn)
theorem wpS_countRun{st:SortSt}{lo nrem:Nat}{Q:Option Nat->SortSt->Prop}(C:rV prog w A s κ r P)(hk:kindOf st=κ)(hP:AllP P (arrOf st))(hn:lo+nrem<=(arrOf st).size)(h1:1<=nrem)
  (h:∀ m aS,lI lo (lo+nrem) st aS->1<=m->m<=nrem->Up r (arrOf aS) lo (lo+m)->Q (some m) aS) :
  wpS (model prog w) A E s (countRun' lo nrem) Q st:=by
 rw[sI]
 refine wpS_bind (wM C hk hP hn (ck 1) h1 (fun i j hl kB hj=>by
  have:i=j:=by lia
  subst this;exact ua _) fun n YS Iy mS hor=>?_)
 dsimp only
 by_cases A3:n=nrem
 ·rw[if_pos (by simpa using A3)]
  exact wpS_pure (h n st (.refl _ _ _) YS Iy mS)
 ·rw[if_neg (by simpa using A3)]
  have dQ:R r (arrOf st) (lo+n)<R r (arrOf st) (lo+n-1):=hor.resolve_left A3
  by_cases YT:n>1
  ·rw[if_pos YT]
   refine wpS_bind (mq C hk hP (by lia) (by lia) ?_)
   by_cases YV:R r (arrOf st) lo<R r (arrOf st) (lo+n-1)
   ·simp only[YV,decide_true,if_true]
    exact wpS_pure (h n st (.refl _ _ _) YS Iy mS)
   ·simp only[YV,decide_false,kH,if_false]
    have hsz:lo+n<=(arrOf st).size:=by lia
    have mP:∀ k,lo<=k->k<lo+n->R r (arrOf st) k=R r (arrOf st) (lo+n-1):=by
     intro k hl hk
     have a1:=mS lo k (by exact ck _) hl hk
     have a2:=mS k (lo+n-1) hl (by lia) (by lia)
     lia
    have hW:=gU (i:=lo) hsz
    refine wpS_bind (dZ (iR C (hW.kind.trans hk) (hP.perm hW.perm) (by rw[hW.size];exact hn) (by lia) ?_ fun m2 sN Nn=>h m2 sN ((hW.mono (ck _) (by lia)).trans Nn)))
    intro i j hl kB hj
    show R r (mirror (arrOf st) _ _ _) j<=R r (mirror (arrOf st) _ _ _) i
    rw[cj hsz mP,cj hsz mP]
    by_cases hjn:j<lo+n
    ·rw[mP i hl (by walk_at "s1"),mP j (by walk_at "s1") hjn];exact ua _
    ·have xo:j=lo+n:=by lia
     subst xo
     by_cases iF:i=lo+n
     ·subst iF;exact ua _
     ·rw[mP i hl (by lia)];exact He dQ
  ·rw[if_neg YT]
   have eW':n=1:=by lia
   subst eW'
   refine iR C hk hP hn (by lia) ?_ h
   intro i j hl kB hj
   by_cases iF:i=j
   ·subst iF;exact ua _
   ·have AZ:i=lo:=by lia
    have E3:j=lo+1:=by lia
    subst AZ;subst E3
    exact He dQ
theorem eX'{r:Value->Int}{xs:Array Keyed}{i:Nat}{p:Keyed}(e:xs[i]? = some p):R r xs i=r p.1:=by unfold R;rw[e]
theorem Jj{r:Value->Int}{xs:Array Keyed}{i:Nat}(h:i<xs.size):R r xs i=r xs[i].1:=eX' (wo h)
structure One(r:Value->Int)(kQ:Array Keyed)(st:SortSt):Prop where
 perm:(arrOf st).Perm kQ
 failed:failedOf st=none
 pend:(pendingOf st).size<=1
 up:Up r (arrOf st) 0 kQ.size
theorem wpS_sortRuns{st:SortSt}{Q:Unit->SortSt->Prop}(C:rV prog w A s κ r P)(hk:kindOf st=κ)(hP:AllP P (arrOf st))(hp:pendingOf st = #[])(hf:failedOf st=none)(h64:(arrOf st).size<64)(h1:1<=(arrOf st).size)
  (h:∀ aS,(arrOf aS).Perm (arrOf st)->failedOf aS=none->Up r (arrOf aS) 0 (arrOf st).size->Q () aS):wpS (model prog w) A E s sortRuns' Q st:=by
 rw[sortRuns'_eq]
 refine wpS_bind (wpS_get ?_)
 dsimp only
 generalize ha:arrOf st=kQ at *
 have hmr:minRun' kQ.size kQ.size 0=kQ.size:=by
  obtain⟨f,hf⟩:∃ f,kQ.size=f+1:=⟨kQ.size-1,by lia⟩
  have:minRun' (f+1) kQ.size 0=kQ.size:=by rw[minRun'_succ,if_pos h64];rfl
  rwa[<- hf] at this
 rw[hmr]
 have push:∀ aS:SortSt,lI 0 kQ.size st aS->Up r (arrOf aS) 0 kQ.size->One r kQ (setPending aS ((pendingOf aS).push (0,kQ.size,0))):=fun aS hw u =>
  ⟨ha ▸ hw.perm,hw.failed.trans hf,by show((pendingOf aS).push _).size<=1;rw[hw.pend,hp];simp,u⟩
 refine wpS_bind (wpS_mono (wpS_forRange (I:=fun x c aS=>(x=0/\c=(none,0)/\aS=st)\/(1<=x/\c=(none,kQ.size)/\One r kQ aS))
  (Q:=fun c aS=>c=(none,kQ.size)/\One r kQ aS) ?step ?fin (.inl ⟨rfl,rfl,rfl⟩)) ?post)
 case fin =>
  rintro c aS (⟨hx,_,_⟩|⟨_,hc,hD⟩)
  ·lia
  ·exact⟨hc,hD⟩
 case step =>
  rintro x c aS _ hx (⟨rfl,rfl,rfl⟩|⟨YW,rfl,hD⟩)
  ·dsimp only
   rw[if_neg (by lia)]
   simp only[LM,GV,D9]
   refine wpS_bind (wpS_countRun C hk (by rw[ha];exact hP) (by rw[ha];lia) h1 fun m sN hw M0 oD hu=>?_)
   dsimp only
   rw[D9] at hw hu
   have hz:(arrOf sN).size=kQ.size:=by rw[hw.size,ha]
   by_cases z:m<kQ.size
   ·rw[if_pos z]
    refine wpS_bind (wpS_lift (wpAny_rule ⟨rfl,?_⟩))
    refine wpS_bind (wpS_binarySort C (hw.kind.trans hk) (hP.perm (ha ▸ hw.perm)) (by lia) (by lia) (by rw[D9];exact hu) fun zv Us YX=>?_)
    rw[D9] at Us YX
    simp only[LN,kH,if_false]
    refine wpS_bind (wpS_get ?_)
    have hb:(pendingOf zv).back? = none:=by rw[Us.pend,hw.pend,hp];rfl
    rw[hb]
    dsimp only
    exact wpS_bind (wpS_modify (wpS_pure (.inr ⟨by lia,rfl,push zv (hw.trans Us) YX⟩)))
   ·rw[if_neg z]
    have hm:m=kQ.size:=by lia
    rw[hm] at hu ⊢
    refine wpS_bind (wpS_get ?_)
    have hb:(pendingOf sN).back? = none:=by rw[hw.pend,hp];rfl
    rw[hb]
    dsimp only
    exact wpS_bind (wpS_modify (wpS_pure (.inr ⟨by lia,rfl,push sN hw hu⟩)))
  ·dsimp only
   rw[if_pos (ck _)]
   exact wpS_pure ⟨rfl,hD⟩
 case post =>
  rintro c aS ⟨rfl,hD⟩
  dsimp only
  refine wpS_bind (wpS_mono (wpS_forRange (I:=fun _ c aS=>c=(none,())/\One r kQ aS) (Q:=fun c aS=>c=(none,())/\One r kQ aS) ?fa' (fun _ _ q=>q) ⟨rfl,hD⟩) ?fc')
  case fa' =>
   rintro y c YY _ hy ⟨rfl,H⟩
   refine wpS_bind (wpS_get ?_)
   rw[if_pos H.pend]
   exact wpS_pure ⟨rfl,H⟩
  case fc' =>
   rintro c YY ⟨rfl,H⟩
   exact wpS_pure (h YY H.perm H.failed H.up)
def eQ (h:Heap) (a:Addr) (vs:List Value):Heap:=((h.update a (Obj.mapSeq fun _=>#[])).push (seqObj "tuple" vs.toArray 0)).push (seqObj "list" #[] 0)
theorem mU{h:Heap}{a b:Addr}{vs:List Value}(hb:b≠a)(dQ:b<h.objs.size):(eQ h a vs).get? b=h.get? b:=by
 unfold eQ
 rw[GN _ _ _ (by rw[size_push',GO];exact fN (zh dQ)),
  GN _ _ _ (by rw[GO];exact fN dQ),Heap.get?_update_ne _ _ _ _ hb]
theorem vm{vs:List Value}{xs:Array Keyed}(hp:xs.Perm (pairsOf vs))(hs:Up r xs 0 vs.length):(xs.map (·.2)).toList.Perm vs/\(xs.map (·.2)).toList.Pairwise fun x y=>r x<=r y:=by
 have hl:xs.toList.Perm (vs.zip vs):=by rw[<- pairsOf_toList];exact Array.perm_iff_toList_perm.mp hp
 have Nw:∀ p,p∈xs.toList->p.1=p.2:=fun p hJ=>(mem_zip_self (hl.mem_iff.mp hJ)).1
 have e:(xs.map (·.2)).toList=xs.toList.map (·.1):=by
  rw[Array.toList_map];exact B1 fun p hJ=>(Nw p hJ).symm
 have hsz:xs.size=vs.length:=by rw[hp.size_eq,pairsOf_size]
 rw[e]
 refine⟨?_,?_⟩
 ·have h1:=hl.map (·.1)
  rwa[D4 (ck _)] at h1
 ·rw[y6]
  intro i j hi hj kB
  have iF:i<xs.size:=by simpa using hi
  have xo:j<xs.size:=by simpa using hj
  have h1:=hs i j (fE _) (pT kB) (by lia)
  rw[Jj iF,Jj xo] at h1
  simpa using h1
theorem jP {a:Addr} {vs:List Value} {n:Nat} {F:PySem.Fin->Shared->Prop} (ho:s.heap.get? a=some (seqObj "list" vs.toArray n)) (vw:vs.length<=63) (hP:∀ v∈vs,P v)
  (hk:2<=vs.length->∀ (Q:SortKind->Shared->Prop),Q κ { s with heap:=eQ s.heap a vs }->wpAny (model prog w) A (keyKind' vs.toArray) Q E { s with heap:=eQ s.heap a vs })
  (C:2<=vs.length->rV prog w A { s with heap:=eQ s.heap a vs } κ r P)
  (h:∀ out:Array Value,out.toList.Perm vs->(out.toList.Pairwise fun x y=>r x<=r y)->F (.done (.ret .none)) { s with heap:=sortedHeap s.heap a vs out }) :
  wpAny (model prog w) A (Builtin.«list.sort» ⟨[.ref a],[]⟩) F E s:=by
 have hsz:vs.length<=sizeLine:=gE vw (by rw[sizeLine_eq];decide)
 rw[list_sort_plain]
 have ha:a<s.heap.objs.size:=eh ho
 refine ah (listItems_at ho rfl ?_)
 refine ah (listUpdate_at ho rfl ?_ (by simpa using hsz) (fE _))
 obtain⟨e1,sQ⟩:∃ e1,(s.heap.update a (Obj.mapSeq fun _=>#[])).get? a=some (seqObj "list" #[] e1):=⟨_,get?_update_seq ho (fun _=>#[])⟩
 refine ah (seqEpoch_at sQ rfl ?_)
 refine ah (wpAny_newTuple ?_ (by simpa using hsz))
 refine ah (wpAny_newList ?_ (fE _))
 refine wpAny_holding ?_
 have Ry:(eQ s.heap a vs).get? a=some (seqObj "list" #[] e1):=by
  unfold eQ
  rw[GN _ _ _ (by rw[size_push',GO];exact fN (zh ha)),GN _ _ _ (by rw[GO];exact fN ha)]
  exact sQ
 show wpAny (model prog w) A _ F E { s with heap:=eQ s.heap a vs }
 dsimp only
 have hvz:vs.toArray.size=vs.length:=by simp
 have fin:∀ aS:SortSt,(arrOf aS).Perm (pairsOf vs)->Up r (arrOf aS) 0 vs.length->F (.done (.ret .none)) { s with heap:=sortedHeap s.heap a vs ((arrOf aS).map (·.2)) }:=by
  intro aS hp hs
  obtain⟨h1,h2⟩:=vm hp hs
  exact h _ h1 h2
 by_cases h2:vs.toArray.size<2
 ·rw[if_pos h2,if_pos h2]
  refine ah (aw ?_)
  rw[StateT.run_pure]
  refine ah (aw ?_)
  dsimp only
  refine ah (seqEpoch_at Ry rfl ?_)
  refine ah (listUpdate_at Ry rfl ?_ (fE _) (by rw[Array.size_map];show(pairsOf vs).size<=_;rw[pairsOf_size];lia))
  simp only[bne_self_eq_false,kH,if_false]
  refine aw (fin (SortSt.mk' general' (vs.toArray.zip vs.toArray) #[] 7 none) (Array.Perm.refl _) ?_)
  intro i j _ kB hj
  have:i=j:=by lia
  subst this;exact ua _
 ·rw[if_neg h2,if_neg h2]
  refine ah (hk (by lia) _ ?_)
  refine ah (oj (wpS_sortRuns (st:=SortSt.mk' κ (vs.toArray.zip vs.toArray) #[] 7 none)
   (Q:=fun _ aS=>(arrOf aS).Perm (pairsOf vs)/\failedOf aS=none/\Up r (arrOf aS) 0 vs.length)
   (C (by lia)) rfl (fun p hp=>?_) rfl rfl (AO (gE (AQ (pairsOf_size vs)) vw)) (gE (by lia) (AQ (pairsOf_size vs).symm)) fun aS a1 a2 a3=>⟨a1,a2,?_⟩) ?_ fun _ _ e=>e)
  ·have hJ:p∈(pairsOf vs).toList:=hp
   rw[pairsOf_toList] at hJ
   exact hP _ (mem_zip_self hJ).2
  ·have e:(arrOf (SortSt.mk' κ (vs.toArray.zip vs.toArray) #[] 7 none)).size=vs.length:=pairsOf_size vs
   rw[e] at a3
   exact a3
  ·rintro⟨⟨⟩,aS⟩ s' ⟨rfl,hp,hf,hs⟩
   dsimp only
   refine ah (seqEpoch_at Ry rfl ?_)
   refine ah (listUpdate_at Ry rfl ?_ (fE _) (by refine gE (AQ ((Array.size_map ..).trans (hp.size_eq.trans (pairsOf_size _)))) ?_;lia))
   rw[hf]
   simp only[bne_self_eq_false,kH,if_false]
   exact aw (fin aS hp hs)
def iH (h:Heap) (vs:List Value):Heap:=((h.push (seqObj "list" #[] 0)).update h.objs.size (Obj.mapSeq (· ++ vs.toArray))).push (seqObj "list" vs.toArray 0)
theorem mO{h:Heap}{vs:List Value}{b:Addr}{o:Obj}(hb:h.get? b=some o):(eQ (iH h vs) (h.objs.size+1) vs).get? b=some o:=by
 have dQ:b<h.objs.size:=eh hb
 have e:(iH h vs).get? b=some o:=by
  unfold iH
  rw[GN _ _ _ (by rw[GO,size_push'];exact fN (zh dQ)),Heap.get?_update_ne _ _ _ _ (fN dQ),GN _ _ _ (fN dQ)]
  exact hb
 rw[mU (fN (zh dQ)) (eh e)]
 exact e
theorem rQ{l:Addr}{vs:List Value}{Q:Value->Shared->Prop}(hl:s.heap.IsList l vs.toArray)(vw:vs.length<=63)(hP:∀ v∈vs,P v)
  (hk:2<=vs.length->∀ (A':Around) (E':Value->Shared->Prop) (s':Shared),(∀ b o,s.heap.get? b=some o->s'.heap.get? b=some o)->∀ (Q:SortKind->Shared->Prop),Q κ s'->wpAny (model prog w) A' (keyKind' vs.toArray) Q E' s')
  (C:2<=vs.length->∀ (s':Shared),(∀ b o,s.heap.get? b=some o->s'.heap.get? b=some o)->rV prog w A.in1.in1 s' κ r P)
  (h:∀ (h':Heap) (out:List Value) (n:Nat),out.Perm vs->(out.Pairwise fun x y=>r x<=r y)->(∀ b o,s.heap.get? b=some o->h'.get? b=some o)->h'.get? (s.heap.objs.size+1)=some (seqObj "list" out.toArray n)->Q (.ref (s.heap.objs.size+1)) { s with heap:=h' }) :
  wpAny (model prog w) A (call (.builtin "sorted") [.ref l]) Q E s:=by
 have hsz:vs.length<=sizeLine:=gE vw (by rw[sizeLine_eq];decide)
 refine Calls.call_function_entry kind_sorted plain_sorted entry_sorted (args_sorted1 _) ?_
 unfold Builtin.«sorted»
 refine ah (m:=checkCount "sorted" 1 1 _) (aw ?_)
 refine ah (collect_list hl ?_ hsz)
 refine ah (wpAny_newList ?_ (by simpa using hsz))
 have YZ:((s.heap.push (seqObj "list" #[] 0)).update s.heap.objs.size (Obj.mapSeq (· ++ vs.toArray))).objs.size=s.heap.objs.size+1:=by
  rw[GO,size_push']
 have CB:(iH s.heap vs).get? (s.heap.objs.size+1)=some (seqObj "list" vs.toArray 0):=by
  unfold iH
  rw[<- YZ];exact iX _ rfl
 show wpAny _ _ _ _ _ { s with heap:=iH s.heap vs }
 rw[YZ]
 refine ah (wpAny_holding (wpAny_call_entry slot_list_sort ⟨_,CB,rfl⟩ entry_list_sort (jP (r:=r) (s:={ s with heap:=iH s.heap vs }) CB vw hP
  (fun h2=>hk h2 _ _ _ fun b o e=>mO e) (fun h2=>?_) fun out a1 a2=>⟨_,rfl,?_⟩) (args_list_sort _)))
 ·exact C h2 _ fun b o e=>mO e
 ·obtain⟨n,e⟩:=sortedAll_at s.heap vs out
  refine aw ⟨_,rfl,h (sortedAll s.heap vs out) out.toList n a1 a2 (fun b o e=>sortedAll_old e) (by rw[S6];exact e)⟩
end
end xl
namespace L2
open PySem PySem.Spec PyProof.Rows
def oI:Key->Key->Bool
 |.inl i,.inl j=>decide (i<j)
 |.inr x,.inr y=>oB x y
 |_,_=>false
def gX:List Key->List Key->Bool
 |a :: as,b :: bs=>if a=b then gX as bs else oI a b
 |_,_=>false
def n5:Key->Bool
 |.inl _=>true
 |.inr _=>false
def iL(k:List Key):List Bool:=k.map n5
theorem z8(x:Str):oB x x=false:=by unfold oB;simp[List.lt_irrefl]
theorem Es{x y z:Str}(h:oB x y=true)(g:oB y z=true):oB x z=true:=by
 unfold oB at *
 simp only[decide_eq_true_eq] at *
 exact List.lt_trans h g
theorem y_{x y:Str}(h:x.cps.toList=y.cps.toList):x=y:=by
 cases x;cases y
 simp only at h
 rw[Array.toList_inj.mp h]
theorem z6{x y:Str}(h:oB x y=false)(g:oB y x=false):x=y:=by
 unfold oB at *
 simp only[decide_eq_false_iff_not] at *
 apply y_
 exact List.le_antisymm (List.not_lt.mp g) (List.not_lt.mp h)
theorem yS(a:Key):oI a a=false:=by cases a with|inl i=>simp[oI]|inr x=>exact z8 x
theorem JQ{a b c:Key}(h:oI a b=true)(g:oI b c=true):oI a c=true:=by
 cases a<;>cases b<;>cases c<;>simp only[oI,decide_eq_true_eq] at *<;>first|lia|contradiction|exact Es h g
theorem Hb{a b:Key}(e:n5 a=n5 b)(h:oI a b=false)(g:oI b a=false):a=b:=by
 cases a<;>cases b<;>simp only[oI,n5,decide_eq_false_iff_not] at *
 ·congr 1;lia
 ·cases e
 ·cases e
 ·congr 1;exact z6 h g
theorem uE:∀ a:List Key,gX a a=false
 |[]=>rfl
 |a :: as=>by unfold gX;rw[if_pos rfl];exact uE as
theorem wV:∀ {a b c:List Key},gX a b=true->gX b c=true->gX a c=true
 |[],_,_,h,_=>by simp[gX] at h
 |_ :: _,[],_,h,_=>by simp[gX] at h
 |_ :: _,_ :: _,[],_,g=>by simp[gX] at g
 |a :: as,b :: bs,c :: cs,h,g=>by
  unfold gX at h g ⊢
  by_cases e1:a=b
  ·subst e1
   rw[if_pos rfl] at h
   by_cases e2:a=c
   ·subst e2
    rw[if_pos rfl] at g ⊢
    exact wV h g
   ·rw[if_neg e2] at g ⊢
    exact g
  ·rw[if_neg e1] at h
   by_cases e2:b=c
   ·subst e2
    rw[if_neg e1]
    exact h
   ·rw[if_neg e2] at g
    have t:=JQ h g
    have ne:a≠c:=fun e=>by subst e;rw[yS] at t;cases t
    rw[if_neg ne]
    exact t
theorem uX:∀ {a b:List Key},iL a=iL b->gX a b=false->gX b a=false->a=b
 |[],[],_,_,_=>rfl
 |[],_ :: _,e,_,_=>by simp[iL] at e
 |_ :: _,[],e,_,_=>by simp[iL] at e
 |a :: as,b :: bs,e,h,g=>by
  simp only[iL,fe,List.cons.injEq] at e
  unfold gX at h g
  by_cases e1:a=b
  ·subst e1
   rw[if_pos rfl] at h g
   rw[uX (show iL as=iL bs from e.2) h g]
  ·rw[if_neg e1] at h
   rw[if_neg (Ne.symm e1)] at g
   exact absurd (Hb e.1 h g) e1
theorem count_le{α:Type}(p q:α->Bool):∀ (l:List α),(∀ x∈l,p x=true->q x=true)->l.countP p<=l.countP q
 |[],_=>ck _
 |x :: l,h=>by
  have ih:=count_le p q l fun y hy=>h y (b9 _ hy)
  have h1:=h x b5
  rw[Qs,Qs]
  cases hp:p x<;>cases hq:q x<;>simp_all<;>exact Nat.le_succ_of_le ‹_›
theorem qJ{α:Type}(p q:α->Bool)(a:α)(ha:p a=false)(hb:q a=true):∀ (l:List α),a∈l->(∀ x∈l,p x=true->q x=true)->l.countP p<l.countP q
 |[],m,_=>by cases m
 |x :: l,m,h=>by
  rw[Qs,Qs]
  rcases dr.mp m with rfl|m
  ·have:=count_le p q l fun y hy=>h y (b9 _ hy)
   rw[ha,hb];simp;exact AO ‹_›
  ·have ih:=qJ p q a ha hb l m fun y hy=>h y (b9 _ hy)
   have h1:=h x b5
   cases hp:p x<;>cases hq:q x<;>simp_all<;>exact zh ‹_›
def z5(L:List (List Key))(k:List Key):Int:=(L.countP fun j=>gX j k:Nat)
theorem rT{L:List (List Key)}{a b:List Key}(e:iL a=iL b)(ma:a∈L):decide (z5 L a<z5 L b)=gX a b:=by
 unfold z5
 cases h:gX a b with
 |true =>
  have:=qJ (fun j=>gX j a) (fun j=>gX j b) a (uE a) h L ma fun x _ hx=>wV hx h
  exact decide_eq_true (by lia)
 |false =>
  apply decide_eq_false
  cases g:gX b a with
  |false=>rw[uX e h g];lia
  |true =>
   have:=count_le (fun j=>gX j b) (fun j=>gX j a) L fun x _ hx=>wV hx g
   lia
def Ut:V->Option Key
 |.int i=>some (.inl i)
 |.str x=>some (.inr x)
 |_=>none
theorem Lf(k:Key):Ut (kV k)=some k:=by cases k<;>rfl
theorem DY:∀ k:List Key,(k.map kV).filterMap Ut=k
 |[]=>rfl
 |a :: as=>by rw[fe,K2,Lf,DY as]
def oK(H:Hp):Value->List Key
 |.ref b=>match H b with
  |some (.tup xs)=>xs.filterMap Ut
  |_=>[]
 |_=>[]
theorem du{H:Hp}{b:Addr}{k:List Key}(h:H b=some (.tup (k.map kV))):oK H (.ref b)=k:=by
 simp only[oK,h];exact DY k
section
variable {prog:Program}{w:World}{A:Around}{E:Value->Shared->Prop}{s:Shared}{Q:Bool->Shared->Prop}
theorem Jo{a b:Key}{u v:Value}(ru:RelV (kV a) u)(rv:RelV (kV b) v)(e:n5 a=n5 b)(q:Q (oI a b) s):wpAny (model prog w) A (oneLt' false u v) Q E s:=by
 refine PySem.W.kat_one u v ?_
 cases a with
 |inl i =>
  cases b with
  |inr x=>cases e
  |inl j =>
   obtain⟨t,rfl⟩:=ru
   obtain⟨t',rfl⟩:=rv
   exact lt_int q
 |inr x =>
  cases b with
  |inl j=>cases e
  |inr y =>
   obtain⟨t,rfl⟩:=ru
   obtain⟨t',rfl⟩:=rv
   exact PySem.P.lt_str q
theorem JC{a b:Key}{u v:Value}(ru:RelV (kV a) u)(rv:RelV (kV b) v)(e:n5 a=n5 b)(q:Q (decide (a=b)) s):wpAny (model prog w) A (eqBool u v) Q E s:=by
 cases a with
 |inl i =>
  cases b with
  |inr x=>cases e
  |inl j =>
   obtain⟨t,rfl⟩:=ru
   obtain⟨t',rfl⟩:=rv
   refine wpAny_eqBool_int ?_
   rw[<- Xc];exact q
 |inr x =>
  cases b with
  |inl j=>cases e
  |inr y =>
   obtain⟨t,rfl⟩:=ru
   obtain⟨t',rfl⟩:=rv
   refine wpAny_eqBool_str ?_
   rw[<- Xd];exact q
theorem Df{fin:Bool}(k m:List Key)(us vs:List Value)(i:Nat)(ha:Vals (k.map kV) us)(hb:Vals (m.map kV) vs)(e:iL k=iL m)(hf:fin=false)(q:Q (gX k m) s) :
  PySem.W.KatLex prog w A true fin Q (us.zip vs) i s:=by
 induction k generalizing m us vs i with
 |nil =>
  cases m with
  |cons b m=>simp[iL] at e
  |nil =>
   rw[Paired.n0 ha,Paired.n0 hb]
   subst hf
   exact PySem.W.kat_nil q
 |cons a k ih =>
  cases m with
  |nil=>simp[iL] at e
  |cons b m =>
   obtain⟨u,us,rfl,ra,rk⟩:=Paired.c ha
   obtain⟨v,vs,rfl,rb,rm⟩:=Paired.c hb
   simp only[iL,fe,List.cons.injEq] at e
   rw[AG]
   refine PySem.W.kat_cons (JC ra rb e.1 (PySem.W.kat_go (fun h=>PySem.W.kat_yes ?_) (fun h=>PySem.W.kat_no ?_)))
   ·have h:=of_decide_eq_true h
    subst h
    unfold gX at q
    rw[if_pos rfl] at q
    exact ih m _ _ (i+1) rk rm e.2 q
   ·have h:=of_decide_eq_false h
    unfold gX at q
    rw[if_neg h] at q
    by_cases h0:i=0
    ·subst h0
     cases a with
     |inr x =>
      cases b with
      |inl j=>cases e.1
      |inr y =>
       obtain⟨t,rfl⟩:=ra
       obtain⟨t',rfl⟩:=rb
       exact oneLt_str q
     |inl i =>
      cases b with
      |inr x=>cases e.1
      |inl j =>
       obtain⟨t,rfl⟩:=ra
       obtain⟨t',rfl⟩:=rb
       exact oneLt_int q
    ·rw[show(true && i == 0)=false by simp[h0]]
     exact Jo ra rb e.1 q
end
section
variable {X:Cx}{pins:List (Addr × Obj)}{σ:St}{H:Hp}{s:Shared}
theorem Inv.tup{b:Addr}{xs:List V}(I:Inv X pins σ H s)(h:H b=some (.tup xs)):∃ its:List Value,Vals xs its/\IsTup s.heap b its.toArray:=(I.bq b _ h).2
theorem wW(I:Inv X pins σ H s){s':Shared}(kp:∀ b o,s.heap.get? b=some o->s'.heap.get? b=some o){A:Around}{L:List (List Key)}{b0:Bool}{sh:List Bool} :
  xl.rV X.prog X.w A s' (tuples' true) (fun v=>z5 L (oK H v)) (fun v=>∃ b k,v=.ref b/\H b=some (.tup (k.map kV))/\iL k=b0 :: sh/\k∈L):=by
 rintro x y ⟨b,k,rfl,hb,hk,mk⟩ ⟨c,m,rfl,hc,hm,mm⟩ Q E q
 obtain⟨us,ru,o,e1,c1,n1,d1⟩:=I.tup hb
 obtain⟨vs,rv,o',e2,c2,n2,d2⟩:=I.tup hc
 have Uu:iL k=iL m:=hk.trans hm.symm
 simp only[du hb,du hc] at q
 rw[rT Uu mk] at q
 refine PySem.W.kat_lt (kp _ _ e1) d1 (kp _ _ e2) d2 (Df k m us vs 0 ru rv Uu ?_ q)
 ·have h1:=ru.length
  have h2:=rv.length
  have h3:k.length=m.length:=by
   have:=congrArg List.length Uu
   simpa[iL] using this
  simp only[bS] at h1 h2
  exact decide_eq_false (by simp only[h9];lia)
theorem kat_tups(I:Inv X pins σ H s){s':Shared}(kp:∀ b o,s.heap.get? b=some o->s'.heap.get? b=some o){b0:Bool}{sh:List Bool}{ys:List V}{ks:List (List Key)}{vs:List Value}(ht:cG H ys ks)(hv:Vals ys vs)(hs:∀ k∈ks,iL k=b0 :: sh) :
  ∃ fs:List Value,PySem.W.KatTups s'.heap vs fs/\fs.length=vs.length/\∀ f∈fs,(b0=true->∃ i t,f=Value.int i t)/\(b0=false->∃ x t,f=Value.str x t):=by
 induction ys generalizing ks vs with
 |nil =>
  rw[Paired.n0 hv]
  exact⟨[],.nil,rfl,by simp⟩
 |cons y ys ih =>
  obtain⟨k,ks,rfl,⟨b,rfl,hb⟩,t⟩:=Paired.c ht
  obtain⟨v,vs,rfl,rfl,rs⟩:=Paired.c hv
  obtain⟨fs,f1,f2,f3⟩:=ih t rs fun j hj=>hs j (b9 _ hj)
  have hk:=hs k b5
  obtain⟨us,ru,o,e1,c1,n1,d1⟩:=I.tup hb
  cases k with
  |nil=>simp[iL] at hk
  |cons a k =>
   obtain⟨u,us,rfl,ra,rr⟩:=Paired.c ru
   simp only[iL,fe,List.cons.injEq] at hk
   refine⟨u :: fs,.cons (kp _ _ e1) c1 d1 rfl f1,by simp[f2],fun f hf=>?_⟩
   rcases dr.mp hf with rfl|hf
   ·cases a with
    |inr x =>
     obtain⟨tk,rfl⟩:=ra
     exact⟨(fun z=>by rw[<- hk.1] at z;cases z),fun _=>⟨_,_,rfl⟩⟩
    |inl i =>
     obtain⟨tk,rfl⟩:=ra
     exact⟨fun _=>⟨_,_,rfl⟩,fun z=>by rw[<- hk.1] at z;cases z⟩
   ·exact f3 f hf
end
def wj(K:PySem.W.Frag):List V->Hp->VK->Prop:=fun xs H Q=>match xs with
 |[.ref p]=>∃ ys ks sh,eR K H p ys/\ys.length<=63/\cG H ys ks/\(∀ k∈ks,iL k=true :: sh) /\
   ∀ zs ms l,cG H zs ms->ms.Perm ks->(ms.Pairwise fun a b=>gX b a=false)->H l=none->Q (.ref l) (upd H l (.lst zs))
 |_=>False
theorem cG.keys{H:Hp}{ys:List V}{ks:List (List Key)}{vs:List Value}(h:cG H ys ks)(hv:Vals ys vs):vs.map (oK H)=ks/\∀ v∈vs,∃ b k,v=.ref b/\H b=some (.tup (k.map kV))/\k∈ks:=by
 induction ys generalizing ks vs with
 |nil=>rw[Paired.n0 hv,show ks=[] from Paired.n0 h];exact⟨rfl,by simp⟩
 |cons y ys ih =>
  obtain⟨k,ks,rfl,⟨b,rfl,g⟩,t⟩:=Paired.c h
  obtain⟨v,vs,rfl,rfl,rs⟩:=Paired.c hv
  obtain⟨e,m⟩:=ih t rs
  refine⟨by rw[fe,du g,e],fun v hv=>?_⟩
  rcases dr.mp hv with rfl|hv
  ·exact⟨b,k,rfl,g,b5⟩
  ·obtain⟨b',k',e1,e2,e3⟩:=m v hv
   exact⟨b',k',e1,e2,b9 _ e3⟩
theorem cG.of{H:Hp}{ks:List (List Key)}(vs:List Value)(h:∀ v∈vs,∃ b k,v=Value.ref b/\H b=some (.tup (k.map kV))/\k∈ks):∃ zs,cG H zs (vs.map (oK H))/\Vals zs vs:=by
 induction vs with
 |nil=>exact⟨[],.nil,.nil⟩
 |cons v vs ih =>
  obtain⟨zs,a,c⟩:=ih fun u hu=>h u (b9 _ hu)
  obtain⟨b,k,rfl,e,_⟩:=h v b5
  exact⟨.ref b :: zs,.cons ⟨b,rfl,by rw[du e];exact e⟩ a,.cons rfl c⟩
section
variable {X:Cx}
theorem xF:kM X (.builtin "sorted") (wj X.K):=by
 intro pins s σ H xs us Q I r h
 unfold wj at h
 split at h
 ·rename_i p
  obtain⟨ys,ks,sh,hl,vw,ht,hs,q⟩:=h
  obtain⟨u,rfl,ru⟩:=Vals.one r
  cases ru
  obtain⟨vs,rv,pl,hz⟩:=I.list hl
  obtain⟨ek,mem⟩:=ht.keys rv
  have hlen:=rv.length
  refine xl.rQ (κ:=tuples' true) (r:=fun v=>z5 ks (oK H v)) (P:=fun v=>∃ b k,v=.ref b/\H b=some (.tup (k.map kV))/\iL k=true :: sh/\k∈ks) pl.isList (by lia) (fun v hv=>?_) (fun h2 A' E' s' kp Q' q'=>?_) (fun h2 s' kp=>wW I kp) fun h' out n pm pw kp eo=>?_
  ·obtain⟨b,k,e1,e2,e3⟩:=mem v hv
   exact⟨b,k,e1,e2,hs k e3,e3⟩
  ·obtain⟨fs,f1,f2,f3⟩:=kat_tups I kp ht rv hs
   refine PySem.W.kat_kind (T:=.type "int") f1 (by lia) (fun f hf=>?_) (by decide) q'
   obtain⟨i,t,rfl⟩:=(f3 f hf).1 rfl
   exact .now
  ·obtain⟨zs,z1,z2⟩:=cG.of (H:=H) (ks:=ks) out fun v hv=>mem v (pm.mem_iff.mp hv)
   have zl:=z2.length
   have ol:=pm.length_eq
   have Rz:(out.map (oK H)).Perm ks:=by rw[<- ek];exact pm.map _
   refine⟨.ref (s.heap.objs.size+1),_,I.laid (a:=s.heap.objs.size+1) (t':=s.toks) kp (Ee _) (show fo X.prog X.w _ h' _ (.lst zs) from⟨by lia,out,n,z2,eo⟩),rfl,
    q zs _ _ z1 Rz ?_ (I.bq.fresh (Ee _))⟩
   rw[pE]
   refine pw.imp_of_mem fun {x y} mx my hle=>?_
   obtain⟨b,k,rfl,hb,kk⟩:=mem x (pm.mem_iff.mp mx)
   obtain⟨c,m,rfl,hc,km⟩:=mem y (pm.mem_iff.mp my)
   rw[du hb,du hc] at *
   have:=rT (L:=ks) ((hs m km).trans (hs k kk).symm) km
   rw[<- this]
   exact decide_eq_false (by lia)
 ·exact h.elim
end
end L2
namespace xl
open PySem PyProof.Rows
end xl
namespace L2
open PySem PySem.Spec PyProof.Rows
def jU:Value->List Key
 |.int i _=>[.inl i]
 |.str x _=>[.inr x]
 |_=>[]
theorem nu{k:Key}{v:Value}(h:RelV (kV k) v):jU v=[k]:=by
 cases k with
 |inl i=>obtain⟨t,rfl⟩:=h;rfl
 |inr x=>obtain⟨t,rfl⟩:=h;rfl
theorem Ak{a b:Key}:gX [a] [b]=oI a b:=by
 unfold gX
 by_cases e:a=b
 ·subst e;rw[if_pos rfl,yS];rfl
 ·rw[if_neg e]
theorem Dg{prog:Program}{w:World}{A:Around}{s:Shared}{b:Bool}{L:List Key} :
  xl.rV prog w A s oneType' (fun v=>z5 (L.map fun k=>[k]) (jU v)) (fun v=>∃ k,RelV (kV k) v/\n5 k=b/\k∈L):=by
 rintro x y ⟨k,rk,ik,mk⟩ ⟨m,rm,im,mm⟩ Q E q
 simp only[nu rk,nu rm] at q
 rw[rT (by simp[iL,ik,im]) (bI.mpr ⟨k,mk,rfl⟩),Ak] at q
 rw[keyLt'_oneType]
 cases k with
 |inl i =>
  cases m with
  |inr y=>rw[<- im] at ik;cases ik
  |inl j =>
   obtain⟨t,rfl⟩:=rk
   obtain⟨u,rfl⟩:=rm
   exact oneLt_int q
 |inr x =>
  cases m with
  |inl y=>rw[<- im] at ik;cases ik
  |inr j =>
   obtain⟨t,rfl⟩:=rk
   obtain⟨u,rfl⟩:=rm
   exact oneLt_str q
theorem ints_of{ks:List Key}{vs:List Value}(r:Vals (ks.map kV) vs)(h:∀ k∈ks,n5 k=true):∃ ns,IntsAre vs ns:=by
 induction ks generalizing vs with
 |nil=>rw[Paired.n0 r];exact⟨[],.nil⟩
 |cons k ks ih =>
  obtain⟨v,vs,rfl,r,rs⟩:=Paired.c r
  obtain⟨ns,q⟩:=ih rs fun j hj=>h j (b9 _ hj)
  have:=h k b5
  cases k with
  |inr x=>cases this
  |inl i=>obtain⟨t,rfl⟩:=r;exact⟨_,.cons i t q⟩
theorem Ex{ks:List Key}{vs:List Value}(r:Vals (ks.map kV) vs)(h:∀ k∈ks,n5 k=false):∃ ns,StrsAre vs ns:=by
 induction ks generalizing vs with
 |nil=>rw[Paired.n0 r];exact⟨[],.nil⟩
 |cons k ks ih =>
  obtain⟨v,vs,rfl,r,rs⟩:=Paired.c r
  obtain⟨ns,q⟩:=ih rs fun j hj=>h j (b9 _ hj)
  have:=h k b5
  cases k with
  |inl x=>cases this
  |inr i=>obtain⟨t,rfl⟩:=r;exact⟨_,.cons i t q⟩
theorem zY{prog:Program}{w:World}{A:Around}{E:Value->Shared->Prop}{s:Shared}{b:Bool}{ks:List Key}{vs:List Value}(r:Vals (ks.map kV) vs)(h:∀ k∈ks,n5 k=b)(h2:2<=vs.length){Q:SortKind->Shared->Prop}(q:Q oneType' s) :
  wpAny (model prog w) A (keyKind' vs.toArray) Q E s:=by
 match vs,h2 with
 |v1 :: v2 :: vs,_ =>
  cases b with
  |true=>obtain⟨ns,hI⟩:=ints_of r h;rw[keyKind_ints hI];exact aw q
  |false=>obtain⟨ns,hI⟩:=Ex r h;rw[keyKind_strs hI];exact aw q
theorem keys_map{ks:List Key}{vs:List Value}(r:Vals (ks.map kV) vs):vs.map jU=ks.map fun k=>[k]:=by
 induction ks generalizing vs with
 |nil=>rw[Paired.n0 r];rfl
 |cons k ks ih =>
  obtain⟨u,vs,rfl,r,rs⟩:=Paired.c r
  rw[fe,fe,nu r,ih rs]
theorem uh{ks:List Key}(vs:List Value)(h:∀ v∈vs,∃ k,RelV (kV k) v/\k∈ks):∃ ms:List Key,Vals (ms.map kV) vs:=by
 induction vs with
 |nil=>exact⟨[],.nil⟩
 |cons v vs ih =>
  obtain⟨ms,r⟩:=ih fun u hu=>h u (b9 _ hu)
  obtain⟨k,rk,_⟩:=h v b5
  exact⟨k :: ms,.cons rk r⟩
theorem Am:∀ {ms ks:List Key},(ms.map fun k=>[k]).Perm (ks.map fun k=>[k])->ms.Perm ks:=fun {ms ks} h=>by
 have:=h.map (fun l:List Key=>l.head?)
 simp only[eP] at this
 have e:∀ l:List Key,l.map ((fun l:List Key=>l.head?) ∘ fun k=>[k])=l.map some:=fun l=>B1 fun _ _=>rfl
 rw[e,e] at this
 have:=this.filterMap id
 simpa using this
def kZ:HO->Prop
 |.dK _=>True
 |.dT _=>True
 |_=>False
section
variable {X:Cx}{pins:List (Addr × Obj)}{σ:St}{H:Hp}{s:Shared}
theorem Inv.tO(I:Inv X pins σ H s)(e:H p=some u)(nt:∀ xs,u≠.tup xs)(no:∀ y,u≠.own y)(nf:∀ o w,X.nK p≠some (.eC o w))(nb:∀ ps,X.nK p≠some (.sL ps))(new:fo X.prog X.w (upd H p v) s.heap p v):Inv X pins σ (upd H p v) s:=by
 have ne:∀ {b:Addr},H b=none->b≠p:=fun h z=>by subst z;rw[e] at h;cases h
 have ht:∀ b xs,H b=some (.tup xs)->upd H p v b=some (.tup xs):=fun b xs q=>by
  rw[cv fun z=>by subst z;rw[e] at q;cases q;exact nt _ rfl];exact q
 refine⟨I.ok,I.os,I.bare,⟨I.base.keep,I.base.slot,fun b o q n hx=>?_,I.base.there,fun b xs q=>ht b xs (I.base.ib b xs q),fun b o w q=>?_,fun b ps q=>?_⟩,I.loc,I.cell,?_,fun x c q=>?_,fun q hq=>?_,fun b o q=>?_,I.len⟩
 ·have:=I.base.free b o q n hx
  rw[cv (ne this)];exact this
 ·rw[cv fun z=>by subst z;exact nf _ _ q];exact I.base.sM b o w q
 ·rw[cv fun z=>by subst z;exact nb _ q];exact I.base.uj b ps q
 ·rw[cv (ne I.free)];exact I.free
 ·rw[cv (ne (I.uk x c q))];exact I.uk x c q
 ·obtain⟨a,b,c⟩:=I.pin q hq
  exact⟨a,by rw[cv (ne b)];exact b,c⟩
 ·by_cases z:b=p
  ·subst z;rw[fi] at q;cases q;exact new
  ·rw[cv z] at q
   refine(I.bq b o q).fq (fun _ _ _ h=>h) (fun c h=>?_) ht
   rw[cv fun z=>by subst z;rw[e] at h;cases h;exact no _ rfl];exact h
theorem Inv.JS(I:Inv X pins σ H s)(e:H p=some u)(hu:kZ u):(∀ o w,X.nK p≠some (.eC o w))/\∀ ps,X.nK p≠some (.sL ps) :=
 ⟨fun o w z=>by have:=I.base.sM p o w z;rw[e] at this;cases this;exact hu,fun ps z=>by obtain⟨m,this⟩:=I.base.uj p ps z;rw[e] at this;cases this;exact hu⟩
theorem Inv.freeze(I:Inv X pins σ H s)(e:H p=some u)(hu:kZ u)(ho:s.heap.get? p=some o):Inv X pins σ (upd H p (.eC o u)) s:=by
 obtain⟨nf,nb⟩:=I.JS e hu
 refine I.tO e (fun xs z=>by subst z;exact hu) (fun y z=>by subst z;exact hu) nf nb ⟨ho,(I.bq p u e).fq (fun _ _ _ h=>h) (fun c h=>?_) fun c xs h=>?_⟩
 ·rw[cv fun z=>by subst z;rw[e] at h;cases h;exact hu];exact h
 ·rw[cv fun z=>by subst z;rw[e] at h;cases h;exact hu];exact h
theorem Inv.RA(I:Inv X pins σ H s)(e:H p=some (.eC o u))(nf:∀ o w,X.nK p≠some (.eC o w))(nb:∀ ps,X.nK p≠some (.sL ps)):Inv X pins σ (upd H p u) s:=by
 have ob:fo X.prog X.w H s.heap p (.eC o u):=I.bq p _ e
 refine I.tO e (fun xs z=>nomatch z) (fun y z=>nomatch z) nf nb (ob.2.fq (fun _ _ _ h=>h) (fun c h=>?_) fun c xs h=>?_)
 ·rw[cv fun z=>by subst z;rw[e] at h;cases h];exact h
 ·rw[cv fun z=>by subst z;rw[e] at h;cases h];exact h
def A4(X:Cx)(N:St->Hp->Prop):St->Hp->Prop:=fun σ H=>N σ H\/∃ p u o,H p=some (.eC o u)/\(∀ o w,X.nK p≠some (.eC o w))/\(∀ ps,X.nK p≠some (.sL ps))/\N σ (upd H p u)
def Uv(X:Cx)(N:V->Hp->Prop):V->Hp->Prop:=fun v H=>N v H\/∃ p u o,H p=some (.eC o u)/\(∀ o w,X.nK p≠some (.eC o w))/\(∀ ps,X.nK p≠some (.sL ps))/\N v (upd H p u)
theorem Hx{st:Stmt}(h:PS X st t):PS X st (fun D σ H=>t { D with nx:=A4 X D.nx,bk:=A4 X D.bk,ct:=A4 X D.ct,rt:=Uv X D.rt } σ H):=by
 intro pins s σ H D I q
 refine cw (h pins s σ H _ I q) fun f s1 z=>?_
 cases f with
 |next =>
  obtain⟨nV,H1,I1,n|⟨p,u,o,e,nf,nb,n⟩⟩:=z
  ·exact⟨nV,H1,I1,n⟩
  ·exact⟨nV,_,I1.RA e nf nb,n⟩
 |cont =>
  obtain⟨nV,H1,I1,n|⟨p,u,o,e,nf,nb,n⟩⟩:=z
  ·exact⟨nV,H1,I1,n⟩
  ·exact⟨nV,_,I1.RA e nf nb,n⟩
 |brk =>
  obtain⟨nV,H1,I1,n|⟨p,u,o,e,nf,nb,n⟩⟩:=z
  ·exact⟨nV,H1,I1,n⟩
  ·exact⟨nV,_,I1.RA e nf nb,n⟩
 |ret v =>
  obtain⟨x1,nV,H1,I1,r1,n|⟨p,u,o,e,nf,nb,n⟩⟩:=z
  ·exact⟨x1,nV,H1,I1,r1,n⟩
  ·exact⟨x1,nV,_,I1.RA e nf nb,r1,n⟩
end
def E4(p:Addr)(o:Obj)(ks:List V):It :=
 ⟨fun i H=>i<ks.length/\∃ u,H p=some (.eC o u),fun i H x H'=>H'=H/\ks[i]? = some x,fun i H=>i=ks.length/\∃ u,H p=some (.eC o u)⟩
theorem zL{P:Program}{K:PySem.W.Frag}(p it:Addr)(hx:o.ExactDict)(hd:o.data=.dict es ep)(hl:es.size=ks.length)
  (hk:∀ (i:Nat) x,ks[i]? = some x->∃ e,es[i]? = some e/\RelV x e.key):Turn P w K tg (E4 p o ks) [it] it (fun i h=>h.IsKeyIter it p i es.size ep) where
 mem:=by simp
 obj:=fun i h st b hb=>by
  have e:b=it:=by simpa using hb
  subst e
  obtain⟨o,e,c,d⟩:=st
  exact⟨o,e,fun v z=>by rw[d] at z;cases z⟩
 keep:=fun i h h' st k=>st.at fun o e=>k it (by simp) o e
 item:=by
  intro X hP hw hK hc i pins s σ H E I hf st hg
  subst hP hw hK
  obtain⟨hi,u,Uw⟩:=hg
  have ob:fo X.prog X.w H s.heap p (.eC o u):=I.bq p _ Uw
  obtain⟨e,he,rk⟩:=hk i ks[i] (mG hi)
  obtain⟨f0,f1,f2,f3,f4,f5⟩:=hf it (by simp)
  have iF:i<es.size:=by lia
  have IE:es[i]=e:=by rw[wo iF] at he;exact Option.some.inj he
  refine vL st ⟨o,ob.1,hx,hd⟩ iF fun h' aS sb=>?_
  have I1:Inv X pins σ H { s with heap:=h' }:=I.turned (t':=s.toks) (fun b o hb e=>(sb.2 b hb).trans e) f0 f1 f3 f4 f5
  obtain⟨o2,e2,c2,d2⟩:=id aS
  exact⟨_,rfl,L1 (s:={ s with heap:=h' }) e2 c2 d2 (by decide) ⟨ks[i],H,I1,by rw[IE];exact rk,⟨rfl,mG hi⟩,aS,fun b hb=>(hf b hb).1⟩⟩
 done:=by
  intro X hP hw hK hc i pins s σ H E I hf st hg
  subst hP hw hK
  obtain⟨hi,u,Uw⟩:=hg
  have ob:fo X.prog X.w H s.heap p (.eC o u):=I.bq p _ Uw
  obtain⟨f0,f1,f2,f3,f4,f5⟩:=hf it (by simp)
  have iF:i=es.size:=by lia
  subst iF
  exact vK (I.ok.hd hc) st ⟨o,ob.1,hx,hd⟩ fun h' eb=>⟨rfl,I.turned (t':=s.toks) (fun b o hb e=>eb b o hb e) f0 f1 f3 f4 f5⟩
 self:=fun _ _ _ _ _ st h=>wpAny_pyIter_keyiter st h
theorem yc:∀ {el:List DictEntry} {vs:List (Key × Value)},Pairs (ka prog w) el vs->∀ {kvs:List (Key × V)},KV kvs vs->el.length=kvs.length/\∀ (i:Nat) x,(kvs.map fun kv=>kV kv.1)[i]? = some x->∃ e,el[i]? = some e/\RelV x e.key:=by
 intro el vs h
 induction h with
 |nil =>
  intro kvs r
  cases r
  exact⟨rfl,fun i x hx=>by simp at hx⟩
 |@cons e kv es vs hk hv _ ih =>
  intro kvs r
  cases r with
  |@cons p q l1 l2 r1 rs =>
   obtain⟨a,b⟩:=ih rs
   refine⟨by rw[pS,pS,a],fun i x hx=>?_⟩
   cases i with
   |zero =>
    simp only[fe,List.getElem?_cons_zero,Option.some.injEq] at hx
    subst hx
    refine⟨e,rfl,?_⟩
    rw[r1.1]
    rcases xE hk with⟨i,t,e1,e2⟩|⟨x,t,e1,e2⟩<;>rw[e1,e2]<;>exact⟨t,rfl⟩
   |succ i=>exact b i x (by simpa using hx)
def oY(H:Hp)(u:HO)(ks:List V):Prop:=match u with
 |.dK kvs=>ks=kvs.map fun kv=>kV kv.1
 |.dT kvs=>cG H ks (kvs.map (·.1))
 |_=>False
def Ks(X:Cx)(tl:TE):TI:=fun σ H R=>tl σ H fun x H1=>∃ p u,x=.ref p/\kZ u /\
 ((H1 p=some u/\∀ o ks,(∀ o' w,X.nK p≠some (.eC o' w))->(∀ ps,X.nK p≠some (.sL ps))->oY H1 u ks->R (E4 p o ks) (upd H1 p (.eC o u)))\/∃ o,H1 p=some (.eC o u)/\∀ ks,oY H1 u ks->R (E4 p o ks) H1)
theorem vN{P:Program}(hu:kZ u)(ob:fo P w H h p u):∃ o es ep ks,h.get? p=some o/\o.ExactDict/\o.data=.dict es ep/\(p == sysModules)=false/\es.size=ks.length/\(∀ (i:Nat) x,ks[i]? = some x->∃ e,es[i]? = some e/\RelV x e.key)/\oY H u ks:=by
 cases u with
 |dK kvs =>
  obtain⟨z,y,vs,rel,o,es,ep,h1,h2,h3,h4,h5,h6⟩:=ob
  obtain⟨a,b⟩:=yc h5 rel
  refine⟨o,es,ep,_,h1,h2,h3,y,?_,fun i x hx=>?_,rfl⟩
  ·rw[bS,<- a,tT]
  ·obtain⟨e,he,r⟩:=b i x hx
   exact⟨e,by rw[<- oq];exact he,r⟩
 |dT kvs =>
  obtain⟨z,y,ps,rel,o,es,ep,h1,h2,h3,h4,h5⟩:=ob
  obtain⟨ta,va⟩:=yQ (prog:=P) (w:=w) rel
  refine⟨o,es,ep,_,h1,h2,h3,y,?_,fun i x hx=>?_,ta⟩
  ·have:=congrArg List.length h4
   rw[tT,bS] at this
   rw[this,bS]
  ·obtain⟨w,hw,kr⟩:=va.get hx
   rw[mr,<- h4,oq] at hw
   obtain⟨e,he,rfl⟩:=QF.mp hw
   exact⟨e,he,kr⟩
 |_=>exact hu.elim
theorem Gz{X:Cx}(he:PE X e tl):PI X tg e (Ks X tl):=by
 intro pins s σ H R I h
 refine cw (he pins s σ H _ I h) fun v s1 cK=>L2.gI cK fun x H1 I1 r1 q1=>?_
 obtain⟨p,u,e,hu,q⟩:=q1
 subst e
 cases r1
 have fin:∀ {H2:Hp} {o:Obj} {es:MX} {ep:Nat} {ks:List V},s1.heap.get? p=some o->o.ExactDict->o.data=.dict es ep->(p == sysModules)=false->es.size=ks.length->(∀ (i:Nat) x,ks[i]? = some x->∃ e,es[i]? = some e/\RelV x e.key)->Inv X pins σ H2 s1->R (E4 p o ks) H2 ->
   wpAny (model X.prog X.w) X.A (pyIter (.ref p)) (To X pins σ tg R) X.xe s1:=by
  intro H2 o es ep ks ho hx hd lo hl hk I2 q
  refine wN lo ⟨o,ho,hx,hd⟩ ?_
  refine⟨s1.heap.objs.size,[s1.heap.objs.size],_,_,_,rfl,I2.kept (t':=s1.toks) fun b o e=>fh _ e,zL p _ hx hd hl hk,⟨_,iX _ rfl,rfl,rfl⟩,fun b hb=>?_,q⟩
  have e:b=s1.heap.objs.size:=by simpa using hb
  subst e
  exact I2.HM (ck _) (I2.bq.fresh (ck _))
 rcases q with⟨hp,q⟩|⟨o,hp,q⟩
 ·obtain⟨o,es,ep,ks,ho,hx,hd,lo,hl,hk,yi⟩:=vN hu (I1.bq p u hp)
  obtain⟨nf,nb⟩:=I1.JS hp hu
  exact fin ho hx hd lo hl hk (I1.freeze hp hu ho) (q o ks nf nb yi)
 ·have ob:fo X.prog X.w H1 s1.heap p (.eC o u):=I1.bq p _ hp
  obtain⟨o',es,ep,ks,ho,hx,hd,lo,hl,hk,yi⟩:=vN hu ob.2
  have e:o'=o:=by have:=ob.1;rw[ho] at this;exact Option.some.inj this
  subst e
  exact fin ho hx hd lo hl hk I1 (q ks yi)
end L2
namespace L2.Q
open PySem PySem.Spec PyProof.Rows
inductive D where
 |non|bl (b:Bool)|int (i:Int)|str (x:Str)
 |list (xs:List D)|tup (xs:List D)|dK (kvs:List (Key × D))|dT (kvs:List (List Key × D))
mutual
/-- nothing in it can be changed -/
def D.flat:D->Bool
 |.list _=>false
 |.dK _=>false
 |.dT _=>false
 |.tup xs=>cp xs
 |_=>true
def cp:List D->Bool
 |[]=>true
 |x :: xs=>x.flat && cp xs
end
theorem lV:∀ {xs:List D},cp xs=true↔∀ x∈xs,x.flat=true
 |[]=>by simp[cp]
 |x :: xs=>by simp[cp,lV (xs:=xs)]
theorem gf:cp (xs++ys)=(cp xs && cp ys):=by
 induction xs with
 |nil=>simp[cp]
 |cons x xs ih=>simp[cp,ih,Bool.and_assoc]
def yk:Key->Bool
 |.inl _=>true
 |.inr x=>decide (x.length<=sizeLine)
def RC(kvs:List (Key × D)):Prop:=kvs.length<=sizeLine/\∀ p∈kvs,yk p.1=true
def NC(kvs:List (List Key × D)):Prop:=kvs.length<=sizeLine/\∀ p∈kvs,p.1.length<=sizeLine/\∀ k∈p.1,yk k=true
mutual
inductive Rep(K:PySem.W.Frag)(H:Hp):D->V->Prop
 |non:Rep K H .non .non
 |bl (b:Bool):Rep K H (.bl b) (.bl b)
 |int (i:Int):Rep K H (.int i) (.int i)
 |str {x:Str}:x.length<=sizeLine->Rep K H (.str x) (.str x)
 |list {a:Addr} {vs:List V} {ds:List D}:vs.length<=sizeLine->eR K H a vs->aI K H ds vs->Rep K H (.list ds) (.ref a)
 |tup {a:Addr} {vs:List V} {ds:List D}:vs.length<=sizeLine->H a=some (.tup vs)->aI K H ds vs->Rep K H (.tup ds) (.ref a)
 |dK {a:Addr} {vs:List V} {kvs:List (Key × D)}:RC kvs->Rd H a (.dK ((kvs.map (·.1)).zip vs))->aI K H (kvs.map (·.2)) vs->Rep K H (.dK kvs) (.ref a)
 |dT {a:Addr} {vs:List V} {kvs:List (List Key × D)}:NC kvs->Rd H a (.dT ((kvs.map (·.1)).zip vs))->aI K H (kvs.map (·.2)) vs->Rep K H (.dT kvs) (.ref a)
inductive aI(K:PySem.W.Frag)(H:Hp):List D->List V->Prop
 |nil:aI K H [] []
 |cons {d:D} {v:V} {ds:List D} {vs:List V}:Rep K H d v->aI K H ds vs->aI K H (d :: ds) (v :: vs)
end
theorem Rep.ind{K:PySem.W.Frag}{H:Hp}{m1:D->V->Prop}{m2:List D->List V->Prop}(h0:m1 .non .non)(hb:∀ b,m1 (.bl b) (.bl b))(hi:∀ i,m1 (.int i) (.int i))(hs:∀ x,x.length<=sizeLine->m1 (.str x) (.str x))
  (hl:∀ a vs ds,vs.length<=sizeLine->eR K H a vs->aI K H ds vs->m2 ds vs->m1 (.list ds) (.ref a)) (ht:∀ a vs ds,vs.length<=sizeLine->H a=some (.tup vs)->aI K H ds vs->m2 ds vs->m1 (.tup ds) (.ref a))
  (hk:∀ a vs kvs,RC kvs->Rd H a (.dK ((kvs.map (·.1)).zip vs))->aI K H (kvs.map (·.2)) vs->m2 (kvs.map (·.2)) vs->m1 (.dK kvs) (.ref a)) (hT:∀ a vs kvs,NC kvs->Rd H a (.dT ((kvs.map (·.1)).zip vs))->aI K H (kvs.map (·.2)) vs->m2 (kvs.map (·.2)) vs->m1 (.dT kvs) (.ref a))
  (hn:m2 [] []) (hc:∀ d v ds vs,Rep K H d v->aI K H ds vs->m1 d v->m2 ds vs->m2 (d :: ds) (v :: vs)):(∀ {d v},Rep K H d v->m1 d v)/\∀ {ds vs},aI K H ds vs->m2 ds vs :=
 ⟨fun r=>Rep.rec (motive_1:=fun d v _=>m1 d v) (motive_2:=fun ds vs _=>m2 ds vs) h0 hb hi (fun h=>hs _ h) (fun z s r ih=>hl _ _ _ z s r ih) (fun z s r ih=>ht _ _ _ z s r ih) (fun z s r ih=>hk _ _ _ z s r ih) (fun z s r ih=>hT _ _ _ z s r ih) hn (fun r s a b=>hc _ _ _ _ r s a b) r,
  fun r=>aI.rec (motive_1:=fun d v _=>m1 d v) (motive_2:=fun ds vs _=>m2 ds vs) h0 hb hi (fun h=>hs _ h) (fun z s r ih=>hl _ _ _ z s r ih) (fun z s r ih=>ht _ _ _ z s r ih) (fun z s r ih=>hk _ _ _ z s r ih) (fun z s r ih=>hT _ _ _ z s r ih) hn (fun r s a b=>hc _ _ _ _ r s a b) r⟩
theorem kP.k'(e:Rd H a (.dK kvs)):kP H a (kV k) (gp kvs k):=.inl ⟨kvs,k,e,rfl,rfl⟩
theorem kP.t'(e:Rd H a (.dT kvs))(eb:H b=some (.tup (k.map kV))):kP H a (.ref b) (gp kvs k):=.inr ⟨kvs,k,b,e,rfl,eb,rfl⟩
theorem ax.rd(s:ax H H')(h:Rd H a u):Rd H' a u:=h.imp (s _ _) fun⟨o,e⟩=>⟨o,s _ _ e⟩
theorem Rep.Iw{K:PySem.W.Frag}(s:ax H H'):(∀ {d:D} {v:V},Rep K H d v->Rep K H' d v)/\∀ {ds:List D} {vs:List V},aI K H ds vs->aI K H' ds vs :=
 Rep.ind .non .bl .int (fun _ h=>.str h) (fun _ _ _ z h _ ih=>.list z (s.lst h) ih) (fun _ _ _ z h _ ih=>.tup z (s _ _ h) ih) (fun _ _ _ kk h _ ih=>.dK kk (ax.rd s h) ih) (fun _ _ _ kk h _ ih=>.dT kk (ax.rd s h) ih) .nil fun _ _ _ _ _ _ a b=>.cons a b
theorem Rep.same{K:PySem.W.Frag}(s:ax H H')(r:Rep K H d v):Rep K H' d v:=(Rep.Iw s).1 r
theorem aI.same{K:PySem.W.Frag}(s:ax H H')(r:aI K H ds vs):aI K H' ds vs:=(Rep.Iw s).2 r
theorem aI.ind{K:PySem.W.Frag}{H:Hp}{m:List D->List V->Prop}(hn:m [] [])(hc:∀ d v ds vs,Rep K H d v->aI K H ds vs->m ds vs->m (d :: ds) (v :: vs)):∀ {ds vs},aI K H ds vs->m ds vs :=
 fun r=>(Rep.ind (m1:=fun _ _=>True) (m2:=m) trivial (fun _=>trivial) (fun _=>trivial) (fun _ _=>trivial) (fun _ _ _ _ _ _ _=>trivial) (fun _ _ _ _ _ _ _=>trivial) (fun _ _ _ _ _ _ _=>trivial) (fun _ _ _ _ _ _ _=>trivial) hn fun d v ds vs r s _ b=>hc d v ds vs r s b).2 r
theorem aI.length{K:PySem.W.Frag}(r:aI K H ds vs):ds.length=vs.length :=
 aI.ind (m:=fun ds vs=>ds.length=vs.length) rfl (fun _ _ _ _ _ _ ih=>by rw[pS,pS,ih]) r
theorem aI.append{K:PySem.W.Frag}(r:aI K H ds vs)(t:aI K H es ws):aI K H (ds++es) (vs++ws) :=
 aI.ind (m:=fun ds vs=>aI K H (ds++es) (vs++ws)) t (fun _ _ _ _ h _ ih=>.cons h ih) r
theorem aI.get{K:PySem.W.Frag}{H:Hp}{ds:List D}{vs:List V}{i:Nat}{d:D}(r:aI K H ds vs)(e:ds[i]? = some d):∃ v,vs[i]? = some v/\Rep K H d v :=
 aI.ind (m:=fun ds vs=>∀ i d,ds[i]? = some d->∃ v,vs[i]? = some v/\Rep K H d v) (fun i d e=>by simp at e) (fun _ _ _ _ h _ ih i d e=>by
  cases i with
  |zero=>simp at e;subst e;exact⟨_,rfl,h⟩
  |succ i =>
   obtain⟨v,e1,r⟩:=ih i d (by simpa using e)
   exact⟨v,by simpa using e1,r⟩) r i d e
theorem aI.Y0{K:PySem.W.Frag}{H:Hp}{ds:List D}{vs:List V}{i:Nat}{v:V}(r:aI K H ds vs)(e:vs[i]? = some v):∃ d,ds[i]? = some d/\Rep K H d v :=
 aI.ind (m:=fun ds vs=>∀ i v,vs[i]? = some v->∃ d,ds[i]? = some d/\Rep K H d v) (fun i d e=>by simp at e) (fun _ _ _ _ h _ ih i d e=>by
  cases i with
  |zero=>simp at e;subst e;exact⟨_,rfl,h⟩
  |succ i =>
   obtain⟨v,e1,r⟩:=ih i d (by simpa using e)
   exact⟨v,by simpa using e1,r⟩) r i v e
theorem aI.drop{K:PySem.W.Frag}(n:Nat)(r:aI K H ds vs):aI K H (ds.drop n) (vs.drop n) :=
 aI.ind (m:=fun ds vs=>∀ n,aI K H (ds.drop n) (vs.drop n)) (fun n=>by rw[List.drop_nil,List.drop_nil];exact .nil) (fun _ _ _ _ h hs ih n=>by
  cases n with
  |zero=>exact .cons h hs
  |succ n=>exact ih n) r n
theorem aI.n0{K:PySem.W.Frag}(h:aI K H [] vs):vs=[]:=by cases h;rfl
theorem aI.c{K:PySem.W.Frag}(h:aI K H (d :: ds) vs):∃ u us,vs=u :: us/\Rep K H d u/\aI K H ds us:=by
 cases h with
 |cons r rs=>exact⟨_,_,rfl,r,rs⟩
theorem aI.take{K:PySem.W.Frag}(n:Nat)(r:aI K H ds vs):aI K H (ds.take n) (vs.take n) :=
 aI.ind (m:=fun ds vs=>∀ n,aI K H (ds.take n) (vs.take n)) (fun n=>by rw[List.take_nil,List.take_nil];exact .nil) (fun _ _ _ _ h hs ih n=>by
  cases n with
  |zero=>exact .nil
  |succ n=>exact .cons h (ih n)) r n
mutual
/-- what is owned: a tree whose lists and ju' stand at As,jv' jw';its leaves shared (fl: and flat) -/
inductive bG(K:PySem.W.Frag)(Hs H:Hp)(fl:Bool):D->V->List Addr->Prop
 |sh {d:D} {v:V}:(fl=true->d.flat=true)->Rep K Hs d v->bG K Hs H fl d v []
 |list {a:Addr} {vs:List V} {ds:List D} {As:List Addr}:vs.length<=sizeLine->H a=some (.lst vs)->az K Hs H fl ds vs As->bG K Hs H fl (.list ds) (.ref a) (a :: As)
 |tup {a:Addr} {vs:List V} {ds:List D} {As:List Addr}:vs.length<=sizeLine->Hs a=some (.tup vs)->cp ds=false->az K Hs H fl ds vs As->bG K Hs H fl (.tup ds) (.ref a) As
 |dK {a:Addr} {vs:List V} {kvs:List (Key × D)} {As:List Addr}:RC kvs->H a=some (.dK ((kvs.map (·.1)).zip vs))->az K Hs H fl (kvs.map (·.2)) vs As->bG K Hs H fl (.dK kvs) (.ref a) (a :: As)
 |dT {a:Addr} {vs:List V} {kvs:List (List Key × D)} {As:List Addr}:NC kvs->H a=some (.dT ((kvs.map (·.1)).zip vs))->az K Hs H fl (kvs.map (·.2)) vs As->bG K Hs H fl (.dT kvs) (.ref a) (a :: As)
inductive az(K:PySem.W.Frag)(Hs H:Hp)(fl:Bool):List D->List V->List Addr->Prop
 |nil:az K Hs H fl [] [] []
 |cons {d:D} {v:V} {ds:List D} {vs:List V} {As Bs:List Addr}:bG K Hs H fl d v As->az K Hs H fl ds vs Bs->az K Hs H fl (d :: ds) (v :: vs) (As++Bs)
end
def Own(H:Hp)(a:Addr):Prop:=(∃ vs,H a=some (.lst vs))\/(∃ kvs,H a=some (.dK kvs))\/∃ kvs,H a=some (.dT kvs)
section
variable {K:PySem.W.Frag}{Hs ai H H':Hp}{fl:Bool}
theorem Own.ne(h:Own H a):H a≠none:=by
 rcases h with⟨_,e⟩|⟨_,e⟩|⟨_,e⟩<;>rw[e]<;>exact fun z=>nomatch z
theorem Own.Ed(h:Own H a):H a≠some (.tup vs):=by
 rcases h with⟨_,e⟩|⟨_,e⟩|⟨_,e⟩<;>rw[e]<;>exact fun z=>nomatch z
theorem bG.ind{m1:D->V->List Addr->Prop}{m2:List D->List V->List Addr->Prop}(hs:∀ d v,(fl=true->d.flat=true)->Rep K Hs d v->m1 d v [])
  (hl:∀ a vs ds As,vs.length<=sizeLine->H a=some (.lst vs)->az K Hs H fl ds vs As->m2 ds vs As->m1 (.list ds) (.ref a) (a :: As)) (ht:∀ a vs ds As,vs.length<=sizeLine->Hs a=some (.tup vs)->cp ds=false->az K Hs H fl ds vs As->m2 ds vs As->m1 (.tup ds) (.ref a) As)
  (hk:∀ a vs kvs As,RC kvs->H a=some (.dK ((kvs.map (·.1)).zip vs))->az K Hs H fl (kvs.map (·.2)) vs As->m2 (kvs.map (·.2)) vs As->m1 (.dK kvs) (.ref a) (a :: As)) (hT:∀ a vs kvs As,NC kvs->H a=some (.dT ((kvs.map (·.1)).zip vs))->az K Hs H fl (kvs.map (·.2)) vs As->m2 (kvs.map (·.2)) vs As->m1 (.dT kvs) (.ref a) (a :: As))
  (hn:m2 [] [] []) (hc:∀ d v ds vs As Bs,bG K Hs H fl d v As->az K Hs H fl ds vs Bs->m1 d v As->m2 ds vs Bs->m2 (d :: ds) (v :: vs) (As++Bs)):(∀ {d v As},bG K Hs H fl d v As->m1 d v As)/\∀ {ds vs As},az K Hs H fl ds vs As->m2 ds vs As :=
 ⟨fun r=>bG.rec (motive_1:=fun d v As _=>m1 d v As) (motive_2:=fun ds vs As _=>m2 ds vs As) (fun f r=>hs _ _ f r) (fun z s r ih=>hl _ _ _ _ z s r ih) (fun z s n r ih=>ht _ _ _ _ z s n r ih) (fun z s r ih=>hk _ _ _ _ z s r ih) (fun z s r ih=>hT _ _ _ _ z s r ih) hn (fun r s a b=>hc _ _ _ _ _ _ r s a b) r,
  fun r=>az.rec (motive_1:=fun d v As _=>m1 d v As) (motive_2:=fun ds vs As _=>m2 ds vs As) (fun f r=>hs _ _ f r) (fun z s r ih=>hl _ _ _ _ z s r ih) (fun z s n r ih=>ht _ _ _ _ z s n r ih) (fun z s r ih=>hk _ _ _ _ z s r ih) (fun z s r ih=>hT _ _ _ _ z s r ih) hn (fun r s a b=>hc _ _ _ _ _ _ r s a b) r⟩
theorem vx{a:Addr}{p:Prop}(h:a∈([]:List Addr)):p:=absurd h B4
theorem bG.Y1:(∀ {d:D} {v:V} {As:List Addr},bG K Hs H fl d v As->∀ a∈As,Own H a)/\∀ {ds:List D} {vs:List V} {As:List Addr},az K Hs H fl ds vs As->∀ a∈As,Own H a :=
 bG.ind (m1:=fun _ _ As=>∀ a∈As,Own H a) (m2:=fun _ _ As=>∀ a∈As,Own H a) (fun _ _ _ _ a h=>vx h) (fun _ _ _ _ _ e _ ih a h=>(dr.mp h).elim (fun z=>z ▸ .inl ⟨_,e⟩) (ih a)) (fun _ _ _ _ _ _ _ _ ih=>ih)
  (fun _ _ _ _ _ e _ ih a h=>(dr.mp h).elim (fun z=>z ▸ .inr (.inl ⟨_,e⟩)) (ih a)) (fun _ _ _ _ _ e _ ih a h=>(dr.mp h).elim (fun z=>z ▸ .inr (.inr ⟨_,e⟩)) (ih a)) (fun a h=>vx h) fun _ _ _ _ _ _ _ _ i1 i2 a h=>(dy.mp h).elim (i1 a) (i2 a)
theorem bG.own(r:bG K Hs H fl d v As):∀ a∈As,Own H a:=bG.Y1.1 r
theorem az.own(r:az K Hs H fl ds vs As):∀ a∈As,Own H a:=bG.Y1.2 r
theorem bG.Ib(s:ax Hs ai):(∀ {d:D} {v:V} {As:List Addr},bG K Hs H fl d v As->(∀ a∈As,H' a=H a)->bG K ai H' fl d v As)/\∀ {ds:List D} {vs:List V} {As:List Addr},az K Hs H fl ds vs As->(∀ a∈As,H' a=H a)->az K ai H' fl ds vs As :=
 bG.ind (m1:=fun d v As=>(∀ a∈As,H' a=H a)->bG K ai H' fl d v As) (m2:=fun ds vs As=>(∀ a∈As,H' a=H a)->az K ai H' fl ds vs As) (fun _ _ f r _=>.sh f (r.same s))
  (fun _ _ _ _ z e _ ih k=>.list z ((k _ b5).trans e) (ih fun a h=>k a (b9 _ h))) (fun _ _ _ _ z e n _ ih k=>.tup z (s _ _ e) n (ih k)) (fun _ _ _ _ z e _ ih k=>.dK z ((k _ b5).trans e) (ih fun a h=>k a (b9 _ h)))
  (fun _ _ _ _ z e _ ih k=>.dT z ((k _ b5).trans e) (ih fun a h=>k a (b9 _ h))) (fun _=>.nil) fun _ _ _ _ _ _ _ _ i1 i2 k=>.cons (i1 fun a h=>k a (kf _ h)) (i2 fun a h=>k a (fw _ h))
theorem bG.fq(s:ax Hs ai)(r:bG K Hs H fl d v As)(k:∀ a∈As,H' a=H a):bG K ai H' fl d v As:=(bG.Ib s).1 r k
theorem az.fq(s:ax Hs ai)(r:az K Hs H fl ds vs As)(k:∀ a∈As,H' a=H a):az K ai H' fl ds vs As:=(bG.Ib s).2 r k
theorem bG.grow(s:ax Hs ai)(t:ax H H')(r:bG K Hs H fl d v As):bG K ai H' fl d v As :=
 r.fq s fun a h=>by
  cases e:H a with
  |none=>exact absurd e (r.own a h).ne
  |some o=>exact t a o e
theorem az.grow(s:ax Hs ai)(t:ax H H')(r:az K Hs H fl ds vs As):az K ai H' fl ds vs As :=
 r.fq s fun a h=>by
  cases e:H a with
  |none=>exact absurd e (r.own a h).ne
  |some o=>exact t a o e
theorem bG.rep2{G:Hp}(s:ax Hs G):(∀ {d:D} {v:V} {As:List Addr},bG K Hs H fl d v As->(∀ a∈As,G a=H a)->Rep K G d v)/\∀ {ds:List D} {vs:List V} {As:List Addr},az K Hs H fl ds vs As->(∀ a∈As,G a=H a)->aI K G ds vs :=
 bG.ind (m1:=fun d v As=>(∀ a∈As,G a=H a)->Rep K G d v) (m2:=fun ds vs As=>(∀ a∈As,G a=H a)->aI K G ds vs) (fun _ _ _ r _=>r.same s)
  (fun _ _ _ _ z e _ ih k=>.list z (.inl (.inl ((k _ b5).trans e))) (ih fun a h=>k a (b9 _ h))) (fun _ _ _ _ z e n _ ih k=>.tup z (s _ _ e) (ih k)) (fun _ _ _ _ z e _ ih k=>.dK z (.inl ((k _ b5).trans e)) (ih fun a h=>k a (b9 _ h)))
  (fun _ _ _ _ z e _ ih k=>.dT z (.inl ((k _ b5).trans e)) (ih fun a h=>k a (b9 _ h))) (fun _=>.nil) fun _ _ _ _ _ _ _ _ i1 i2 k=>.cons (i1 fun a h=>k a (kf _ h)) (i2 fun a h=>k a (fw _ h))
theorem bG.rep(s:ax Hs G)(r:bG K Hs H fl d v As)(k:∀ a∈As,G a=H a):Rep K G d v:=(bG.rep2 s).1 r k
theorem az.reps(s:ax Hs G)(r:az K Hs H fl ds vs As)(k:∀ a∈As,G a=H a):aI K G ds vs:=(bG.rep2 s).2 r k
theorem Rep.Bc(t:∀ a vs,H a=some (.tup vs)->G a=some (.tup vs)):(∀ {d:D} {v:V},Rep K H d v->d.flat=true->Rep K G d v)/\∀ {ds:List D} {vs:List V},aI K H ds vs->cp ds=true->aI K G ds vs :=
 Rep.ind (m1:=fun d v=>d.flat=true->Rep K G d v) (m2:=fun ds vs=>cp ds=true->aI K G ds vs) (fun _=>.non) (fun b _=>.bl b) (fun i _=>.int i) (fun _ h _=>.str h) (fun _ _ _ _ _ _ _ f=>by simp[D.flat] at f) (fun _ _ _ z e _ ih f=>.tup z (t _ _ e) (ih (by simpa[D.flat] using f)))
  (fun _ _ _ _ _ _ _ f=>by simp[D.flat] at f) (fun _ _ _ _ _ _ _ f=>by simp[D.flat] at f) (fun _=>.nil) fun _ _ _ _ _ _ i1 i2 f=>by
   simp only[cp,kK] at f
   exact .cons (i1 f.1) (i2 f.2)
theorem Rep.eZ(t:∀ a vs,H a=some (.tup vs)->G a=some (.tup vs))(r:Rep K H d v)(f:d.flat=true):Rep K G d v:=(Rep.Bc t).1 r f
theorem aI.eZ(t:∀ a vs,H a=some (.tup vs)->G a=some (.tup vs))(r:aI K H ds vs)(f:cp ds=true):aI K G ds vs:=(Rep.Bc t).2 r f
theorem aI.owned(r:aI K Hs ds vs)(f:cp ds=true):az K Hs H fl ds vs [] :=
 aI.ind (m:=fun ds vs=>cp ds=true->az K Hs H fl ds vs []) (fun _=>.nil) (fun _ _ _ _ h _ ih f=>by
  simp only[cp,kK] at f
  exact .cons (As:=[]) (.sh (fun _=>f.1) h) (ih f.2)) r f
theorem aI.Io(r:aI K Hs ds vs):az K Hs H false ds vs [] :=
 aI.ind (m:=fun ds vs=>az K Hs H false ds vs []) .nil (fun _ _ _ _ h _ ih=>.cons (As:=[]) (.sh (fun z=>Bool.noConfusion z) h) ih) r
theorem bG.Y2:(∀ {d:D} {v:V} {As:List Addr},bG K Hs H fl d v As->bG K Hs H false d v As)/\∀ {ds:List D} {vs:List V} {As:List Addr},az K Hs H fl ds vs As->az K Hs H false ds vs As :=
 bG.ind (fun _ _ _ r=>.sh (fun z=>Bool.noConfusion z) r) (fun _ _ _ _ z e _ ih=>.list z e ih) (fun _ _ _ _ z e n _ ih=>.tup z e n ih) (fun _ _ _ _ z e _ ih=>.dK z e ih) (fun _ _ _ _ z e _ ih=>.dT z e ih) .nil fun _ _ _ _ _ _ _ _ a b=>.cons a b
theorem bG.RD(r:bG K Hs H fl d v As):bG K Hs H false d v As:=bG.Y2.1 r
theorem az.RD(r:az K Hs H fl ds vs As):az K Hs H false ds vs As:=bG.Y2.2 r
theorem bG.G9(t:∀ a vs,Hs a=some (.tup vs)->G a=some (.tup vs)):(∀ {d:D} {v:V} {As:List Addr},bG K Hs H true d v As->bG K G H true d v As)/\∀ {ds:List D} {vs:List V} {As:List Addr},az K Hs H true ds vs As->az K G H true ds vs As :=
 bG.ind (fun _ _ f r=>.sh f (r.eZ t (f rfl))) (fun _ _ _ _ z e _ ih=>.list z e ih) (fun _ _ _ _ z e n _ ih=>.tup z (t _ _ e) n ih) (fun _ _ _ _ z e _ ih=>.dK z e ih) (fun _ _ _ _ z e _ ih=>.dT z e ih) .nil fun _ _ _ _ _ _ _ _ a b=>.cons a b
theorem bG.leaves(t:∀ a vs,Hs a=some (.tup vs)->G a=some (.tup vs))(r:bG K Hs H true d v As):bG K G H true d v As:=(bG.G9 t).1 r
theorem az.ind{m:List D->List V->List Addr->Prop}(hn:m [] [] [])(hc:∀ d v ds vs As Bs,bG K Hs H fl d v As->az K Hs H fl ds vs Bs->m ds vs Bs->m (d :: ds) (v :: vs) (As++Bs)):∀ {ds vs As},az K Hs H fl ds vs As->m ds vs As :=
 fun r=>(bG.ind (m1:=fun _ _ _=>True) (m2:=m) (fun _ _ _ _=>trivial) (fun _ _ _ _ _ _ _ _=>trivial) (fun _ _ _ _ _ _ _ _ _=>trivial) (fun _ _ _ _ _ _ _ _=>trivial) (fun _ _ _ _ _ _ _ _=>trivial) hn fun d v ds vs As Bs r s _ b=>hc d v ds vs As Bs r s b).2 r
theorem az.append(r:az K Hs H fl ds vs As)(t:az K Hs H fl es ws Bs):az K Hs H fl (ds++es) (vs++ws) (As++Bs) :=
 az.ind (m:=fun ds vs As=>az K Hs H fl (ds++es) (vs++ws) (As++Bs)) t (fun _ _ _ _ _ _ h _ ih=>by
  rw[Lv]
  exact .cons h ih) r
theorem az.n0(h:az K Hs H fl [] vs As):vs=[]/\As=[]:=by cases h;exact⟨rfl,rfl⟩
theorem az.c(h:az K Hs H fl (d :: ds) vs As):∃ u us A B,vs=u :: us/\As=A++B/\bG K Hs H fl d u A/\az K Hs H fl ds us B:=by
 cases h with
 |cons r rs=>exact⟨_,_,_,_,rfl,rfl,r,rs⟩
theorem az.length(r:az K Hs H fl ds vs As):ds.length=vs.length :=
 az.ind (m:=fun ds vs _=>ds.length=vs.length) rfl (fun _ _ _ _ _ _ _ _ ih=>by rw[pS,pS,ih]) r
end
inductive Sl where
 /-- shared;owned;owned and walked by a loop just now (at a) -/
 |sh (d:D)|ow (fl:Bool) (d:D)|lk (a:Addr) (fl:Bool) (d:D)
 /-- an exception,at a -/
 |xc (a:Addr)
abbrev Env:=List (Option Sl)
inductive SR(K:PySem.W.Frag)(Hs H:Hp):Env->St->List Addr->Prop
 |nil:SR K Hs H [] [] []
 |non {ρ:Env} {σ:St} {ag:List Addr} {o:Option V}:SR K Hs H ρ σ ag->SR K Hs H (none :: ρ) (o :: σ) ag
 |sh {ρ:Env} {σ:St} {ag:List Addr} {d:D} {v:V}:Rep K Hs d v->SR K Hs H ρ σ ag->SR K Hs H (some (.sh d) :: ρ) (some v :: σ) ag
 |xc {ρ:Env} {σ:St} {ag:List Addr} {a:Addr}:SR K Hs H ρ σ ag->SR K Hs H (some (.xc a) :: ρ) (some (.ref a) :: σ) ag
 |ow {ρ:Env} {σ:St} {ag As:List Addr} {fl:Bool} {d:D} {v:V}:As≠[]->bG K Hs H fl d v As->SR K Hs H ρ σ ag->SR K Hs H (some (.ow fl d) :: ρ) (some v :: σ) (As++ag)
 |lk {ρ:Env} {σ:St} {ag As:List Addr} {a:Addr} {fl:Bool} {d:D}:As≠[]->bG K Hs H fl d (.ref a) As->SR K Hs H ρ σ ag->SR K Hs H (some (.lk a fl d) :: ρ) (some (.ref a) :: σ) (As++ag)
structure Wf(Hs H:Hp):Prop where
 sub:ax Hs H
 ib:∀ a vs,H a=some (.tup vs)->Hs a=some (.tup vs)
structure dc(K:PySem.W.Frag)(Hs:Hp)(ρ:Env)(σ:St)(H:Hp)(ag:List Addr):Prop where
 sr:SR K Hs H ρ σ ag
 wf:Wf Hs H
 lP:ag.Nodup
 own:∀ a∈ag,Hs a=none
structure eL(Hs H ai H':Hp):Prop where
 all:ax H H'
 sh:ax Hs ai
 wf:Wf ai H'
 new:∀ a,ai a≠none->Hs a≠none\/H a=none
section
variable {K:PySem.W.Frag}{Hs H ai H' Y3 Y4:Hp}
theorem eL.refl(w:Wf Hs H):eL Hs H Hs H:=⟨ax.refl _,ax.refl _,w,fun _ h=>.inl h⟩
theorem eL.trans(a:eL Hs H ai H')(b:eL ai H' Y3 Y4):eL Hs H Y3 Y4 :=
 ⟨a.all.trans b.all,a.sh.trans b.sh,b.wf,fun c h=>by
  rcases b.new c h with h|h
  ·exact a.new c h
  ·exact .inr (a.all.free h)⟩
theorem eL.mS(g:eL Hs H ai H')(h:Hs a=none)(h':H a≠none):ai a=none:=by
 cases e:ai a with
 |none=>rfl
 |some o =>
  rcases g.new a (by rw[e];exact fun z=>nomatch z) with z|z
  ·exact absurd h z
  ·exact absurd z h'
theorem SR.own{ρ:Env}{σ:St}{ag:List Addr}(s:SR K Hs H ρ σ ag):∀ a∈ag,Own H a:=by
 induction s with
 |nil=>exact fun a h=>vx h
 |non _ ih=>exact ih
 |sh _ _ ih=>exact ih
 |xc _ ih=>exact ih
 |ow _ r _ ih=>exact fun a h=>(dy.mp h).elim (r.own a) (ih a)
 |lk _ r _ ih=>exact fun a h=>(dy.mp h).elim (r.own a) (ih a)
theorem SR.fq(s:ax Hs ai)(r:SR K Hs H ρ σ ag):(∀ a∈ag,H' a=H a)->SR K ai H' ρ σ ag:=by
 induction r with
 |nil=>exact fun _=>.nil
 |non _ ih=>exact fun k=>.non (ih k)
 |sh h _ ih=>exact fun k=>.sh (h.same s) (ih k)
 |xc _ ih=>exact fun k=>.xc (ih k)
 |ow ne h _ ih=>exact fun k=>.ow ne (h.fq s fun a m=>k a (kf _ m)) (ih fun a m=>k a (fw _ m))
 |lk ne h _ ih=>exact fun k=>.lk ne (h.fq s fun a m=>k a (kf _ m)) (ih fun a m=>k a (fw _ m))
theorem dc.grow(r:dc K Hs ρ σ H ag)(g:eL Hs H ai H'):dc K ai ρ σ H' ag :=
 ⟨r.sr.fq g.sh fun a h=>by
  cases e:H a with
  |none=>exact absurd e (r.sr.own a h).ne
  |some o=>exact g.all a o e,g.wf,r.lP,fun a h=>g.mS (r.own a h) (r.sr.own a h).ne⟩
theorem SR.length(s:SR K Hs H ρ σ ag):ρ.length=σ.length:=by
 induction s with
 |nil=>rfl
 |non _ ih=>exact congrArg (· + 1) ih
 |sh _ _ ih=>exact congrArg (· + 1) ih
 |xc _ ih=>exact congrArg (· + 1) ih
 |ow _ _ _ ih=>exact congrArg (· + 1) ih
 |lk _ _ _ ih=>exact congrArg (· + 1) ih
def Cr(K:PySem.W.Frag)(Hs H:Hp)(ag:List Addr)(sl:Sl)(v:V):Prop:=match sl with
 |.sh d=>Rep K Hs d v
 |.ow fl d=>∃ As,As≠[]/\bG K Hs H fl d v As/\∀ a∈As,a∈ag
 |.lk a fl d=>∃ As,As≠[]/\bG K Hs H fl d v As/\v=.ref a/\∀ a∈As,a∈ag
 |.xc a=>v=.ref a
theorem Cr.mono(h:Cr K Hs H ag sl v)(m:∀ a∈ag,a∈bT):Cr K Hs H bT sl v:=by
 cases sl with
 |sh d=>exact h
 |xc a=>exact h
 |ow fl d =>
  obtain⟨As,ne,r,q⟩:=h
  exact⟨As,ne,r,fun a ha=>m a (q a ha)⟩
 |lk a fl d =>
  obtain⟨As,ne,r,e,q⟩:=h
  exact⟨As,ne,r,e,fun a ha=>m a (q a ha)⟩
theorem SR.get{ρ:Env}{σ:St}{ag:List Addr}{i:Nat}{sl:Sl}(s:SR K Hs H ρ σ ag)(e:ρ[i]? = some (some sl)):∃ v,σ[i]? = some (some v)/\Cr K Hs H ag sl v:=by
 induction s generalizing i with
 |nil=>simp at e
 |non s ih =>
  cases i with
  |zero=>simp at e
  |succ i=>exact ih e
 |sh r s ih =>
  cases i with
  |zero=>simp at e;subst e;exact⟨_,rfl,r⟩
  |succ i=>exact ih e
 |xc s ih =>
  cases i with
  |zero=>simp at e;subst e;exact⟨_,rfl,rfl⟩
  |succ i=>exact ih e
 |ow ne r s ih =>
  cases i with
  |zero=>simp at e;subst e;exact⟨_,rfl,_,ne,r,fun a m=>kf _ m⟩
  |succ i =>
   obtain⟨v,e1,h⟩:=ih e
   exact⟨v,e1,h.mono fun a m=>fw _ m⟩
 |lk ne r s ih =>
  cases i with
  |zero=>simp at e;subst e;exact⟨_,rfl,_,ne,r,rfl,fun a m=>kf _ m⟩
  |succ i =>
   obtain⟨v,e1,h⟩:=ih e
   exact⟨v,e1,h.mono fun a m=>fw _ m⟩
end
inductive Md where
 |sh|ow (fl:Bool)|bo
def RM(K:PySem.W.Frag)(Hs H:Hp):Md->D->V->List Addr->Prop
 |.sh,d,v,As=>As=[]/\Rep K Hs d v
 |.ow fl,d,v,As=>bG K Hs H fl d v As/\As≠[]
 |.bo,d,v,As=>As=[]/\Rep K H d v
inductive yn(K:PySem.W.Frag)(Hs H:Hp):List (Md × D)->List V->List Addr->Prop
 |nil:yn K Hs H [] [] []
 |cons {m:Md} {d:D} {v:V} {ps:List (Md × D)} {vs:List V} {As Bs:List Addr}:RM K Hs H m d v As->yn K Hs H ps vs Bs->yn K Hs H ((m,d) :: ps) (v :: vs) (As++Bs)
section
variable {K:PySem.W.Frag}{Hs H ai H':Hp}
theorem RM.own{m:Md}{d:D}{v:V}{As:List Addr}(r:RM K Hs H m d v As):∀ a∈As,Own H a:=by
 cases m with
 |sh=>obtain⟨rfl,_⟩:=r;exact fun a h=>vx h
 |ow fl=>exact bG.own r.1
 |bo=>obtain⟨rfl,_⟩:=r;exact fun a h=>vx h
theorem RM.grow(r:RM K Hs H m d v As)(g:eL Hs H ai H'):RM K ai H' m d v As:=by
 cases m with
 |sh=>exact⟨r.1,r.2.same g.sh⟩
 |ow fl=>exact⟨bG.grow g.sh g.all r.1,r.2⟩
 |bo=>exact⟨r.1,r.2.same g.all⟩
theorem RM.rep(w:Wf Hs H)(r:RM K Hs H m d v As):Rep K H d v:=by
 cases m with
 |sh=>exact r.2.same w.sub
 |ow fl=>exact bG.rep w.sub r.1 fun _ _=>rfl
 |bo=>exact r.2
theorem RM.flat(w:Wf Hs H)(r:RM K Hs H m d v As)(f:d.flat=true):Rep K Hs d v:=(r.rep w).eZ w.ib f
theorem yn.reps(w:Wf Hs H){ps:List (Md × D)}(r:yn K Hs H ps vs As):aI K H (ps.map (·.2)) vs:=by
 induction r with
 |nil=>exact .nil
 |cons r _ ih=>exact .cons (r.rep w) ih
end
abbrev WE:=Env->(Md->D->Prop)->Prop
abbrev WT:=Env->(Bool->Prop)->Prop
abbrev WA:=Env->(List (Md × D)->Prop)->Prop
structure qM where
 nx:Env->Prop
 rt:Md->D->Prop
 bk:Env->Prop:=fun _=>False
 ct:Env->Prop:=fun _=>False
abbrev WS:=qM->Env->Prop
def dC(ai H:Hp)(As:List Addr):Prop:=As.Nodup/\∀ a∈As,ai a=none/\H a=none
def mB(K:PySem.W.Frag)(t:WE):TE:=fun σ H Qv=>∃ Hs ρ ag Q,dc K Hs ρ σ H ag/\t ρ Q /\
 ∀ v H' ai m d As,eL Hs H ai H'->RM K ai H' m d v As->dC ai H As->Q m d->Qv v H'
def A5(K:PySem.W.Frag)(t:WT):TT:=fun σ H Qv=>∃ Hs ρ ag Q,dc K Hs ρ σ H ag/\t ρ Q/\∀ b H' ai,eL Hs H ai H'->Q b->Qv b H'
def Y5(K:PySem.W.Frag)(t:WA):TA:=fun σ H Qv=>∃ Hs ρ ag Q,dc K Hs ρ σ H ag/\t ρ Q /\
 ∀ vs H' ai ps As,eL Hs H ai H'->yn K ai H' ps vs As->dC ai H As->Q ps->Qv vs H'
def vE(K:PySem.W.Frag)(L:Str->Hp->Prop)(t:WS):TS:=fun D σ H=>∃ Hs ρ ag E,dc K Hs ρ σ H ag/\t E ρ /\
 (∀ bE H' ai aT bT,ax Hs ai->dc K ai aT bE H' bT->E.nx aT->D.nx bE H') /\
 (∀ bE H' ai aT bT,ax Hs ai->dc K ai aT bE H' bT->E.bk aT->D.bk bE H') /\
 (∀ bE H' ai aT bT,ax Hs ai->dc K ai aT bE H' bT->E.ct aT->D.ct bE H') /\
 (∀ v H' ai m d As,ax Hs ai->Wf ai H'->RM K ai H' m d v As->As.Nodup->(∀ a∈As,ai a=none)->E.rt m d->D.rt v H') /\
 ∀ n H',ax Hs H'->E.rt (.ow false) (.str n)->L n H'
theorem mL{K:PySem.W.Frag}{L:Str->Hp->Prop}{t:WS}{D:Ends}{σ:St}{H:Hp}{G:Prop}(x:vE K L t D σ H)(k:∀ Hs ρ ag E,dc K Hs ρ σ H ag->t E ρ ->
 (∀ bE H' ai aT bT,ax Hs ai->dc K ai aT bE H' bT->E.nx aT->D.nx bE H') ->
 (∀ bE H' ai aT bT,ax Hs ai->dc K ai aT bE H' bT->E.bk aT->D.bk bE H') ->
 (∀ bE H' ai aT bT,ax Hs ai->dc K ai aT bE H' bT->E.ct aT->D.ct bE H') ->
 (∀ v H' ai m d As,ax Hs ai->Wf ai H'->RM K ai H' m d v As->As.Nodup->(∀ a∈As,ai a=none)->E.rt m d->D.rt v H') ->
 (∀ n H',ax Hs H'->E.rt (.ow false) (.str n)->L n H')->G):G :=
 by
 obtain⟨Hs,ρ,ag,E,sr,h,k1,k2,k3,k4,kx⟩:=x
 exact k Hs ρ ag E sr h k1 k2 k3 k4 kx
theorem dW{K:PySem.W.Frag}{L:Str->Hp->Prop}{t:WS}{D:Ends}{σ:St}{H:Hp}{G:Prop}(x:vE K L t D σ H)(k:∀ Hs ρ ag E,dc K Hs ρ σ H ag->t E ρ ->
 (∀ bE H' ai aT bT,ax Hs ai->dc K ai aT bE H' bT->E.nx aT->D.nx bE H') ->
 (∀ bE H' ai aT bT,ax Hs ai->dc K ai aT bE H' bT->E.bk aT->D.bk bE H') ->
 (∀ bE H' ai aT bT,ax Hs ai->dc K ai aT bE H' bT->E.ct aT->D.ct bE H') ->
 (∀ v H' ai m d As,ax Hs ai->Wf ai H'->RM K ai H' m d v As->As.Nodup->(∀ a∈As,ai a=none)->E.rt m d->D.rt v H')->G):G :=
 mL x fun Hs ρ ag E sr h k1 k2 k3 k4 _=>k Hs ρ ag E sr h k1 k2 k3 k4
theorem kN{α β γ δ:Type _}{A B C:α->β->γ->δ->Prop}{G:Prop}(x:∃ a b c d,A a b c d/\B a b c d/\C a b c d)(k:∀ a b c d,A a b c d->B a b c d->C a b c d->G):G :=
 by
 obtain⟨a,b,c,d,p,q,r⟩:=x
 exact k a b c d p q r
abbrev QE(X:Cx)(K:PySem.W.Frag)(e:Expr)(t:WE):Prop:=PE X e (mB K t)
abbrev QT(X:Cx)(K:PySem.W.Frag)(e:Expr)(t:WT):Prop:=PT X e (A5 K t)
abbrev QW(X:Cx)(K:PySem.W.Frag)(e:Expr)(t:WT):Prop:=PW X e (A5 K t)
abbrev QA(X:Cx)(K:PySem.W.Frag)(es:List Expr)(t:WA):Prop:=PA X es (Y5 K t)
abbrev QS(X:Cx)(K:PySem.W.Frag)(L:Str->Hp->Prop)(st:Stmt)(t:WS):Prop:=PS X st (vE K L t)
abbrev xv(X:Cx)(K:PySem.W.Frag)(L:Str->Hp->Prop)(st:List Stmt)(t:WS):Prop:=lj X st (vE K L t)
abbrev L0:Str->Hp->Prop:=fun _ _=>True
end L2.Q
namespace L2.Q
open PySem PySem.Spec PyProof.Rows
structure Kt{α:Type}(f:α->Prop):Type where
def bX{α:Type}(a:α){f:α->Prop}(_:Kt f):Prop:=f a
mutual
def D.py:D->PyData
 |.non=>.none
 |.bl b=>.bool b
 |.int i=>.int i
 |.str x=>.str x
 |.list xs=>.list (lS xs)
 |.tup xs=>.tuple (lS xs)
 |.dK _=>.none
 |.dT _=>.none
def lS:List D->List PyData
 |[]=>[]
 |x :: xs=>x.py :: lS xs
end
def cx:Nat->D->Bool
 |_,.non=>true
 |_,.bl _=>true
 |_,.int _=>true
 |_,.str x=>PyData.strOk x
 |n+1,.list xs=>xs.all (cx n)
 |n+1,.tup xs=>xs.all (cx n)
 |_,_=>false
def hX(x y:D):Bool:=PyData.eqv x.py y.py
def D.ty:D->String
 |.non => "NoneType"
 |.bl _ => "bool"
 |.int _ => "int"
 |.str _ => "str"
 |.list _ => "list"
 |.tup _ => "tuple"
 |.dK _ => "dict"
 |.dT _ => "dict"
def D.key1:D->Option Key
 |.int i=>some (.inl i)
 |.str x=>some (.inr x)
 |_=>none
def fj:List D->Option (List Key)
 |[]=>some []
 |x :: xs=>match x.key1,fj xs with
  |some k,some ks=>some (k :: ks)
  |_,_=>none
section
variable {κ:Type}[DecidableEq κ]{β:Type}
def dz(kvs:List (κ × β))(k:κ):Option β:=(kvs.find? fun kv=>decide (kv.1=k)).map (·.2)
def lT(kvs:List (κ × β))(k:κ)(v:β):List (κ × β) :=
 if (kvs.any fun kv=>decide (kv.1=k))=true then kvs.map (fun kv=>if kv.1=k then (kv.1,v) else kv) else kvs++[(k,v)]
end
theorem Rep.E5{K:PySem.W.Frag}:(∀ {d:D} {v:V},Rep K H d v->∀ n,cx n d=true->L2.Rep K H d.py v)/\∀ {ds:List D} {vs:List V},aI K H ds vs->∀ n,(∀ d∈ds,cx n d=true)->L2.aI K H (lS ds) vs :=
 Rep.ind (m1:=fun d v=>∀ n,cx n d=true->L2.Rep K H d.py v) (m2:=fun ds vs=>∀ n,(∀ d∈ds,cx n d=true)->L2.aI K H (lS ds) vs) (fun _ _=>.none) (fun b _ _=>.bool b) (fun i _ _=>.int i) (fun _ _ _ _=>.str _)
  (fun _ _ _ _ h _ ih n o=>by
   cases n with
   |zero=>simp[cx] at o
   |succ n=>exact .list h (ih n (by simpa[cx] using o)))
  (fun _ _ _ _ h _ ih n o=>by
   cases n with
   |zero=>simp[cx] at o
   |succ n=>exact .tuple (.inl (.inl h)) (ih n (by simpa[cx] using o)))
  (fun _ _ _ _ _ _ _ n o=>by cases n<;>simp[cx] at o) (fun _ _ _ _ _ _ _ n o=>by cases n<;>simp[cx] at o) (fun _ _=>.nil)
  fun _ _ _ _ _ _ i1 i2 n o=>.cons (i1 n (o _ b5)) (i2 n fun d m=>o d (b9 _ m))
theorem Rep.l2{K:PySem.W.Frag}(r:Rep K H d v)(o:cx n d=true):L2.Rep K H d.py v:=Rep.E5.1 r n o
theorem yV(ih:∀ d,cx n d=true->d.py.canLay0=true/\d.py.depth<=n)(xs:List D)(h:∀ x∈xs,cx n x=true):PyData.canLayAll0 (lS xs)=true/\PyData.depthAll (lS xs)<=n:=by
 induction xs with
 |nil=>exact⟨rfl,fE _⟩
 |cons x xs Ux =>
  have h1:=ih x (h x b5)
  have h2:=Ux fun y hy=>h y (b9 _ hy)
  simp only[lS,PyData.canLayAll0,PyData.depthAll,h1.1,h2.1,Bool.and_self,true_and]
  lia
theorem jY(n:Nat):∀ (d:D),cx n d=true->d.py.canLay0=true/\d.py.depth<=n:=by
 have st:∀ (n:Nat) (x:Str),cx n (.str x)=true->(D.str x).py.canLay0=true/\(D.str x).py.depth<=n:=fun n x h=>by
  have h:PyData.strOk x=true:=by cases n<;>simpa[cx] using h
  exact⟨by simpa[D.py,PyData.canLay0] using h,fE _⟩
 induction n with
 |zero =>
  intro d h
  cases d with
  |str x=>exact st _ x h
  |non=>exact⟨rfl,fE _⟩
  |bl _=>exact⟨rfl,fE _⟩
  |int _=>exact⟨rfl,fE _⟩
  |_=>simp[cx] at h
 |succ n ih =>
  intro d h
  cases d with
  |str x=>exact st _ x h
  |non=>exact⟨rfl,fE _⟩
  |bl _=>exact⟨rfl,fE _⟩
  |int _=>exact⟨rfl,fE _⟩
  |list xs =>
   have h:∀ x∈xs,cx n x=true:=by simpa[cx] using h
   have:=yV ih xs h
   simp only[D.py,PyData.canLay0,PyData.depth]
   exact⟨this.1,by lia⟩
  |tup xs =>
   have h:∀ x∈xs,cx n x=true:=by simpa[cx] using h
   have:=yV ih xs h
   simp only[D.py,PyData.canLay0,PyData.depth]
   exact⟨this.1,by lia⟩
  |dK _=>simp[cx] at h
  |dT _=>simp[cx] at h
mutual
def D.nb:D->Bool
 |.bl _=>false
 |.list xs=>vF xs
 |.tup xs=>vF xs
 |.dK _=>false
 |.dT _=>false
 |_=>true
def vF:List D->Bool
 |[]=>true
 |x :: xs=>x.nb && vF xs
end
mutual
theorem qR:∀ (x y:D),x.nb=true->y.nb=true->(hX x y=true↔x=y)
 |.non,y,_,hy=>by cases y<;>simp_all [hX,D.py,PyData.eqv,D.nb]
 |.bl _,y,hx,_=>by simp[D.nb] at hx
 |.int i,y,_,hy=>by cases y<;>simp_all [hX,D.py,PyData.eqv,D.nb]
 |.str i,y,_,hy=>by cases y<;>simp_all [hX,D.py,PyData.eqv,D.nb]
 |.dK _,y,hx,_=>by simp[D.nb] at hx
 |.dT _,y,hx,_=>by simp[D.nb] at hx
 |.list xs,y,hx,hy=>by
  cases y with
  |list ys =>
   have:=qG xs ys (by simpa[D.nb] using hx) (by simpa[D.nb] using hy)
   simp only[hX,D.py,PyData.eqv,D.list.injEq]
   exact this
  |_=>simp_all [hX,D.py,PyData.eqv,D.nb]
 |.tup xs,y,hx,hy=>by
  cases y with
  |tup ys =>
   have:=qG xs ys (by simpa[D.nb] using hx) (by simpa[D.nb] using hy)
   simp only[hX,D.py,PyData.eqv,D.tup.injEq]
   exact this
  |_=>simp_all [hX,D.py,PyData.eqv,D.nb]
theorem qG:∀ (xs ys:List D),vF xs=true->vF ys=true->(PyData.eqvAll (lS xs) (lS ys)=true↔xs=ys)
 |[],[],_,_=>by simp[lS,PyData.eqvAll]
 |[],_ :: _,_,_=>by simp[lS,PyData.eqvAll]
 |_ :: _,[],_,_=>by simp[lS,PyData.eqvAll]
 |x :: xs,y :: ys,hx,hy=>by
  simp only[vF,kK] at hx hy
  have h1:=qR x y hx.1 hy.1
  have h2:=qG xs ys hx.2 hy.2
  simp only[lS,PyData.eqvAll,kK,List.cons.injEq]
  exact and_congr h1 h2
end
section
variable {K:PySem.W.Frag}{H:Hp}
theorem Rep.key(r:Rep K H d v)(h:d.key1=some k):v=kV k:=by
 cases r<;>simp[D.key1] at h<;>subst h<;>rfl
theorem aI.keys(r:aI K H ds vs)(h:fj ds=some ks):vs=ks.map kV:=by
 induction ds generalizing vs ks with
 |nil=>simp[fj] at h;subst h;exact r.n0
 |cons d ds ih =>
  obtain⟨u,us,rfl,r,rs⟩:=r.c
  unfold fj at h
  cases e1:d.key1 with
  |none=>rw[e1] at h;simp at h
  |some k =>
   cases e2:fj ds with
   |none=>rw[e1,e2] at h;simp at h
   |some dP =>
    rw[e1,e2] at h
    simp at h
    subst h
    rw[fe,r.key e1,ih rs e2]
theorem Rep.kR(r:Rep K H (.tup ds) v)(h:fj ds=some ks):∃ b,v=.ref b/\H b=some (.tup (ks.map kV)):=by
 cases r with
 |tup _ e rs=>exact⟨_,rfl,by rw[e,rs.keys h]⟩
end
section
variable {κ:Type}[DecidableEq κ]{K:PySem.W.Frag}{H:Hp}
theorem zip_get{k:κ}{kvs:List (κ × D)}{vs:List V}(h:aI K H (kvs.map (·.2)) vs):match dz kvs k with
  |some d=>∃ v,gp ((kvs.map (·.1)).zip vs) k=some v/\Rep K H d v
  |none=>gp ((kvs.map (·.1)).zip vs) k=none:=by
 induction kvs generalizing vs with
 |nil=>rfl
 |cons p kvs ih =>
  obtain⟨u,us,rfl,r,rs⟩:=aI.c (d:=p.2) h
  by_cases e:p.1=k
  ·have e1:dz (p :: kvs) k=some p.2:=by simp[dz,e]
   rw[e1]
   exact⟨_,by simp only[fe,AG];exact vn e,r⟩
  ·have e1:dz (p :: kvs) k=dz kvs k:=by simp[dz,e]
   rw[e1]
   have:=ih rs
   simp only[fe,AG,vt (p:=(p.1,_)) e]
   exact this
theorem Ge{k:κ}{kvs:List (κ × D)}{vs:List V}(h:kvs.length=vs.length):((kvs.map (·.1)).zip vs).any (fun kv=>decide (kv.1=k))=kvs.any fun kv=>decide (kv.1=k):=by
 induction kvs generalizing vs with
 |nil=>rfl
 |cons p kvs ih =>
  cases vs with
  |nil=>simp at h
  |cons v vs =>
   simp only[fe,AG,AK]
   rw[ih (vs:=vs) (by simpa using h)]
end
section
variable {K:PySem.W.Frag}{Hs H:Hp}
theorem RG(w:Wf Hs H)(hp:H p=none)(ho:∀ vs,o≠.tup vs):eL Hs H Hs (upd H p o) :=
 ⟨(ax.refl H).upd hp,ax.refl _,⟨w.sub.upd hp,fun a vs e=>by
  by_cases h:a=p
  ·subst h;rw[fi] at e;exact absurd (Option.some.inj e) (ho vs)
  ·rw[cv h] at e;exact w.ib a vs e⟩,fun _ h=>.inl h⟩
theorem Uy(w:Wf Hs H)(hp:H p=none):eL Hs H (upd Hs p (.tup vs)) (upd H p (.tup vs)) :=
 ⟨(ax.refl H).upd hp,(ax.refl Hs).upd (w.sub.free hp),⟨fun a o e=>by
  by_cases h:a=p
  ·subst h;rw[fi] at e ⊢;exact e
  ·rw[cv h] at e ⊢;exact w.sub a o e,fun a vs e=>by
  by_cases h:a=p
  ·subst h;rw[fi] at e ⊢;exact e
  ·rw[cv h] at e ⊢;exact w.ib a vs e⟩,fun a h=>by
  by_cases e:a=p
  ·subst e;exact .inr hp
  ·rw[cv e] at h;exact .inl h⟩
theorem dC.nil:dC Hs H []:=⟨lh,fun a h=>nomatch h⟩
theorem dC.of(s:ax H H')(f:dC Hs H' As):dC Hs H As:=⟨f.1,fun a h=>⟨(f.2 a h).1,s.free (f.2 a h).2⟩⟩
abbrev Fin(K:PySem.W.Frag)(Hs H:Hp)(Qd:Md->D->Prop)(Qv:VK):Prop:=∀ v H' ai m d As,eL Hs H ai H'->RM K ai H' m d v As->dC ai H As->Qd m d->Qv v H'
theorem Fin.after(f:Fin K Hs H Qd Qv)(g:eL Hs H ai H'):Fin K ai H' Qd Qv:=fun v H2 ay m d As g2 r fr q=>f v H2 ay m d As (g.trans g2) r (fr.of g.all) q
theorem Fin.sh(f:Fin K Hs H Qd Qv)(w:Wf Hs H)(r:Rep K Hs d v)(q:Qd .sh d):Qv v H:=f v H Hs .sh d [] (eL.refl w) ⟨rfl,r⟩ dC.nil q
theorem Fin.flat(f:Fin K Hs H Qd Qv)(w:Wf Hs H)(r:Rep K H d v)(hf:d.flat=true)(q:Qd .sh d):Qv v H:=f.sh w (r.eZ w.ib hf) q
theorem Fin.bo(f:Fin K Hs H Qd Qv)(w:Wf Hs H)(r:Rep K H d v)(q:Qd .bo d):Qv v H:=f v H Hs .bo d [] (eL.refl w) ⟨rfl,r⟩ dC.nil q
def mh(m:Md)(d:D):Md:=match m with
 |.sh=>.sh
 |_=>bif d.flat then .sh else .bo
theorem Fin.mh(f:Fin K Hs H Qd Qv)(w:Wf Hs H)(r:Rep K H d v)(rs:m=.sh->Rep K Hs d v)(q:Qd (mh m d) d):Qv v H:=by
 cases m with
 |sh=>exact f.sh w (rs rfl) q
 |ow fl =>
  cases hf:d.flat with
  |true=>exact f.flat w r hf (by simpa[Q.mh,hf] using q)
  |false=>exact f.bo w r (by simpa[Q.mh,hf] using q)
 |bo =>
  cases hf:d.flat with
  |true=>exact f.flat w r hf (by simpa[Q.mh,hf] using q)
  |false=>exact f.bo w r (by simpa[Q.mh,hf] using q)
theorem Fin.lst(f:Fin K Hs H Qd Qv)(w:Wf Hs H)(hz:ds.length<=sizeLine)(r:aI K H ds vs)(hf:cp ds=true)(q:Qd (.ow true) (.list ds)):∀ p,H p=none->Qv (.ref p) (upd H p (.lst vs)):=fun p hp =>
 f _ _ Hs (.ow true) (.list ds) [p] (RG w hp fun _ z=>nomatch z) ⟨.list (by rw[<- r.length];exact hz) fi ((r.eZ w.ib hf).owned hf),by simp⟩ ⟨by simp,fun a h=>by
  obtain rfl:a=p:=by simpa using h
  exact⟨w.sub.free hp,hp⟩⟩ q
theorem Fin.ND(f:Fin K Hs H Qd Qv)(w:Wf Hs H)(hz:ds.length<=sizeLine)(r:aI K Hs ds vs)(q:Qd (.ow false) (.list ds)):∀ p,H p=none->Qv (.ref p) (upd H p (.lst vs)):=fun p hp =>
 f _ _ Hs (.ow false) (.list ds) [p] (RG w hp fun _ z=>nomatch z) ⟨.list (by rw[<- r.length];exact hz) fi r.Io,by simp⟩ ⟨by simp,fun a h=>by
  obtain rfl:a=p:=by simpa using h
  exact⟨w.sub.free hp,hp⟩⟩ q
theorem Fin.tup(f:Fin K Hs H Qd Qv)(w:Wf Hs H)(hz:ds.length<=sizeLine)(r:aI K H ds vs)(hf:cp ds=true)(q:Qd .sh (.tup ds)):∀ p,H p=none->Qv (.ref p) (upd H p (.tup vs)):=fun p hp =>
 f _ _ (upd Hs p (.tup vs)) .sh (.tup ds) [] (Uy w hp) ⟨rfl,.tup (by rw[<- r.length];exact hz) fi ((r.eZ w.ib hf).same ((ax.refl Hs).upd (w.sub.free hp)))⟩ dC.nil q
end
section
variable {X:Cx}{K:PySem.W.Frag}
theorem PE.imp(h:PE X e te)(i:∀ σ H Q,vS σ H Q->te σ H Q):PE X e vS:=fun pins s σ H Q I q=>h pins s σ H Q I (i σ H Q q)
theorem PT.imp(h:PT X e te)(i:∀ σ H Q,vS σ H Q->te σ H Q):PT X e vS:=fun pins s σ H Q I q=>h pins s σ H Q I (i σ H Q q)
theorem PW.imp(h:PW X e te)(i:∀ σ H Q,vS σ H Q->te σ H Q):PW X e vS:=fun wh pins s σ H Q I q=>h wh pins s σ H Q I (i σ H Q q)
theorem PA.imp(h:PA X e te)(i:∀ σ H Q,vS σ H Q->te σ H Q):PA X e vS:=fun p pins s σ H Q I q=>h p pins s σ H Q I (i σ H Q q)
def NF:Option (Option Sl)->(Md->D->Prop)->Prop
 |some (some (.sh d)),Q=>Q .sh d
 |some (some (.ow _ d)),Q=>Q .bo d
 |some (some (.lk _ _ d)),Q=>Q .bo d
 |_,_=>False
def ae(i:Nat):WE:=fun ρ Q=>NF ρ[i]? Q
theorem Lq(h:PE X e (wt i)):QE X K e (ae i):=by
 refine PE.imp h fun σ H Qv hx=>kN hx fun Hs ρ ag Q sr h f=>?_
 unfold ae at h
 cases e:ρ[i]? with
 |none=>rw[e] at h;exact h.elim
 |some o =>
  cases o with
  |none=>rw[e] at h;exact h.elim
  |some sl =>
   obtain⟨v,e1,r⟩:=sr.sr.get e
   rw[e] at h
   cases sl with
   |sh d=>exact⟨v,e1,Fin.sh f sr.wf r h⟩
   |xc a=>exact h.elim
   |ow fl d =>
    obtain⟨As,_,r,_⟩:=r
    exact⟨v,e1,Fin.bo f sr.wf (r.rep sr.wf.sub fun _ _=>rfl) h⟩
   |lk a fl d =>
    obtain⟨As,_,r,_⟩:=r
    exact⟨v,e1,Fin.bo f sr.wf (r.rep sr.wf.sub fun _ _=>rfl) h⟩
theorem qv (i:Nat) (hN:X.N[i]? = some x:=by rfl) (hv:QK X.env.scope x:=by first|exact Or.inl rfl|exact Or.inr (Or.inl rfl)|exact Or.inr (Or.inr rfl)) (hd:(x == ("__debug__" : Str))=false:=by decide)
  (ot:(x == ("__classdict__" : Str))=false:=by decide):QE X K (.Name x pos) (ae i):=Lq (Xq hN hv hd ot)
def wC(d:D):WE:=fun _ Q=>Q .sh d
theorem xg(h:PE X e (tC v))(r:∀ H,Rep K H d v):QE X K e (wC d) :=
 PE.imp h fun σ H Qv hx=>kN hx fun Hs ρ ag Q sr h f=>Fin.sh f sr.wf (r _) h
theorem aB{i j pos}:QE X K (.Constant (.int i) j pos) (wC (.int i)):=xg bl' fun _=>.int i
theorem zf{i j pos}(h:i.length<=sizeLine:=by decide):QE X K (.Constant (.str i) j pos) (wC (.str i)):=xg bo' fun _=>.str h
theorem rX{i j pos}:QE X K (.Constant (.bool i) j pos) (wC (.bl i)):=xg bm' fun _=>.bl i
theorem rW{j pos}:QE X K (.Constant .none j pos) (wC .non):=xg bn' fun _=>.non
theorem fd' (h:Um X.mg x z) (hg:Gl X x:=by rfl) (hd:(x == ("__debug__" : Str))=false:=by decide) (hz:z.length<=sizeLine:=by decide):QE X K (.Name x pos) (wC (.str z)):=xg (K1 h hg hd) fun _=>.str hz
theorem RH (h:IC X.mg x i) (hg:Gl X x:=by rfl) (hd:(x == ("__debug__" : Str))=false:=by decide):QE X K (.Name x pos) (wC (.int i)):=xg (KJ h hg hd) fun _=>.int i
abbrev W2:=Md->D->Md->D->(Md->D->Prop)->Prop
abbrev W1:=Md->D->(Md->D->Prop)->Prop
def kC(K:PySem.W.Frag)(r:R2)(f:W2):Prop:=∀ Hs H m x v As n y u Bs Qd Qv,Wf Hs H->RM K Hs H m x v As->RM K Hs H n y u Bs->f m x n y Qd->Fin K Hs H Qd Qv->r v u H Qv
def RJ(K:PySem.W.Frag)(r:V->Hp->VK->Prop)(f:W1):Prop:=∀ Hs H m x v As Qd Qv,Wf Hs H->RM K Hs H m x v As->f m x Qd->Fin K Hs H Qd Qv->r v H Qv
def av(f:W2)(ta tb:WE):WE:=fun ρ Q=>ta ρ fun m x=>tb ρ fun n y=>f m x n y Q
def ic(f:W1)(ta:WE):WE:=fun ρ Q=>ta ρ fun m x=>f m x Q
variable {a b:Expr}{ta tb tc:WE}{pos:Pos}
theorem qx(br:kC K r f)(σ:St)(H:Hp)(Qv:VK)(h:mB K (av f ta tb) σ H Qv):L4 r (mB K ta) (mB K tb) σ H Qv:=by
 obtain⟨Hs,ρ,ag,Q,sr,h,fin⟩:=h
 refine⟨Hs,ρ,ag,_,sr,h,fun v H1 aE m x As g1 r1 f1 q1=>⟨aE,ρ,ag,_,sr.grow g1,q1,fun u H2 ay n y Bs g2 r2 f2 q2=>?_⟩⟩
 exact br ay H2 m x v As n y u Bs Q Qv g2.wf (r1.grow g2) r2 q2 (Fin.after fin (g1.trans g2))
theorem E6(ho:da X (binaryOp op) r)(br:kC K r f)(ha:QE X K a ta)(hb:QE X K b tb):QE X K (.BinOp a op b pos) (av f ta tb):=PE.imp (cf' ho ha hb) (qx br)
theorem fe'(ho:Q5 X (unaryOp op) r)(br:RJ K r f)(ha:QE X K a ta):QE X K (.UnaryOp op a pos) (ic f ta):=by
 refine PE.imp (cg' ho ha) fun σ H Qv hx=>kN hx fun Hs ρ ag Q sr h fin=>?_
 exact⟨Hs,ρ,ag,_,sr,h,fun v H1 aE m x As g1 r1 f1 q1=>br aE H1 m x v As Q Qv g1.wf r1 q1 (Fin.after fin g1)⟩
theorem BP(ho:da X (compareOp op) r)(br:kC K r f)(ha:QE X K a ta)(hb:QE X K b tb)(hm:behindInMarks op b=false):QE X K (.Compare a [op] [b] pos) (av f ta tb):=PE.imp (cB' ho ha hb hm) (qx br)
def wB(t:WE):WT:=fun ρ Q=>t ρ fun _ x=>match x with
 |.bl b=>Q b
 |_=>False
theorem Dj(σ:St)(H:Hp)(Qv:Bool->Hp->Prop)(h:A5 K (wB t) σ H Qv):Tw (mB K t) σ H Qv:=by
 obtain⟨Hs,ρ,ag,Q,sr,h,fin⟩:=h
 refine⟨Hs,ρ,ag,_,sr,h,fun v H1 aE m x As g1 r1 f1 q1=>?_⟩
 have r:=r1.rep g1.wf
 cases r with
 |bl b=>exact⟨b,rfl,fin b H1 aE g1 q1⟩
 |_=>exact q1.elim
theorem bN(ho:da X (compareOp op) r)(br:kC K r f)(ha:QE X K a ta)(hb:QE X K b tb)(hm:behindInMarks op b=false):QT X K (.Compare a [op] [b] pos) (wB (av f ta tb)):=by
 refine PT.imp (cC' ho ha hb hm) fun σ H Qv h=>?_
 obtain⟨Hs,ρ,ag,Q,sr,h,fin⟩:=h
 refine qx br σ H _ ⟨Hs,ρ,ag,_,sr,h,fun v H1 aE m x As g1 r1 f1 q1=>?_⟩
 have r:=r1.rep g1.wf
 cases r with
 |bl b=>exact⟨b,rfl,fin b H1 aE g1 q1⟩
 |_=>exact q1.elim
theorem dY(h:QE X K a t)(he:∀ whole,isTrue a X.env whole=(do let v <- whole;standAt a.pos;holding [v] (truthy v)):=by intro _;rfl):QT X K a (wB t):=PT.imp (bq' h he) Dj
def oZ(f g:W2)(ta tb tc:WE):WE:=fun ρ Q=>ta ρ fun m x=>tb ρ fun n y=>f m x n y fun _ z=>match z with
 |.bl k=>if k=true then tc ρ fun l w=>g n y l w Q else Q .sh (.bl false)
 |_=>False
end
end L2.Q
namespace L2.Q
open PySem PySem.Spec PyProof.Rows
section
variable {X:Cx}{K:PySem.W.Frag}{a b c:Expr}{ta tb tc:WE}{pos:Pos}
theorem xG(br:kC K r f)(Uz:kC K r' g)(σ:St)(H:Hp)(Qv:VK)(h:mB K (oZ f g ta tb tc) σ H Qv):X4 r r' (mB K ta) (mB K tb) (mB K tc) σ H Qv:=by
 obtain⟨Hs,ρ,ag,Q,sr,h,fin⟩:=h
 refine⟨Hs,ρ,ag,_,sr,h,fun v H1 aE m x As g1 r1 f1 q1=>⟨aE,ρ,ag,_,sr.grow g1,q1,fun u H2 ay n y Bs g2 r2 f2 q2=>?_⟩⟩
 refine br ay H2 m x v As n y u Bs _ _ g2.wf (r1.grow g2) r2 q2 fun z H3 eI m3 d3 NH g3 r3 f3 q3=>?_
 have rr:=r3.rep g3.wf
 cases rr with
 |bl k =>
  refine⟨k,rfl,?_⟩
  have Y6:Fin K eI H3 Q Qv:=Fin.after fin ((g1.trans g2).trans g3)
  cases k with
  |false=>exact Y6.sh g3.wf (.bl false) q3
  |true =>
   refine⟨eI,ρ,ag,_,((sr.grow g1).grow g2).grow g3,q3,fun w H4 IH l z II g4 r4 f4 q4=>?_⟩
   exact Uz IH H4 n y u Bs l z w II Q Qv g4.wf ((r2.grow g3).grow g4) r4 q4 (Fin.after Y6 g4)
 |_=>exact q3.elim
theorem wH(ho:da X (compareOp op) r)(mM:da X (compareOp op') r')(br:kC K r f)(Uz:kC K r' g)(ha:QE X K a ta)(hb:QE X K b tb)(hc:QE X K c tc)
  (hm:lastMarks [op,op'] [b,c]=false:=by with_unfolding_all rfl):QT X K (.Compare a [op,op'] [b,c] pos) (wB (oZ f g ta tb tc)):=by
 refine PT.imp (cD' ho mM ha hb hc hm) fun σ H Qv h=>?_
 obtain⟨Hs,ρ,ag,Q,sr,h,fin⟩:=h
 refine xG br Uz σ H _ ⟨Hs,ρ,ag,_,sr,h,fun v H1 aE m x As g1 r1 f1 q1=>?_⟩
 have r:=r1.rep g1.wf
 cases r with
 |bl b=>exact⟨b,rfl,fin b H1 aE g1 q1⟩
 |_=>exact q1.elim
def RK(t u:WT):WT:=fun ρ Q=>t ρ fun c=>if c=true then u ρ Q else Q false
def A6(t u:WT):WT:=fun ρ Q=>t ρ fun c=>if c=true then Q true else u ρ Q
def sv(t:WT):WT:=fun ρ Q=>t ρ fun c=>Q (!c)
variable {tA tB:WT}{rest:List Expr}
theorem qW{t u:WT}{f:Bool->TT}{σ:St}{H:Hp}{Qv:Bool->Hp->Prop}{G:Bool->(Bool->Prop)->Env->Prop}
  (h:A5 K (fun ρ Q=>t ρ fun c=>G c Q ρ) σ H Qv)
  (i:∀ c H1 aE ρ ag Q,dc K aE ρ σ H1 ag->G c Q ρ->(∀ b H' ai,eL aE H1 ai H'->Q b->Qv b H')->f c σ H1 Qv):A5 K t σ H fun c H1=>f c σ H1 Qv:=by
 obtain⟨Hs,ρ,ag,Q,sr,h,fin⟩:=h
 exact⟨Hs,ρ,ag,_,sr,h,fun c H1 aE g1 q1=>i c H1 aE ρ ag Q (sr.grow g1) q1 fun b H' ai g2=>fin b H' ai (g1.trans g2)⟩
theorem Aq(ha:QT X K a tA):QW X K (.BoolOp .And [a] pos) tA:=pw_and1 ha
theorem pF(ha:QT X K a tA):QW X K (.BoolOp .Or [a] pos) tA:=pw_or1 ha
theorem Dz(ha:QT X K a tA)(hb:QW X K (.BoolOp .And (b :: rest) pos) tB):QW X K (.BoolOp .And (a :: b :: rest) pos) (RK tA tB):=by
 refine PW.imp (pw_and ha hb) fun σ H Qv h=>?_
 refine qW (u:=tB) (f:=fun c σ H1 Q=>if c=true then A5 K tB σ H1 Q else Q false H1) h fun c H1 aE ρ ag Q sr q fin=>?_
 cases c with
 |true=>exact⟨aE,ρ,ag,Q,sr,q,fin⟩
 |false=>exact fin false H1 aE (eL.refl sr.wf) q
theorem uO(ha:QT X K a tA)(hb:QW X K (.BoolOp .Or (b :: rest) pos) tB):QW X K (.BoolOp .Or (a :: b :: rest) pos) (A6 tA tB):=by
 refine PW.imp (pw_or ha hb) fun σ H Qv h=>?_
 refine qW (u:=tB) (f:=fun c σ H1 Q=>if c=true then Q true H1 else A5 K tB σ H1 Q) h fun c H1 aE ρ ag Q sr q fin=>?_
 cases c with
 |true=>exact fin true H1 aE (eL.refl sr.wf) q
 |false=>exact⟨aE,ρ,ag,Q,sr,q,fin⟩
theorem DE(h:QW X K a tA):QT X K a tA:=h _
theorem fC(ha:QT X K a tA):QT X K (.UnaryOp .Not a pos) (sv tA):=by
 refine PT.imp (bv' ha) fun σ H Qv h=>?_
 exact qW (u:=tA) (f:=fun c σ H1 Q=>Q (!c) H1) h fun c H1 aE ρ ag Q sr q fin=>fin _ H1 aE (eL.refl sr.wf) q
def UA(t:WT)(ta tb:WE):WE:=fun ρ Q=>t ρ fun c=>if c=true then ta ρ Q else tb ρ Q
theorem ff'(hc:QT X K c tA)(ha:QE X K a ta)(hb:QE X K b tb):QE X K (.IfExp c a b pos) (UA tA ta tb):=by
 refine PE.imp (bx' hc ha hb) fun σ H Qv hx=>kN hx fun Hs ρ ag Q sr h fin=>?_
 refine⟨Hs,ρ,ag,_,sr,h,fun k H1 aE g1 q1=>?_⟩
 cases k with
 |true=>exact⟨aE,ρ,ag,Q,sr.grow g1,q1,Fin.after fin g1⟩
 |false=>exact⟨aE,ρ,ag,Q,sr.grow g1,q1,Fin.after fin g1⟩
def fg':D->Option Bool
 |.non=>some false
 |.bl b=>some b
 |.int i=>some (i != 0)
 |.str x=>some ((x.length:Int) != 0)
 |.list xs=>some !xs.isEmpty
 |.tup xs=>some !xs.isEmpty
 |.dK kvs=>none
 |.dT kvs=>none
end
def kD:W2:=fun m x n y Q=>match x,y with
 |.int i,.int j=>Q .sh (.int (i+j))
 |.str i,.str j=>i.length+j.length<=sizeLine/\Q .sh (.str (i++j))
 |.list xs,.list ys=>xs.length+ys.length<=sizeLine/\((cp xs=true/\cp ys=true/\Q (.ow true) (.list (xs++ys)))\/(m=.sh/\n=.sh/\Q (.ow false) (.list (xs++ys))))
 |.tup xs,.tup ys=>xs≠[]/\xs.length+ys.length<=sizeLine/\cp xs=true/\cp ys=true/\Q .sh (.tup (xs++ys))
 |_,_=>False
def IJ(P:Int->Int->(Md->D->Prop)->Prop):W2:=fun _ x _ y Q=>match x,y with
 |.int i,.int j=>P i j Q
 |_,_=>False
def UB(P:Int->Int->(Md->D->Prop)->Prop)(S:Str->Str->(Md->D->Prop)->Prop):W2:=fun _ x _ y Q=>match x,y with
 |.int i,.int j=>P i j Q
 |.str i,.str j=>S i j Q
 |_,_=>False
def IL:W2:=IJ fun i j Q=>Q .sh (.int (i-j))
def NJ:W2:=IJ fun i j Q=>EH i j/\Q .sh (.int (i*j))
def ng:W2:=IJ fun i j Q=>(0<j/\j<1073741824)/\Q .sh (.int (i / j))
def iN:W2:=IJ fun i j Q=>0<j/\Q .sh (.int (i % j))
def NM:W2:=UB (fun i j Q=>Q .sh (.bl (decide (i<j)))) fun i j Q=>Q .sh (.bl (oB i j))
def IQ:W2:=UB (fun i j Q=>Q .sh (.bl (decide (i<=j)))) fun i j Q=>Q .sh (.bl (!oB j i))
def NR:W2:=IJ fun i j Q=>Q .sh (.bl (decide (j<i)))
def sR:W2:=fun _ x _ y Q=>match x,y with
 |.int i,.int j=>Q .sh (.bl (decide (i=j)))
 |.str i,.str j=>Q .sh (.bl (decide (i=j)))
 |.bl i,.bl j=>Q .sh (.bl (decide (i=j)))
 |_,_=>cx 12 x=true/\cx 12 y=true/\Q .sh (.bl (hX x y))
def A7:W2:=fun _ x _ y Q=>match x,y with
 |.int i,.int j=>Q .sh (.bl (!decide (i=j)))
 |.str i,.str j=>Q .sh (.bl (!decide (i=j)))
 |.bl i,.bl j=>Q .sh (.bl (!decide (i=j)))
 |_,_=>cx 12 x=true/\cx 12 y=true/\Q .sh (.bl (!hX x y))
def D.E7:D->Bool
 |.non=>true
 |_=>false
def IU:W2:=fun _ x _ y Q=>match y with
 |.non=>Q .sh (.bl x.E7)
 |_=>False
def Gw:W2:=fun _ x _ y Q=>match y with
 |.non=>Q .sh (.bl (!x.E7))
 |_=>False
def gZ:D->Bool
 |.non=>true
 |.bl _=>true
 |.int _=>true
 |.str _=>true
 |_=>false
def inD(x:D)(ys:List D):Bool:=ys.any fun y=>hX y x
def vT(neg:Bool):W2:=fun _ x _ y Q=>match y with
 |.str j=>match x with
  |.str i=>Q .sh (.bl (if neg then !zS i j else zS i j))
  |_=>False
 |.list ys=>gZ x=true/\ys.all gZ=true/\Q .sh (.bl (if neg then !inD x ys else inD x ys))
 |.tup ys=>gZ x=true/\ys.all gZ=true/\Q .sh (.bl (if neg then !inD x ys else inD x ys))
 |.dK kvs=>∃ k,x.key1=some k/\Q .sh (.bl (if neg then !(dz kvs k).isSome else (dz kvs k).isSome))
 |.dT kvs=>match x with
  |.tup xs=>∃ ks,fj xs=some ks/\Q .sh (.bl (if neg then !(dz kvs ks).isSome else (dz kvs ks).isSome))
  |_=>False
 |_=>False
section
variable {K:PySem.W.Frag}
theorem Hl(f:Fin K Hs H Qd Qv)(w:Wf Hs H)(h:x.length<=sizeLine)(q:Qd .sh (.str x)):Qv (.str x) H:=f.sh w (.str h) q
theorem cR(i j:Str):(i++j).length=i.length+j.length:=by
 show((i++j).cps.size)=_
 show(i.cps++j.cps).size=_
 simp[Str.length]
theorem JV:kC K (fun x y H Q=>Ds K x y H Q\/TL K x y H Q) kD:=by
 intro Hs H m x v As n y u Bs Qd Qv w rx ry h f
 have r1:=rx.rep w
 have r2:=ry.rep w
 unfold kD at h
 cases r1 with
 |int i=>cases r2 with
  |int j=>exact .inl (f.sh w (.int _) h)
  |_=>exact h.elim
 |str hi=>cases r2 with
  |str hj=>exact .inl ⟨h.1,Hl f w (by rw[cR];exact h.1) h.2⟩
  |_=>exact h.elim
 |list z1 s1 q1=>cases r2 with
  |list z2 s2 q2 =>
   have l1:=q1.length
   have l2:=q2.length
   have hz:=h.1
   rcases h.2 with⟨f1,f2,q⟩|⟨rfl,rfl,q⟩
   ·refine .inl ⟨_,_,s1,s2,by lia,?_⟩
    exact f.lst w (by rw[kF];exact hz) (q1.append q2) (by rw[gf,f1,f2];rfl) q
   ·obtain⟨_,rx⟩:=rx
    obtain⟨_,ry⟩:=ry
    cases rx with
    |list z1' s1' IX=>cases ry with
     |list z2' s2' Y7 =>
      have l1:=IX.length
      have l2:=Y7.length
      refine .inl ⟨_,_,ax.seq w.sub s1',ax.seq w.sub s2',by lia,?_⟩
      exact f.ND w (by rw[kF];exact hz) (IX.append Y7) q
  |_=>exact h.elim
 |tup t1 s1 q1=>cases r2 with
  |tup t2 s2 q2 =>
   have l1:=q1.length
   have l2:=q2.length
   obtain⟨gV,hz,f1,f2,q⟩:=h
   refine .inr ⟨_,_,_,_,rfl,rfl,.inl (.inl s1),.inl (.inl s2),?_,by lia,?_⟩
   ·intro e
    subst e
    exact gV (GA.mp l1)
   ·refine⟨fun e=>?_,fun _=>f.tup w (by rw[kF];exact hz) (q1.append q2) (by rw[gf,f1,f2];rfl) q⟩
    subst e
    cases q2
    rw[qV] at q
    exact f.flat w (.tup t1 s1 q1) (by simpa[D.flat] using f1) q
  |_=>exact h.elim
 |_=>exact h.elim
theorem El{H:Hp}{x y:D}{v u:V}{m n:Md}{P:Int->Int->(Md->D->Prop)->Prop}{S:Str->Str->(Md->D->Prop)->Prop}{Q:Md->D->Prop}{G:Prop}(r1:Rep K H x v)(r2:Rep K H y u)(h:UB P S m x n y Q)(k:∀ i j,v=.int i->u=.int j->P i j Q->G)(ks:∀ i j,v=.str i->u=.str j->S i j Q->G):G:=by
 cases r1 with
 |int i=>cases r2 with
  |int j=>exact k i j rfl rfl h
  |_=>exact h.elim
 |str hi=>cases r2 with
  |str hj=>exact ks _ _ rfl rfl h
  |_=>exact h.elim
 |_=>exact h.elim
theorem mW{H:Hp}{x y:D}{v u:V}{m n:Md}{P:Int->Int->(Md->D->Prop)->Prop}{Q:Md->D->Prop}{G:Prop}(r1:Rep K H x v)(r2:Rep K H y u)(h:IJ P m x n y Q)(k:∀ i j,v=.int i->u=.int j->P i j Q->G):G:=by
 cases r1 with
 |int i=>cases r2 with
  |int j=>exact k i j rfl rfl h
  |_=>exact h.elim
 |_=>exact h.elim
theorem JP:kC K Gm IL:=by
 intro Hs H m x v As n y u Bs Qd Qv w rx ry h f
 exact mW (rx.rep w) (ry.rep w) h fun i j e1 e2 q=>by
  subst e1 e2
  exact f.sh w (.int _) q
theorem JK:kC K Ff NJ:=by
 intro Hs H m x v As n y u Bs Qd Qv w rx ry h f
 exact mW (rx.rep w) (ry.rep w) h fun i j e1 e2 q=>by
  subst e1 e2
  exact⟨q.1,f.sh w (.int _) q.2⟩
theorem HN:kC K Hw ng:=by
 intro Hs H m x v As n y u Bs Qd Qv w rx ry h f
 exact mW (rx.rep w) (ry.rep w) h fun i j e1 e2 q=>by
  subst e1 e2
  exact⟨q.1,f.sh w (.int _) q.2⟩
theorem Ii:kC K Gd iN:=by
 intro Hs H m x v As n y u Bs Qd Qv w rx ry h f
 exact mW (rx.rep w) (ry.rep w) h fun i j e1 e2 q=>by
  subst e1 e2
  exact⟨q.1,f.sh w (.int _) q.2⟩
theorem Hf:kC K Ui NR:=by
 intro Hs H m x v As n y u Bs Qd Qv w rx ry h f
 exact mW (rx.rep w) (ry.rep w) h fun i j e1 e2 q=>by
  subst e1 e2
  exact f.sh w (.bl _) q
theorem Jd:kC K Ug NM:=by
 intro Hs H m x v As n y u Bs Qd Qv w rx ry h f
 exact El (rx.rep w) (ry.rep w) h (fun i j e1 e2 q=>by
  subst e1 e2
  exact f.sh w (.bl _) q) fun i j e1 e2 q=>by
  subst e1 e2
  exact f.sh w (.bl _) q
theorem Gu:kC K Uh IQ:=by
 intro Hs H m x v As n y u Bs Qd Qv w rx ry h f
 exact El (rx.rep w) (ry.rep w) h (fun i j e1 e2 q=>by
  subst e1 e2
  exact f.sh w (.bl _) q) fun i j e1 e2 q=>by
  subst e1 e2
  exact f.sh w (.bl _) q
theorem eq_data(w:Wf Hs H)(rx:Rep K H x v)(ry:Rep K H y u)(f:Fin K Hs H Qd Qv)(h:cx 12 x=true/\cx 12 y=true/\Qd .sh (.bl (hX x y))):Uk K v u H Qv:=by
 obtain⟨h1,h2,q⟩:=h
 have l1:=jY 12 x h1
 have l2:=jY 12 y h2
 exact⟨x.py,y.py,rx.l2 h1,ry.l2 h2,l1.1,l2.1,by lia,f.sh w (.bl _) q⟩
theorem ne_data(w:Wf Hs H)(rx:Rep K H x v)(ry:Rep K H y u)(f:Fin K Hs H Qd Qv)(h:cx 12 x=true/\cx 12 y=true/\Qd .sh (.bl (!hX x y))):Ul K v u H Qv:=by
 obtain⟨h1,h2,q⟩:=h
 have l1:=jY 12 x h1
 have l2:=jY 12 y h2
 exact⟨x.py,y.py,rx.l2 h1,ry.l2 h2,l1.1,l2.1,by lia,f.sh w (.bl _) q⟩
theorem u_:kC K (Rv K) sR:=by
 intro Hs H m x v As n y u Bs Qd Qv w rx ry h f
 have r1:=rx.rep w
 have r2:=ry.rep w
 have d:=fun h=>eq_data (Qd:=Qd) (Qv:=Qv) w r1 r2 f h
 cases r1 with
 |int i=>cases r2 with
  |int j=>exact f.sh w (.bl _) h
  |_=>exact d h
 |str i=>cases r2 with
  |str j=>exact f.sh w (.bl _) h
  |_=>exact d h
 |bl i=>cases r2 with
  |bl j=>exact f.sh w (.bl _) h
  |_=>exact d h
 |_=>exact d h
theorem Jt:kC K (Rw K) A7:=by
 intro Hs H m x v As n y u Bs Qd Qv w rx ry h f
 have r1:=rx.rep w
 have r2:=ry.rep w
 have d:=fun h=>ne_data (Qd:=Qd) (Qv:=Qv) w r1 r2 f h
 cases r1 with
 |int i=>cases r2 with
  |int j=>exact f.sh w (.bl _) h
  |_=>exact d h
 |str i=>cases r2 with
  |str j=>exact f.sh w (.bl _) h
  |_=>exact d h
 |bl i=>cases r2 with
  |bl j=>exact f.sh w (.bl _) h
  |_=>exact d h
 |_=>exact d h
theorem yM(r:Rep K H x v):decide (v=V.non)=x.E7:=by
 cases r<;>first|rfl|exact decide_eq_false (fun z=>nomatch z)
theorem vQ:kC K (fun x y H Q=>y=.non/\Q (.bl (decide (x=.non))) H) IU:=by
 intro Hs H m x v As n y u Bs Qd Qv w rx ry h f
 have r1:=rx.rep w
 have r2:=ry.rep w
 have e:=yM r1
 cases r2 with
 |non=>exact⟨rfl,by rw[e];exact f.sh w (.bl _) h⟩
 |_=>exact h.elim
theorem Hc:kC K (fun x y H Q=>y=.non/\Q (.bl (!decide (x=.non))) H) Gw:=by
 intro Hs H m x v As n y u Bs Qd Qv w rx ry h f
 have r1:=rx.rep w
 have r2:=ry.rep w
 have e:=yM r1
 cases r2 with
 |non=>exact⟨rfl,by rw[e];exact f.sh w (.bl _) h⟩
 |_=>exact h.elim
theorem mY(r:Rep K H x v)(h:gZ x=true):zC v=true:=by
 cases r<;>first|rfl|(simp[gZ] at h)
theorem Ht(r:Rep K H x v)(s:Rep K H y u)(h:gZ x=true)(g:gZ y=true):AY v u=hX x y:=by
 cases r<;>simp[gZ] at h<;>cases s<;>simp[gZ] at g<;>rfl
theorem JW(r:Rep K H x v)(h:gZ x=true)(rs:aI K H ys us)(g:ys.all gZ=true):us.all zC=true/\Rc v us=inD x ys:=by
 induction ys generalizing us with
 |nil=>rw[rs.n0];exact⟨rfl,rfl⟩
 |cons y ys ih =>
  obtain⟨u,us,rfl,s,ss⟩:=rs.c
  simp only[AJ,kK] at g
  obtain⟨e1,e2⟩:=ih ss g.2
  refine⟨by simp only[AJ,mY s g.1,e1,Bool.and_self],?_⟩
  unfold Rc inD at *
  rw[AK,AK,e2,Ht s r g.1 h]
theorem um{κ:Type}[DecidableEq κ]{H:Hp}{k:κ}{kvs:List (κ × D)}{vs:List V}(r:aI K H (kvs.map (·.2)) vs):(gp ((kvs.map (·.1)).zip vs) k).isSome=(dz kvs k).isSome:=by
 have:=zip_get (k:=k) r
 split at this
 ·rename_i e
  obtain⟨v,e1,_⟩:=this
  rw[e1,e];rfl
 ·rename_i e
  rw[this,e];rfl
theorem vq:kC K (EX K neg) (vT neg):=by
 intro Hs H m x v As n y u Bs Qd Qv w rx ry h f
 have r1:=rx.rep w
 have r2:=ry.rep w
 cases r2 with
 |str j=>cases r1 with
  |str i=>exact f.sh w (.bl _) h
  |_=>exact h.elim
 |list z s q =>
  obtain⟨h1,h2,h3⟩:=h
  obtain⟨e1,e2⟩:=JW r1 h1 q h2
  have h4:=mY r1 h1
  have g:My K neg v (.ref _) H Qv:=⟨_,_,rfl,.inl s,h4,e1,by rw[e2];exact f.sh w (.bl _) h3⟩
  cases r1<;>exact .inr g
 |tup _ s q =>
  obtain⟨h1,h2,h3⟩:=h
  obtain⟨e1,e2⟩:=JW r1 h1 q h2
  have h4:=mY r1 h1
  have g:My K neg v (.ref _) H Qv:=⟨_,_,rfl,.inr (.inl (.inl s)),h4,e1,by rw[e2];exact f.sh w (.bl _) h3⟩
  cases r1<;>exact .inr g
 |dK kk e q =>
  obtain⟨k,hk,h3⟩:=h
  have ev:=r1.key hk
  subst ev
  have eg:=um (k:=k) q
  cases k<;>exact .inl ⟨_,kP.k' e,by rw[eg];exact f.sh w (.bl _) h3⟩
 |dT kk e q =>
  cases r1 with
  |tup t1 e1 q1 =>
   obtain⟨ks,hk,h3⟩:=h
   obtain⟨b,eb,e2⟩:=Rep.kR (.tup t1 e1 q1) hk
   cases eb
   have eg:=um (k:=ks) q
   exact .inl ⟨_,kP.t' e e2,by rw[eg];exact f.sh w (.bl _) h3⟩
  |_=>exact h.elim
 |_=>exact h.elim
end
section
variable {X:Cx}{K:PySem.W.Frag}{a b:Expr}{ta tb:WE}{pos:Pos}
theorem La(hK:X.K=K:=by rfl):da X (binaryOp .Add) (fun x y H Q=>Ds K x y H Q\/TL K x y H Q):=by subst hK;exact Hh.or di'
theorem gY(ha:QE X K a ta)(hb:QE X K b tb)(hK:X.K=K:=by rfl):QE X K (.BinOp a .Add b pos) (av kD ta tb):=E6 (La hK) JV ha hb
theorem Fz(ha:QE X K a ta)(hb:QE X K b tb):QE X K (.BinOp a .Sub b pos) (av IL ta tb):=E6 Hu JP ha hb
theorem Jx(ha:QE X K a ta)(hb:QE X K b tb):QE X K (.BinOp a .Mult b pos) (av NJ ta tb):=E6 Hy JK ha hb
theorem gF(ha:QE X K a ta)(hb:QE X K b tb):QE X K (.BinOp a .FloorDiv b pos) (av ng ta tb):=E6 Hr HN ha hb
theorem cZ(ha:QE X K a ta)(hb:QE X K b tb):QE X K (.BinOp a .Mod b pos) (av iN ta tb):=E6 GK Ii ha hb
def NS:W1:=fun _ x Q=>match x with
 |.int i=>Q .sh (.int (-i))
 |_=>False
theorem Jr:RJ K (rU fun i=>.int (-i)) NS:=by
 intro Hs H m x v As Qd Qv w rx h f
 have r1:=rx.rep w
 cases r1 with
 |int i=>exact⟨i,rfl,f.sh w (.int _) h⟩
 |_=>exact h.elim
theorem Ig(ha:QE X K a ta):QE X K (.UnaryOp .USub a pos) (ic NS ta):=fe' co' Jr ha
end
def b4:WA:=fun _ Q=>Q []
def ak(te:WE)(t:WA):WA:=fun ρ Q=>te ρ fun m x=>t ρ fun ps=>Q ((m,x) :: ps)
def yv:Md × D->Bool
 | (.sh,_)=>true
 | (_,d)=>d.flat
def E8:Md × D->Bool
 | (.bo,d)=>d.flat
 |_=>true
def DF:Md × D->Bool
 | (.ow true,_)=>true
 | (_,d)=>d.flat
def tG(ps:List (Md × D)):Md:=bif ps.all yv then .sh else bif ps.all E8 then .ow (ps.all DF) else .bo
def Hm(ps:List (Md × D)):Md:=bif ps.all E8 then .ow (ps.all DF) else .bo
def i7(t:WA):WE:=fun ρ Q=>t ρ fun ps=>ps.length<=sizeLine/\Q (tG ps) (.tup (ps.map (·.2)))
def sT(t:WA):WE:=fun ρ Q=>t ρ fun ps=>ps.length<=sizeLine/\Q (Hm ps) (.list (ps.map (·.2)))
section
variable {X:Cx}{K:PySem.W.Frag}{e:Expr}{es:List Expr}{te:WE}{t:WA}{pos:Pos}{Hs H:Hp}
theorem au:QA X K [] b4:=PA.imp uS fun σ H Qv hx=>kN hx fun Hs ρ ag Q sr h f=>f [] H Hs [] [] (eL.refl sr.wf) .nil dC.nil h
theorem dC.app(f1:dC aE H As)(o:∀ a∈As,H1 a≠none)(f2:dC ay H1 Bs)(s:ax H H1)(k:∀ a,aE a=none->H1 a≠none->ay a=none):dC ay H (As++Bs) :=
 ⟨g9.mpr ⟨f1.1,f2.1,fun a ha b hb e=>by subst e;exact o a ha (f2.2 a hb).2⟩,fun a h=>by
  rcases dy.mp h with h|h
  ·exact⟨k a (f1.2 a h).1 (o a h),(f1.2 a h).2⟩
  ·exact⟨(f2.2 a h).1,s.free (f2.2 a h).2⟩⟩
theorem aa(ha:QE X K e te)(hr:QA X K es t)(hs:starEach (e :: es) X.env=(false,eval e X.env) :: starEach es X.env:=by rfl):QA X K (e :: es) (ak te t):=by
 refine PA.imp (q0 ha hr hs) fun σ H Qv hx=>kN hx fun Hs ρ ag Q sr h f=>?_
 refine⟨Hs,ρ,ag,_,sr,h,fun v H1 aE m x As g1 r1 f1 q1=>⟨aE,ρ,ag,_,sr.grow g1,q1,fun vs H2 ay ps Bs g2 r2 f2 q2=>?_⟩⟩
 exact f (v :: vs) H2 ay _ _ (g1.trans g2) (.cons (r1.grow g2) r2) (f1.app (fun a h=>(r1.own a h).ne) f2 g1.all fun a h1 h2=>g2.mS h1 h2) q2
theorem yn.sh(w:Wf Hs H){ps:List (Md × D)}(r:yn K Hs H ps vs As):ps.all yv=true->aI K Hs (ps.map (·.2)) vs:=by
 induction r with
 |nil=>exact fun _=>.nil
 |@cons m d v ps vs As Bs r rs ih =>
  intro h
  simp only[AJ,kK] at h
  refine .cons ?_ (ih h.2)
  cases m with
  |sh=>exact r.2
  |ow fl=>exact r.flat w h.1
  |bo=>exact r.flat w h.1
theorem yn.ow(w:Wf Hs H){ps:List (Md × D)}(r:yn K Hs H ps vs As):ps.all E8=true->(fl=true->ps.all DF=true)->∃ Bs,Bs.Sublist As/\(ps.all yv=false->Bs≠[])/\az K Hs H fl (ps.map (·.2)) vs Bs:=by
 induction r with
 |nil=>exact fun _ _=>⟨[],B5 _,(fun z=>Bool.noConfusion z),.nil⟩
 |@cons m d v ps vs A1 Cs r rs ih =>
  intro h hf
  simp only[AJ,kK] at h hf
  obtain⟨Bs,sb,ne,q⟩:=ih h.2 fun z=>(hf z).2
  have sk:([]++Bs).Sublist (A1++Cs):=by simpa using sb.trans (om _ _)
  have AR:d.flat=true->yv (m,d)=true->∃ Bs,Bs.Sublist (A1++Cs)/\(((m,d) :: ps).all yv=false->Bs≠[])/\az K Hs H fl (((m,d) :: ps).map (·.2)) (v :: vs) Bs:=fun hd ho =>
   ⟨[]++Bs,sk,fun z=>ne (by rw[AJ,ho] at z;simpa using z),.cons (.sh (fun _=>hd) (r.flat w hd)) q⟩
  cases m with
  |sh=>exact⟨[]++Bs,sk,fun z=>ne (by simpa[yv] using z),.cons (.sh (fun z=>(hf z).1) r.2) q⟩
  |bo=>exact AR h.1 h.1
  |ow b =>
   cases hd:d.flat with
   |true=>exact AR hd hd
   |false =>
    refine⟨A1++Bs,sb.append_left _,fun _ z=>r.2 (KW.mp z).1,.cons ?_ q⟩
    cases fl with
    |false=>exact bG.RD r.1
    |true =>
     have:=(hf rfl).1
     cases b with
     |true=>exact r.1
     |false=>simp[DF,hd] at this
theorem rN:∀ {ps:List (Md × D)},cp (ps.map (·.2))=true->ps.all yv=true
 |[],_=>rfl
 | (m,d) :: ps,h=>by
  simp only[fe,cp,kK] at h
  simp only[AJ,kK]
  exact⟨by cases m<;>simp[yv,h.1],rN h.2⟩
theorem dw{x1}(h:QA X K es t):QE X K (.Tuple es x1 pos) (i7 t):=by
 refine PE.imp (X6 h) fun σ H Qv hx=>kN hx fun Hs ρ ag Q sr h f=>?_
 refine⟨Hs,ρ,ag,_,sr,h,fun vs H1 aE ps As g1 r1 f1 q1=>?_⟩
 obtain⟨hz,q⟩:=q1
 have rl:=(r1.reps g1.wf)
 have hl:=rl.length
 rw[bS] at hl
 refine⟨by lia,fun p hp=>?_⟩
 have g2:=Uy (vs:=vs) g1.wf hp
 have fin:=Fin.after f g1
 unfold tG at q
 cases h1:ps.all yv with
 |true =>
  rw[h1] at q
  exact fin _ _ _ .sh _ [] g2 ⟨rfl,.tup (by lia) fi ((r1.sh g1.wf h1).same g2.sh)⟩ dC.nil q
 |false =>
  rw[h1] at q
  cases h2:ps.all E8 with
  |false =>
   rw[h2] at q
   exact fin _ _ _ .bo _ [] g2 ⟨rfl,.tup (by lia) fi (rl.same g2.all)⟩ dC.nil q
  |true =>
   rw[h2] at q
   obtain⟨Bs,sb,nz,ro⟩:=r1.ow (fl:=ps.all DF) g1.wf h2 fun z=>z
   have gV:cp (ps.map (·.2))=false:=by
    cases hf:cp (ps.map (·.2)) with
    |false=>rfl
    |true=>rw[rN hf] at h1;cases h1
   have own:=ro.own
   refine f _ _ _ (.ow _) _ Bs (g1.trans g2) ⟨.tup (by lia) fi gV (ro.grow g2.sh g2.all),nz h1⟩ ⟨sb.nodup f1.1,fun a ha=>⟨?_,(f1.2 a (sb.subset ha)).2⟩⟩ q
   exact g2.mS (f1.2 a (sb.subset ha)).1 (own a ha).ne
theorem jE(h:QA X K es t):QE X K (.List es pos) (sT t):=by
 refine PE.imp (cI' h) fun σ H Qv hx=>kN hx fun Hs ρ ag Q sr h f=>?_
 refine⟨Hs,ρ,ag,_,sr,h,fun vs H1 aE ps As g1 r1 f1 q1=>?_⟩
 obtain⟨hz,q⟩:=q1
 have rl:=(r1.reps g1.wf)
 have hl:=rl.length
 rw[bS] at hl
 refine⟨by lia,fun p hp=>?_⟩
 have g2:=RG (o:=.lst vs) g1.wf hp fun _ z=>nomatch z
 have fin:=Fin.after f g1
 unfold Hm at q
 cases h2:ps.all E8 with
 |false =>
  rw[h2] at q
  exact fin _ _ _ .bo _ [] g2 ⟨rfl,.list (by lia) (.inl (.inl fi)) (rl.same g2.all)⟩ dC.nil q
 |true =>
  rw[h2] at q
  obtain⟨Bs,sb,nz,ro⟩:=r1.ow (fl:=ps.all DF) g1.wf h2 fun z=>z
  have own:=ro.own
  refine f _ _ _ (.ow _) _ (p :: Bs) (g1.trans g2) ⟨.list (by lia) fi (ro.grow g2.sh g2.all),by simp⟩ ⟨js.mpr ⟨fun m=>(own p m).ne hp,sb.nodup f1.1⟩,fun a ha=>?_⟩ q
  rcases dr.mp ha with rfl|ha
  ·exact⟨g1.wf.sub.free hp,g1.all.free hp⟩
  ·exact⟨g2.mS (f1.2 a (sb.subset ha)).1 (own a ha).ne,(f1.2 a (sb.subset ha)).2⟩
end
theorem aI.ft{K:PySem.W.Frag}(r:aI K H ds vs)(h:ft ds i=some d):∃ v,L2.ft vs i=some v/\Rep K H d v:=by
 unfold L2.ft at *
 rw[<- r.length]
 cases e:mw ds.length i with
 |none=>rw[e] at h;cases h
 |some j =>
  rw[e] at h
  exact r.get h
def dv:W2:=fun m x _ y Q=>match x with
 |.list xs=>match y with
  |.int i=>∃ d,ft xs i=some d/\bX d (f:=fun d=>Q (mh m d) d) ⟨⟩
  |_=>False
 |.tup xs=>match y with
  |.int i=>∃ d,ft xs i=some d/\bX d (f:=fun d=>Q (mh m d) d) ⟨⟩
  |_=>False
 |.str z=>match y with
  |.int i=>∃ c,ft z.cps.toList i=some c/\Q .sh (.str ⟨#[c]⟩)
  |_=>False
 |.dK kvs=>∃ k d,y.key1=some k/\dz kvs k=some d/\bX d (f:=fun d=>Q (mh m d) d) ⟨⟩
 |.dT kvs=>match y with
  |.tup ys=>∃ ks d,fj ys=some ks/\dz kvs ks=some d/\bX d (f:=fun d=>Q (mh m d) d) ⟨⟩
  |_=>False
 |_=>False
def UC(K:PySem.W.Frag):R2:=fun x y H Q=>Rr K x y H Q\/∃ a v,x=.ref a/\kP H a y (some v)/\Q v H
theorem yJ(c:Nat):(⟨#[c]⟩:Str).length<=sizeLine:=by show 1<=sizeLine;decide
theorem RM.here{K:PySem.W.Frag}(w:Wf Hs H)(r:RM K Hs H m d v As):(m=.sh/\Rep K Hs d v)\/(m≠.sh/\Rep K H d v):=by
 cases m with
 |sh=>exact .inl ⟨rfl,r.2⟩
 |ow fl=>exact .inr ⟨(fun z=>nomatch z),r.rep w⟩
 |bo=>exact .inr ⟨(fun z=>nomatch z),r.2⟩
section
variable {X:Cx}{K:PySem.W.Frag}
theorem J8:kC K (UC K) dv:=by
 intro Hs H m x v As n y u Bs Qd Qv w rx ry h f
 have r2:=ry.rep w
 have core:∀ G:Hp,ax G H->(∀ d v,Rep K G d v->Rep K H d v/\(m=.sh->Rep K Hs d v))->Rep K G x v->UC K v u H Qv:=by
  intro G sg up r1
  cases r1 with
  |list z s q =>
   cases r2 with
   |int i =>
    obtain⟨d,e,h⟩:=h
    obtain⟨v',e',r'⟩:=q.ft e
    obtain⟨u1,u2⟩:=up _ _ r'
    exact .inl (.inl ⟨_,v',ax.seq sg s,e',f.mh w u1 u2 h⟩)
   |_=>exact h.elim
  |tup _ s q =>
   cases r2 with
   |int i =>
    obtain⟨d,e,h⟩:=h
    obtain⟨v',e',r'⟩:=q.ft e
    obtain⟨u1,u2⟩:=up _ _ r'
    exact .inl (.inr ⟨_,v',.inl (.inl (sg _ _ s)),e',f.mh w u1 u2 h⟩)
   |_=>exact h.elim
  |str hz =>
   cases r2 with
   |int i =>
    obtain⟨c,e,h⟩:=h
    exact .inl ⟨hz,c,e,f.sh w (.str (yJ c)) h⟩
   |_=>exact h.elim
  |dK kk s q =>
   obtain⟨k,d,hk,hg,h⟩:=h
   have ev:=r2.key hk
   subst ev
   have z:=zip_get (k:=k) q
   rw[hg] at z
   obtain⟨v',e',r'⟩:=z
   obtain⟨u1,u2⟩:=up _ _ r'
   exact .inr ⟨_,v',rfl,by rw[<- e'];exact kP.k' (ax.rd sg s),f.mh w u1 u2 h⟩
  |dT kk s q =>
   cases r2 with
   |tup t2 e2 q2 =>
    obtain⟨ks,d,hk,hg,h⟩:=h
    obtain⟨b,eb,e3⟩:=Rep.kR (.tup t2 e2 q2) hk
    cases eb
    have z:=zip_get (k:=ks) q
    rw[hg] at z
    obtain⟨v',e',r'⟩:=z
    obtain⟨u1,u2⟩:=up _ _ r'
    exact .inr ⟨_,v',rfl,by rw[<- e'];exact kP.t' (ax.rd sg s) e3,f.mh w u1 u2 h⟩
   |_=>exact h.elim
  |_=>exact h.elim
 rcases rx.here w with⟨hm,r⟩|⟨hm,r⟩
 ·exact core Hs w.sub (fun d v q=>And.intro (q.same w.sub) fun _=>q) r
 ·exact core H (ax.refl H) (fun d v q=>And.intro q fun z=>absurd z hm) r
theorem Y8(hu:X.A.units+64<cLine)(hK:X.K=K:=by rfl):vi X (UC K):=by
 subst hK
 refine vi.or DG ?_
 intro value slice pins s σ H x y v u Q I rx ry h hs
 obtain⟨a,w,rfl,g,q⟩:=h
 cases rx
 exact tail_any (dS' I g) F.slot_dict_getitem.lookup (dL' (by lia) I g ry fun w' s3 I3 kr=>⟨w,H,I3,kr,q⟩) hs
variable {a b:Expr}{ta tb:WE}{pos:Pos}
theorem eJ(hu:X.A.units+64<cLine)(ha:QE X K a ta)(hb:QE X K b tb)(hs:Rb b:=by exact fun _ _=>rfl)(hK:X.K=K:=by rfl):QE X K (.Subscript a b pos) (av dv ta tb):=PE.imp (TV (Y8 hu hK) ha hb hs) (qx J8)
end
def jI{α:Type}(xs:List α)(lo hi:Option Int):List α:=(xs.drop (HT.bP xs.length 0 lo)).take (HT.bP xs.length xs.length hi-HT.bP xs.length 0 lo)
abbrev WO:=Env->(Option Int->Prop)->Prop
def pM:WO:=fun _ Q=>Q none
def uI(t:WE):WO:=fun ρ Q=>t ρ fun _ x=>match x with
 |.int i=>Q (some i)
 |_=>False
def NV(m:Md)(x:D)(lo hi:Option Int)(Q:Md->D->Prop):Prop:=match x with
 |.str z=>Q .sh (.str (rq z lo hi))
 |.list xs=>(cp xs=true/\Q (.ow true) (.list (jI xs lo hi)))\/(m=.sh/\Q (.ow false) (.list (jI xs lo hi)))
 |.tup xs=>cp xs=true/\¬ (HT.bP xs.length 0 lo=0/\HT.bP xs.length xs.length hi=xs.length)/\Q .sh (.tup (jI xs lo hi))
 |_=>False
def NW(te:WE)(tl th:WO):WE:=fun ρ Q=>te ρ fun m x=>tl ρ fun lo=>th ρ fun hi=>NV m x lo hi Q
def tpO(K:PySem.W.Frag)(t:WO):TO:=fun σ H Qv=>∃ Hs ρ ag Q,dc K Hs ρ σ H ag/\t ρ Q/\∀ o H' ai,eL Hs H ai H'->Q o->Qv o H'
abbrev QO(X:Cx)(K:PySem.W.Frag)(e:Option Expr)(t:WO):Prop:=PO X e (tpO K t)
theorem wX(z:Str)(lo hi:Option Int):(rq z lo hi).length<=z.length:=by
 unfold rq Str.length
 simp only[h9,qS,B3,tT]
 lia
theorem rE{α:Type}(xs:List α)(lo hi:Option Int):(jI xs lo hi).length<=xs.length:=by
 unfold jI
 rw[qS,B3]
 lia
theorem tM{lo hi:Option Int}(h:cp xs=true):cp (jI xs lo hi)=true:=by
 rw[lV] at *
 intro x hx
 exact h x (SX (Qq hx))
section
variable {X:Cx}{K:PySem.W.Frag}{e:Expr}{lo hi:Option Expr}{te:WE}{tl th:WO}{pos p2:Pos}
theorem A_:QO X K none pM:=fun pins s σ H Q I h=>dc' pins s σ H Q I (by
 obtain⟨Hs,ρ,ag,Qd,sr,h,f⟩:=h
 exact f none H Hs (eL.refl sr.wf) h)
theorem pO(h:QE X K e te):QO X K (some e) (uI te):=fun pins s σ H Q I hh=>de' h pins s σ H Q I (by
 obtain⟨Hs,ρ,ag,Qd,sr,h,f⟩:=hh
 refine⟨Hs,ρ,ag,_,sr,h,fun v H1 aE m x As g1 r1 f1 q1=>?_⟩
 have r:=r1.rep g1.wf
 cases r with
 |int i=>exact⟨i,rfl,f _ H1 aE g1 q1⟩
 |_=>exact q1.elim)
theorem nG{lo hi:Option Int}(r:aI K H ds vs):aI K H (jI ds lo hi) (AW vs lo hi):=by
 unfold jI AW
 rw[r.length]
 exact(r.drop _).take _
theorem fk'(hK:X.K=K:=by rfl):H0 X (fun x lo hi H Q=>Uj K x lo hi H Q\/Yh K x lo hi H Q):=by
 subst hK
 intro pins s σ H x v vl vu lo hi sl Q I rx hs pl pu h
 rcases h with h|h
 ·exact Ia pins s σ H x v vl vu lo hi sl Q I rx hs pl pu h
 ·exact dh' pins s σ H x v vl vu lo hi sl Q I rx hs pl pu h
theorem vp(he:QE X K e te)(hl:QO X K lo tl)(hh:QO X K hi th)(hK:X.K=K:=by rfl):QE X K (.Subscript e (.Slice lo hi none p2) pos) (NW te tl th):=by
 refine PE.imp (dg' (fk' hK) he hl hh) fun σ H Qv hx=>kN hx fun Hs ρ ag Q sr h f=>?_
 refine⟨Hs,ρ,ag,_,sr,h,fun v H1 aE m x As g1 r1 f1 q1=>⟨aE,ρ,ag,_,sr.grow g1,q1,fun l H2 ay g2 q2=>⟨ay,ρ,ag,_,(sr.grow g1).grow g2,q2,fun u H3 eI g3 q3=>?_⟩⟩⟩
 have r3:=(r1.grow g2).grow g3
 have fin:Fin K eI H3 Q Qv:=Fin.after f ((g1.trans g2).trans g3)
 have rr:=r3.rep g3.wf
 cases rr with
 |str hz=>exact .inl ⟨hz,fin.sh g3.wf (.str (gE (wX _ _ _) hz)) q3⟩
 |list z s q =>
  have hz:=q.length
  rcases q3 with⟨hf,q3⟩|⟨rfl,q3⟩
  ·exact .inl ⟨_,s,fin.lst g3.wf (gE (rE _ _ _) (by lia)) (nG q) (tM hf) q3⟩
  ·obtain⟨_,r3⟩:=r3
   cases r3 with
   |list z' s' q' =>
    have hz:=q'.length
    exact .inl ⟨_,ax.seq g3.wf.sub s',fin.ND g3.wf (gE (rE _ _ _) (by lia)) (nG q') q3⟩
 |tup z s q =>
  have hz:=q.length
  obtain⟨hf,hn,q3⟩:=q3
  exact .inr ⟨_,_,rfl,.inl (.inl s),by rw[<- hz];exact hn,fin.tup g3.wf (gE (rE _ _ _) (by lia)) (nG q) (tM hf) q3⟩
 |_=>exact q3.elim
end
def qf:W1:=fun _ x Q=>match x with
 |.str z=>Q .sh (.int z.length)
 |.list xs=>Q .sh (.int xs.length)
 |.tup xs=>Q .sh (.int xs.length)
 |.dK kvs=>Q .sh (.int kvs.length)
 |.dT kvs=>Q .sh (.int kvs.length)
 |_=>False
def UD(T:String):W1:=fun _ x Q=>Q .sh (.bl (IB x.ty T))
def An(K:PySem.W.Frag)(r:List V->Hp->VK->Prop)(f:W1):Prop:=∀ Hs H m x v As Qd Qv,Wf Hs H->RM K Hs H m x v As->f m x Qd->Fin K Hs H Qd Qv->r [v] H Qv
section
variable {X:Cx}{K:PySem.W.Frag}{e:Expr}{te:WE}{pos p:Pos}{x:Str}{id T:String}
theorem pL(br:An K r f)(σ:St)(H:Hp)(Qv:VK)(h:mB K (ic f te) σ H Qv):TJ r (TF (mB K te) TC) σ H Qv:=by
 obtain⟨Hs,ρ,ag,Q,sr,h,fin⟩:=h
 exact⟨Hs,ρ,ag,_,sr,h,fun v H1 aE m x As g1 r1 f1 q1=>br aE H1 m x v As Q Qv g1.wf r1 q1 (Fin.after fin g1)⟩
theorem cu(hc:kM X (.builtin id) r)(br:An K r f)(hg:Gl X x)(hm:X.mg x=none)(hv:bootBuiltins x=some (.builtin id))(he:QE X K e te)
  (hs:starEach [e] X.env=(false,eval e X.env) :: starEach [] X.env:=by rfl) (hn:x ≠ "__name__" := by decide) (ve:(x == ("__debug__" : Str))=false:=by decide):QE X K (.Call (.Name x p) [e] [] pos) (ic f te) :=
 PE.imp (Yd hc hg hm hv (q0 he uS hs) hn ve hs) (pL br)
theorem pU(hc:kM X (.type T) r)(br:An K r f)(hg:Gl X x)(hm:X.mg x=none)(hv:bootBuiltins x=some (.type T))(he:QE X K e te)
  (hs:starEach [e] X.env=(false,eval e X.env) :: starEach [] X.env:=by rfl) (hn:x ≠ "__name__" := by decide) (ve:(x == ("__debug__" : Str))=false:=by decide):QE X K (.Call (.Name x p) [e] [] pos) (ic f te) :=
 PE.imp (cR' hc hg hm hv (q0 he uS hs) hn ve hs) (pL br)
theorem Gb(hd:(d == sysModules)=false)(x:qa s.heap d es ep)(NX:(es.size:Int)<2 ^ 63)
  (h:∀ t t',Q (.int es.size t) { s with toks:=t' }):wpAny (model prog w) A (call (.builtin "len") [.ref d]) Q E s:=by
 refine Calls.call_function_entry kind_len plain_len entry_len (args_len1 _) ?_
 have mt:MeetsIn prog w (Builtin.«dict.__len__» ⟨[.ref d],[]⟩) (fun _ R s=>qa s.heap d es ep/\R (.ok (.ret (.int es.size s.toks))) { s with toks:=s.toks+1 }):=.of_wp fun A R s cE=>by
  obtain⟨hm,h⟩:=cE
  obtain⟨o,ho,hc,DC⟩:=hm
  show wpAny _ _ (dictSize d >>= _) _ _ s
  unfold dictSize
  refine ah (ah (wpAny_dictEntries ho DC (aw ?_)))
  show wpAny _ _ (Builtin.Dict.pendingCount d >>= _) _ _ s
  refine ah (wpAny_pendingCount_other hd ?_)
  refine wpAny_ret_mkInt ?_
  rw[Qx];exact h
 unfold Builtin.«len»
 refine ah (m:=oneArg "len" _) (aw ?_)
 refine ah (m:=callSpecial? (.ref d) (Str.ofString "__len__")) (wpAny_callSpecial?_slot (name:=Str.ofString "__len__") x.typ F.slot_dict_len
  (call_meetsIn F.slot_dict_len x.typ F.entry_dict_len (F.args_dict_len_1 _) mt ⟨x,?_⟩))
 show wpAny _ _ _ _ _ { s with toks:=s.toks+1 }
 refine ah (wpAny_holding (aw ?_))
 refine ah (wpAny_letGo ?_)
 show wpAny _ _ (if ((es.size:Nat):Int)<0 then _ else _) _ _ _
 rw[if_neg (by lia)]
 show wpAny _ _ (if ((es.size:Nat):Int) >= 2 ^ 63 then _ else _) _ _ _
 rw[if_neg (by lia)]
 exact ah (wpAny_mkInt (aw ⟨_,rfl,h _ _⟩))
theorem bF (hK:X.K=K:=by rfl):kM X (.builtin "len") (fun xs H Q=>Rq K xs H Q\/∃ a kvs,xs=[.ref a]/\Rd H a (.dT kvs)/\Q (.int kvs.length) H):=by
 subst hK
 intro pins s σ H xs us Q I r h
 rcases h with h|⟨a,kvs,rfl,ha,q⟩
 ·exact zA pins s σ H xs us Q I r h
 ·obtain⟨u,rfl,ru⟩:=Vals.one r
  cases ru
  obtain⟨z,hd,ys,rel,o,es,ep,h1,h2,h3,h4,h5⟩:=(show fo X.prog X.w H s.heap a (.dT kvs) from I.rd ha)
  have hl:es.size=kvs.length:=by
   have:=congrArg List.length h4
   rw[tT,bS] at this
   rw[this];exact rel.length.symm
  exact Gb hd ⟨o,h1,h2,h3⟩ (by rw[sizeLine_eq] at z;lia) fun t t'=>⟨.int kvs.length,H,I.tok _,⟨t,by rw[hl]⟩,q⟩
theorem iu:An K (fun xs H Q=>Rq K xs H Q\/∃ a kvs,xs=[.ref a]/\Rd H a (.dT kvs)/\Q (.int kvs.length) H) qf:=by
 intro Hs H m x v As Qd Qv w rx h f
 have r1:=rx.rep w
 cases r1 with
 |str hz=>exact .inl ⟨hz,f.sh w (.int _) h⟩
 |list z s q=>exact .inl (.inl ⟨_,s,by rw[<- q.length];exact f.sh w (.int _) h⟩)
 |tup _ s q=>exact .inl (.inr (.inl ⟨_,.inl (.inl s),by rw[<- q.length];exact f.sh w (.int _) h⟩))
 |dK kk s q=>exact .inl (.inr (.inr ⟨_,s,by
   have:=q.length
   rw[bS] at this
   rw[D6,bS,<- this,GV]
   exact f.sh w (.int _) h⟩))
 |dT kk s q=>exact .inr ⟨_,_,rfl,s,by
   have:=q.length
   rw[bS] at this
   rw[D6,bS,<- this,GV]
   exact f.sh w (.int _) h⟩
 |_=>exact h.elim
end
section
variable {X:Cx}{K:PySem.W.Frag}{e e2:Expr}{te:WE}{pos p:Pos}{T:String}
theorem Bb (hK:X.K=K:=by rfl):kM X (.builtin "isinstance") (fun xs H Q=>∃ x d T,xs=[x,.ty T]/\Rep K H d x/\Ue T=true/\Q (.bl (IB d.ty T)) H):=by
 subst hK
 intro pins s σ H xs us Q I r h
 obtain⟨x,d,T,rfl,rd,hT,q⟩:=h
 obtain⟨u,v,rfl,ru,rv⟩:=Vals.two r
 obtain rfl:v=Value.type T:=rv
 have hb:T∈["str", "int", "bool", "list", "tuple", "dict"]:=by simpa[Ue] using hT
 have fin:∀ tk,EP X pins σ Q (.bool (IB d.ty T)) { s with toks:=tk }:=fun tk=>⟨.bl (IB d.ty T),H,I.tok tk,rfl,q⟩
 cases rd with
 |non=>exact L5 I ru .non (jO X.K _ T (by simp) hb) fin
 |bl b=>exact L5 I ru (.bl b) (jO X.K _ T (by simp) hb) fin
 |int i=>exact L5 I ru (.int i) (jO X.K _ T (by simp) hb) fin
 |str y=>exact L5 I ru (.str _) (jO X.K _ T (by simp) hb) fin
 |list z s' q' =>
  cases ru
  obtain⟨its,_,pl,_⟩:=I.list s'
  obtain⟨o,h1,h2,_⟩:=pl.isList
  exact PySem.W.kia_one PySem.W.kitx_list I.kA ⟨o,h1,h2⟩ (jO X.K "list" T (by simp) hb) (fun z=>nomatch z) fin
 |tup _ s' q'=>exact L5 I ru (.tup s') (jO X.K _ T (by simp) hb) fin
 |dK _ s' q' =>
  cases ru
  obtain⟨_,_,vs,_,p⟩:=I.rd s'
  obtain⟨o,es,ep,h1,h2,_⟩:=p
  exact PySem.W.kia_one PySem.W.kitx_dict I.kA ⟨o,h1,h2.1⟩ (jO X.K "dict" T (by simp) hb) (fun z=>nomatch z) fin
 |dT _ s' q' =>
  cases ru
  obtain⟨_,_,xs,_,o,es,ep,h1,h2,_⟩:=I.rd s'
  exact PySem.W.kia_one PySem.W.kitx_dict I.kA ⟨o,h1,h2.1⟩ (jO X.K "dict" T (by simp) hb) (fun z=>nomatch z) fin
theorem Li (hm:X.mg "isinstance" = none) (he:QE X K e te) (ht:PE X e2 (tC (.ty T))) (hT:Ue T=true:=by rfl) (hg:Gl X "isinstance" := by rfl) (hK:X.K=K:=by rfl)
  (hs:starEach (e :: [e2]) X.env=(false,eval e X.env) :: starEach [e2] X.env:=by rfl) (qh:starEach (e2 :: []) X.env=(false,eval e2 X.env) :: starEach [] X.env:=by rfl) (pV:(backTo pos (starEach [e2] X.env)).any (·.1)=false:=by rfl) :
  QE X K (.Call (.Name "isinstance" p) [e,e2] [] pos) (ic (UD T) te):=by
 refine PE.imp (Yd (Bb hK) hg hm qO (q0 he (q0 ht uS qh) hs) (by decide) (by decide) hs pV) fun σ H Qv hx=>kN hx fun Hs ρ ag Q sr h f=>?_
 refine⟨Hs,ρ,ag,_,sr,h,fun v H1 aE m x As g1 r1 f1 q1=>⟨v,x,T,rfl,r1.rep g1.wf,hT,Fin.sh (Fin.after f g1) g1.wf (.bl _) q1⟩⟩
end
def kS:Key->D
 |.inl i=>.int i
 |.inr x=>.str x
def uC:W1:=fun m x Q=>match x with
 |.list xs=>(cp xs=true/\Q (.ow true) (.list xs))\/(m=.sh/\Q (.ow false) (.list xs))
 |.tup xs=>(cp xs=true/\Q (.ow true) (.list xs))\/(m=.sh/\Q (.ow false) (.list xs))
 |.dT kvs=>Q (.ow true) (.list (kvs.map fun kv=>.tup (kv.1.map kS)))
 |_=>False
section
variable {X:Cx}{K:PySem.W.Frag}
theorem lz:∀ {ks:List Key},(∀ k∈ks,yk k=true)->aI K H (ks.map kS) (ks.map kV)
 |[],_=>.nil
 |k :: ks,h=>by
  refine .cons ?_ (lz fun j m=>h j (b9 _ m))
  have:=h k b5
  cases k with
  |inl i=>exact .int i
  |inr x=>exact .str (by simpa[yk] using this)
theorem lO:∀ (ks:List Key),cp (ks.map kS)=true
 |[]=>rfl
 |k :: ks=>by simp only[fe,cp,lO ks,Qz];cases k<;>rfl
theorem lq(t:cG H ys ks)(h:∀ l∈ks,l.length<=sizeLine/\∀ k∈l,yk k=true):aI K H (ks.map fun l=>.tup (l.map kS)) ys:=by
 induction ys generalizing ks with
 |nil=>rw[show ks=[] from Paired.n0 t];exact .nil
 |cons y ys ih =>
  obtain⟨k,ks,rfl,⟨b,rfl,e⟩,t2⟩:=Paired.c t
  exact .cons (.tup (by rw[bS];exact(h _ b5).1) e (lz (h _ b5).2)) (ih t2 fun l m=>h l (b9 _ m))
theorem gK:∀ (ks:List (List Key)),cp (ks.map fun l=>.tup (l.map kS))=true
 |[]=>rfl
 |l :: ks=>by simp only[fe,cp,gK ks,Qz,D.flat,lO]
theorem jA (hc:X.calm=true:=by rfl) (hK:X.K=K:=by rfl):kM X (.type "list") (fun xs H Q=>(∃ p ys,xs=[.ref p]/\(eR K H p ys\/kL K H p ys)/\∀ l,H l=none->Q (.ref l) (upd H l (.lst ys)))\/wQ xs H Q):=by
 subst hK;exact dA'.or (xV hc)
theorem vd:An K (fun xs H Q=>(∃ p ys,xs=[.ref p]/\(eR K H p ys\/kL K H p ys)/\∀ l,H l=none->Q (.ref l) (upd H l (.lst ys)))\/wQ xs H Q) uC:=by
 intro Hs H m x v As Qd Qv w rx h f
 have r1:=rx.rep w
 cases r1 with
 |list z s q =>
  have hl:=q.length
  rcases h with⟨hf,h⟩|⟨rfl,h⟩
  ·exact .inl ⟨_,_,rfl,.inl s,f.lst w (by lia) q hf h⟩
  ·obtain⟨_,rx⟩:=rx
   cases rx with
   |list z' s' q' =>
    have hl:=q'.length
    exact .inl ⟨_,_,rfl,.inl (ax.seq w.sub s'),f.ND w (by lia) q' h⟩
 |tup z s q =>
  have hl:=q.length
  rcases h with⟨hf,h⟩|⟨rfl,h⟩
  ·exact .inl ⟨_,_,rfl,.inr (.inl (.inl s)),f.lst w (by lia) q hf h⟩
  ·obtain⟨_,rx⟩:=rx
   cases rx with
   |tup z' s' q' =>
    have hl:=q'.length
    exact .inl ⟨_,_,rfl,.inr (.inl (.inl (w.sub _ _ s'))),f.ND w (by lia) q' h⟩
 |@dT _ vs kvs kk s q =>
  refine .inr ⟨_,s,fun ys l ht hl=>?_⟩
  have hlen:=q.length
  rw[bS] at hlen
  have e:((kvs.map (·.1)).zip vs).map (·.1)=kvs.map (·.1):=D4 (by rw[bS];exact AQ hlen)
  rw[e] at ht
  have rr:=lq (K:=K) ht (fun l m=>by
   obtain⟨p,hp,rfl⟩:=bI.mp m
   exact kk.2 p hp)
  have ff:=gK (kvs.map (·.1))
  rw[eP] at rr ff
  exact f.lst w (by rw[bS];exact kk.1) rr ff h l hl
 |_=>exact h.elim
end
section
variable {K:PySem.W.Frag}{Hs H:Hp}
theorem SR.yu(r:Rep K Hs d v)(i:Nat)(s:SR K Hs H ρ σ ag):∃ bT,bT.Sublist ag/\SR K Hs H (ρ.set i (some (.sh d))) (σ.set i (some v)) bT:=by
 induction s generalizing i with
 |nil=>exact⟨[],B5 _,.nil⟩
 |non s ih =>
  cases i with
  |zero=>exact⟨_,List.Sublist.refl _,.sh r s⟩
  |succ i=>obtain⟨t,a,b⟩:=ih i;exact⟨t,a,.non b⟩
 |sh q s ih =>
  cases i with
  |zero=>exact⟨_,List.Sublist.refl _,.sh r s⟩
  |succ i=>obtain⟨t,a,b⟩:=ih i;exact⟨t,a,.sh q b⟩
 |xc s ih =>
  cases i with
  |zero=>exact⟨_,List.Sublist.refl _,.sh r s⟩
  |succ i=>obtain⟨t,a,b⟩:=ih i;exact⟨t,a,.xc b⟩
 |ow ne q s ih =>
  cases i with
  |zero=>exact⟨_,om _ _,.sh r s⟩
  |succ i=>obtain⟨t,a,b⟩:=ih i;exact⟨_,a.append_left _,.ow ne q b⟩
 |lk ne q s ih =>
  cases i with
  |zero=>exact⟨_,om _ _,.sh r s⟩
  |succ i=>obtain⟨t,a,b⟩:=ih i;exact⟨_,a.append_left _,.lk ne q b⟩
theorem uo{As ag:List Addr}(nd:As.Nodup)(n:ag.Nodup)(dj:∀ a∈As,a∉ag):(As++ag).Nodup:=g9.mpr ⟨nd,n,fun a ha b hb e=>dj a ha (e ▸ hb)⟩
theorem gP{As ag B t:List Addr}(n:(B++ag).Nodup)(dj:∀ a∈As,a∉B++ag)(a:t.Nodup)(b:∀ x∈t,x∈ag\/x∈As):(B++t).Nodup/\∀ x∈B++t,x∈B++ag\/x∈As:=by
 obtain⟨n1,n2,n3⟩:=g9.mp n
 refine⟨g9.mpr ⟨n1,a,fun x hx y hy e=>?_⟩,fun x hx=>?_⟩
 ·subst e
  rcases b x hy with z|z
  ·exact n3 x hx x z rfl
  ·exact dj x z (kf _ hx)
 ·rcases dy.mp hx with z|z
  ·exact .inl (kf _ z)
  ·exact(b x z).imp (fun z=>fw _ z) fun z=>z
theorem SR.Jg{d:D}{v:V}{fl:Bool}{As:List Addr}(ne:As≠[])(r:bG K Hs H fl d v As)(nd:As.Nodup){ρ:Env}{σ:St}{ag:List Addr}(i:Nat)(s:SR K Hs H ρ σ ag):ag.Nodup->(∀ a∈As,a∉ag) ->
  ∃ bT,bT.Nodup/\(∀ a∈bT,a∈ag\/a∈As)/\SR K Hs H (ρ.set i (some (.ow fl d))) (σ.set i (some v)) bT:=by
 induction s generalizing i with
 |nil=>exact fun n _=>⟨[],lh,(fun a h=>vx h),.nil⟩
 |non s ih =>
  intro n dj
  cases i with
  |zero=>exact⟨_,uo nd n dj,fun a h=>(dy.mp h).symm,.ow ne r s⟩
  |succ i=>obtain⟨t,a,b,c⟩:=ih i n dj;exact⟨t,a,b,.non c⟩
 |sh q s ih =>
  intro n dj
  cases i with
  |zero=>exact⟨_,uo nd n dj,fun a h=>(dy.mp h).symm,.ow ne r s⟩
  |succ i=>obtain⟨t,a,b,c⟩:=ih i n dj;exact⟨t,a,b,.sh q c⟩
 |xc s ih =>
  intro n dj
  cases i with
  |zero=>exact⟨_,uo nd n dj,fun a h=>(dy.mp h).symm,.ow ne r s⟩
  |succ i=>obtain⟨t,a,b,c⟩:=ih i n dj;exact⟨t,a,b,.xc c⟩
 |ow ne' q s ih =>
  intro n dj
  obtain⟨n1,n2,n3⟩:=g9.mp n
  have N0:=fun a ha m=>dj a ha (fw _ m)
  cases i with
  |zero=>exact⟨_,uo nd n2 N0,fun a h=>(dy.mp h).symm.imp (fun z=>fw _ z) fun z=>z,.ow ne r s⟩
  |succ i=>obtain⟨t,a,b,c⟩:=ih i n2 N0;exact⟨_,(gP n dj a b).1,(gP n dj a b).2,.ow ne' q c⟩
 |lk ne' q s ih =>
  intro n dj
  obtain⟨n1,n2,n3⟩:=g9.mp n
  have N0:=fun a ha m=>dj a ha (fw _ m)
  cases i with
  |zero=>exact⟨_,uo nd n2 N0,fun a h=>(dy.mp h).symm.imp (fun z=>fw _ z) fun z=>z,.ow ne r s⟩
  |succ i=>obtain⟨t,a,b,c⟩:=ih i n2 N0;exact⟨_,(gP n dj a b).1,(gP n dj a b).2,.lk ne' q c⟩
def asg:Md->D->Option Sl
 |.sh,d=>some (.sh d)
 |.ow fl,d=>some (.ow fl d)
 |.bo,d=>bif d.flat then some (.sh d) else none
theorem dc.set(i:Nat)(s:dc K Hs ρ σ H ag)(r:RM K Hs H m d v As)(nd:As.Nodup)(dj:∀ a∈As,Hs a=none/\a∉ag)(e:asg m d=some sl) :
  ∃ bT,dc K Hs (ρ.set i (some sl)) (σ.set i (some v)) H bT:=by
 have Y9:Rep K Hs d v->∃ bT,dc K Hs (ρ.set i (some (.sh d))) (σ.set i (some v)) H bT:=fun r=>by
  obtain⟨t,a,b⟩:=s.sr.yu r i
  exact⟨t,b,s.wf,a.nodup s.lP,fun x hx=>s.own x (a.subset hx)⟩
 cases m with
 |sh=>cases e;exact Y9 r.2
 |ow fl =>
  cases e
  obtain⟨t,a,b,c⟩:=SR.Jg r.2 r.1 nd i s.sr s.lP fun a ha=>(dj a ha).2
  exact⟨t,c,s.wf,a,fun x hx=>(b x hx).elim (s.own x) fun z=>(dj x z).1⟩
 |bo =>
  cases hf:d.flat with
  |true =>
   simp only[asg,hf,cond_true,Option.some.injEq] at e
   subst e
   exact Y9 (r.flat s.wf hf)
  |false=>simp[asg,hf] at e
end
section
variable {X:Cx}{K:PySem.W.Frag}{e c:Expr}{te:WE}{tc:WT}{pos:Pos}{st:Stmt}{a b rest:List Stmt}{t u:WS}
theorem PS.imp{te vS:TS}(h:PS X st te)(i:∀ D σ H,vS D σ H->te D σ H):PS X st vS:=fun pins s σ H D I q=>h pins s σ H D I (i D σ H q)
theorem lj.imp{te vS:TS}(h:lj X a te)(i:∀ D σ H,vS D σ H->te D σ H):lj X a vS:=fun pins s σ H D I q=>h pins s σ H D I (i D σ H q)
def cO:WS:=fun E ρ=>E.nx ρ
def b6(t u:WS):WS:=fun E ρ=>t { E with nx:=u E } ρ
def iO(te:WE):WS:=fun E ρ=>te ρ E.rt
def kW(te:WE):WS:=fun E ρ=>te ρ fun _ _=>E.nx ρ
def eK(i:Nat)(te:WE):WS:=fun E ρ=>te ρ fun m d=>match asg m d with
 |some sl=>E.nx (ρ.set i (some sl))
 |none=>False
def jS(c:WT)(t u:WS):WS:=fun E ρ=>c ρ fun b=>if b=true then t E ρ else u E ρ
def pD:WS:=fun _ _=>False
theorem aM:xv X K L [] cO:=lj.imp bC' fun D σ H hx=>dW hx fun Hs ρ ag E sr h k1 _ _ _=>k1 σ H Hs ρ ag (ax.refl _) sr h
theorem Dm{D:Ends}(h:vE K L (b6 t u) D σ H):Xw (vE K L t) (vE K L u) D σ H:=by
 obtain⟨Hs,ρ,ag,E,sr,h,k1,k2,k3,k4,kx⟩:=h
 refine⟨Hs,ρ,ag,{ E with nx:=u E },sr,h,fun bE H' ai aT bT s DH q=>?_,k2,k3,k4,kx⟩
 exact⟨ai,aT,bT,E,DH,q,fun jv H2 ay gi dn s2=>k1 jv H2 ay gi dn (s.trans s2),fun jv H2 ay gi dn s2=>k2 jv H2 ay gi dn (s.trans s2),fun jv H2 ay gi dn s2=>k3 jv H2 ay gi dn (s.trans s2),
  fun v H2 ay m d As s2=>k4 v H2 ay m d As (s.trans s2),fun n H2 s2=>kx n H2 (s.trans s2)⟩
theorem aj(h1:QS X K L st t)(h2:xv X K L rest u):xv X K L (st :: rest) (b6 t u):=lj.imp (Xx h1 h2) fun D σ H h=>Dm h
theorem aq(h1:QS X K L st t):xv X K L [st] t:=Xy h1
theorem iY:xv X K L a pD:=lj.imp bI' fun D σ H hx=>dW hx fun Hs ρ ag E sr h _ _ _ _=>h
theorem aZ(he:QE X K e te):QS X K L (.Return (some e) pos) (iO te):=PS.imp (Tj he) fun D σ H hx=>dW hx fun Hs ρ ag E sr h k1 k2 k3 k4 =>
 ⟨Hs,ρ,ag,_,sr,h,fun v H1 aE m d As g1 r1 f1 q1=>k4 v H1 aE m d As g1.sh g1.wf r1 f1.1 (fun a ha=>(f1.2 a ha).1) q1⟩
def nW(i:Nat):WS:=fun E ρ=>match ρ[i]? with
 |some (some (.sh d))=>E.rt .sh d
 |some (some (.ow fl d))=>E.rt (.ow fl) d
 |_=>False
theorem SR.at{ρ:Env}{σ:St}{ag:List Addr}{i:Nat}{fl:Bool}{d:D}{Hs H:Hp}(s:SR K Hs H ρ σ ag)(e:ρ[i]? = some (some (.ow fl d))):∃ v As,σ[i]? = some (some v)/\As≠[]/\bG K Hs H fl d v As/\As.Sublist ag:=by
 induction s generalizing i with
 |nil=>simp at e
 |non s ih =>
  cases i with
  |zero=>simp at e
  |succ i=>exact ih e
 |sh r s ih =>
  cases i with
  |zero=>simp at e
  |succ i=>exact ih e
 |xc s ih =>
  cases i with
  |zero=>simp at e
  |succ i=>exact ih e
 |ow ne r s ih =>
  cases i with
  |zero=>simp at e;obtain⟨rfl,rfl⟩:=e;exact⟨_,_,rfl,ne,r,FY _ _⟩
  |succ i =>
   obtain⟨v,As,a,b,c,d⟩:=ih e
   exact⟨v,As,a,b,c,d.trans (om _ _)⟩
 |lk ne r s ih =>
  cases i with
  |zero=>simp at e
  |succ i =>
   obtain⟨v,As,a,b,c,d⟩:=ih e
   exact⟨v,As,a,b,c,d.trans (om _ _)⟩
theorem iK{i:Nat}(he:PE X e (wt i)):QS X K L (.Return (some e) pos) (nW i):=PS.imp (Tj he) fun D σ H hx=>dW hx fun Hs ρ ag E sr h k1 k2 k3 k4=>by
 unfold nW at h
 split at h
 ·rename_i d e1
  obtain⟨v,e2,r⟩:=sr.sr.get e1
  exact⟨v,e2,k4 v H Hs .sh d [] (ax.refl _) sr.wf ⟨rfl,r⟩ lh (fun a ha=>nomatch ha) h⟩
 ·rename_i fl d e1
  obtain⟨v,As,e2,ne,r,sb⟩:=sr.sr.at e1
  exact⟨v,e2,k4 v H Hs (.ow fl) d As (ax.refl _) sr.wf ⟨r,ne⟩ (sb.nodup sr.lP) (fun a ha=>sr.own a (sb.subset ha)) h⟩
 ·exact h.elim
theorem eF(he:QE X K e te)(hs:swapsWith e none pos.line X.env=pure false:=by rfl):QS X K L (.Expr e pos) (kW te):=PS.imp (EE he hs) fun D σ H hx=>dW hx fun Hs ρ ag E sr h k1 k2 k3 k4 =>
 ⟨Hs,ρ,ag,_,sr,h,fun v H1 aE m d As g1 r1 f1 q1=>k1 σ H1 aE ρ ag g1.sh (sr.grow g1) q1⟩
theorem aF{i:Nat}{x:Str}{pos':Pos}(hN:X.N.Nodup)(hi:X.N[i]? = some x)(hx:Loc X.env.scope x)(he:QE X K e te)(hs:swapsWith e (some (.Name x pos')) pos.line X.env=pure false:=by rfl)
  (hf:X.fn x=true\/X.env.scope.names.lookup x=some .local:=by first|exact .inl rfl|exact .inr rfl|assumption):QS X K L (.Assign [.Name x pos'] e pos) (eK i te):=PS.imp (XC hN hi hx he hs hf) fun D σ H hx=>dW hx fun Hs ρ ag E sr h k1 k2 k3 k4=>by
 refine⟨Hs,ρ,ag,_,sr,h,fun v H1 aE m d As g1 r1 f1 q1=>?_⟩
 have q1:match asg m d with
  |some sl=>E.nx (ρ.set i (some sl))
  |none=>False:=q1
 cases e:asg m d with
 |none=>rw[e] at q1;exact q1.elim
 |some sl =>
  rw[e] at q1
  obtain⟨bT,s'⟩:=(sr.grow g1).set i r1 f1.1 (fun a ha=>⟨(f1.2 a ha).1,fun m=>(sr.sr.own a m).ne (f1.2 a ha).2⟩) e
  exact k1 _ H1 aE _ bT g1.sh s' q1
theorem dB(hc:QT X K c tc)(ha:xv X K L a t)(hb:xv X K L b u):QS X K L (.If c a b pos) (jS tc t u):=PS.imp (bG' hc ha hb) fun D σ H hx=>mL hx fun Hs ρ ag E sr h k1 k2 k3 k4 kx=>by
 refine⟨Hs,ρ,ag,_,sr,h,fun k H1 aE g1 q1=>?_⟩
 have Y_:∀ bE H' ai aT bT,ax aE ai->dc K ai aT bE H' bT->E.nx aT->D.nx bE H':=fun jv H2 ay gi dn s2=>k1 jv H2 ay gi dn (g1.sh.trans s2)
 have Za:∀ bE H' ai aT bT,ax aE ai->dc K ai aT bE H' bT->E.bk aT->D.bk bE H':=fun jv H2 ay gi dn s2=>k2 jv H2 ay gi dn (g1.sh.trans s2)
 have Zb:∀ bE H' ai aT bT,ax aE ai->dc K ai aT bE H' bT->E.ct aT->D.ct bE H':=fun jv H2 ay gi dn s2=>k3 jv H2 ay gi dn (g1.sh.trans s2)
 cases k with
 |true=>exact⟨aE,ρ,ag,E,sr.grow g1,q1,Y_,Za,Zb,(fun v H2 ay m d As s2=>k4 v H2 ay m d As (g1.sh.trans s2)),fun n H2 s2=>kx n H2 (g1.sh.trans s2)⟩
 |false=>exact⟨aE,ρ,ag,E,sr.grow g1,q1,Y_,Za,Zb,(fun v H2 ay m d As s2=>k4 v H2 ay m d As (g1.sh.trans s2)),fun n H2 s2=>kx n H2 (g1.sh.trans s2)⟩
def tf(Hs H:Hp)(As:List Addr):Hp:=fun a=>if a∈As then H a else Hs a
theorem jg(n:∀ a∈As,Hs a=none):ax Hs (tf Hs H As):=fun a o e=>by
 unfold tf
 rw[if_neg fun m=>by rw[n a m] at e;cases e]
 exact e
theorem zV(w:Wf Hs H)(o:∀ a∈As,Own H a):Wf (tf Hs H As) H:=⟨fun a u e=>by
  unfold tf at e
  by_cases m:a∈As
  ·rw[if_pos m] at e;exact e
  ·rw[if_neg m] at e;exact w.sub a u e,fun a vs e=>by
  unfold tf
  rw[if_neg fun m=>(o a m).Ed e]
  exact w.ib a vs e⟩
def N3:Sl->Sl
 |.sh d=>.sh d
 |.ow _ d=>.sh d
 |.lk a fl d=>.lk a fl d
 |.xc a=>.xc a
def N4:Sl->Sl
 |.sh d=>.sh d
 |.ow _ d=>.sh d
 |.lk _ _ d=>.sh d
 |.xc a=>.xc a
def N9(i:Nat)(ρ:Env):Env:=match ρ[i]? with
 |some (some sl)=>ρ.set i (some (N3 sl))
 |_=>ρ
theorem rG{As ag B t:List Addr}(n:(B++ag).Nodup)(a:As.Sublist ag)(c:∀ x∈As,x∉t):∀ x∈As,x∉B++t:=fun x hx m=>by
 obtain⟨n1,n2,n3⟩:=g9.mp n
 rcases dy.mp m with z|z
 ·exact n3 x z x (a.subset hx) rfl
 ·exact c x hx z
theorem SR.eC(i:Nat)(s:SR K Hs H ρ σ ag):ρ[i]? = some (some (.ow fl d))->ag.Nodup ->
  ∃ (As bT:List Addr),As.Sublist ag/\bT.Sublist ag/\(∀ a∈As,a∉bT)/\∀ ai,ax Hs ai->(∀ a∈As,ai a=H a)->SR K ai H (ρ.set i (some (.sh d))) σ bT:=by
 induction s generalizing i with
 |nil=>intro e;simp at e
 |non q ih =>
  intro e n
  cases i with
  |zero=>simp at e
  |succ i =>
   obtain⟨As,t,a,b,c,d⟩:=ih i e n
   exact⟨As,t,a,b,c,fun ai s k=>.non (d ai s k)⟩
 |sh r q ih =>
  intro e n
  cases i with
  |zero=>simp at e
  |succ i =>
   obtain⟨As,t,a,b,c,d⟩:=ih i e n
   exact⟨As,t,a,b,c,fun ai s k=>.sh (r.same s) (d ai s k)⟩
 |xc q ih =>
  intro e n
  cases i with
  |zero=>simp at e
  |succ i =>
   obtain⟨As,t,a,b,c,d⟩:=ih i e n
   exact⟨As,t,a,b,c,fun ai s k=>.xc (d ai s k)⟩
 |ow ne r q ih =>
  intro e n
  obtain⟨n1,n2,n3⟩:=g9.mp n
  cases i with
  |zero =>
   simp at e
   obtain⟨rfl,rfl⟩:=e
   exact⟨_,_,FY _ _,om _ _,fun a h m=>n3 a h a m rfl,fun ai s k=>.sh (r.rep s k) (q.fq s fun _ _=>rfl)⟩
  |succ i =>
   obtain⟨As,t,a,b,c,d⟩:=ih i e n2
   exact⟨As,_,a.trans (om _ _),b.append_left _,rG n a c,fun ai s k=>.ow ne (r.fq s fun _ _=>rfl) (d ai s k)⟩
 |lk ne r q ih =>
  intro e n
  obtain⟨n1,n2,n3⟩:=g9.mp n
  cases i with
  |zero=>simp at e
  |succ i =>
   obtain⟨As,t,a,b,c,d⟩:=ih i e n2
   exact⟨As,_,a.trans (om _ _),b.append_left _,rG n a c,fun ai s k=>.lk ne (r.fq s fun _ _=>rfl) (d ai s k)⟩
theorem dc.eC(i:Nat)(s:dc K Hs ρ σ H ag):∃ ai bT,ax Hs ai/\dc K ai (N9 i ρ) σ H bT:=by
 unfold N9
 split
 ·rename_i sl e
  have keep:N3 sl=sl->∃ ai bT,ax Hs ai/\dc K ai (ρ.set i (some (N3 sl))) σ H bT:=fun hs=>by
   have e2:ρ.set i (some (N3 sl))=ρ:=by
    apply D2
    intro j
    rw[List.getElem?_set]
    by_cases h:i=j
    ·subst h
     rw[if_pos rfl,e]
     have:i<ρ.length:=(iS.mp e).1
     simp[this,hs]
    ·rw[if_neg h]
   rw[e2]
   exact⟨Hs,ag,ax.refl _,s⟩
  cases sl with
  |sh d=>exact keep rfl
  |xc a=>exact keep rfl
  |lk a fl d=>exact keep rfl
  |ow fl d =>
   obtain⟨As,t,a,b,c,g⟩:=SR.eC i s.sr e s.lP
   have hn:∀ a∈As,Hs a=none:=fun x hx=>s.own x (a.subset hx)
   have ho:∀ a∈As,Own H a:=fun x hx=>s.sr.own x (a.subset hx)
   refine⟨tf Hs H As,t,jg hn,g _ (jg hn) fun x hx=>by unfold tf;rw[if_pos hx],zV s.wf ho,b.nodup s.lP,fun x hx=>?_⟩
   unfold tf
   rw[if_neg fun m=>c x m hx]
   exact s.own x (b.subset hx)
 ·exact⟨Hs,ag,ax.refl _,s⟩
def fI(i:Nat)(t:WS):WS:=fun E ρ=>t E (N9 i ρ)
theorem Cy{D:Ends}(h:vE K L (fI i t) D σ H):vE K L t D σ H:=by
 obtain⟨Hs,ρ,ag,E,sr,h,k1,k2,k3,k4,kx⟩:=h
 obtain⟨ai,bT,s,DH⟩:=sr.eC i
 exact⟨ai,_,bT,E,DH,h,fun jv H2 ay gi dn s2=>k1 jv H2 ay gi dn (s.trans s2),fun jv H2 ay gi dn s2=>k2 jv H2 ay gi dn (s.trans s2),fun jv H2 ay gi dn s2=>k3 jv H2 ay gi dn (s.trans s2),
  fun v H2 ay m d As s2=>k4 v H2 ay m d As (s.trans s2),fun n H2 s2=>kx n H2 (s.trans s2)⟩
theorem aJ(i:Nat)(h:QS X K L st t):QS X K L st (fI i t):=PS.imp h fun D σ H h=>Cy h
def lE(aE H1 ai H':Hp):Hp:=fun a=>match H' a with
 |some (.tup vs)=>some (.tup vs)
 |_=>match H1 a with
  |none=>ai a
  |some _=>aE a
theorem ji(w:Wf aE H1)(s:ax H1 ai)(w':Wf ai H'):eL aE H1 (lE aE H1 ai H') H':=by
 have sa:ax H1 H':=s.trans w'.sub
 have tp:∀ a vs,H' a=some (.tup vs)->lE aE H1 ai H' a=some (.tup vs):=fun a vs e=>by unfold lE;rw[e]
 have nt:∀ a,(∀ vs,H' a≠some (.tup vs))->lE aE H1 ai H' a=match H1 a with
  |none=>ai a
  |some _=>aE a:=fun a h=>by
  unfold lE
  split
  ·rename_i vs e;exact absurd e (h vs)
  ·rfl
 refine⟨sa,fun a o e=>?_,⟨fun a o e=>?_,tp⟩,fun a h=>?_⟩
 ·have e1:=w.sub a o e
  have e2:=sa a o e1
  by_cases ht:∃ vs,o=.tup vs
  ·obtain⟨vs,rfl⟩:=ht
   exact tp a vs e2
  ·rw[nt a fun vs z=>ht ⟨vs,by rw[e2] at z;exact Option.some.inj z⟩,e1]
   exact e
 ·by_cases ht:∃ vs,H' a=some (.tup vs)
  ·obtain⟨vs,z⟩:=ht
   rw[tp a vs z] at e
   rw[z];exact e
  ·rw[nt a fun vs z=>ht ⟨vs,z⟩] at e
   cases q:H1 a with
   |none=>rw[q] at e;exact w'.sub a o e
   |some u =>
    rw[q] at e
    have:=w.sub a o e
    exact sa a o this
 ·cases q:H1 a with
  |none=>exact .inr rfl
  |some u =>
   refine .inl ?_
   by_cases ht:∃ vs,H' a=some (.tup vs)
   ·obtain⟨vs,z⟩:=ht
    have:=sa a u q
    rw[z] at this
    cases this
    rw[w.ib a vs q]
    exact fun z=>nomatch z
   ·rw[nt a fun vs z=>ht ⟨vs,z⟩,q] at h
    exact h
theorem Al{aE H1 ai H':Hp}{a:Addr}(s:ax H1 ai)(h:ai a=none)(o:Own H' a):lE aE H1 ai H' a=none/\H1 a=none:=by
 have h1:=s.free h
 refine⟨?_,h1⟩
 unfold lE
 split
 ·rename_i vs e;exact absurd e o.Ed
 ·rw[h1];exact h
def DI:Md->D->Md
 |.ow true,_=>.ow true
 |_,d=>bif d.flat then .sh else .bo
theorem uN(w:Wf aE H1)(s:ax H1 ai)(w':Wf ai H')(r:RM K ai H' m d v As)(nd:As.Nodup)(own:∀ a∈As,ai a=none) :
  ∃ gu,RM K (lE aE H1 ai H') H' (DI m d) d v gu/\dC (lE aE H1 ai H') H1 gu:=by
 have g:=ji w s w'
 have other:∃ gu,RM K (lE aE H1 ai H') H' (bif d.flat then .sh else .bo) d v gu/\dC (lE aE H1 ai H') H1 gu:=by
  cases hf:d.flat with
  |true=>exact⟨[],⟨rfl,(r.rep w').eZ g.wf.ib hf⟩,dC.nil⟩
  |false=>exact⟨[],⟨rfl,r.rep w'⟩,dC.nil⟩
 cases m with
 |sh=>exact other
 |bo=>exact other
 |ow fl =>
  cases fl with
  |false=>exact other
  |true=>exact⟨As,⟨bG.leaves (fun a vs e=>g.wf.ib a vs (w'.sub _ _ e)) r.1,r.2⟩,nd,fun a h=>Al s (own a h) (r.own a h)⟩
abbrev gy:=List D->(Md->D->Prop)->Prop
def ao(K:PySem.W.Frag)(sp:gy):Sp:=fun vs H Qv _=>∃ ds Qd,aI K H ds vs/\sp ds Qd /\
 ∀ v H' ai m d As,ax H ai->Wf ai H'->RM K ai H' m d v As->As.Nodup->(∀ a∈As,ai a=none)->Qd m d->Qv v H'
def aG(n:Nat)(ds:List D):Env:=ds.map (fun d=>some (.sh d))++List.replicate (n-ds.length) none
theorem SR.start(r:aI K H ds vs):SR K H H (ds.map (fun d=>some (.sh d))++List.replicate n none) (vs.map some++List.replicate n none) []:=by
 induction ds generalizing vs with
 |nil =>
  rw[r.n0]
  induction n with
  |zero=>exact .nil
  |succ n ih=>exact .non ih
 |cons d ds ih =>
  obtain⟨u,us,rfl,r,rs⟩:=r.c
  exact .sh r (ih rs)
theorem zq(h:ao K sp vs H Qv E)(hp:∀ ds Q,sp ds Q->t { nx:=fun _=>Q .sh .non,rt:=Q } (aG N.length ds)) :
  vE K L0 t { nx:=fun _ H'=>Qv .non H',rt:=Qv } (start N vs) H:=by
 obtain⟨ds,Qd,rs,hs,fin⟩:=h
 have hl:=rs.length
 refine⟨H,aG N.length ds,[],{ nx:=fun _=>Qd .sh .non,rt:=Qd },⟨?_,⟨ax.refl _,fun _ _ e=>e⟩,lh,fun a h=>nomatch h⟩,hp ds Qd hs,?_,?_,?_,?_,fun _ _ _ _=>trivial⟩
 ·unfold aG start
  rw[hl]
  exact SR.start rs
 ·exact fun bE H' ai aT bT s sr q=>fin .non H' ai .sh .non [] s sr.wf ⟨rfl,.non⟩ lh (fun a h=>nomatch h) q
 ·exact fun bE H' ai aT bT s sr q=>q.elim
 ·exact fun bE H' ai aT bT s sr q=>q.elim
 ·exact fun v H' ai m d As s w r nd own q=>fin v H' ai m d As s w r nd own q
theorem iP.ok{P:Program}{st:Stmt}{N ps:List Str}(F:fT K x qual st f fd)(S:hG N ps (cf st))(len:∀ ds Q,sp ds Q->ds.length=ps.length)
  (L7:∀ (dk:Value) (A:Around) (outer:List PySem.Env) (s:Shared) (H:Hp) (E:XK),mN k (A.deeper (envOfC qual (cf st) s.heap.objs.size f dk))->xv (EI fF P w K mg base N qual (cf st) f dk A outer s H E).LZ K L0 (fS st) t)
  (hp:∀ ds Q,sp ds Q->t { nx:=fun _=>Q .sh .non,rt:=Q } (aG N.length ds)):fz P w K mg base fF (k+1) f fd ps (ao K sp) :=
 F.ok S (fun vs H Q E ⟨ds,Qd,rs,hs,_⟩=>by rw[<- rs.length];exact len ds Qd hs) fun dk A outer s H vs Q E hr hs=>⟨_,L7 dk A outer s H E hr,zq hs hp⟩
def aK(sp:gy)(t:WA):WE:=fun ρ Q=>t ρ fun ps=>sp (ps.map (·.2)) fun m d=>bX (m,d) (f:=fun p=>Q (DI p.1 p.2) p.2) ⟨⟩
theorem zB{sp:gy}{t:WA}{σ:St}{H:Hp}{Qv:VK}{E:XK}(h:mB K (aK sp t) σ H Qv):TH (ao K sp) [] E (Y5 K t) σ H Qv:=by
 obtain⟨Hs,ρ,ag,Q,sr,h,f⟩:=h
 refine⟨Hs,ρ,ag,_,sr,h,fun vs H1 aE ps As g1 r1 f1 q1=>?_⟩
 refine⟨_,_,by rw[qV];exact r1.reps g1.wf,q1,fun v H' ai m d As s w r nd own q=>?_⟩
 obtain⟨gu,r',fr⟩:=uN g1.wf s w r nd own
 exact Fin.after f g1 v H' _ (DI m d) d gu (ji g1.wf s w) r' fr q
theorem aN {k:Nat} {x:Str} {ps:List Str} {sp:gy} {p:Pos} {es:List Expr} {t:WA} (C:cy X.prog X.w X.K X.mg X.base k x ps (ao K sp)) (hr:mN k X.A) (ha:QA X K (e :: es) t) (hg:Gl X x:=by rfl) (ve:(x == ("__debug__" : Str))=false:=by decide) (he:starEach (e :: es) X.env=(false,eval e X.env) :: starEach es X.env:=by rfl)
  (pV:(backTo pos (starEach es X.env)).any (·.1)=false:=by rfl):QE X K (.Call (.Name x p) (e :: es) [] pos) (aK sp t):=PE.imp (HS C hr ha hg ve he pV) fun σ H Qv h=>zB h
end
abbrev WG:=D->Env->(Env->Prop)->Prop
def Oy(K:PySem.W.Frag)(g:WG):TG:=fun v σ H Qv=>∃ Hs ρ ag d Q,dc K Hs ρ σ H ag/\Rep K Hs d v/\g d ρ Q/\∀ bE aT bT,dc K Hs aT bE H bT->(∀ a∈bT,a∈ag)->Q aT->Qv bE H
abbrev QG(X:Cx)(K:PySem.W.Frag)(e:Expr)(g:WG):Prop:=PG X e (Oy K g)
def gN(i:Nat):WG:=fun d ρ Q=>Q (ρ.set i (some (.sh d)))
abbrev E9:=List D->Env->(Env->Prop)->Prop
def fm'(K:PySem.W.Frag)(g:E9):HL:=fun vs σ H Qv=>∃ Hs ρ ag ds Q,dc K Hs ρ σ H ag/\aI K Hs ds vs/\g ds ρ Q/\∀ bE aT bT,dc K Hs aT bE H bT->(∀ a∈bT,a∈ag)->Q aT->Qv bE H
abbrev RL(X:Cx)(K:PySem.W.Frag)(es:List Expr)(g:E9):Prop:=zt X es (fm' K g)
def jH:E9:=fun ds ρ Q=>ds=[]/\Q ρ
def bu(g:WG)(gs:E9):E9:=fun ds ρ Q=>match ds with
 |d :: ds=>g d ρ fun aT=>gs ds aT Q
 |[]=>False
def gT(n:Nat)(gs:E9):WG:=fun d ρ Q=>match d with
 |.tup ds=>ds.length=n/\gs ds ρ Q
 |_=>False
section
variable {X:Cx}{K:PySem.W.Frag}{e:Expr}{es:List Expr}{g:WG}{gs:E9}{pos:Pos}
theorem PG.imp(h:PG X e t)(i:∀ v σ H Q,t' v σ H Q->t v σ H Q):PG X e t':=fun pins s σ H v u Q I r q=>h pins s σ H v u Q I r (i v σ H Q q)
theorem zt.imp(h:zt X es t)(i:∀ v σ H Q,t' v σ H Q->t v σ H Q):zt X es t':=fun pins s σ H v u Q I r q=>h pins s σ H v u Q I r (i v σ H Q q)
theorem dc.KH(i:Nat)(s:dc K Hs ρ σ H ag)(r:Rep K Hs d v):∃ bT,(∀ a∈bT,a∈ag)/\dc K Hs (ρ.set i (some (.sh d))) (σ.set i (some v)) H bT:=by
 obtain⟨t,a,b⟩:=s.sr.yu r i
 exact⟨t,fun x hx=>a.subset hx,b,s.wf,a.nodup s.lP,fun x hx=>s.own x (a.subset hx)⟩
theorem aA(hN:X.N.Nodup)(hi:X.N[i]? = some x)(hx:Loc X.env.scope x)(hf:X.fn x=true\/X.env.scope.names.lookup x=some .local:=by first|exact .inl rfl|exact .inr rfl|assumption):QG X K (.Name x pos) (gN i) :=
 PG.imp (bJ' hN hi hx hf) fun v σ H Qv cE=>by
  obtain⟨Hs,ρ,ag,d,Q,sr,r,h,k⟩:=cE
  obtain⟨t,m,s⟩:=sr.KH i r
  exact k _ _ t s m h
theorem eO:RL X K [] jH:=zt.imp bM' fun v σ H Qv cE=>by
 obtain⟨Hs,ρ,ag,ds,Q,sr,r,h,k⟩:=cE
 obtain⟨rfl,h⟩:=h
 cases r
 exact⟨rfl,k σ ρ ag sr (fun _ z=>z) h⟩
theorem aH(h1:QG X K e g)(h2:RL X K es gs)(hs:(assignEach (e :: es) X.env).map (·.2)=assign e X.env :: (assignEach es X.env).map (·.2):=by rfl):RL X K (e :: es) (bu g gs) :=
 zt.imp (bN' h1 h2 hs) fun v σ H Qv cE=>by
  obtain⟨Hs,ρ,ag,ds,Q,sr,r,h,k⟩:=cE
  cases r with
  |nil=>exact h.elim
  |cons r rs=>exact⟨_,_,rfl,Hs,ρ,ag,_,_,sr,r,h,fun jv gi dn fP m2 q2=>⟨Hs,gi,dn,_,Q,fP,rs,q2,fun nL IY fn' sr3 m3=>k nL IY fn' sr3 fun a h=>m2 a (m3 a h)⟩⟩
theorem ig(hc:X.calm=true)(h:RL X K es gs)(hn:(assignEach es X.env).length=n:=by rfl)(wx:(assignEach es X.env).findIdx? (·.1)=none:=by rfl):QG X K (.Tuple es k pos) (gT n gs) :=
 PG.imp (bP' hc h hn wx) fun v σ H Qv cE=>by
  obtain⟨Hs,ρ,ag,d,Q,sr,r,h,k⟩:=cE
  cases r with
  |tup z e rs=>exact⟨_,_,rfl,.inl (.inl (sr.wf.sub _ _ e)),by rw[<- rs.length];exact h.1,Hs,ρ,ag,_,Q,sr,rs,h.2,k⟩
  |_=>exact h.elim
end
abbrev WI:=Env->(List D->Prop)->Prop
structure nT(K:PySem.W.Frag)(J:It)(ds:List D)(C:Hp->Hp->Prop):Prop where
 go:∀ i Hs H,C Hs H->Wf Hs H->i<ds.length->J.go i H
 ll:∀ i Hs H x H' d,C Hs H->Wf Hs H->ds[i]? = some d->J.ll i H x H'->∃ ai,eL Hs H ai H'/\Rep K ai d x
 stop:∀ Hs H,C Hs H->Wf Hs H->J.stop ds.length H
abbrev yZ(K:PySem.W.Frag)(Hs:Hp)(J:It)(ds:List D):Prop:=nT K J ds fun G _=>ax Hs G
section
variable {K:PySem.W.Frag}{Hs:Hp}{J:It}{ds:List D}{C C':Hp->Hp->Prop}{a:Addr}
theorem nT.imp(S:nT K J ds C)(h:∀ Hs H,C' Hs H->C Hs H):nT K J ds C':=⟨fun i Hs H c=>S.go i Hs H (h _ _ c),fun i Hs H x H' d c=>S.ll i Hs H x H' d (h _ _ c),fun Hs H c=>S.stop Hs H (h _ _ c)⟩
theorem nT.seq(rs:aI K Hs ds vs)(S:jZ J vs fun H=>ax Hs H):yZ K Hs J ds where
 go:=fun i G H s w h=>S.go i H (s.trans w.sub) (by rw[<- rs.length];exact h)
 ll:=fun i G H x H' d s w h y=>by
  have hi:i<ds.length:=by
   rcases zk i ds.length with q|q
   ·exact q
   ·rw[tP q] at h;cases h
  obtain⟨e,z⟩:=S.ll i H x H' (s.trans w.sub) (by rw[<- rs.length];exact hi) y
  subst e
  obtain⟨d',ed,rd⟩:=rs.Y0 z
  rw[h] at ed;cases ed
  exact⟨G,eL.refl w,rd.same s⟩
 stop:=fun G H s w=>by rw[rs.length];exact S.stop H (s.trans w.sub)
abbrev Em(K:PySem.W.Frag)(a:Addr)(ds:List D)(C:Hp->Hp->Prop):Prop:=∀ Hs H,C Hs H->Wf Hs H->∃ vs,eR K H a vs/\aI K Hs ds vs
theorem nT.list(h:Em K a ds C):nT K (QX K a) ds C where
 go:=fun i G H c w hi=>by
  obtain⟨vs,q,rs⟩:=h G H c w
  exact⟨vs,vs[i]'(by rw[<- rs.length];exact hi),q,by simp⟩
 ll:=fun i G H x H' d c w hd y=>by
  obtain⟨vs,q,rs⟩:=h G H c w
  obtain⟨rfl,y⟩:=y
  obtain⟨d',ed,rd⟩:=rs.Y0 (y vs q)
  rw[hd] at ed;cases ed
  exact⟨G,eL.refl w,rd⟩
 stop:=fun G H c w=>by
  obtain⟨vs,q,rs⟩:=h G H c w
  exact⟨vs,q,by rw[rs.length];exact ck _⟩
theorem yI(s:eR K Hs a vs)(rs:aI K Hs ds vs):Em K a ds fun G _=>ax Hs G:=fun G H c w=>⟨vs,ax.seq (c.trans w.sub) s,rs.same c⟩
end
def tpI(K:PySem.W.Frag)(wi:WI):TI:=fun σ H R=>∃ Hs ρ ag Q,dc K Hs ρ σ H ag/\wi ρ Q/\∀ J H' ai ds,eL Hs H ai H'->yZ K ai J ds->ds.length<=sizeLine->Q ds->R J H'
abbrev QI(X:Cx)(K:PySem.W.Frag)(tg iter:Expr)(wi:WI):Prop:=PI X tg iter (tpI K wi)
def oh:Md->Prop
 |.bo=>False
 |_=>True
def d_(te:WE):WI:=fun ρ Q=>te ρ fun m d=>oh m/\match d with
 |.list xs=>Q xs
 |_=>False
def De(te:WE):WI:=fun ρ Q=>te ρ fun m d=>oh m/\match d with
 |.tup xs=>Q xs
 |_=>False
def UE(z:Str):List D:=z.cps.toList.map fun c=>.str ⟨#[c]⟩
def Ce(te:WE):WI:=fun ρ Q=>te ρ fun _ d=>match d with
 |.str z=>Q (UE z)
 |_=>False
def lH(lo:Int)(n:Nat):List D:=(List.range n).map fun i=>.int (lo+(i:Nat))
def il(te:WE):WI:=fun ρ Q=>te ρ fun _ d=>match d with
 |.int j=>j<=16777216/\-(2 ^ 62)<=j/\Q (lH 0 j.toNat)
 |_=>False
section
variable {X:Cx}{K:PySem.W.Frag}{e e2 tg:Expr}{te UG:WE}{pos p:Pos}
theorem PI.imp(h:PI X tg iter t)(i:∀ σ H R,t' σ H R->t σ H R):PI X tg iter t':=fun pins s σ H R I q=>h pins s σ H R I (i σ H R q)
theorem jZ.imp{J:It}(s:jZ J vs c)(h:∀ H,c' H->c H):jZ J vs c':=⟨fun i H q=>s.go i H (h H q),fun i H x H' q=>s.ll i H x H' (h H q),fun H q=>s.stop H (h H q)⟩
theorem RM.yq(g:eL Hs H aE H1)(r:RM K aE H1 m d v As)(f:dC aE H As)(h:oh m):∃ ay,eL Hs H ay H1/\Rep K ay d v:=by
 cases m with
 |sh=>exact⟨aE,g,r.2⟩
 |bo=>exact h.elim
 |ow fl =>
  have n:∀ a∈As,aE a=none:=fun a ha=>(f.2 a ha).1
  have o:=r.own
  refine⟨tf aE H1 As,⟨g.all,g.sh.trans (jg n),zV g.wf o,fun a h=>?_⟩,bG.rep (jg n) r.1 fun a ha=>by unfold tf;rw[if_pos ha]⟩
  unfold tf at h
  by_cases m:a∈As
  ·exact .inr (f.2 a m).2
  ·rw[if_neg m] at h;exact g.new a h
theorem dU(he:QE X K e te)(hK:X.K=K:=by rfl):QI X K tg e (d_ te):=by
 subst hK
 refine PI.imp (XD he) fun σ H R hx=>kN hx fun Hs ρ ag Q sr h k=>⟨Hs,ρ,ag,_,sr,h,fun v H1 aE m d As g1 r1 f1 q1=>?_⟩
 obtain⟨nb,q1⟩:=q1
 obtain⟨ay,g2,r2⟩:=r1.yq g1 f1 nb
 cases r2 with
 |list z s rs=>exact⟨_,rfl,⟨_,ax.seq g2.wf.sub s⟩,k _ H1 ay _ g2 (.seq rs (jZ.imp (Cm X.K _ _) fun H' s'=>ax.seq s' s)) (by rw[rs.length];exact z) q1⟩
 |_=>exact q1.elim
theorem Ij(he:QE X K e te)(hK:X.K=K:=by rfl):QI X K tg e (De te):=by
 subst hK
 refine PI.imp (bX' he) fun σ H R hx=>kN hx fun Hs ρ ag Q sr h k=>⟨Hs,ρ,ag,_,sr,h,fun v H1 aE m d As g1 r1 f1 q1=>?_⟩
 obtain⟨nb,q1⟩:=q1
 obtain⟨ay,g2,r2⟩:=r1.yq g1 f1 nb
 cases r2 with
 |tup z s rs=>exact⟨_,rfl,⟨_,.inl (.inl (g2.wf.sub _ _ s))⟩,k _ H1 ay _ g2 (.seq rs (jZ.imp (E_ X.K _ _) fun H' s'=>.inl (.inl (s' _ _ s)))) (by rw[rs.length];exact z) q1⟩
 |_=>exact q1.elim
theorem vH:∀ (l:List Nat),aI K H (l.map fun c=>.str ⟨#[c]⟩) (l.map fun c=>V.str ⟨#[c]⟩)
 |[]=>.nil
 |c :: l=>.cons (.str (yJ c)) (vH l)
theorem Ie(he:QE X K e te):QI X K tg e (Ce te):=by
 refine PI.imp (JL he) fun σ H R hx=>kN hx fun Hs ρ ag Q sr h k=>⟨Hs,ρ,ag,_,sr,h,fun v H1 aE m d As g1 r1 f1 q1=>?_⟩
 have r:=r1.rep g1.wf
 cases r with
 |str hz=>exact⟨_,rfl,k _ H1 aE _ g1 (.seq (vH _) (jZ.imp (Eu _) fun _ _=>trivial)) (by rw[bS,tT];exact hz) q1⟩
 |_=>exact q1.elim
theorem tQ(lo:Int):∀ (l:List Nat),aI K H (l.map fun i=>.int (lo+(i:Nat))) (l.map fun i=>V.int (lo+(i:Nat)))
 |[]=>.nil
 |c :: l=>.cons (.int _) (tQ lo l)
theorem iI (hm:X.mg "range" = none) (he:QE X K e te) (hg:Gl X "range" := by rfl) (hs:starEach [e] X.env=(false,eval e X.env) :: starEach [] X.env:=by rfl) (fA:starEach [e] X.env=[(false,eval e X.env)]:=by rfl):QI X K tg (.Call (.Name "range" p) [e] [] pos) (il te):=by
 refine PI.imp (ca' hg hm (q0 he uS hs) fA) fun σ H R hx=>kN hx fun Hs ρ ag Q sr h k=>⟨Hs,ρ,ag,_,sr,h,fun v H1 aE m d As g1 r1 f1 q1=>?_⟩
 have r:=r1.rep g1.wf
 cases r with
 |int j =>
  obtain⟨h1,h2,q1⟩:=q1
  exact⟨j,rfl,h2,by lia,k _ H1 aE _ g1 (.seq (tQ 0 _) (jZ.imp (G3 _ _) fun _ _=>trivial)) (by rw[bS,S2,sizeLine_eq];lia) q1⟩
 |_=>exact q1.elim
section
variable {X:Cx}{K:PySem.W.Frag}{e tg:Expr}{te:WE}
def Zc(K:PySem.W.Frag)(wi:WI):TI:=fun σ H R=>∃ Hs ρ ag Q,dc K Hs ρ σ H ag/\wi ρ Q/\∀ J H' ai ds,eL Hs H ai H'->yZ K H' J ds->ds.length<=sizeLine->Q ds->R J H'
abbrev RN(X:Cx)(K:PySem.W.Frag)(tg iter:Expr)(wi:WI):Prop:=PI X tg iter (Zc K wi)
theorem wF(h:QI X K tg iter wi):RN X K tg iter wi:=PI.imp h fun σ H R hx=>kN hx fun Hs ρ ag Q sr h k=>⟨Hs,ρ,ag,Q,sr,h,fun J H' ai ds g w z q=>k J H' ai ds g (w.imp fun G H s=>g.wf.sub.trans s) z q⟩
def iy(te:WE):WI:=fun ρ Q=>te ρ fun _ d=>match d with
 |.list xs=>Q xs
 |_=>False
theorem iQ(he:QE X K e te)(hK:X.K=K:=by rfl):RN X K tg e (iy te):=by
 subst hK
 refine PI.imp (XD he) fun σ H R hx=>kN hx fun Hs ρ ag Q sr h k=>⟨Hs,ρ,ag,_,sr,h,fun v H1 aE m d As g1 r1 f1 q1=>?_⟩
 have r:=r1.rep g1.wf
 cases r with
 |list z s rs=>exact⟨_,rfl,⟨_,s⟩,k _ H1 aE _ g1 (.list (yI s rs)) (by rw[rs.length];exact z) q1⟩
 |_=>exact q1.elim
end
def jy(g:WG)(b:WS)(E:qM):List D->Env->Prop
 |[],ρ=>E.nx ρ
 |x :: xs,ρ=>g x ρ fun n9=>b { E with nx:=jy g b E xs,ct:=jy g b E xs,bk:=E.nx } n9
def oa(wi:WI)(g:WG)(b:WS):WS:=fun E ρ=>wi ρ fun ds=>jy g b E ds ρ
variable {wi:WI}{g:WG}{b:WS}{body:List Stmt}
theorem dD(hp:PassesOwn (model X.prog X.w) X.A X.env X.xe)(hc:X.calm=true)(hi:QI X K tg iter wi)(hg:QG X K tg g)(hb:xv X K L body b)(hs:∀ x,foldedSetIterable iter X.env x=pure x:=by intro _;rfl) :
  QS X K L (.For tg iter body [] pos) (oa wi g b):=by
 refine PS.imp (XH hp hc hi hg hb hs) fun D σ H hx=>mL hx fun Hs ρ ag E sr h k1 k2 k3 k4 kx=>?_
 rw[zM]
 refine⟨Hs,ρ,ag,_,sr,h,fun J H1 aE ds g1 S hz q1=>?_⟩
 refine⟨fun i m σ H=>m=ds.length-i/\i<=ds.length/\∃ ai aT bT,ax aE ai/\dc K ai aT σ H bT/\jy g b E (ds.drop i) aT,⟨ds.length,by simp,fE _,aE,ρ,ag,ax.refl _,sr.grow g1,by simpa using q1⟩,?_⟩
 rintro i m jv H2 ⟨rfl,hi,ay,gi,dn,s2,fP,q2⟩
 by_cases dQ:i<ds.length
 ·refine .inr ⟨S.go i ay H2 s2 fP.wf dQ,fun nL H3=>∃ ai aT bT,ax aE ai/\dc K ai aT nL H3 bT/\jy g b E (ds.drop (i+1)) aT,fun nL H3 h3=>⟨ds.length-(i+1),by lia,rfl,dQ,h3⟩,fun x H3 y=>?_⟩
  obtain⟨eI,g3,rd⟩:=S.ll i ay H2 x H3 ds[i] s2 fP.wf (by simp[dQ]) y
  rw[AF dQ] at q2
  have s3:=s2.trans g3.sh
  refine⟨eI,gi,dn,ds[i],_,fP.grow g3,rd,q2,fun σ4 sA OB IZ _ q4=>?_⟩
  refine⟨eI,sA,OB,_,IZ,q4,?_,?_,?_,?_,fun n H5 s5=>kx n H5 ((g1.sh.trans s3).trans s5)⟩
  ·exact fun yy H5 ku oP oQ s5 oS q5=>⟨ku,oP,oQ,s3.trans s5,oS,q5⟩
  ·exact fun yy H5 ku oP oQ s5 oS q5=>k1 yy H5 ku oP oQ ((g1.sh.trans s3).trans s5) oS q5
  ·exact fun yy H5 ku oP oQ s5 oS q5=>⟨ku,oP,oQ,s3.trans s5,oS,q5⟩
  ·exact fun v H5 ku m d As s5=>k4 v H5 ku m d As ((g1.sh.trans s3).trans s5)
 ·have e:i=ds.length:=by lia
  subst e
  refine .inl ⟨S.stop ay H2 s2 fP.wf,?_⟩
  rw[Qt] at q2
  exact k1 jv H2 ay gi dn (g1.sh.trans s2) fP q2
theorem bO(xs:List D)(Pv:Nat->Env->Prop)(h0:Pv 0 ρ)
  (hs:∀ i x ρ,xs[i]? = some x->Pv i ρ->∀ N:Env->Prop,(∀ aT,Pv (i+1) aT->N aT)->g x ρ fun n9=>b { E with nx:=N,ct:=N,bk:=E.nx } n9)
  (hd:∀ ρ,Pv xs.length ρ->E.nx ρ):jy g b E xs ρ:=by
 have go:∀ (k i:Nat) (ρ:Env),i+k=xs.length->Pv i ρ->jy g b E (xs.drop i) ρ:=by
  intro k
  induction k with
  |zero =>
   intro i ρ e p
   have:i=xs.length:=by lia
   subst this
   rw[Qt]
   exact hd ρ p
  |succ k ih =>
   intro i ρ e p
   have hi:i<xs.length:=by lia
   rw[AF hi]
   exact hs i xs[i] ρ (by simp[hi]) p _ fun gi h2=>ih (i+1) gi (by lia) h2
 have:=go xs.length 0 ρ (by lia) h0
 simpa using this
def zK(c:WT)(b:WS):WS:=fun E ρ=>∃ (Pv:Env->Prop) (μ:Env->Nat),Pv ρ/\∀ ρ,Pv ρ->c ρ fun k=>if k=true then b { E with nx:=fun aT=>Pv aT/\μ aT<μ ρ,ct:=fun aT=>Pv aT/\μ aT<μ ρ,bk:=E.nx } ρ else E.nx ρ
theorem wR(hp:PassesOwn (model X.prog X.w) X.A X.env X.xe)(hc:QT X K c tc)(hb:xv X K L body b):QS X K L (.While c body [] pos) (zK tc b):=by
 refine PS.imp (bR' hp hc hb) fun D σ H hx=>mL hx fun Hs ρ ag E sr h k1 k2 k3 k4 kx=>?_
 obtain⟨Pv,μ,p0,turn⟩:=h
 refine⟨fun m σ H=>∃ ai aT bT,ax Hs ai/\dc K ai aT σ H bT/\Pv aT/\μ aT=m,⟨_,Hs,ρ,ag,ax.refl _,sr,p0,rfl⟩,?_⟩
 rintro m jv H2 ⟨ay,gi,dn,s2,fP,p2,rfl⟩
 refine⟨ay,gi,dn,_,fP,turn gi p2,fun k H3 eI g3 q3=>?_⟩
 cases k with
 |false=>exact k1 jv H3 eI gi dn (s2.trans g3.sh) (fP.grow g3) q3
 |true =>
  refine⟨fun bE H'=>∃ ai aT bT,ax Hs ai/\dc K ai aT bE H' bT/\Pv aT/\μ aT<μ gi,fun bE H' ⟨ai,aT,bT,a,b,c,d⟩=>⟨μ aT,d,ai,aT,bT,a,b,c,rfl⟩,?_⟩
  have s3:ax Hs eI:=s2.trans g3.sh
  refine⟨eI,gi,dn,_,fP.grow g3,q3,?_,?_,?_,?_,fun n H5 s5=>kx n H5 (s3.trans s5)⟩
  ·exact fun yy H5 ku oP oQ s5 oS q5=>⟨ku,oP,oQ,s3.trans s5,oS,q5.1,q5.2⟩
  ·exact fun yy H5 ku oP oQ s5 oS q5=>k1 yy H5 ku oP oQ (s3.trans s5) oS q5
  ·exact fun yy H5 ku oP oQ s5 oS q5=>⟨ku,oP,oQ,s3.trans s5,oS,q5.1,q5.2⟩
  ·exact fun v H5 ku m d As s5=>k4 v H5 ku m d As (s3.trans s5)
end
def xA:WT:=fun _ Q=>Q true
def RP(m:Md)(d:D):Prop:=d.flat=true\/m=.ow true
def iB(g:WG)(tc:WT)(te:WE):List D->Env->(List D->Prop)->Prop
 |[],_,k=>k []
 |x :: xs,ρ,k=>g x ρ fun n9=>tc n9 fun b=>if b=true then te n9 fun m d=>RP m d/\iB g tc te xs n9 (fun out=>k (d :: out)) else iB g tc te xs n9 k
def Gx(tn:Nat)(ix:List Nat)(ρ:Env):Env:=List.replicate tn none++ix.map fun j=>(ρ[j]?).join.map N4
def iC(wi:WI)(g:WG)(tc:WT)(te:WE)(tn:Nat)(ix:List Nat):WE:=fun ρ Q=>wi ρ fun ds=>iB g tc te ds (Gx tn ix ρ) fun out=>Q (.ow true) (.list out)
section
variable {X:Cx}{K:PySem.W.Frag}
theorem pI{Hs H G:Hp}(sr:dc K Hs ρ σ H ag)(G':Hp):∀ (ix:List Nat),SR K H G' (ix.map fun j=>(ρ[j]?).join.map N4) (ix.map fun j=>(σ[j]?).join) []
 |[]=>.nil
 |j :: ix=>by
  have ih:=pI sr G' ix (G:=G)
  simp only[fe]
  cases e:ρ[j]? with
  |none=>exact .non ih
  |some o =>
   cases o with
   |none=>exact .non ih
   |some sl =>
    obtain⟨v,e1,r⟩:=sr.sr.get e
    rw[e1]
    cases sl with
    |sh d=>exact .sh (Rep.same sr.wf.sub r) ih
    |xc a=>subst r;exact .xc ih
    |ow fl d =>
     obtain⟨As,_,r,_⟩:=r
     exact .sh (r.rep sr.wf.sub fun _ _=>rfl) ih
    |lk a fl d =>
     obtain⟨As,_,r,_⟩:=r
     exact .sh (r.rep sr.wf.sub fun _ _=>rfl) ih
theorem rY(s:SR K H G ρ σ []):∀ (n:Nat),SR K H G (List.replicate n none++ρ) (List.replicate n none++σ) []
 |0=>s
 |n+1=>.non (rY s n)
theorem SR.heap(s:SR K Hs H ρ σ []):SR K Hs H' ρ σ []:=s.fq (ax.refl _) fun a h=>nomatch h
theorem tR(w:Wf Hs H)(n:Hs p=none)(ho:∀ vs,o≠.tup vs):Wf Hs (upd H p o):=⟨fun b u q=>by
  rw[cv (fun z=>by subst z;rw[n] at q;cases q)];exact w.sub b u q,fun b us q=>by
  by_cases hb:b=p
  ·subst hb;rw[fi] at q;exact absurd (Option.some.inj q) (ho us)
  ·rw[cv hb] at q;exact w.ib b us q⟩
structure CompI(K:PySem.W.Frag)(H1:Hp)(b:Addr)(acc:List D)(ys:List V)(As:List Addr)(Hs:Hp)(ρ:Env)(τ:St)(H:Hp):Prop where
 sm:ax H1 Hs
 sr:dc K Hs ρ τ H []
 eD:H b=some (.lst ys)
 nD:Hs b=none
 ra:az K Hs H true acc ys As
 nd:(b :: As).Nodup
 own:∀ a∈As,Hs a=none
theorem CompI.grow(c:CompI K H1 b acc ys As Hs ρ τ H)(g:eL Hs H ai H'):CompI K H1 b acc ys As ai ρ τ H' :=
 ⟨c.sm.trans g.sh,c.sr.grow g,g.all _ _ c.eD,g.mS c.nD (by rw[c.eD];exact fun z=>nomatch z),c.ra.grow g.sh g.all,c.nd,fun a ha=>g.mS (c.own a ha) (c.ra.own a ha).ne⟩
theorem CompI.push(c:CompI K H1 b acc ys As Hs ρ τ H)(r:RM K Hs H m d v Bs)(ok:RP m d)(nb:Bs.Nodup)(fb:∀ a∈Bs,Hs a=none/\a∉b :: As):∃ gu,CompI K H1 b (acc++[d]) (ys++[v]) gu Hs ρ τ (upd H b (.lst (ys++[v]))):=by
 obtain⟨B,sb,rb⟩:∃ B,B.Sublist Bs/\bG K Hs H true d v B:=by
  rcases ok with hf|rfl
  ·exact⟨[],B5 _,.sh (fun _=>hf) (r.flat c.sr.wf hf)⟩
  ·exact⟨Bs,List.Sublist.refl _,r.1⟩
 obtain⟨na,nA⟩:=js.mp c.nd
 have RQ:=fun a ha=>fb a (sb.subset ha)
 refine⟨As++(B++[]),c.sm,⟨c.sr.sr.heap,tR c.sr.wf c.nD (fun _ z=>nomatch z),lh,fun a h=>nomatch h⟩,fi,c.nD,(c.ra.fq (H':=upd H b (.lst (ys++[v]))) (ax.refl _) fun a ha=>cv fun z=>na (by subst z;exact ha)).append (.cons (rb.fq (ax.refl _) fun a ha=>cv fun z=>(RQ a ha).2 (by subst z;exact b5)) .nil),?_,?_⟩
 ·rw[qV]
  refine js.mpr ⟨fun m=>(dy.mp m).elim na fun m=>(RQ b m).2 b5,g9.mpr ⟨nA,sb.nodup nb,fun x hx y hy e=>(RQ y hy).2 (e ▸ b9 _ hx)⟩⟩
 ·rw[qV]
  exact fun a ha=>(dy.mp ha).elim (c.own a) fun m=>(RQ a m).1
theorem rP(h:mB K (iC wi g tc te tn ix) σ H Qv):Aw (Zc K wi) (Oy K g) (A5 K tc) (mB K te) tn ix σ H Qv:=by
 obtain⟨Hs,ρ,ag,Q,sr,h,f⟩:=h
 rw[Cd]
 refine⟨Hs,ρ,ag,_,sr,h,fun J H1 aE ds g1 S hz q1 b hb=>?_⟩
 have st:CompI K H1 b [] [] [] H1 (Gx tn ix ρ) (qj tn ix σ) (upd H1 b (.lst [])):=by
  refine⟨ax.refl _,⟨rY (pI (G:=H1) (sr.grow g1) _ ix) tn,⟨(ax.refl H1).upd hb,fun a xs e=>?_⟩,lh,fun a h=>nomatch h⟩,fi,hb,.nil,by simp,fun a h=>nomatch h⟩
  by_cases ha:a=b
  ·subst ha;rw[fi] at e;cases e
  ·rw[cv ha] at e;exact e
 refine⟨fun i m τ H2=>m=ds.length-i/\i<=ds.length/\∃ ay gi acc ys As,CompI K H1 b acc ys As ay gi τ H2/\acc.length<=i/\iB g tc te (ds.drop i) gi (fun out=>Q (.ow true) (.list (acc++out))),
  ⟨ds.length,by simp,fE _,H1,_,[],[],[],st,ck _,by simpa using q1⟩,?_⟩
 rintro i m τ H2 ⟨rfl,hi,ay,gi,acc,ys,As,c,la,q2⟩
 by_cases dQ:i<ds.length
 ·refine .inr ⟨S.go i ay H2 c.sm c.sr.wf dQ,
   fun I0 v H4=>∃ IH sA d,CompI K H1 b acc ys As IH sA I0 H4/\(∃ gu,CompI K H1 b (acc++[d]) (ys++[v]) gu IH sA I0 (upd H4 b (.lst (ys++[v]))))/\iB g tc te (ds.drop (i+1)) sA (fun out=>Q (.ow true) (.list (acc++d :: out))),
   fun I0 H3=>∃ eI IY,CompI K H1 b acc ys As eI IY I0 H3/\iB g tc te (ds.drop (i+1)) IY (fun out=>Q (.ow true) (.list (acc++out))),?_,?_,?_⟩
  ·rintro I0 v H4 ⟨IH,sA,d,c4,⟨gu,c5⟩,q4⟩
   have lya:=c4.ra.length
   exact⟨ys,ds.length-(i+1),c4.eD,by lia,by lia,rfl,dQ,IH,sA,acc++[d],ys++[v],gu,c5,by rw[kF];simpa using la,by simpa using q4⟩
  ·rintro I0 H3 ⟨eI,IY,c3,q3⟩
   exact⟨ds.length-(i+1),by lia,rfl,dQ,eI,IY,acc,ys,As,c3,by lia,q3⟩
  ·intro x H3 y
   obtain⟨eI,g3,rd⟩:=S.ll i ay H2 x H3 ds[i] c.sm c.sr.wf (by simp[dQ]) y
   rw[AF dQ] at q2
   have c3:=c.grow g3
   refine⟨eI,gi,[],ds[i],_,c3.sr,rd,q2,fun τ4 sA OB IZ m4 q4=>?_⟩
   have t4:OB=[]:=List.eq_nil_iff_forall_not_mem.mpr fun a ha=>nomatch m4 a ha
   subst t4
   have c4:CompI K H1 b acc ys As eI sA τ4 H3:=⟨c3.sm,IZ,c3.eD,c3.nD,c3.ra,c3.nd,c3.own⟩
   refine⟨eI,sA,[],_,IZ,q4,fun k H5 ku g5 q5=>?_⟩
   have c5:=c4.grow g5
   cases k with
   |false=>exact⟨ku,sA,c5,q5⟩
   |true =>
    refine⟨ku,sA,[],_,c5.sr,q5,fun v H6 Hs6 m6 d6 As6 g6 r6 f6 q6=>?_⟩
    have c6:=c5.grow g6
    refine⟨Hs6,sA,d6,c6,c6.push r6 q6.1 f6.1 fun a ha=>⟨(f6.2 a ha).1,fun m=>?_⟩,q6.2⟩
    rcases dr.mp m with rfl|m
    ·have:=(f6.2 _ ha).2
     rw[c5.eD] at this;cases this
    ·exact(c5.ra.own a m).ne (f6.2 a ha).2
 ·have e:i=ds.length:=by lia
  subst e
  refine .inl ⟨S.stop ay H2 c.sm c.sr.wf,?_⟩
  rw[Qt] at q2
  have q2:Q (.ow true) (.list (acc++[])):=q2
  rw[qV] at q2
  have lya:=c.ra.length
  have rm:RM K ay H2 (.ow true) (.list acc) (.ref b) (b :: As):=⟨.list (by lia) c.eD c.ra,by simp⟩
  obtain⟨gu,r',fr⟩:=uN g1.wf c.sm c.sr.wf rm c.nd fun a ha=>(dr.mp ha).elim (fun z=>z ▸ c.nD) (c.own a)
  exact Fin.after f g1 (.ref b) H2 _ (.ow true) (.list acc) gu (ji g1.wf c.sm c.sr.wf) r' fr q2
theorem zI.imp(h:zI X ifs t)(i:∀ σ H Q,t' σ H Q->t σ H Q):zI X ifs t':=fun pins s σ H Q I q=>h pins s σ H Q I (i σ H Q q)
abbrev RT(X:Cx)(K:PySem.W.Frag)(ifs:List Expr)(t:WT):Prop:=zI X ifs (A5 K t)
theorem fV:RT X K [] xA:=zI.imp GX fun σ H Qv hx=>kN hx fun Hs ρ ag Q sr h k=>k true H Hs (eL.refl sr.wf) h
theorem yP(h:QT X K c t):RT X K [c] t:=Fl h
theorem mQ(hc:X.calm=true)(hi:RN X K tg iter wi)(O:cL X scope tn cn ix)
  (hg:∀ C fp gS iq,QG (bf X scope C (tn++cn) fp gS iq) K tg g) (xa:∀ C fp gS iq,RT (bf X scope C (tn++cn) fp gS iq) K ifs tc) (he:∀ C fp gS iq,QE (bf X scope C (tn++cn) fp gS iq) K elt te)
  (hs:∀ x,foldedSetIterable iter X.env x=pure x:=by intro _;rfl):QE X K (.ListComp elt [⟨tg,iter,ifs,0⟩] scope pos) (iC wi g tc te tn.length ix) :=
 PE.imp (EY hc hi O hg xa he hs) fun σ H Qv h=>rP h
end
theorem cN(p:D->Bool)(f:D->D)(Iv:Env->Prop):∀ (xs:List D) (ρ:Env) (k:List D->Prop),Iv ρ ->
  (∀ x∈xs,∀ ρ,Iv ρ->∀ N1:Env->Prop,∀ N2:Env->D->Prop,(∀ aT,Iv aT->p x=false->N1 aT)->(∀ aT,Iv aT->p x=true->N2 aT (f x))->g x ρ fun n9=>tc n9 fun b=>if b=true then te n9 fun m d=>RP m d/\N2 n9 d else N1 n9) ->
  k ((xs.filter p).map f)->iB g tc te xs ρ k
 |[],_,k,_,_,h=>h
 |x :: xs,ρ,k,iv,hs,h=>by
  refine hs x b5 ρ iv _ _ (fun aT OG hp=>?_) (fun aT OG hp=>?_)
  ·exact cN p f Iv xs aT k OG (fun y hy=>hs y (b9 _ hy)) (by simpa[hp] using h)
  ·exact cN p f Iv xs aT _ OG (fun y hy=>hs y (b9 _ hy)) (by simpa[hp] using h)
def Upd(K:PySem.W.Frag)(Hs H:Hp)(σ:St)(fl:Bool)(v:V)(up:Bool->D->Env)(gu:List Addr):Prop:=∀ ay H2 fl2 d2 fR,ax Hs ay->Wf ay H2->(∀ a,Hs a=none->H a≠none->ay a=none)->(fl2=true->fl=true) ->
  bG K ay H2 fl2 d2 v fR->fR≠[]->fR.Nodup->(∀ a∈fR,ay a=none/\(a∈gu\/H a=none))->(∀ a,H a≠none->a∉gu->H2 a=H a)->∃ dn,dc K ay (up fl2 d2) σ H2 dn
structure Place(K:PySem.W.Frag)(Hs H:Hp)(σ:St)(fl:Bool)(d:D)(v:V)(up:Bool->D->Env):Prop where
 ex:∃ gu,bG K Hs H fl d v gu/\gu≠[]/\gu.Nodup/\(∀ a∈gu,Hs a=none)/\Upd K Hs H σ fl v up gu
theorem Upd.node{K:PySem.W.Frag}(k:Upd K Hs H σ fl (.ref a) up (a :: A))(g:eL Hs H ay H2)(own:∀ x∈a :: A,Hs x=none/\H x≠none)(ho:∀ vs,o≠.tup vs)(hf:fl2=true->fl=true)
  (r:bG K ay (upd H2 a o) fl2 d2 (.ref a) (a :: C)) (nC:C.Nodup) (RV:a∉C) (hC:∀ x∈C,x∈A\/(ay x=none/\H x=none)):∃ dn,dc K ay (up fl2 d2) σ (upd H2 a o) dn:=by
 have hn:∀ x∈a :: A,ay x=none:=fun x hx=>g.mS (own x hx).1 (own x hx).2
 refine k ay _ fl2 d2 (a :: C) g.sh (tR g.wf (hn a b5) ho) (fun b h1 h2=>g.mS h1 h2) hf r (LB _ _) (js.mpr ⟨RV,nC⟩) (fun b hb=>?_) fun b h1 h2=>?_
 ·rcases dr.mp hb with rfl|hb
  ·exact⟨hn _ b5,.inl b5⟩
  ·exact(hC b hb).elim (fun q=>⟨hn b (b9 _ q),.inl (b9 _ q)⟩) fun q=>⟨q.1,.inr q.2⟩
 ·rw[cv fun z=>h2 (by subst z;exact b5)]
  cases q:H b with
  |none=>exact absurd q h1
  |some o=>exact g.all b o q
abbrev WP:=Env->(Bool->D->(Bool->D->Env)->Prop)->Prop
def tpP(K:PySem.W.Frag)(t:WP):TE:=fun σ H Qv=>∃ Hs ρ ag Q,dc K Hs ρ σ H ag/\t ρ Q/\∀ v H' ai fl d up,eL Hs H ai H'->Place K ai H' σ fl d v up->Q fl d up->Qv v H'
abbrev QP(X:Cx)(K:PySem.W.Frag)(e:Expr)(t:WP):Prop:=PE X e (tpP K t)
section
variable {K:PySem.W.Frag}{Hs H ai H':Hp}{σ:St}{fl:Bool}{d:D}{v:V}{up:Bool->D->Env}
theorem Place.grow(p:Place K Hs H σ fl d v up)(g:eL Hs H ai H'):Place K ai H' σ fl d v up:=by
 obtain⟨gu,r,ne,nd,own,k⟩:=p.ex
 refine⟨gu,r.grow g.sh g.all,ne,nd,fun a h=>g.mS (own a h) (r.own a h).ne,fun ay H2 fl2 d2 fR s2 w2 n2 hf r2 ne2 kE o2 st=>?_⟩
 refine k ay H2 fl2 d2 fR (g.sh.trans s2) w2 (fun a h1 h2=>n2 a (g.mS h1 h2) ?_) hf r2 ne2 kE (fun a h=>⟨(o2 a h).1,(o2 a h).2.imp id g.all.free⟩) fun a h1 h2=>?_
 ·cases e:H a with
  |none=>exact absurd e h2
  |some o=>rw[g.all a o e];exact fun z=>nomatch z
 ·cases e:H a with
  |none=>exact absurd e h1
  |some o =>
   have:=g.all a o e
   rw[<- this]
   exact st a (by rw[this];exact fun z=>nomatch z) h2
theorem bG.ne2:(∀ {d:D} {v:V} {As:List Addr},bG K Hs H true d v As->d.flat=false->As≠[])/\∀ {ds:List D} {vs:List V} {As:List Addr},az K Hs H true ds vs As->cp ds=false->As≠[] :=
 bG.ind (m1:=fun d _ As=>d.flat=false->As≠[]) (m2:=fun ds _ As=>cp ds=false->As≠[]) (fun _ _ f _ h=>by rw[f rfl] at h;cases h) (fun _ _ _ _ _ _ _ _ _=>LB _ _) (fun _ _ _ _ _ _ n _ ih _=>ih n) (fun _ _ _ _ _ _ _ _ _=>LB _ _) (fun _ _ _ _ _ _ _ _ _=>LB _ _)
  (fun h=>by simp[cp] at h) fun d _ _ _ _ _ _ _ i1 i2 h=>by
   cases e:d.flat with
   |false=>exact fun z=>i1 e (KW.mp z).1
   |true =>
    simp only[cp,e,Bool.true_and] at h
    exact fun z=>i2 h (KW.mp z).2
theorem bG.ne(r:bG K Hs H true d v As)(h:d.flat=false):As≠[]:=bG.ne2.1 r h
theorem bG.nil_of(r:bG K Hs H fl d v As)(h:d.flat=true):As=[]:=by
 cases r with
 |sh _ _=>rfl
 |tup _ _ n _=>simp[D.flat,n] at h
 |_=>simp[D.flat] at h
def xB(i:Nat):WP:=fun ρ Q=>match ρ[i]? with
 |some (some (.ow fl d))=>Q fl d fun fl2 d2=>ρ.set i (some (.ow fl2 d2))
 |_=>False
theorem SR.put(i:Nat)(s:SR K Hs H ρ σ ag):ρ[i]? = some (some (.ow fl d))->ag.Nodup ->
  ∃ (v:V) (As bT:List Addr),σ[i]? = some (some v)/\As≠[]/\bG K Hs H fl d v As/\As.Sublist ag/\∀ ay H2 fl2 d2 fR,ax Hs ay->bG K ay H2 fl2 d2 v fR->fR≠[]->fR.Nodup->(∀ a∈fR,a∈ag->a∈As)->(∀ a∈ag,a∉As->H2 a=H a) ->
   ∃ dn,dn.Nodup/\(∀ a∈dn,a∈ag\/a∈fR)/\SR K ay H2 (ρ.set i (some (.ow fl2 d2))) σ dn:=by
 induction s generalizing i with
 |nil=>intro e;simp at e
 |@non ρ σ ag o q ih =>
  intro e n
  cases i with
  |zero=>simp at e
  |succ i =>
   obtain⟨v,As,t,a,b,c,d,g⟩:=ih i (by simpa using e) n
   refine⟨v,As,t,by simpa using a,b,c,d,fun ay H2 fl2 d2 fR s2 r2 ne2 kE dj st=>?_⟩
   obtain⟨t2,x,y,z⟩:=g ay H2 fl2 d2 fR s2 r2 ne2 kE dj st
   exact⟨t2,x,y,.non z⟩
 |sh r q ih =>
  intro e n
  cases i with
  |zero=>simp at e
  |succ i =>
   obtain⟨v,As,t,a,b,c,d,g⟩:=ih i (by simpa using e) n
   refine⟨v,As,t,by simpa using a,b,c,d,fun ay H2 fl2 d2 fR s2 r2 ne2 kE dj st=>?_⟩
   obtain⟨t2,x,y,z⟩:=g ay H2 fl2 d2 fR s2 r2 ne2 kE dj st
   exact⟨t2,x,y,.sh (r.same s2) z⟩
 |xc q ih =>
  intro e n
  cases i with
  |zero=>simp at e
  |succ i =>
   obtain⟨v,As,t,a,b,c,d,g⟩:=ih i (by simpa using e) n
   refine⟨v,As,t,by simpa using a,b,c,d,fun ay H2 fl2 d2 fR s2 r2 ne2 kE dj st=>?_⟩
   obtain⟨t2,x,y,z⟩:=g ay H2 fl2 d2 fR s2 r2 ne2 kE dj st
   exact⟨t2,x,y,.xc z⟩
 |@ow ρ σ t2 B fl0 d0 v ne r q ih =>
  intro e n
  obtain⟨n1,n2,n3⟩:=g9.mp n
  cases i with
  |zero =>
   simp at e
   obtain⟨rfl,rfl⟩:=e
   refine⟨v,B,t2,rfl,ne,r,FY _ _,fun ay H2 fl2 d2 fR s2 r2 ne2 kE dj st=>⟨fR++t2,g9.mpr ⟨kE,n2,fun a ha b hb e=>?_⟩,fun a h=>?_,.ow ne2 r2 (q.fq s2 fun a h=>st a (fw _ h) fun z=>n3 a z a h rfl)⟩⟩
   ·subst e
    exact n3 a (dj a ha (fw _ hb)) a hb rfl
   ·exact(dy.mp h).symm.imp (fun z=>fw _ z) id
  |succ i =>
   obtain⟨v,As,t,a,b,c,d,g⟩:=ih i (by simpa using e) n2
   have hB:∀ x∈B,x∉As:=fun x hx m=>n3 x hx x (d.subset m) rfl
   refine⟨v,As,B++t,by simpa using a,b,c,d.trans (om _ _),fun ay H2 fl2 d2 fR s2 r2 ne2 kE dj st=>?_⟩
   obtain⟨t2,x,y,z⟩:=g ay H2 fl2 d2 fR s2 r2 ne2 kE (fun a ha m=>dj a ha (fw _ m)) fun a ha m=>st a (fw _ ha) m
   refine⟨B++t2,g9.mpr ⟨n1,x,fun a ha b hb e=>?_⟩,fun a h=>?_,.ow ne (r.fq s2 fun a h=>st a (kf _ h) (hB a h)) z⟩
   ·subst e
    rcases y a hb with w|w
    ·exact n3 a ha a w rfl
    ·exact hB a ha (dj a w (kf _ ha))
   ·rcases dy.mp h with w|w
    ·exact .inl (kf _ w)
    ·exact(y a w).imp (fun w=>fw _ w) id
 |@lk ρ σ t2 B a0 fl0 d0 ne r q ih =>
  intro e n
  obtain⟨n1,n2,n3⟩:=g9.mp n
  cases i with
  |zero=>simp at e
  |succ i =>
   obtain⟨v,As,t,a,b,c,d,g⟩:=ih i (by simpa using e) n2
   have hB:∀ x∈B,x∉As:=fun x hx m=>n3 x hx x (d.subset m) rfl
   refine⟨v,As,B++t,by simpa using a,b,c,d.trans (om _ _),fun ay H2 fl2 d2 fR s2 r2 ne2 kE dj st=>?_⟩
   obtain⟨t2,x,y,z⟩:=g ay H2 fl2 d2 fR s2 r2 ne2 kE (fun a ha m=>dj a ha (fw _ m)) fun a ha m=>st a (fw _ ha) m
   refine⟨B++t2,g9.mpr ⟨n1,x,fun a ha b hb e=>?_⟩,fun a h=>?_,.lk ne (r.fq s2 fun a h=>st a (kf _ h) (hB a h)) z⟩
   ·subst e
    rcases y a hb with w|w
    ·exact n3 a ha a w rfl
    ·exact hB a ha (dj a w (kf _ ha))
   ·rcases dy.mp h with w|w
    ·exact .inl (kf _ w)
    ·exact(y a w).imp (fun w=>fw _ w) id
theorem fQ{X:Cx}(h:PE X e (wt i)):QP X K e (xB i):=PE.imp h fun σ H Qv hx=>kN hx fun Hs ρ ag Q sr h f=>by
 unfold xB at h
 split at h
 ·rename_i fl d e1
  obtain⟨v,As,t,e2,ne,r,sb,g⟩:=SR.put i sr.sr e1 sr.lP
  refine⟨v,e2,f v H Hs fl d _ (eL.refl sr.wf) ⟨As,r,ne,sb.nodup sr.lP,fun a h=>sr.own a (sb.subset h),fun ay H2 fl2 d2 fR s2 w2 n2 _ r2 ne2 kE o2 st=>?_⟩ h⟩
  obtain⟨t2,x,y,z⟩:=g ay H2 fl2 d2 fR s2 r2 ne2 kE (fun a ha m=>(o2 a ha).2.elim id fun q=>absurd q (sr.sr.own a m).ne) fun a ha m=>st a (sr.sr.own a ha).ne m
  exact⟨t2,z,w2,x,fun a h=>(y a h).elim (fun q=>n2 a (sr.own a q) (sr.sr.own a q).ne) fun q=>(o2 a q).1⟩
 ·exact h.elim
theorem bG.wk(h:fl2=true->fl=true)(r:bG K Hs H fl d v As):bG K Hs H fl2 d v As:=by
 cases fl2 with
 |false=>exact r.RD
 |true=>rw[h rfl] at r;exact r
theorem az.wk{fl fl2:Bool}{d:List D}{v:List V}{As:List Addr}(h:fl2=true->fl=true)(r:az K Hs H fl d v As):az K Hs H fl2 d v As:=by
 cases fl2 with
 |false=>exact r.RD
 |true=>rw[h rfl] at r;exact r
theorem az.at(r:az K Hs H fl ds vs As)(e:ds[j]? = some d)(n:As.Nodup) :
  ∃ (v:V) (B:List Addr),vs[j]? = some v/\bG K Hs H fl d v B/\B.Sublist As/\∀ ay H2 fl2 d2 B2,ax Hs ay->(fl2=true->fl=true)->bG K ay H2 fl2 d2 v B2->B2.Nodup->(∀ a∈B2,a∈As->a∈B)->(∀ a∈As,a∉B->H2 a=H a) ->
   ∃ fR,fR.Nodup/\(∀ a∈fR,(a∈As/\a∉B)\/a∈B2)/\(B2≠[]->fR≠[])/\az K ay H2 fl2 (ds.set j d2) vs fR:=by
 induction ds generalizing vs As j with
 |nil=>simp at e
 |cons x ds ih =>
  obtain⟨v,us,A,B,rfl,rfl,r,rs⟩:=r.c
  obtain⟨n1,n2,n3⟩:=g9.mp n
  cases j with
  |zero =>
   simp at e
   subst e
   refine⟨v,A,rfl,r,FY _ _,fun ay H2 fl2 d2 B2 s2 hf r2 kE dj st=>⟨B2++B,g9.mpr ⟨kE,n2,fun a ha b hb e=>?_⟩,fun a h=>?_,fun ne z=>ne (KW.mp z).1,.cons r2 ((rs.wk hf).fq s2 fun a h=>st a (fw _ h) fun z=>n3 a z a h rfl)⟩⟩
   ·subst e
    exact n3 a (dj a ha (fw _ hb)) a hb rfl
   ·rcases dy.mp h with w|w
    ·exact .inr w
    ·exact .inl ⟨fw _ w,fun z=>n3 a z a w rfl⟩
  |succ j =>
   obtain⟨v,C,a,b,c,g⟩:=ih (j:=j) rs (by simpa using e) n2
   have hA:∀ x∈A,x∉C:=fun x hx m=>n3 x hx x (c.subset m) rfl
   refine⟨v,C,by simpa using a,b,c.trans (om _ _),fun ay H2 fl2 d2 B2 s2 hf r2 kE dj st=>?_⟩
   obtain⟨fR,x,y,w,z⟩:=g ay H2 fl2 d2 B2 s2 hf r2 kE (fun a ha m=>dj a ha (fw _ m)) fun a ha m=>st a (fw _ ha) m
   refine⟨A++fR,g9.mpr ⟨n1,x,fun a ha b hb e=>?_⟩,fun a h=>?_,fun ne q=>w ne (KW.mp q).2,.cons ((r.wk hf).fq s2 fun a h=>st a (kf _ h) (hA a h)) z⟩
   ·subst e
    rcases y a hb with q|q
    ·exact n3 a ha a q.1 rfl
    ·exact hA a ha (dj a q (kf _ ha))
   ·rcases dy.mp h with q|q
    ·exact .inl ⟨kf _ q,hA a q⟩
    ·exact(y a q).imp (fun q=>⟨fw _ q.1,q.2⟩) id
theorem Ju{α:Type}{xs:List α}{i:Int}{x:α}(h:ft xs i=some x):∃ j,mw xs.length i=some j/\xs[j]? = some x:=by
 unfold L2.ft at h
 cases e:mw xs.length i with
 |none=>rw[e] at h;cases h
 |some j=>rw[e] at h;exact⟨j,rfl,h⟩
def RW(p:WP)(t:WE):WP:=fun ρ Q=>p ρ fun fl d up=>t ρ fun _ y=>fl=true/\match y with
 |.int i=>match d with
  |.list ds=>∃ j d',mw ds.length i=some j/\ds[j]? = some d'/\d'.flat=false/\Q true d' fun fl2 d2=>up fl2 (.list (ds.set j d2))
  |.tup ds=>∃ j d',mw ds.length i=some j/\ds[j]? = some d'/\d'.flat=false/\Q true d' fun fl2 d2=>up fl2 (.tup (ds.set j d2))
  |_=>False
 |_=>False
theorem Ax{α:Type}{xs:List α}{i:Int}{j:Nat}{x:α}(h:mw xs.length i=some j)(e:xs[j]? = some x):ft xs i=some x:=by unfold L2.ft;rw[h];exact e
theorem BX{ds:List D}{j:Nat}{d:D}(e:ds[j]? = some d)(h:d.flat=false):cp ds=false:=by
 cases q:cp ds with
 |false=>rfl
 |true=>rw[lV.mp q d (mn e)] at h;cases h
theorem Aa{ds:List D}{j:Nat}{d d2:D}(e:ds[j]? = some d)(h:d2.flat=false):cp (ds.set j d2)=false:=by
 have hj:j<ds.length:=(iS.mp e).1
 exact BX (j:=j) (d:=d2) (by simp[hj]) h
theorem K5{X:Cx}{a b:Expr}{p:WP}{t:WE}{pos:Pos}(hu:X.A.units+64<cLine)(ha:QP X K a p)(hb:QE X K b t)(hs:Rb b:=by exact fun _ _=>rfl)(hK:X.K=K:=by rfl):QP X K (.Subscript a b pos) (RW p t):=by
 refine PE.imp (TV (Y8 hu hK) ha hb hs) fun σ H Qv hx=>kN hx fun Hs ρ ag Q sr h f=>?_
 refine⟨Hs,ρ,ag,_,sr,h,fun v H1 aE fl d up g1 p1 q1=>⟨aE,ρ,ag,_,sr.grow g1,q1,fun u H2 ay m y As g2 r2 f2 q2=>?_⟩⟩
 have p2:=p1.grow g2
 have gg:=g1.trans g2
 obtain⟨rfl,q2⟩:=q2
 have ry:=r2.rep g2.wf
 cases ry with
 |int i =>
  obtain⟨gu,r,ne,nd,own,k⟩:=p2.ex
  cases r with
  |sh hf _=>exact absurd rfl ne
  |@list a0 vs0 ds0 A0 hz e rs =>
   obtain⟨j,d',e1,e2,hd,q⟩:=q2
   obtain⟨na,nb⟩:=js.mp nd
   obtain⟨w,B,e3,r3,sb,g⟩:=rs.at e2 nb
   refine .inl (.inl ⟨_,w,.inl (.inl e),Ax (by rw[<- rs.length];exact e1) e3,f w H2 ay true d' _ gg ⟨B,r3,r3.ne hd,sb.nodup nb,fun a h=>own a (b9 _ (sb.subset h)),fun eI H3 OL d3 NH s3 w3 n3 hf r4 ne3 UH o3 st=>?_⟩ q⟩)
   have aS:∀ x∈A0,x∉B->H3 x=H2 x:=fun x hx m=>st x (rs.own x hx).ne m
   obtain⟨II,x4,y4,z4,r5⟩:=g eI H3 OL d3 NH s3 hf r4 UH (fun a ha m=>(o3 a ha).2.elim id fun q=>absurd q (rs.own a m).ne) aS
   have eA:H3 a0=H2 a0:=st a0 (by rw[e];exact fun z=>nomatch z) fun m=>na (sb.subset m)
   have cl:∀ a∈II,eI a=none/\(a∈a0 :: A0\/H2 a=none):=fun a h=>by
    rcases y4 a h with⟨m,_⟩|m
    ·exact⟨n3 a (own a (b9 _ m)) (rs.own a m).ne,.inl (b9 _ m)⟩
    ·exact⟨(o3 a m).1,(o3 a m).2.imp (fun q=>b9 _ (sb.subset q)) id⟩
   refine k eI H3 OL (.list _) (_ :: II) s3 w3 n3 hf (.list hz (eA.trans e) r5) (by simp) (js.mpr ⟨fun m=>?_,x4⟩) (fun a h=>?_) fun a h1 h2=>st a h1 fun m=>h2 (b9 _ (sb.subset m))
   ·rcases y4 _ m with⟨q,_⟩|q
    ·exact na q
    ·rcases (o3 _ q).2 with q|q
     ·exact na (sb.subset q)
     ·rw[e] at q;cases q
   ·rcases dr.mp h with rfl|h
    ·exact⟨n3 _ (own _ b5) (by rw[e];exact fun z=>nomatch z),.inl b5⟩
    ·exact cl a h
  |tup hz e hn rs =>
   obtain⟨j,d',e1,e2,hd,q⟩:=q2
   obtain⟨w,B,e3,r3,sb,g⟩:=rs.at e2 nd
   refine .inl (.inr ⟨_,w,.inl (.inl (g2.wf.sub _ _ e)),Ax (by rw[<- rs.length];exact e1) e3,f w H2 ay true d' _ gg ⟨B,r3,r3.ne hd,sb.nodup nd,fun a h=>own a (sb.subset h),fun eI H3 OL d3 NH s3 w3 n3 hf r4 ne3 UH o3 st=>?_⟩ q⟩)
   obtain⟨II,x4,y4,z4,r5⟩:=g eI H3 OL d3 NH s3 hf r4 UH (fun a ha m=>(o3 a ha).2.elim id fun q=>absurd q (rs.own a m).ne) (fun x hx m=>st x (rs.own x hx).ne m)
   have Iy:cp (List.set _ j d3)=false:=Aa e2 (by
    cases hh:d3.flat with
    |false=>rfl
    |true=>exact absurd (r4.nil_of hh) ne3)
   refine k eI H3 OL (.tup _) II s3 w3 n3 hf (.tup hz (s3 _ _ e) Iy r5) (z4 ne3) x4 (fun a h=>?_) fun a h1 h2=>st a h1 fun m=>h2 (sb.subset m)
   rcases y4 a h with⟨m,_⟩|m
   ·exact⟨n3 a (own a m) (rs.own a m).ne,.inl m⟩
   ·exact⟨(o3 a m).1,(o3 a m).2.imp (fun q=>sb.subset q) id⟩
  |_=>exact q2.elim
 |_=>exact q2.elim
end
section
variable {X:Cx}{K:PySem.W.Frag}{e:Expr}{p:WP}{te:WE}{apos dE pos:Pos}
def pJ(fl:Bool)(m:Md)(d:D):Option Bool:=match m with
 |.sh=>some (fl && d.flat)
 |.ow b=>some (fl && b)
 |.bo=>bif d.flat then some fl else none
def Jn(p:WP)(te:WE):WS:=fun E ρ=>p ρ fun fl d up=>match d with
 |.list xs=>te ρ fun m x=>xs.length<sizeLine/\match pJ fl m x with
  |some fl2=>E.nx (up fl2 (.list (xs++[x])))
  |none=>False
 |_=>False
theorem Bq(w:Wf Hs H)(r:RM K Hs H m d v As)(h:pJ fl m d=some fl2):(fl2=true->fl=true)/\∃ B,B.Sublist As/\bG K Hs H fl2 d v B:=by
 cases m with
 |sh =>
  cases h
  exact⟨fun z=>by cases fl<;>simp_all,[],B5 _,.sh (fun z=>by cases fl<;>simp_all) r.2⟩
 |ow b =>
  cases h
  refine⟨fun z=>by cases fl<;>simp_all,As,List.Sublist.refl _,r.1.wk fun z=>by cases fl<;>simp_all⟩
 |bo =>
  cases hf:d.flat with
  |true =>
   simp only[pJ,hf,cond_true,Option.some.injEq] at h
   subst h
   exact⟨id,[],B5 _,.sh (fun _=>hf) (r.flat w hf)⟩
  |false=>simp[pJ,hf] at h
theorem Place.put(pl:Place K aE H1 σ fl (.list xs) v up)(g:eL aE H1 ay H2) :
  ∃ a vs A,v=.ref a/\H2 a=some (.lst vs)/\H1 a=some (.lst vs)/\az K ay H2 fl xs vs A/\(a :: A).Nodup/\(∀ x∈a :: A,ay x=none/\H1 x≠none) /\
   ∀ fl2 ys ws C,(fl2=true->fl=true)->az K ay H2 fl2 ys ws C->ws.length<=sizeLine->C.Nodup->a∉C->(∀ x∈C,x∈A\/(ay x=none/\H1 x=none))->∃ dn,dc K ay (up fl2 (.list ys)) σ (upd H2 a (.lst ws)) dn:=by
 obtain⟨gu,r,ne,nd,own,k⟩:=pl.ex
 cases r with
 |sh hf _=>exact absurd rfl ne
 |@list a vs _ A hz e rs =>
  have e2:=g.all _ _ e
  have Fc:=rs.grow g.sh g.all
  have hw:∀ x∈a :: A,aE x=none/\H1 x≠none:=fun x hx=>⟨own x hx,by
   rcases dr.mp hx with rfl|hx
   ·rw[e];exact fun z=>nomatch z
   ·exact(rs.own x hx).ne⟩
  exact⟨a,vs,A,rfl,e2,e,Fc,nd,fun x hx=>⟨g.mS (hw x hx).1 (hw x hx).2,(hw x hx).2⟩,fun fl2 ys ws C hf kr hz ndC RV hC=>k.node g hw (fun _ z=>by cases z) hf (.list hz fi (kr.fq (ax.refl _) fun b hb=>cv fun z=>RV (by subst z;exact hb))) ndC RV hC⟩
theorem Place.UI(w:Wf aE H1)(pl:Place K aE H1 σ fl (.list xs) v up):∃ a vs,v=.ref a/\eR K H1 a vs:=by
 obtain⟨gu,r,ne,nd,own,k⟩:=pl.ex
 cases r with
 |sh hf _=>exact absurd rfl ne
 |list hz e rs=>exact⟨_,_,rfl,.inl (.inl e)⟩
theorem Ad (ho:QP X K e p) (he:QE X K e2 te) (hK:X.K=K:=by rfl) (hs:swapsWith (.Call (.Attribute e "append" apos) [e2] [] dE) none pos.line X.env=pure false:=by rfl)
  (vj:attributeBase e "append" X.env (eval e X.env)=eval e X.env:=by rfl)
  (oz:((backTo dE (starEach [e2] X.env)).all (fun x=>!x.1) && (backToKw dE (keywordEach [] X.env)).all (fun x=>x.1.isSome)
   && decide ([e2].length+([]:List Keyword).length+(if ([]:List Keyword).isEmpty then 0 else 1)<30))=true:=by rfl)
  (hline:(apos.endLine == dE.line)=true:=by rfl) (pd:starEach (e2 :: []) X.env=(false,eval e2 X.env) :: starEach [] X.env:=by rfl) (vk:(backTo dE (starEach [] X.env)).any (·.1)=false:=by rfl) :
  QS X K L (.Expr (.Call (.Attribute e "append" apos) [e2] [] dE) pos) (Jn p te):=by
 subst hK
 refine PS.imp (EE (EJ PySem.F.plainAttrs_list PySem.F.slot_list_append PySem.F.type_list_append Rg ho (q0 he uS pd) vj oz hline pd vk) hs) fun D σ H hx=>dW hx fun Hs ρ ag E sr h k1 k2 k3 k4=>?_
 refine⟨Hs,ρ,ag,_,sr,h,fun v H1 aE fl d up g1 p1 q1=>?_⟩
 cases d with
 |list xs =>
  obtain⟨a1,Zd,e1,s1⟩:=p1.UI g1.wf
  subst e1
  refine⟨.inl ⟨rfl,_,s1⟩,aE,ρ,ag,_,sr.grow g1,q1,fun y H2 ay m x As g2 r2 f2 q2=>?_⟩
  obtain⟨hz,q2⟩:=q2
  obtain⟨a,vs,A,ea,e2,_,rs,nd,hn,k⟩:=p1.put g2
  cases ea
  have hl:=rs.length
  refine⟨a1,vs,y,rfl,rfl,e2,by lia,?_⟩
  cases hp:pJ fl m x with
  |none=>rw[hp] at q2;exact q2.elim
  |some fl2 =>
   rw[hp] at q2
   obtain⟨hf,B,sb,rb⟩:=Bq g2.wf r2 hp
   obtain⟨na,nA⟩:=js.mp nd
   have fB:∀ x∈B,ay x=none/\H1 x=none:=fun x hx=>f2.2 x (sb.subset hx)
   have c1:(A++(B++[])).Nodup:=by
    rw[qV]
    exact g9.mpr ⟨nA,sb.nodup f2.1,fun x hx z hz e=>by subst e;exact(hn x (b9 _ hx)).2 (fB x hz).2⟩
   have c2:a1∉A++(B++[]):=by
    rw[qV]
    intro m
    rcases dy.mp m with m|m
    ·exact na m
    ·exact(hn _ b5).2 (fB _ m).2
   have c3:∀ x∈A++(B++[]),x∈A\/(ay x=none/\H1 x=none):=by
    rw[qV]
    intro x hx
    exact(dy.mp hx).imp id fun z=>fB x z
   obtain⟨dn,fP⟩:=k fl2 (xs++[x]) (vs++[y]) (A++(B++[])) hf ((rs.wk hf).append (.cons rb .nil)) (by rw[kF];simp;lia) c1 c2 c3
   exact k1 σ _ ay _ dn (g1.sh.trans g2.sh) fP q2
 |_=>exact q1.elim
def jX:WE:=fun _ Q=>Q (.ow true) (.dT [])
theorem jC:QE X K (.Dict [] [] pos) jX:=PE.imp dX' fun σ H Qv hx=>kN hx fun Hs ρ ag Q sr h f=>fun a ha =>
 f _ _ Hs (.ow true) (.dT []) [a] (RG sr.wf ha fun _ z=>nomatch z) ⟨.dT (vs:=[]) ⟨fE _,fun p hp=>nomatch hp⟩ fi .nil,by simp⟩ ⟨by simp,fun b hb=>by
  obtain rfl:b=a:=by simpa using hb
  exact⟨sr.wf.sub.free ha,ha⟩⟩ h
section
variable {κ:Type}[DecidableEq κ]
theorem zX{Hs H:Hp}{fl:Bool}{k:κ}{d:D}{v:V}(r:bG K Hs H fl d v []){kvs:List (κ × D)}{vs:List V}{As:List Addr}(qs:az K Hs H fl (kvs.map (·.2)) vs As):∃ ws Bs,Bs.Sublist As /\
  az K Hs H fl ((kvs.map fun kv=>if kv.1=k then (kv.1,d) else kv).map (·.2)) ws Bs/\((kvs.map (·.1)).zip vs).map (fun kv=>if kv.1=k then (kv.1,v) else kv)=(((kvs.map fun kv=>if kv.1=k then (kv.1,d) else kv)).map (·.1)).zip ws:=by
 induction kvs generalizing vs As with
 |nil=>exact⟨[],[],B5 _,.nil,rfl⟩
 |cons p kvs ih =>
  obtain⟨u,vs,A,B,rfl,rfl,q,qs⟩:=az.c (d:=p.2) qs
  obtain⟨ws,Bs,sb,rs,e⟩:=ih qs
  by_cases h:p.1=k
  ·refine⟨v :: ws,[]++Bs,by simpa using sb.trans (om _ _),?_,?_⟩
   ·simp only[fe,h,if_true]
    exact .cons r rs
   ·simp only[fe,AG,h,if_true,e]
  ·refine⟨u :: ws,A++Bs,sb.append_left _,?_,?_⟩
   ·simp only[fe,h,if_false]
    exact .cons q rs
   ·simp only[fe,AG,h,if_false,e]
theorem Cz{Hs H:Hp}{fl:Bool}{k:κ}{d:D}{v:V}(r:bG K Hs H fl d v []){kvs:List (κ × D)}{vs:List V}{As:List Addr}(q:az K Hs H fl (kvs.map (·.2)) vs As) :
  ∃ ws Bs,Bs.Sublist As/\az K Hs H fl ((lT kvs k d).map (·.2)) ws Bs/\putK ((kvs.map (·.1)).zip vs) k v=((lT kvs k d).map (·.1)).zip ws:=by
 have hl:=q.length
 rw[bS] at hl
 unfold putK lT
 rw[Ge hl]
 cases h:kvs.any fun kv=>decide (kv.1=k) with
 |true =>
  simp only[if_true]
  exact zX r q
 |false =>
  simp only[kH,if_false]
  refine⟨vs++[v],As++([]++[]),by simp,?_,?_⟩
  ·rw[kG]
   exact q.append (.cons r .nil)
  ·rw[kG,List.zip_append (by rw[bS];exact hl)]
   rfl
theorem zu{Hs H:Hp}{fl:Bool}{k:κ}{d:D}{v:V}(r:Rep K Hs d v)(hd:d.flat=true){kvs:List (κ × D)}{vs:List V}{As:List Addr}(q:az K Hs H fl (kvs.map (·.2)) vs As) :
  ∃ ws Bs,Bs.Sublist As/\az K Hs H fl ((lT kvs k d).map (·.2)) ws Bs/\putK ((kvs.map (·.1)).zip vs) k v=((lT kvs k d).map (·.1)).zip ws:=Cz (.sh (fun _=>hd) r) q
theorem rB{β:Type}(kvs:List (κ × β))(k:κ)(v:β):(lT kvs k v).length<=kvs.length+1:=by
 unfold lT
 split
 ·rw[bS];exact Qw _ _
 ·simp
theorem qP{β:Type}{kvs:List (κ × β)}{k:κ}{v:β}{p:κ × β}(h:p∈lT kvs k v):p.1=k\/p.1∈kvs.map (·.1):=by
 unfold lT at h
 split at h
 ·obtain⟨q,hq,e⟩:=bI.mp h
  by_cases hk:q.1=k
  ·rw[if_pos hk] at e;subst e;exact .inl hk
  ·rw[if_neg hk] at e;subst e;exact .inr (bI.mpr ⟨q,hq,rfl⟩)
 ·rcases dy.mp h with h|h
  ·exact .inr (bI.mpr ⟨p,h,rfl⟩)
  ·have:p=(k,v):=by simpa using h
   subst this;exact .inl rfl
end
def uF(p:WP)(tk tv:WE):WS:=fun E ρ=>tv ρ fun _ x=>p ρ fun fl d up=>tk ρ fun _ y=>x.flat=true/\match d with
 |.dK kvs=>∃ k,y.key1=some k/\kvs.length<sizeLine/\E.nx (up fl (.dK (lT kvs k x)))
 |.dT kvs=>match y with
  |.tup ys=>∃ ks,fj ys=some ks/\kvs.length<sizeLine/\E.nx (up fl (.dT (lT kvs ks x)))
  |_=>False
 |_=>False
theorem Bl(r:Rep K H d v)(h:d.key1=some k):yk k=true:=by
 cases r<;>simp[D.key1] at h<;>subst h
 ·rfl
 ·rename_i hz;simp[yk,hz]
theorem wK(r:aI K H ds vs)(h:fj ds=some ks):ks.length=ds.length/\∀ k∈ks,yk k=true:=by
 induction ds generalizing vs ks with
 |nil=>simp[fj] at h;subst h;exact⟨rfl,fun k hk=>nomatch hk⟩
 |cons d ds ih =>
  obtain⟨u,us,rfl,r,rs⟩:=r.c
  unfold fj at h
  cases e1:d.key1 with
  |none=>rw[e1] at h;simp at h
  |some k =>
   cases e2:fj ds with
   |none=>rw[e1,e2] at h;simp at h
   |some dP =>
    rw[e1,e2] at h
    simp at h
    subst h
    obtain⟨a,b⟩:=ih rs e2
    refine⟨by simp[a],fun j hj=>?_⟩
    rcases dr.mp hj with rfl|hj
    ·exact Bl r e1
    ·exact b j hj
theorem qZ{a b c:Expr}{tk tv:WE}{pos':Pos}(hu:X.A.units+64<cLine)(ho:QP X K a p)(hi:QE X K b tk)(hv:QE X K c tv)(hs:swapsWith c (some (.Subscript a b pos')) pos.line X.env=pure false:=by rfl) :
  QS X K L (.Assign [.Subscript a b pos'] c pos) (uF p tk tv):=by
 refine PS.imp (dU' (by lia) ho hi hv hs) fun D σ H hx=>dW hx fun Hs ρ ag E sr h k1 k2 k3 k4=>?_
 refine⟨Hs,ρ,ag,_,sr,h,fun v H1 aE m1 x As1 g1 r1 f1 q1=>⟨aE,ρ,ag,_,sr.grow g1,q1,fun u H2 ay fl d up g2 p2 q2=>⟨ay,ρ,ag,_,(sr.grow g1).grow g2,q2,fun y H3 eI m3 yd NH g3 r3 f3 q3=>?_⟩⟩⟩
 obtain⟨hx,q3⟩:=q3
 have rx:Rep K eI x v:=((r1.grow g2).grow g3).flat g3.wf hx
 have ry:=r3.rep g3.wf
 obtain⟨gu,r,ne,nd,own,k⟩:=p2.ex
 have sm:ax Hs eI:=(g1.sh.trans g2.sh).trans g3.sh
 have lv:∀ x∈gu,ay x=none/\H2 x≠none:=fun x hx=>⟨own x hx,(r.own x hx).ne⟩
 cases r with
 |sh hf _=>exact absurd rfl ne
 |@dK a0 vs kvs A kk e rs =>
  obtain⟨key,hk,hz,q⟩:=q3
  have ey:=ry.key hk
  subst ey
  obtain⟨na,nA⟩:=js.mp nd
  obtain⟨ws,Bs,sb,kr,ew⟩:=zu (k:=key) rx hx (rs.grow g3.sh g3.all)
  have hl:kvs.length=vs.length:=by have:=rs.length;rwa[bS] at this
  refine⟨a0,_,rfl,Dp.k (g3.all _ _ e) (by rw[D6,bS,<- hl,GV];exact hz),?_⟩
  rw[ew]
  have nB:a0∉Bs:=fun z=>na (sb.subset z)
  obtain⟨dn,fP⟩:=k.node (fl2:=fl) (d2:=.dK (lT kvs key x)) g3 lv (fun _ z=>by cases z) id (.dK ⟨gE (rB _ _ _) hz,fun p hp=>(qP hp).elim (fun z=>by rw[z];exact Bl ry hk) fun z=>by obtain⟨p',hJ,e'⟩:=bI.mp z;rw[<- e'];exact kk.2 p' hJ⟩ fi (kr.fq (ax.refl _) fun b hb=>cv fun z=>nB (by subst z;exact hb)))
   (sb.nodup nA) nB fun b hb=>.inl (sb.subset hb)
  exact k1 σ _ eI _ dn sm fP q
 |@dT a0 vs kvs A kk e rs =>
  cases ry with
  |tup t1 e1 IX =>
   obtain⟨key,hk,hz,q⟩:=q3
   obtain⟨b,eb,e5⟩:=Rep.kR (.tup t1 e1 IX) hk
   cases eb
   obtain⟨kl,ko⟩:=wK IX hk
   obtain⟨na,nA⟩:=js.mp nd
   obtain⟨ws,Bs,sb,kr,ew⟩:=zu (k:=key) rx hx (rs.grow g3.sh g3.all)
   have hl:kvs.length=vs.length:=by have:=rs.length;rwa[bS] at this
   refine⟨a0,_,rfl,Dp.t (g3.all _ _ e) e5 (by rw[D6,bS,<- hl,GV];exact hz),?_⟩
   rw[ew]
   have nB:a0∉Bs:=fun z=>na (sb.subset z)
   have l1:=IX.length
   obtain⟨dn,fP⟩:=k.node (fl2:=fl) (d2:=.dT (lT kvs key x)) g3 lv (fun _ z=>by cases z) id (.dT ⟨gE (rB _ _ _) hz,fun p hp=>(qP hp).elim (fun z=>by rw[z];exact⟨by lia,ko⟩) fun z=>by obtain⟨p',hJ,e'⟩:=bI.mp z;rw[<- e'];exact kk.2 p' hJ⟩ fi (kr.fq (ax.refl _) fun b hb=>cv fun z=>nB (by subst z;exact hb)))
    (sb.nodup nA) nB fun b hb=>.inl (sb.subset hb)
   exact k1 σ _ eI _ dn sm fP q
  |_=>exact q3.elim
 |_=>exact q3.elim
end
abbrev WJ:=Env->Str->(Str->Prop)->Prop
section
variable {X:Cx}{K:PySem.W.Frag}{e:Expr}{j:WJ}
def Ka:List D->Option (List Str)
 |[]=>some []
 |.str x :: xs=>(Ka xs).map (x :: ·)
 |_ :: _=>none
def kR(k:List Key):D:=.tup (k.map kS)
def pG:W1:=fun _ x Q=>match x with
 |.list xs=>∃ ks sh,xs=ks.map kR/\ks.length<=63/\(∀ k∈ks,iL k=true :: sh)/\∀ ms:List (List Key),ms.Perm ks->(ms.Pairwise fun a b=>gX b a=false)->Q (.ow true) (.list (ms.map kR))
 |_=>False
theorem Af{H:Hp}{ks:List Key}{vs:List V}(r:aI K H (ks.map kS) vs):vs=ks.map kV/\∀ k∈ks,yk k=true:=by
 induction ks generalizing vs with
 |nil=>exact⟨r.n0,fun k h=>nomatch h⟩
 |cons k ks ih =>
  obtain⟨u,us,rfl,r1,rs⟩:=aI.c (d:=kS k) r
  obtain⟨e,o⟩:=ih rs
  subst e
  cases k with
  |inl i=>cases r1;exact⟨rfl,fun j hj=>by rcases dr.mp hj with rfl|hj;rfl;exact o j hj⟩
  |inr x =>
   cases r1 with
   |str hz=>exact⟨rfl,fun j hj=>by rcases dr.mp hj with rfl|hj;simp[yk,hz];exact o j hj⟩
theorem zN{H:Hp}{ks:List (List Key)}{vs:List V}(r:aI K H (ks.map kR) vs):cG H vs ks/\∀ k∈ks,k.length<=sizeLine/\∀ j∈k,yk j=true:=by
 induction ks generalizing vs with
 |nil=>rw[r.n0];exact⟨.nil,fun k h=>nomatch h⟩
 |cons k ks ih =>
  obtain⟨u,us,rfl,r1,rs⟩:=aI.c (d:=kR k) r
  obtain⟨t,o⟩:=ih rs
  cases r1 with
  |tup hz e q =>
   obtain⟨e2,o2⟩:=Af q
   subst e2
   exact⟨.cons ⟨_,rfl,e⟩ t,fun j hj=>by
    rcases dr.mp hj with rfl|hj
    ·exact⟨by simpa using hz,o2⟩
    ·exact o j hj⟩
theorem wz:An K (wj K) pG:=by
 intro Hs H m x v As Qd Qv w rx h f
 have r1:=rx.rep w
 cases r1 with
 |list z s q =>
  obtain⟨ks,sh,rfl,vw,hs,h⟩:=h
  obtain⟨ta,ok⟩:=zN q
  have hl:=q.length
  rw[bS] at hl
  refine⟨_,ks,sh,s,by lia,ta,hs,fun zs ms l tz pm pw UJ=>?_⟩
  have rr:=lq (K:=K) tz fun k hk=>ok k (pm.mem_iff.mp hk)
  exact f.lst w (by rw[bS,pm.length_eq];lia) rr (gK ms) (h ms pm pw) l UJ
 |_=>exact h.elim
theorem DR (hK:X.K=K:=by rfl):kM X (.builtin "sorted") (wj K):=by subst hK;exact xF
theorem gq:bootBuiltins "sorted" = some (.builtin "sorted"):=by decide +kernel
end
def Ze(A:List Addr)(F:Nat->List Addr):Nat->List Addr
 |0=>A
 |i+1=>F i
def Fh(K:PySem.W.Frag)(Hs H:Hp)(ρ:Env)(σ:St)(ag:List Addr)(F:Nat->List Addr):Prop:=(∀ i fl d,ρ[i]? = some (some (.ow fl d))->∃ v,σ[i]? = some (some v)/\F i≠[]/\bG K Hs H fl d v (F i)) /\
  (∀ i,(F i).Sublist ag)/\∀ i j,i≠j->∀ a∈F i,a∉F j
theorem Fh.skip{K:PySem.W.Frag}{F:Nat->List Addr}(h:Fh K Hs H ρ σ ag F)(no:∀ fl d,o≠some (.ow fl d)):Fh K Hs H (o :: ρ) (u :: σ) ag (Ze [] F):=by
 obtain⟨a,b,c⟩:=h
 refine⟨fun i fl d e=>?_,fun i=>?_,fun i j ne x hx=>?_⟩
 ·cases i with
  |zero=>simp at e;exact absurd e (no fl d)
  |succ i=>exact a i fl d (by simpa using e)
 ·cases i with
  |zero=>exact B5 _
  |succ i=>exact b i
 ·cases i with
  |zero=>exact vx hx
  |succ i =>
   cases j with
   |zero=>exact fun z=>vx z
   |succ j=>exact c i j (fun z=>ne (by rw[z])) x hx
theorem Fh.own{K:PySem.W.Frag}{ag B:List Addr}{F:Nat->List Addr}(h:Fh K Hs H ρ σ ag F)(n:(B++ag).Nodup)(hs:∀ fl d,sl=.ow fl d->B≠[]/\bG K Hs H fl d v B):Fh K Hs H (some sl :: ρ) (some v :: σ) (B++ag) (Ze B F):=by
 obtain⟨a,b,c⟩:=h
 obtain⟨n1,n2,n3⟩:=g9.mp n
 refine⟨fun i fl d e=>?_,fun i=>?_,fun i j ne x hx=>?_⟩
 ·cases i with
  |zero=>simp at e;exact⟨v,rfl,hs fl d e⟩
  |succ i=>exact a i fl d (by simpa using e)
 ·cases i with
  |zero=>exact FY _ _
  |succ i=>exact(b i).trans (om _ _)
 ·cases i with
  |zero =>
   cases j with
   |zero=>exact absurd rfl ne
   |succ j=>exact fun z=>n3 x hx x ((b j).subset z) rfl
  |succ i =>
   cases j with
   |zero=>exact fun z=>n3 x z x ((b i).subset hx) rfl
   |succ j=>exact c i j (fun z=>ne (by rw[z])) x hx
theorem SR.addrs{K:PySem.W.Frag}(s:SR K Hs H ρ σ ag):ag.Nodup->∃ F:Nat->List Addr,Fh K Hs H ρ σ ag F:=by
 induction s with
 |nil=>exact fun _=>⟨fun _=>[],fun i fl d e=>by simp at e,fun i=>B5 _,fun i j _ a h=>vx h⟩
 |non s ih =>
  intro n
  obtain⟨F,h⟩:=ih n
  exact⟨_,h.skip fun fl d z=>by cases z⟩
 |sh r s ih =>
  intro n
  obtain⟨F,h⟩:=ih n
  exact⟨_,h.skip fun fl d z=>by cases z⟩
 |xc s ih =>
  intro n
  obtain⟨F,h⟩:=ih n
  exact⟨_,h.skip fun fl d z=>by cases z⟩
 |ow ne r s ih =>
  intro n
  obtain⟨F,h⟩:=ih (g9.mp n).2.1
  exact⟨_,h.own n fun fl d e=>by cases e;exact⟨ne,r⟩⟩
 |lk ne r s ih =>
  intro n
  obtain⟨F,h⟩:=ih (g9.mp n).2.1
  exact⟨_,h.own n fun fl d e=>by cases e⟩
abbrev Plan:=List (WE ⊕ Nat)
def RX:Plan->List Nat
 |[]=>[]
 |.inl _ :: r=>RX r
 |.inr i :: r=>i :: RX r
def RZ:Option (Option Sl)->Option (Md × D)
 |some (some (.sh d))=>some (.sh,d)
 |some (some (.ow fl d))=>some (.ow fl,d)
 |_=>none
def lN:Plan->Env->(List (Md × D)->Prop)->Prop
 |[],_,Q=>Q []
 |.inl t :: r,ρ,Q=>t ρ fun m x=>lN r ρ fun ps=>Q ((m,x) :: ps)
 |.inr i :: r,ρ,Q=>match RZ ρ[i]? with
  |some p=>lN r ρ fun ps=>Q (p :: ps)
  |none=>False
def tpM(K:PySem.W.Frag)(pl:Plan):TA:=fun σ H Qv=>∃ (Hs:Hp) (ρ:Env) (ag:List Addr) (F:Nat->List Addr) (Q:List (Md × D)->Prop),dc K Hs ρ σ H ag/\(∀ i fl d,ρ[i]? = some (some (.ow fl d))->∃ v,σ[i]? = some (some v)/\F i≠[]/\bG K Hs H fl d v (F i))/\(∀ i,(F i).Sublist ag)/\(∀ i j,i≠j->∀ a∈F i,a∉F j) /\
 lN pl ρ Q/\∀ vs H' ai ps As,eL Hs H ai H'->yn K ai H' ps vs As->As.Nodup->(∀ a∈As,ai a=none/\(H a=none\/∃ i∈RX pl,a∈F i))->Q ps->Qv vs H'
abbrev QM(X:Cx)(K:PySem.W.Frag)(es:List Expr)(pl:Plan):Prop:=PA X es (tpM K pl)
section
variable {X:Cx}{K:PySem.W.Frag}{e:Expr}{es:List Expr}{te:WE}{pl:Plan}{pos:Pos}
theorem zj:QM X K [] []:=PA.imp uS fun σ H Qv hx=>by
 obtain⟨Hs,ρ,ag,F,Q,sr,h1,h2,h3,h,f⟩:=hx
 exact f [] H Hs [] [] (eL.refl sr.wf) .nil lh (fun a h=>vx h) h
theorem Zf(ha:QE X K e te)(hr:QM X K es pl)(hs:starEach (e :: es) X.env=(false,eval e X.env) :: starEach es X.env:=by rfl):QM X K (e :: es) (.inl te :: pl):=by
 refine PA.imp (q0 ha hr hs) fun σ H Qv cE=>?_
 obtain⟨Hs,ρ,ag,F,Q,sr,h1,h2,h3,h,f⟩:=cE
 refine⟨Hs,ρ,ag,_,sr,h,fun v H1 aE m x As g1 r1 f1 q1=>⟨aE,ρ,ag,F,_,sr.grow g1,(fun i fl d e=>?_),h2,h3,q1,fun vs H2 ay ps Bs g2 r2 kE o2 q2=>?_⟩⟩
 ·obtain⟨v,a,b,c⟩:=h1 i fl d e
  exact⟨v,a,b,c.grow g1.sh g1.all⟩
 ·refine f (v :: vs) H2 ay _ _ (g1.trans g2) (.cons (r1.grow g2) r2) (g9.mpr ⟨f1.1,kE,fun a ha b hb e=>?_⟩) (fun a ha=>?_) q2
  ·subst e
   rcases (o2 a hb).2 with z|⟨i,_,z⟩
   ·exact(r1.own a ha).ne z
   ·exact(sr.sr.own a ((h2 i).subset z)).ne (f1.2 a ha).2
  ·rcases dy.mp ha with z|z
   ·exact⟨g2.mS (f1.2 a z).1 (r1.own a z).ne,.inl (f1.2 a z).2⟩
   ·exact⟨(o2 a z).1,(o2 a z).2.imp g1.all.free id⟩
theorem R0(ha:PE X e (wt i))(hr:QM X K es pl)(hi:i∉RX pl:=by decide)(hs:starEach (e :: es) X.env=(false,eval e X.env) :: starEach es X.env:=by rfl):QM X K (e :: es) (.inr i :: pl):=by
 refine PA.imp (q0 ha hr hs) fun σ H Qv cE=>?_
 obtain⟨Hs,ρ,ag,F,Q,sr,h1,h2,h3,h,f⟩:=cE
 unfold lN at h
 cases hm:RZ ρ[i]? with
 |none=>rw[hm] at h;exact h.elim
 |some p =>
  rw[hm] at h
  have key:∃ v A,σ[i]? = some (some v)/\RM K Hs H p.1 p.2 v A/\A.Nodup/\∀ a∈A,a∈F i:=by
   cases e1:ρ[i]? with
   |none=>rw[e1] at hm;cases hm
   |some o =>
    cases o with
    |none=>rw[e1] at hm;cases hm
    |some sl =>
     cases sl with
     |sh d =>
      rw[e1] at hm;cases hm
      obtain⟨v,a,b⟩:=sr.sr.get e1
      exact⟨v,[],a,⟨rfl,b⟩,lh,fun a h=>nomatch h⟩
     |lk a fl d=>rw[e1] at hm;cases hm
     |xc a=>rw[e1] at hm;cases hm
     |ow fl d =>
      rw[e1] at hm;cases hm
      obtain⟨v,a,b,c⟩:=h1 i fl d e1
      exact⟨v,F i,a,⟨c,b⟩,(h2 i).nodup sr.lP,fun a h=>h⟩
  obtain⟨v,A,ev,rm,JA,hA⟩:=key
  refine⟨v,ev,Hs,ρ,ag,F,_,sr,h1,h2,h3,h,fun vs H2 ay ps Bs g2 r2 kE o2 q2=>?_⟩
  refine f (v :: vs) H2 ay _ _ g2 (.cons (rm.grow g2) r2) (g9.mpr ⟨JA,kE,fun a ha b hb e=>?_⟩) (fun a ha=>?_) q2
  ·subst e
   rcases (o2 a hb).2 with z|⟨j,hj,z⟩
   ·exact(rm.own a ha).ne z
   ·exact h3 i j (fun z=>hi (by rw[z];exact hj)) a (hA a ha) z
  ·rcases dy.mp ha with z|z
   ·have:a∈ag:=(h2 i).subset (hA a z)
    exact⟨g2.mS (sr.own a this) (sr.sr.own a this).ne,.inr ⟨i,b5,hA a z⟩⟩
   ·exact⟨(o2 a z).1,(o2 a z).2.imp id fun⟨j,hj,q⟩=>⟨j,b9 _ hj,q⟩⟩
def yO(pl:Plan):WS:=fun E ρ=>lN pl ρ fun ps=>ps.length<=sizeLine/\E.rt (tG ps) (.tup (ps.map (·.2)))
theorem uK{x1}(h:QM X K es pl):QS X K L (.Return (some (.Tuple es x1 jD')) pos) (yO pl):=by
 refine PS.imp (Tj (X6 h)) fun D σ H hx=>dW hx fun Hs ρ ag E sr h k1 k2 k3 k4=>?_
 obtain⟨F,h1,h2,h3⟩:=sr.sr.addrs sr.lP
 refine⟨Hs,ρ,ag,F,_,sr,h1,h2,h3,h,fun vs H1 aE ps As g1 r1 UK o1 q1=>?_⟩
 obtain⟨hz,q⟩:=q1
 have rl:=r1.reps g1.wf
 have hl:=rl.length
 rw[bS] at hl
 refine⟨by lia,fun p hp=>?_⟩
 have g2:=Uy (vs:=vs) g1.wf hp
 have sm:ax Hs (upd aE p (.tup vs)):=g1.sh.trans g2.sh
 unfold tG at q
 cases e1:ps.all yv with
 |true =>
  rw[e1] at q
  exact k4 _ _ _ .sh _ [] sm g2.wf ⟨rfl,.tup (by lia) fi ((r1.sh g1.wf e1).same g2.sh)⟩ lh (fun a h=>nomatch h) q
 |false =>
  rw[e1] at q
  cases e2:ps.all E8 with
  |false =>
   rw[e2] at q
   exact k4 _ _ _ .bo _ [] sm g2.wf ⟨rfl,.tup (by lia) fi (rl.same g2.all)⟩ lh (fun a h=>nomatch h) q
  |true =>
   rw[e2] at q
   obtain⟨Bs,sb,nz,ro⟩:=r1.ow (fl:=ps.all DF) g1.wf e2 fun z=>z
   have gV:cp (ps.map (·.2))=false:=by
    cases hf:cp (ps.map (·.2)) with
    |false=>rfl
    |true=>rw[rN hf] at e1;cases e1
   exact k4 _ _ _ (.ow _) _ Bs sm g2.wf ⟨.tup (by lia) fi gV (ro.grow g2.sh g2.all),nz e1⟩ (sb.nodup UK) (fun a ha=>g2.mS (o1 a (sb.subset ha)).1 (ro.own a ha).ne) q
end
def Zg:gy:=fun ds Q=>∃ ns:List Int,ds=[.list (ns.map .int)]/\ns.length<=63/\∀ m,Q m (.bl true)
theorem ints_rep{K:PySem.W.Frag}:∀ (ns:List Int),aI K H (ns.map .int) (ns.map V.int)
 |[]=>.nil
 |n :: ns=>.cons (.int n) (ints_rep ns)
theorem Bv{K:PySem.W.Frag}{H:Hp}{a:Addr}{ns:List Int}{E:XK}(hl:ns.length<=63)(hS:eR K H a (ns.map V.int)):ao K Zg [.ref a] H (fun v _=>v=.bl true) E:=by
 refine⟨[.list (ns.map .int)],fun _ d=>d=.bl true,.cons (.list (by rw[bS];exact gE hl (by decide)) hS (ints_rep ns)) .nil,⟨ns,rfl,hl,fun _=>rfl⟩,?_⟩
 intro v H' ai m d As s w r nd own q
 subst q
 have:=r.rep w
 cases this
 rfl
abbrev sg(x:Str):List Nat:=x.cps.toList
theorem DX(x y:Str):sg (x++y)=sg x++sg y:=by
 show(x.cps++y.cps).toList=_
 simp[sg]
theorem empty_app(x:Str):Str.empty++x=x:=y_ (by rw[<- sg,DX];rfl)
def Zh(x:Str):Prop:=∀ c∈sg x,c<0x110000
theorem G_(x:Str):PyData.strOk x=true↔Zh x:=by
 unfold PyData.strOk Zh sg
 rw[Array.all_eq_true']
 simp
theorem fy'{α:Type}(x:α)(l:List α):ft (x :: l) 0=some x:=by simp[L2.ft,mw]
theorem fz'{α:Type}(x y:α)(l:List α):ft (x :: y :: l) 1=some y:=by
 have:=L9 (xs:=x :: y :: l) (j:=1) (v:=y) rfl
 exact this
theorem fA'{α:Type}(x y z:α)(l:List α):ft (x :: y :: z :: l) 2=some z:=by
 have:=L9 (xs:=x :: y :: z :: l) (j:=2) (v:=z) rfl
 exact this
theorem Ih:Str.empty.length=0:=by decide
end L2.Q
namespace L2.Q.R
open PySem PySem.Spec PyProof.Rows L2.Q
section
variable {f:D->Prop}{k:Kt f}
theorem Nx:bX .non k=f .non:=rfl
theorem Om:bX (.bl b) k=f (.bl b):=rfl
theorem Mw:bX (.int i) k=f (.int i):=rfl
theorem Mf:bX (.str x) k=f (.str x):=rfl
theorem Ls:bX (.list xs) k=f (.list xs):=rfl
theorem Mz:bX (.tup xs) k=f (.tup xs):=rfl
theorem Od:bX (.dK xs) k=f (.dK xs):=rfl
theorem Ot:bX (.dT xs) k=f (.dT xs):=rfl
end
theorem Kc{f:Bool->Prop}{k:Kt f}:bX true k=f true:=rfl
theorem J2{f:Bool->Prop}{k:Kt f}:bX false k=f false:=rfl
theorem N_{d:D}{f:Md × D->Prop}{k:Kt f}:bX (Md.sh,d) k=f (.sh,d):=rfl
theorem Nm{b:Bool}{d:D}{f:Md × D->Prop}{k:Kt f}:bX (Md.ow b,d) k=f (.ow b,d):=rfl
theorem Oa{d:D}{f:Md × D->Prop}{k:Kt f}:bX (Md.bo,d) k=f (.bo,d):=rfl
theorem MK{d:D}{f:Option Sl->Prop}{k:Kt f}:bX (some (.sh d)) k=f (some (.sh d)):=rfl
theorem NP{b:Bool}{d:D}{f:Option Sl->Prop}{k:Kt f}:bX (some (.ow b d)) k=f (some (.ow b d)):=rfl
theorem MT{p:Md × D}{f:Option (Md × D)->Prop}{k:Kt f}:bX (some p) k=f (some p):=rfl
theorem PB{p:Bool}{f:Option Bool->Prop}{k:Kt f}:bX (some p) k=f (some p):=rfl
theorem M4{d:D}{f:Option (Option Sl)->Prop}{k:Kt f}:bX (some (some (.sh d))) k=f (some (some (.sh d))):=rfl
theorem Nz{b:Bool}{d:D}{f:Option (Option Sl)->Prop}{k:Kt f}:bX (some (some (.ow b d))) k=f (some (some (.ow b d))):=rfl
section
variable {E:qM}{ρ:Env}{Q:Md->D->Prop}{B:Bool->Prop}{t u:WS}{te ta tb tc:WE}{tt tu:WT}{tar:WA}{i j n:Nat}{m m':Md}{d d':D}{sp:gy}{p:WP}{R:List (Md × D)->Prop}
theorem Nh:cO E ρ=E.nx ρ:=rfl
theorem P0:b6 t u E ρ=t { E with nx:=u E } ρ:=rfl
theorem O4:iO te E ρ=te ρ E.rt:=rfl
theorem NZ:kW te E ρ=te ρ fun _ _=>E.nx ρ:=rfl
def put(sl:Option Sl)(k:Sl->Prop):Prop:=match sl with
 |some s=>k s
 |none=>False
theorem LC:put (some (.sh d)) k=k (.sh d):=rfl
theorem Nf:put (some (.ow b d)) k=k (.ow b d):=rfl
theorem Ow:eK i te E ρ=te ρ fun m d=>bX (asg m d) (f:=fun o=>put o fun sl=>E.nx (ρ.set i (some sl))) ⟨⟩:=rfl
theorem O8:jS tt t u E ρ=tt ρ fun b=>bX b (f:=fun b=>if b=true then t E ρ else u E ρ) ⟨⟩:=rfl
theorem Lp:pD E ρ=False:=rfl
theorem Nq:nW i E ρ=bX ρ[i]? (f:=fun o=>match o with
 |some (some (.sh d))=>E.rt .sh d
 |some (some (.ow fl d))=>E.rt (.ow fl) d
 |_=>False) ⟨⟩:=rfl
theorem Mi:yO pl E ρ=lN pl ρ fun ps=>ps.length<=sizeLine/\E.rt (tG ps) (.tup (ps.map (·.2))):=rfl
theorem Jm:lN [] ρ R=R []:=rfl
theorem J_:lN (.inl te :: r) ρ R=te ρ fun m x=>lN r ρ fun ps=>R ((m,x) :: ps):=rfl
def Zi(o:Option (Md × D))(k:Md × D->Prop):Prop:=match o with
 |some p=>k p
 |none=>False
theorem J5{p:Md × D}{k:Md × D->Prop}:Zi (some p) k=k p:=rfl
theorem Ke:lN (.inr i :: r) ρ R=bX (RZ ρ[i]?) (f:=fun o=>Zi o fun p=>lN r ρ fun ps=>R (p :: ps)) ⟨⟩:=rfl
theorem OD:fI i t E ρ=t E (N9 i ρ):=rfl
-- tests
def bol(d:D)(B:Bool->Prop):Prop:=match d with
 |.bl b=>B b
 |_=>False
theorem Mr:bol (.bl b) B=B b:=rfl
theorem wB_:wB te ρ B=te ρ fun _ x=>bX x (f:=fun x=>bol x B) ⟨⟩:=rfl
theorem Ob:sv tt ρ B=tt ρ fun c=>B (!c):=rfl
theorem Pa:RK tt tu ρ B=tt ρ fun c=>bX c (f:=fun c=>if c=true then tu ρ B else B false) ⟨⟩:=rfl
theorem fC':A6 tt tu ρ B=tt ρ fun c=>bX c (f:=fun c=>if c=true then B true else tu ρ B) ⟨⟩:=rfl
theorem Pj:xA ρ B=B true:=rfl
-- expressions
theorem Py:ae i ρ Q=bX ρ[i]? (f:=fun o=>NF o Q) ⟨⟩:=rfl
theorem K6:NF (some (some (.sh d))) Q=Q .sh d:=rfl
theorem Km:NF (some (some (.ow b d))) Q=Q .bo d:=rfl
theorem wC_:wC d ρ Q=Q .sh d:=rfl
theorem fE':av f ta tb ρ Q=ta ρ fun m x=>tb ρ fun n y=>f m x n y Q:=rfl
theorem fF':ic f ta ρ Q=ta ρ fun m x=>f m x Q:=rfl
theorem Kv:oZ f g ta tb tc ρ Q=ta ρ fun m x=>tb ρ fun n y=>f m x n y fun _ z=>bX z (f:=fun z=>bol z fun k=>bX k (f:=fun k=>if k=true then tc ρ fun l w=>g n y l w Q else Q .sh (.bl false)) ⟨⟩) ⟨⟩:=by
 unfold oZ bX bol
 rfl
theorem fG':UA tt ta tb ρ Q=tt ρ fun c=>bX c (f:=fun c=>if c=true then ta ρ Q else tb ρ Q) ⟨⟩:=rfl
theorem Nv:ak te tar ρ R=te ρ fun m x=>tar ρ fun ps=>R ((m,x) :: ps):=rfl
theorem Oi:b4 ρ R=R []:=rfl
theorem Pq:i7 tar ρ Q=tar ρ fun ps=>ps.length<=sizeLine/\Q (tG ps) (.tup (ps.map (·.2))):=rfl
theorem Oq:sT tar ρ Q=tar ρ fun ps=>ps.length<=sizeLine/\Q (Hm ps) (.list (ps.map (·.2))):=rfl
theorem Mt:aK sp tar ρ Q=tar ρ fun ps=>sp (ps.map (·.2)) fun m d=>bX (m,d) (f:=fun p=>Q (DI p.1 p.2) p.2) ⟨⟩:=rfl
-- operators
section
variable {x y:Str}{a b:Int}{xs ys:List D}{kvs:List (Key × D)}{A8:List (List Key × D)}
theorem Lr:kD m (.int a) m' (.int b) Q=Q .sh (.int (a+b)):=rfl
theorem Kq:kD m (.str x) m' (.str y) Q=(x.length+y.length<=sizeLine/\Q .sh (.str (x++y))):=rfl
theorem Ko:kD m (.list xs) m' (.list ys) Q=(xs.length+ys.length<=sizeLine/\((cp xs=true/\cp ys=true/\Q (.ow true) (.list (xs++ys)))\/(m=.sh/\m'=.sh/\Q (.ow false) (.list (xs++ys))))):=rfl
theorem Ln:kD m (.tup xs) m' (.tup ys) Q=(xs≠[]/\xs.length+ys.length<=sizeLine/\cp xs=true/\cp ys=true/\Q .sh (.tup (xs++ys))):=rfl
theorem Kz:IL m (.int a) m' (.int b) Q=Q .sh (.int (a-b)):=rfl
theorem J9:NJ m (.int a) m' (.int b) Q=(EH a b/\Q .sh (.int (a*b))):=rfl
theorem K8:ng m (.int a) m' (.int b) Q=((0<b/\b<1073741824)/\Q .sh (.int (a / b))):=rfl
theorem KR:iN m (.int a) m' (.int b) Q=(0<b/\Q .sh (.int (a % b))):=rfl
theorem Mj:NM m (.int a) m' (.int b) Q=Q .sh (.bl (decide (a<b))):=rfl
theorem NQ:NM m (.str x) m' (.str y) Q=Q .sh (.bl (oB x y)):=rfl
theorem Nu:IQ m (.int a) m' (.int b) Q=Q .sh (.bl (decide (a<=b))):=rfl
theorem Lz:IQ m (.str x) m' (.str y) Q=Q .sh (.bl (!oB y x)):=rfl
theorem Mg:NR m (.int a) m' (.int b) Q=Q .sh (.bl (decide (b<a))):=rfl
theorem M_:sR m (.int a) m' (.int b) Q=Q .sh (.bl (decide (a=b))):=rfl
theorem MN:sR m (.str x) m' (.str y) Q=Q .sh (.bl (decide (x=y))):=rfl
theorem N6:sR m (.bl k) m' (.bl l) Q=Q .sh (.bl (decide (k=l))):=rfl
theorem Ov:sR m (.list xs) m' d Q=(cx 12 (.list xs)=true/\cx 12 d=true/\Q .sh (.bl (hX (.list xs) d))):=by cases d<;>rfl
theorem Pb:sR m (.tup xs) m' d Q=(cx 12 (.tup xs)=true/\cx 12 d=true/\Q .sh (.bl (hX (.tup xs) d))):=by cases d<;>rfl
theorem Pz:sR m .non m' d Q=(cx 12 .non=true/\cx 12 d=true/\Q .sh (.bl (hX .non d))):=by cases d<;>rfl
theorem Ly:A7 m (.int a) m' (.int b) Q=Q .sh (.bl (!decide (a=b))):=rfl
theorem M5:A7 m (.str x) m' (.str y) Q=Q .sh (.bl (!decide (x=y))):=rfl
theorem P_:A7 m (.list xs) m' d Q=(cx 12 (.list xs)=true/\cx 12 d=true/\Q .sh (.bl (!hX (.list xs) d))):=by cases d<;>rfl
theorem PX:A7 m (.tup xs) m' d Q=(cx 12 (.tup xs)=true/\cx 12 d=true/\Q .sh (.bl (!hX (.tup xs) d))):=by cases d<;>rfl
theorem Ox:A7 m .non m' d Q=(cx 12 .non=true/\cx 12 d=true/\Q .sh (.bl (!hX .non d))):=by cases d<;>rfl
theorem Oz:IU m d m' .non Q=Q .sh (.bl d.E7):=rfl
theorem Ni:Gw m d m' .non Q=Q .sh (.bl (!d.E7)):=rfl
theorem Oe:vT neg m (.str x) m' (.str y) Q=Q .sh (.bl (if neg then !zS x y else zS x y)):=rfl
theorem Pg:vT neg m d m' (.list ys) Q=(gZ d=true/\ys.all gZ=true/\Q .sh (.bl (if neg then !inD d ys else inD d ys))):=rfl
theorem O3:vT neg m d m' (.tup ys) Q=(gZ d=true/\ys.all gZ=true/\Q .sh (.bl (if neg then !inD d ys else inD d ys))):=rfl
theorem Px:vT neg m d m' (.dK kvs) Q = ∃ k,d.key1=some k/\Q .sh (.bl (if neg then !(dz kvs k).isSome else (dz kvs k).isSome)):=rfl
theorem Oj:vT neg m (.tup xs) m' (.dT A8) Q = ∃ ks,fj xs=some ks/\Q .sh (.bl (if neg then !(dz A8 ks).isSome else (dz A8 ks).isSome)):=rfl
theorem PN:NS m (.int a) Q=Q .sh (.int (-a)):=rfl
theorem PL:dv m (.list xs) m' (.int a) Q = ∃ d,ft xs a=some d/\bX d (f:=fun d=>Q (mh m d) d) ⟨⟩:=rfl
theorem Ol:dv m (.tup xs) m' (.int a) Q = ∃ d,ft xs a=some d/\bX d (f:=fun d=>Q (mh m d) d) ⟨⟩:=rfl
theorem O_:dv m (.str x) m' (.int a) Q = ∃ c,ft x.cps.toList a=some c/\Q .sh (.str ⟨#[c]⟩):=rfl
theorem Qf:dv m (.dK kvs) m' d Q = ∃ k d',d.key1=some k/\dz kvs k=some d'/\bX d' (f:=fun d'=>Q (mh m d') d') ⟨⟩:=rfl
theorem Qe:dv m (.dT A8) m' (.tup ys) Q = ∃ ks d',fj ys=some ks/\dz A8 ks=some d'/\bX d' (f:=fun d'=>Q (mh m d') d') ⟨⟩:=rfl
theorem Ml:qf m (.str x) Q=Q .sh (.int x.length):=rfl
theorem Nr:qf m (.list xs) Q=Q .sh (.int xs.length):=rfl
theorem L_:qf m (.tup xs) Q=Q .sh (.int xs.length):=rfl
theorem Ng:qf m (.dK kvs) Q=Q .sh (.int kvs.length):=rfl
theorem M6:qf m (.dT A8) Q=Q .sh (.int A8.length):=rfl
theorem O6{T:String}:UD T m d Q=Q .sh (.bl (IB d.ty T)):=rfl
theorem Lk:uC m (.list xs) Q=((cp xs=true/\Q (.ow true) (.list xs))\/(m=.sh/\Q (.ow false) (.list xs))):=rfl
theorem Lh:uC m (.tup xs) Q=((cp xs=true/\Q (.ow true) (.list xs))\/(m=.sh/\Q (.ow false) (.list xs))):=rfl
theorem KY:uC m (.dT A8) Q=Q (.ow true) (.list (A8.map fun kv=>.tup (kv.1.map kS))):=rfl
theorem fH':NW te tl th ρ Q=te ρ fun m x=>tl ρ fun lo=>th ρ fun hi=>NV m x lo hi Q:=rfl
theorem J3:pM ρ O=O none:=rfl
def int'(d:D)(k:Int->Prop):Prop:=match d with
 |.int i=>k i
 |_=>False
theorem Ms:int' (.int a) k=k a:=rfl
theorem M9:uI te ρ O=te ρ fun _ x=>bX x (f:=fun x=>int' x fun i=>O (some i)) ⟨⟩:=by unfold uI bX int';rfl
theorem Ph{lo hi:Option Int}:NV m (.str x) lo hi Q=Q .sh (.str (rq x lo hi)):=rfl
theorem Pn{lo hi:Option Int}:NV m (.list xs) lo hi Q=((cp xs=true/\Q (.ow true) (.list (jI xs lo hi)))\/(m=.sh/\Q (.ow false) (.list (jI xs lo hi)))):=rfl
theorem Qg{lo hi:Option Int}:NV m (.tup xs) lo hi Q=(cp xs=true/\¬ (HT.bP xs.length 0 lo=0/\HT.bP xs.length xs.length hi=xs.length)/\Q .sh (.tup (jI xs lo hi))):=rfl
end
-- texts
def UL(d:D)(k:Str->Prop):Prop:=match d with
 |.str x=>k x
 |_=>False
theorem Mu:UL (.str x) k=k x:=rfl
def yA(d:D)(k:List D->Prop):Prop:=match d with
 |.list x=>k x
 |_=>False
theorem Kg:yA (.list x) k=k x:=rfl
-- places
theorem fI'{P:Bool->D->(Bool->D->Env)->Prop}:xB i ρ P=bX ρ[i]? (f:=fun o=>match o with
 |some (some (.ow fl d))=>P fl d fun fl2 d2=>ρ.set i (some (.ow fl2 d2))
 |_=>False) ⟨⟩:=rfl
def UM(o:Option Bool)(k:Bool->Prop):Prop:=match o with
 |some b=>k b
 |none=>False
theorem J0:UM (some b) k=k b:=rfl
theorem Qc:Jn p te E ρ=p ρ fun fl d up=>bX d (f:=fun d=>yA d fun xs=>te ρ fun m x=>xs.length<sizeLine/\bX (pJ fl m x) (f:=fun o=>UM o fun fl2=>E.nx (up fl2 (.list (xs++[x])))) ⟨⟩) ⟨⟩:=by unfold Jn bX yA UM;rfl
theorem KZ:jX ρ Q=Q (.ow true) (.dT []):=rfl
def dct(d y:D)(k1:List (Key × D)->Prop)(k2:List (List Key × D)->List D->Prop):Prop:=match d with
 |.dK kvs=>k1 kvs
 |.dT kvs=>match y with
  |.tup ys=>k2 kvs ys
  |_=>False
 |_=>False
theorem Oc:dct (.dK kvs) y k1 k2=k1 kvs:=rfl
theorem O5:dct (.dT kvs) (.tup ys) k1 k2=k2 kvs ys:=rfl
theorem LR:uF p tk tv E ρ=tv ρ fun _ x=>p ρ fun fl d up=>tk ρ fun _ y=>x.flat=true/\bX d (f:=fun d=>dct d y (fun kvs=>∃ k,y.key1=some k/\kvs.length<sizeLine/\E.nx (up fl (.dK (lT kvs k x)))) (fun kvs ys=>∃ ks,fj ys=some ks/\kvs.length<sizeLine/\E.nx (up fl (.dT (lT kvs ks x))))) ⟨⟩:=by
 unfold uF bX dct
 rfl
-- loops
variable {LQ:List D->Prop}
theorem Oo:oa wi g b E ρ=wi ρ fun ds=>jy g b E ds ρ:=rfl
theorem Kf:d_ te ρ LQ=te ρ fun m d=>oh m/\bX d (f:=fun d=>yA d LQ) ⟨⟩:=by unfold d_ bX yA;rfl
def OO(d:D)(k:List D->Prop):Prop:=match d with
 |.tup x=>k x
 |_=>False
theorem Nt:OO (.tup x) k=k x:=rfl
theorem MF:De te ρ LQ=te ρ fun m d=>oh m/\bX d (f:=fun d=>OO d LQ) ⟨⟩:=by unfold De bX OO;rfl
theorem NK:Ce te ρ LQ=te ρ fun _ d=>bX d (f:=fun d=>UL d fun z=>LQ (UE z)) ⟨⟩:=by unfold Ce bX UL;rfl
theorem Kr:il te ρ LQ=te ρ fun _ d=>bX d (f:=fun d=>int' d fun j=>j<=16777216/\-(2 ^ 62)<=j/\LQ (lH 0 j.toNat)) ⟨⟩:=by unfold il bX int';rfl
theorem J4:oh .sh=True:=rfl
theorem J7:oh (.ow b)=True:=rfl
theorem J1:oh .bo=False:=rfl
theorem gN_:gN i d ρ N=N (ρ.set i (some (.sh d))):=rfl
theorem gT_:gT n gs d ρ N=bX d (f:=fun d=>OO d fun ds=>ds.length=n/\gs ds ρ N) ⟨⟩:=by unfold gT bX OO;rfl
theorem N8:bu g gs (d :: ds) ρ N=g d ρ fun aT=>gs ds aT N:=rfl
theorem O9:jH [] ρ N=N ρ:=by simp[jH]
theorem M3:iC wi g tt te tn ix ρ Q=wi ρ fun ds=>iB g tt te ds (Gx tn ix ρ) fun out=>Q (.ow true) (.list out):=rfl
end
theorem B{c:Bool}{f:Bool->Prop}{k:Kt f}(h1:c=true->f true)(h2:c=false->f false):bX c k:=by
 cases c with
 |true=>exact h1 rfl
 |false=>exact h2 rfl
theorem D{p:Prop}[Decidable p]{f:Bool->Prop}{k:Kt f}(h1:p->f true)(h2:¬ p->f false):bX (decide p) k :=
 B (fun h=>h1 (of_decide_eq_true h)) fun h=>h2 (of_decide_eq_false h)
theorem T{c:Bool}{f:Bool->Prop}{k:Kt f}(h:c=true)(h1:f true):bX c k:=by subst h;exact h1
theorem F{c:Bool}{f:Bool->Prop}{k:Kt f}(h:c=false)(h1:f false):bX c k:=by subst h;exact h1
end L2.Q.R
namespace L2
open PySem PySem.Spec PyProof.Rows
end L2
namespace L2.Q
open PySem PySem.Spec PyProof.Rows
section
variable {K:PySem.W.Frag}{e:Expr}{p:Pos}
def Mm:W1:=fun _ x Q=>match x with
 |.list xs=>∃ ks b,xs=ks.map kS/\ks.length<=63/\(∀ k∈ks,n5 k=b)/\∀ ms:List Key,ms.Perm ks->(ms.Pairwise fun a b=>oI b a=false)->Q (.ow true) (.list (ms.map kS))
 |.dK kvs=>∃ b,kvs.length<=63/\(∀ p∈kvs,n5 p.1=b)/\∀ ms:List Key,ms.Perm (kvs.map (·.1))->(ms.Pairwise fun a b=>oI b a=false)->Q (.ow true) (.list (ms.map kS))
 |_=>False
section
variable {Hs H:Hp}{fl:Bool}
theorem az.erase{ds:List D}{vs:List V}{As:List Addr}(k:Nat)(r:az K Hs H fl ds vs As):∃ Bs,Bs.Sublist As/\az K Hs H fl (ds.eraseIdx k) (vs.eraseIdx k) Bs:=by
 induction ds generalizing vs As k with
 |nil =>
  obtain⟨rfl,rfl⟩:=r.n0
  exact⟨[],List.Sublist.refl _,.nil⟩
 |cons d ds ih =>
  obtain⟨u,us,A,B,rfl,rfl,r,rs⟩:=r.c
  cases k with
  |zero=>exact⟨B,om _ _,rs⟩
  |succ k =>
   obtain⟨C,sb,q⟩:=ih k rs
   exact⟨A++C,sb.append_left _,.cons r q⟩
theorem az.fL'{ds:List D}{vs:List V}{As:List Addr}{k:Nat}{d:D}(r:az K Hs H fl ds vs As)(e:ds[k]? = some d)(hf:d.flat=true)(w:Wf Hs H):∃ v,vs[k]? = some v/\Rep K Hs d v:=by
 induction ds generalizing vs As k with
 |nil=>simp at e
 |cons x ds ih =>
  obtain⟨u,us,A,B,rfl,rfl,r,rs⟩:=r.c
  cases k with
  |zero =>
   simp at e
   subst e
   exact⟨_,rfl,(r.rep w.sub fun _ _=>rfl).eZ w.ib hf⟩
  |succ k=>exact ih (k:=k) rs (by simpa using e)
end
end
abbrev WIL:=Env->(List D->Prop)->Prop
section
variable {X:Cx}{K:PySem.W.Frag}
theorem gR{i:Nat}{x:Str}{tg iter elt:Expr}{ifs:List Expr}{scope:Scope}{pos pos' Rp:Pos}{wi:WI}{g:WG}{tc:WT}{te:WE}{tn cn:List Str}{ix:List Nat}(hN:X.N.Nodup)(AZ:X.N[i]? = some x)(hx:Loc X.env.scope x)(hc:X.calm=true)
  (hi:RN X K tg iter wi) (O:cL X scope tn cn ix)
  (hg:∀ C fp gS iq,QG (bf X scope C (tn++cn) fp gS iq) K tg g) (xa:∀ C fp gS iq,RT (bf X scope C (tn++cn) fp gS iq) K ifs tc) (he:∀ C fp gS iq,QE (bf X scope C (tn++cn) fp gS iq) K elt te)
  (Ud:swapsWith (.ListComp elt [⟨tg,iter,ifs,0⟩] scope pos) (some (.Name x pos')) Rp.line X.env=pure true:=by rfl)
  (hs:∀ x,foldedSetIterable iter X.env x=pure x:=by intro _;rfl) (hf:X.fn x=true\/X.env.scope.names.lookup x=some .local:=by first|exact .inl rfl|exact .inr rfl|assumption) :
  QS X K L (.Assign [.Name x pos'] (.ListComp elt [⟨tg,iter,ifs,0⟩] scope pos) Rp) (eK i (iC wi g tc te tn.length ix)) :=
 PS.imp (xq hN AZ hx hc hi O hg xa he Ud hs hf) fun D σ H hx=>dW hx fun Hs ρ ag E sr h k1 k2 k3 k4=>by
  refine rP ⟨Hs,ρ,ag,_,sr,h,fun v H1 aE m d As g1 r1 f1 q1=>?_⟩
  have q1:match asg m d with
   |some sl=>E.nx (ρ.set i (some sl))
   |none=>False:=q1
  cases e:asg m d with
  |none=>rw[e] at q1;exact q1.elim
  |some sl =>
   rw[e] at q1
   obtain⟨bT,s'⟩:=(sr.grow g1).set i r1 f1.1 (fun a ha=>⟨(f1.2 a ha).1,fun m=>(sr.sr.own a m).ne (f1.2 a ha).2⟩) e
   exact k1 _ H1 aE _ bT g1.sh s' q1
end
end L2.Q
namespace L2.Q.R
open PySem PySem.Spec PyProof.Rows L2.Q
section
variable {ρ:Env}{Q:Md->L2.Q.D->Prop}{te:WE}{i:Nat}{d:L2.Q.D}{p:WP}{a:Addr}{b:Bool}{LQ:List L2.Q.D->Prop}
theorem N5{f:Option Sl->Prop}{k:Kt f}:bX (some (.lk a b d)) k=f (some (.lk a b d)):=rfl
theorem MP{f:Option (Option Sl)->Prop}{k:Kt f}:bX (some (some (.lk a b d))) k=f (some (some (.lk a b d))):=rfl
theorem KQ:NF (some (some (.lk a b d))) Q=Q .bo d:=rfl
def fM'(o:Option (Option Sl))(k:Bool->L2.Q.D->Prop):Prop:=match o with
 |some (some (.ow fl d))=>k fl d
 |_=>False
theorem K7:fM' (some (some (.ow b d))) k=k b d:=rfl
theorem K9:iy te ρ LQ=te ρ fun _ d=>bX d (f:=fun d=>yA d LQ) ⟨⟩:=by unfold iy bX yA;rfl
def wpAt(d:L2.Q.D)(i:Int)(P:Bool->L2.Q.D->(Bool->L2.Q.D->Env)->Prop)(up:Bool->L2.Q.D->Env):Prop:=match d with
 |.list ds=>∃ j d',mw ds.length i=some j/\ds[j]? = some d'/\d'.flat=false/\bX d' (f:=fun d'=>P true d' fun fl2 d2=>up fl2 (.list (ds.set j d2))) ⟨⟩
 |.tup ds=>∃ j d',mw ds.length i=some j/\ds[j]? = some d'/\d'.flat=false/\bX d' (f:=fun d'=>P true d' fun fl2 d2=>up fl2 (.tup (ds.set j d2))) ⟨⟩
 |_=>False
section
variable {P:Bool->L2.Q.D->(Bool->L2.Q.D->Env)->Prop}{up:Bool->L2.Q.D->Env}{ds:List L2.Q.D}{j:Int}
theorem N7:wpAt (.list ds) j P up = ∃ k d',mw ds.length j=some k/\ds[k]? = some d'/\d'.flat=false/\bX d' (f:=fun d'=>P true d' fun fl2 d2=>up fl2 (.list (ds.set k d2))) ⟨⟩:=rfl
theorem Mq:wpAt (.tup ds) j P up = ∃ k d',mw ds.length j=some k/\ds[k]? = some d'/\d'.flat=false/\bX d' (f:=fun d'=>P true d' fun fl2 d2=>up fl2 (.tup (ds.set k d2))) ⟨⟩:=rfl
theorem Pk:RW p te ρ P=p ρ fun fl d up=>te ρ fun _ y=>fl=true/\bX y (f:=fun y=>int' y fun i=>bX d (f:=fun d=>wpAt d i P up) ⟨⟩) ⟨⟩:=by
 unfold RW bX int' wpAt
 rfl
end
end
end L2.Q.R
namespace L2
open PySem PySem.Spec PyProof.Rows Builtin Builtin.Str Builtin.Int
def og(n:Int)(z:Str):Str:=⟨(List.replicate n.toNat z.cps.toList).flatten.toArray⟩
theorem pB(xs:Array Nat):∀ (k:Nat) (acc:Array Nat),(List.replicate k xs).foldl (· ++ ·) acc=acc++(List.replicate k xs.toList).flatten.toArray
 |0,acc=>by simp
 |k+1,acc=>by
  rw[xD,List.foldl_cons,pB xs k,xD,AH]
  apply Array.ext'
  simp
theorem Hn(h:1<=n):Txt.mul z n=og n z:=by
 unfold Txt.mul og
 rw[if_neg (by lia)]
 by_cases h1:n=1
 ·subst h1
  simp
 ·by_cases h0:z.length=0
  ·have hz:z.cps = #[]:=Array.eq_empty_of_size_eq_zero h0
   rw[if_pos (by simp[h0])]
   obtain⟨c⟩:=z
   cases hz
   simp
  ·rw[if_neg (by simp[h1,h0]),pB]
   simp
def JM:R2:=fun x y H Q=>match x,y with
 |.int n,.str z=>(1<=n/\n<=100/\z.length<=100)/\Q (.str (og n z)) H
 |_,_=>False
end L2
namespace L2
open PySem PySem.Spec PyProof.Rows
end L2
namespace L2.Q
open PySem PySem.Spec PyProof.Rows
section
variable {K:PySem.W.Frag}{b:Expr}{x:Str}
def UN:W1:=fun _ x Q=>match x with
 |.list xs=>∃ bs:List Bool,xs=bs.map D.bl/\Q .sh (.bl (bs.all (fun b=>b)))
 |_=>False
theorem Er{H:Hp}{bs:List Bool}{vs:List V}(r:aI K H (bs.map D.bl) vs):vs=bs.map V.bl:=by
 induction bs generalizing vs with
 |nil=>exact r.n0
 |cons b bs ih =>
  obtain⟨u,us,rfl,r1,rs⟩:=aI.c (d:=D.bl b) r
  cases r1
  rw[ih rs];rfl
theorem Jl:An K (Rx K) UN:=by
 intro Hs H m x v As Qd Qv w rx h f
 have r1:=rx.rep w
 cases r1 with
 |list z s q =>
  obtain⟨bs,rfl,h⟩:=h
  cases Er q
  exact⟨bs,s,f.sh w (.bl _) h⟩
 |_=>exact h.elim
theorem qK(n:Int)(z:Str):(og n z).length=n.toNat*z.length:=by
 unfold og Str.length
 rw[h9,len_rep,tT]
end
end L2.Q
namespace L2.Q.R
open PySem PySem.Spec PyProof.Rows L2.Q
section
variable {Q:Md->L2.Q.D->Prop}{m:Md}{xs:List L2.Q.D}{b:Int}
theorem OJ:UN m (.list xs) Q = ∃ bs:List Bool,xs=bs.map L2.Q.D.bl/\Q .sh (.bl (bs.all (fun b=>b))):=rfl
end
end L2.Q.R
namespace L2.Q
open PySem PySem.Spec PyProof.Rows
theorem lJ(O:Nat->List D->Prop)(Iv:Env->Prop):∀ (xs:List D) (i:Nat) (pre:List D) (ρ:Env) (k:List D->Prop),Iv ρ->O i pre ->
  (∀ j x,xs[j]? = some x->∀ ρ,Iv ρ->∀ out,O (i+j) out->∀ N1:Env->Prop,∀ N2:Env->D->Prop,(∀ aT d,Iv aT->O (i+j+1) (out++[d])->N2 aT d)->g x ρ fun n9=>tc n9 fun b=>if b=true then te n9 fun m d=>RP m d/\N2 n9 d else N1 n9) ->
  (∀ out,O (i+xs.length) (pre++out)->k out)->iB g tc te xs ρ k
 |[],i,pre,_,k,_,h0,_,h=>h [] (by simpa using h0)
 |x :: xs,i,pre,ρ,k,iv,h0,hs,h=>by
  refine hs 0 x rfl ρ iv pre h0 _ _ (fun aT d OG o'=>?_)
  refine lJ O Iv xs (i+1) (pre++[d]) aT _ OG o' (fun j y hy ρ iv out ho=>?_) fun out ho=>?_
  ·have:=hs (j+1) y (by simpa using hy) ρ iv out (by rwa[show i+(j+1)=i+1+j by lia])
   rwa[show i+(j+1)+1=i+1+j+1 by lia] at this
  ·refine h (d :: out) ?_
   rw[Lv] at ho
   rwa[pS,show i+(xs.length+1)=i+1+xs.length by lia]
end L2.Q
namespace TS
open PySem PySem.SetTable
def fk:Nat->Nat->Nat
 |0,s=>s
 |k+1,s=>5*fk k s+1
theorem Il(a b s:Nat):fk (a+b) s=fk b (fk a s):=by
 induction b with
 |zero=>rfl
 |succ b ih=>show 5*fk (a+b) s+1=5*fk b (fk a s)+1;rw[ih]
theorem Ah(n s:Nat):4*fk n s+1=5 ^ n*(4*s+1):=by
 induction n with
 |zero=>simp[fk]
 |succ n ih =>
  show 4*(5*fk n s+1)+1=5 ^ (n+1)*(4*s+1)
  rw[zo,Qy (5 ^ n) 5,GU,<- ih];lia
theorem Dc(m:Nat):∃ q,5 ^ 2 ^ m=1+2 ^ (m+2)*q/\q % 2=1:=by
 induction m with
 |zero=>exact⟨1,by decide,by decide⟩
 |succ m ih =>
  obtain⟨q,e,o⟩:=ih
  refine⟨q+2 ^ (m+1)*(q*q),?_,?_⟩
  ·have hp:5 ^ 2 ^ (m+1)=(5 ^ 2 ^ m) ^ 2:=by rw[zo 2 m,Nat.pow_mul]
   rw[hp,e]
   clear e hp
   have e1:2 ^ (m+1+2)=2*2 ^ (m+2):=by rw[show m+1+2=(m+2)+1 by exact Nat.add_assoc ..,zo];lia
   have e2:2 ^ (m+2)=2*2 ^ (m+1):=by rw[show m+2=(m+1)+1 by rfl,zo];lia
   rw[e1,e2]
   generalize 2 ^ (m+1)=y
   rw[Nat.pow_two]
   simp only[Nat.mul_add,Nat.add_mul,Nat.one_mul,Nat.mul_one]
   have a1:2*y*q*(2*y*q)=2*(2*y)*(y*(q*q)):=by
    simp only[GU,Nat.mul_left_comm,Qy]
   have a2:2*(2*y)*q=2*y*q+2*y*q:=by
    rw[GU 2 (2*y) q];lia
   rw[a1,a2];lia
  ·have:2 ^ (m+1)*(q*q) % 2=0:=by
    rw[zo,Qy (2 ^ m) 2,GU,Nat.mul_mod_right]
   lia
theorem F_(m x:Nat):∃ r,fk (2 ^ m) x=x+2 ^ m*r/\r % 2=1:=by
 obtain⟨q,e,o⟩:=Dc m
 have c:=Ah (2 ^ m) x
 rw[e] at c
 refine⟨q*(4*x+1),?_,?_⟩
 ·have e2:2 ^ (m+2)=4*2 ^ m:=by rw[Nat.pow_add];lia
  rw[e2,Nat.add_mul,Nat.one_mul,GU,GU] at c
  lia
 ·rw[Nat.mul_mod,o,Nat.one_mul];lia
theorem Je(m s e:Nat):∃ k,k+1<=2 ^ m/\fk k s % 2 ^ m=e % 2 ^ m:=by
 induction m with
 |zero=>exact⟨0,by decide,by simp[Nat.mod_one]⟩
 |succ m ih =>
  obtain⟨k,hk,h⟩:=ih
  have hp:2 ^ (m+1)=2 ^ m*2:=zo ..
  have fN':0<2 ^ m:=Nat.pow_pos (by decide)
  have key:∀ a:Nat,a % (2 ^ m*2)=a % 2 ^ m+2 ^ m*(a / 2 ^ m % 2):=fun a=>Nat.mod_mul
  by_cases c:fk k s / 2 ^ m % 2=e / 2 ^ m % 2
  ·exact⟨k,by walk_at "s4",by rw[hp,key,key,h,c]⟩
  ·refine⟨k+2 ^ m,by lia,?_⟩
   obtain⟨r,er,ro⟩:=F_ m (fk k s)
   rw[Il,er,hp,key,key,Nat.add_mul_mod_self_left,h,Nat.add_mul_div_left _ _ fN']
   have:(fk k s / 2 ^ m+r) % 2=e / 2 ^ m % 2:=by lia
   rw[this]
def qk(M:Nat)(p:Probe):Probe :=
 if p.more>0 then { p with j:=p.j+1,more:=p.more-1 } else
 { p with j:=(leap M p.i p.perturb).1,more:=runEnd M (leap M p.i p.perturb).1-(leap M p.i p.perturb).1,i:=(leap M p.i p.perturb).1,perturb:=(leap M p.i p.perturb).2 }
def ps(M:Nat)(h:Int):Nat->Probe
 |0=>{ j:=bits h % (M+1),more:=runEnd M (bits h % (M+1))-bits h % (M+1),i:=bits h % (M+1),perturb:=bits h,dummy:=none }
 |n+1=>qk M (ps M h n)
def J(M:Nat)(h:Int)(n:Nat):Nat:=(ps M h n).j
theorem wZ(h:i<=M):i<=runEnd M i/\runEnd M i<=M/\runEnd M i<=i+9:=by
 unfold runEnd;split<;>lia
theorem Hq(M:Nat)(h:Int):∀ n,(ps M h n).i<=M/\(ps M h n).j+(ps M h n).more<=M/\(ps M h n).dummy=none/\(ps M h n).more<=9
 |0=>by
  have h0:bits h % (M+1)<=M:=LJ (GW _ (D8 _))
  have:=wZ h0
  exact⟨h0,by show bits h % (M+1)+(runEnd M (bits h % (M+1))-bits h % (M+1))<=M;lia,rfl,by show runEnd M (bits h % (M+1))-bits h % (M+1)<=9;lia⟩
 |n+1=>by
  obtain⟨a,b,c,d⟩:=Hq M h n
  show(qk M (ps M h n)).i<=M/\_/\(qk M (ps M h n)).dummy=none/\_
  unfold qk
  by_cases hm:(ps M h n).more>0
  ·simp only[hm,if_true]
   show _/\(qk M (ps M h n)).j+(qk M (ps M h n)).more<=M/\_/\(qk M (ps M h n)).more<=9
   simp only[qk,hm,if_true]
   exact⟨a,by lia,c,by walk_at "s4"⟩
  ·simp only[hm,if_false]
   show _/\(qk M (ps M h n)).j+(qk M (ps M h n)).more<=M/\_/\(qk M (ps M h n)).more<=9
   simp only[qk,hm,if_false]
   have h0:(leap M (ps M h n).i (ps M h n).perturb).1<=M:=LJ (GW _ (D8 _))
   have:=wZ h0
   exact⟨h0,by lia,c,by lia⟩
theorem R1(M:Nat)(h:Int)(n:Nat):J M h n<=M:=by
 have:=Hq M h n
 unfold J;lia
theorem yF(M:Nat)(h:Int)(n:Nat):∀ r,r<=(ps M h n).more->ps M h (n+r)={ ps M h n with j:=(ps M h n).j+r,more:=(ps M h n).more-r }
 |0,_=>rfl
 |r+1,hr=>by
  show qk M (ps M h (n+r))=_
  rw[yF M h n r (by exact pT ‹_›)]
  unfold qk
  rw[if_pos (show(ps M h n).more-r>0 by lia)]
  simp only[Probe.mk.injEq,true_and,and_true]
  walk_at "s1"
def lp(M:Nat)(h:Int):Nat->Nat × Nat
 |0=>(bits h % (M+1),bits h)
 |k+1=>leap M (lp M h k).1 (lp M h k).2
def kc(M:Nat)(h:Int):Nat->Nat
 |0=>0
 |k+1=>kc M h k+(runEnd M (lp M h k).1-(lp M h k).1)+1
theorem Ew(M:Nat)(h:Int):∀ k,(lp M h k).1<=M
 |0=>LJ (GW _ (D8 _))
 |k+1=>LJ (GW _ (D8 _))
theorem zb(M:Nat)(h:Int):∀ k,kc M h k<=10*k
 |0=>ck _
 |k+1=>by
  have:=zb M h k
  have:=wZ (Ew M h k)
  show kc M h k+_+1<=_;lia
theorem wD(M:Nat)(h:Int):∀ k,ps M h (kc M h k)={ j:=(lp M h k).1,more:=runEnd M (lp M h k).1-(lp M h k).1,i:=(lp M h k).1,perturb:=(lp M h k).2,dummy:=none }
 |0=>rfl
 |k+1=>by
  have ih:=wD M h k
  have e:=yF M h (kc M h k) (runEnd M (lp M h k).1-(lp M h k).1) (by rw[ih];exact ck _)
  show qk M (ps M h (kc M h k+(runEnd M (lp M h k).1-(lp M h k).1)))=_
  rw[e,ih]
  unfold qk
  rw[if_neg (by simp)]
  rfl
theorem Eh(M:Nat)(h:Int):∀ k,(lp M h k).2=bits h / 32 ^ k
 |0=>by simp[lp]
 |k+1=>by
  show(lp M h k).2 / 32=_
  rw[Eh M h k,Nat.div_div_eq_div_mul,zo]
theorem Gf(h:Int):bits h<2 ^ 64:=by
 unfold bits
 have h1:=QD h (show(2 ^ 64:Int)≠0 by decide)
 have h2:=QC h (show(0:Int)<2 ^ 64 by decide)
 lia
theorem Ac(M:Nat)(h:Int):∀ k,(lp M h (13+k)).1 % (M+1)=fk k (lp M h 13).1 % (M+1)
 |0=>rfl
 |k+1=>by
  have e:(lp M h (13+k)).2=0:=by
   rw[Eh]
   refine Nat.div_eq_of_lt (nI (Gf h) ?_)
   exact gE (by decide:2 ^ 64<=32 ^ 13) (Nat.pow_le_pow_right (by decide) (by exact Qw _ _))
  show(leap M (lp M h (13+k)).1 (lp M h (13+k)).2).1 % (M+1)=_
  unfold leap
  rw[e]
  show((lp M h (13+k)).1*5+1+0 / 32) % (M+1) % (M+1)=(5*fk k (lp M h 13).1+1) % (M+1)
  rw[Nat.mod_mod,Nat.zero_div,Qx,Nat.add_mod,Nat.mul_mod,Ac M h k,<- Nat.mul_mod,<- Nat.add_mod,Qy]
theorem cover(hM:M+1=2 ^ m)(h:Int)(he:e<=M):∃ k,k<=M+13/\(lp M h k).1=e:=by
 obtain⟨k,hk,q⟩:=Je m (lp M h 13).1 e
 rw[<- hM] at hk q
 refine⟨13+k,by lia,?_⟩
 have:=Ac M h k
 rw[q] at this
 rwa[Nat.mod_eq_of_lt (AO (Ew M h _)),Nat.mod_eq_of_lt (AO he)] at this
theorem JG(M:Nat)(h:Int)(k:Nat):J M h (kc M h k)=(lp M h k).1:=by unfold J;rw[wD]
theorem pq(hM:M+1=2 ^ m)(h:Int)(i9:Nat->Bool)(he:e<=M)(hf:i9 e=false):∃ n,n<=10*(M+13)/\i9 (J M h n)=false/\∀ k<n,i9 (J M h k)=true:=by
 obtain⟨k,hk,q⟩:=cover hM h he
 have hb:=zb M h k
 have hB:i9 (J M h (kc M h k))=false:=by rw[JG,q];exact hf
 generalize kc M h k=b at hb hB
 have go:∀ b,i9 (J M h b)=false->∃ n,n<=b/\i9 (J M h n)=false/\∀ k<n,i9 (J M h k)=true:=by
  intro b
  induction b using Nat.strongRecOn with
  |ind b ih =>
   intro hB
   by_cases c:∃ k,k<b/\i9 (J M h k)=false
   ·obtain⟨k,h1,h2⟩:=c
    obtain⟨n,a1,a2,a3⟩:=ih k h1 h2
    exact⟨n,by lia,a2,a3⟩
   ·refine⟨b,ck _,hB,fun k hk=>?_⟩
    cases z:i9 (J M h k) with
    |true=>rfl
    |false=>exact absurd ⟨k,hk,z⟩ c
 obtain⟨n,a1,a2,a3⟩:=go b hB
 exact⟨n,by lia,a2,a3⟩
def Up(xs:Array Nat):Prop:=∀ i j:Nat,i<j->j<xs.size->xs.getD i 0<xs.getD j 0
theorem wO{xs:Array Nat}{i d d':Nat}(h:i<xs.size):xs.getD i d=xs.getD i d':=by simp[Array.getD,h]
theorem p_{xs:Array Nat}(U:Up xs)(j:Nat):∀ (fuel lo hi:Nat),hi-lo<=fuel->lo<=hi->hi<=xs.size->(∀ i<lo,xs.getD i 0<j)->(∀ i,hi<=i->i<xs.size->j<=xs.getD i 0) ->
  below.go xs j fuel lo hi<=xs.size/\(∀ i<below.go xs j fuel lo hi,xs.getD i 0<j)/\(∀ i,below.go xs j fuel lo hi<=i->i<xs.size->j<=xs.getD i 0)
 |0,lo,hi,hf,h1,h2,h3,h4=>by
  obtain rfl:lo=hi:=by lia
  exact⟨h2,h3,h4⟩
 |fuel+1,lo,hi,hf,h1,h2,h3,h4=>by
  unfold below.go
  by_cases c:lo<hi
  ·rw[if_pos c]
   dsimp only
   have hm:(lo+hi) / 2<xs.size:=by lia
   by_cases d:xs.getD ((lo+hi) / 2) j<j
   ·rw[if_pos d]
    rw[wO (d':=0) hm] at d
    refine p_ U j fuel _ _ (by lia) (by lia) h2 (fun i iF=>?_) h4
    by_cases e:i=(lo+hi) / 2
    ·rw[e];exact d
    ·exact S5 (U i _ (by lia) hm) d
   ·rw[if_neg d]
    rw[wO (d':=0) hm] at d
    refine p_ U j fuel _ _ (by lia) (by lia) (by exact pT ‹_›) h3 fun i iF hs=>?_
    by_cases e:i=(lo+hi) / 2
    ·rw[e];exact GP ‹_›
    ·have:=U ((lo+hi) / 2) i (by lia) hs;lia
  ·rw[if_neg c]
   obtain rfl:lo=hi:=by lia
   exact⟨h2,h3,h4⟩
theorem aP(U:Up xs)(j:Nat):below xs j<=xs.size/\(∀ i<below xs j,xs.getD i 0<j)/\(∀ i,below xs j<=i->i<xs.size->j<=xs.getD i 0) :=
 p_ U j xs.size 0 xs.size (by lia) (by lia) (ck _) (fun i h=>absurd h (D7 i)) fun i h1 h2=>by lia
theorem below_at(U:Up xs)(h:i<xs.size):below xs (xs.getD i 0)=i:=by
 obtain⟨a,b,c⟩:=aP U (xs.getD i 0)
 by_cases h1:below xs (xs.getD i 0)<i
 ·have:=c _ (ck _) (by lia)
  have:=U _ i h1 h
  lia
 ·by_cases h2:i<below xs (xs.getD i 0)
  ·have:=b i h2;lia
  ·lia
theorem yg(U:Up xs)(h:i<xs.size):below xs (xs.getD i 0+1)=i+1:=by
 obtain⟨a,b,c⟩:=aP U (xs.getD i 0+1)
 by_cases h1:below xs (xs.getD i 0+1)<i+1
 ·have:=c i (by lia) h;lia
 ·by_cases h2:i+1<below xs (xs.getD i 0+1)
  ·have:=b (i+1) h2
   have:=U i (i+1) (by lia) (by lia);lia
  ·lia
def taken(xs:Array Nat)(j:Nat):Bool:=xs[below xs j]? == some j
theorem zO{xs:Array Nat}{i j:Nat}(h:xs[i]? = some j):i<xs.size/\xs.getD i 0=j:=by
 obtain⟨h1,h2⟩:=QB.mp h
 exact⟨h1,by simp[Array.getD,h1,h2]⟩
theorem zH{xs:Array Nat}{i:Nat}(h:i<xs.size):xs[i]? = some (xs.getD i 0):=by simp[Array.getD,h]
theorem gH{xs:Array Nat}(U:Up xs){j:Nat}:taken xs j=true↔∃ i,i<xs.size/\xs.getD i 0=j:=by
 unfold taken
 rw[beq_iff_eq]
 constructor
 ·intro h;exact⟨_,zO h⟩
 ·rintro⟨i,h,rfl⟩
  rw[below_at U h]
  exact zH h
theorem lg{xs:Array Nat}(U:Up xs){j:Nat}(h:taken xs j=true):below xs j<xs.size/\xs.getD (below xs j) 0=j:=by
 unfold taken at h
 rw[beq_iff_eq] at h
 exact zO h
theorem bV{α:Type}(xs:Array α){p:Nat}(x:α)(h:p<=xs.size):(insertAt xs p x).size=xs.size+1:=by
 unfold insertAt
 simp
 lia
theorem Q9{α:Type}(xs:Array α){p:Nat}(x:α)(h:p<=xs.size)(i:Nat):(insertAt xs p x)[i]? = if i<p then xs[i]? else if i=p then some x else xs[i-1]? := by
 unfold insertAt
 have hs:((xs.extract 0 p).push x).size=p+1:=by simp;exact Nat.min_eq_left ‹_›
 by_cases h1:i<p
 ·rw[if_pos h1,Array.getElem?_append_left (by lia),Array.getElem?_push,if_neg (by simp;lia),Array.getElem?_extract]
  rw[if_pos (by lia)];simp
 ·rw[if_neg h1]
  by_cases h2:i=p
  ·rw[if_pos h2,Array.getElem?_append_left (by lia),Array.getElem?_push,if_pos (by simp;lia)]
  ·rw[if_neg h2,Array.getElem?_append_right (by lia),hs,Array.getElem?_extract]
   by_cases h3:i-(p+1)<min xs.size xs.size-p
   ·rw[if_pos h3]
    congr 1;lia
   ·rw[if_neg h3,GY (by lia)]
theorem eE(h:p<=xs.size)(i:Nat):(insertAt xs p x).getD i 0=if i<p then xs.getD i 0 else if i=p then x else xs.getD (i-1) 0:=by
 have e:∀ (ys:Array Nat) (k:Nat),ys.getD k 0=ys[k]?.getD 0:=fun ys k=>by
  simp[B8]
 rw[e,Q9 xs x h]
 split
 ·rw[e]
 ·split
  ·rfl
  ·rw[e]
theorem Ea(U:Up xs)(hj:taken xs j=false):Up (insertAt xs (below xs j) j):=by
 obtain⟨a,b,c⟩:=aP U j
 have ne:∀ i,i<xs.size->xs.getD i 0≠j:=fun i hi e=>by
  have:=(gH U (j:=j)).mpr ⟨i,hi,e⟩
  rw[hj] at this;cases this
 intro i k hik hk
 rw[bV xs j a] at hk
 rw[eE a,eE a]
 by_cases h1:k<below xs j
 ·rw[if_pos (by lia),if_pos h1];exact U i k hik (by lia)
 ·rw[if_neg h1]
  by_cases h2:k=below xs j
  ·rw[if_pos h2,if_pos (by lia)];exact b i (by lia)
  ·rw[if_neg h2]
   by_cases h3:i<below xs j
   ·rw[if_pos h3];exact U i (k-1) (by lia) (by lia)
   ·rw[if_neg h3]
    by_cases h4:i=below xs j
    ·rw[if_pos h4]
     have:=c (k-1) (by lia) (by lia)
     have:=ne (k-1) (by lia)
     lia
    ·rw[if_neg h4];exact U (i-1) (k-1) (by lia) (by lia)
theorem yL(U:Up xs)(hj:taken xs j=false):taken (insertAt xs (below xs j) j) k=(decide (k=j) || taken xs k):=by
 have a:=(aP U j).1
 have U':=Ea U hj
 apply sF.mpr
 rw[gH U',Bool.or_eq_true,decide_eq_true_eq,gH U]
 rw[bV xs j a]
 constructor
 ·rintro⟨i,hi,e⟩
  rw[eE a] at e
  by_cases h1:i<below xs j
  ·rw[if_pos h1] at e;exact .inr ⟨i,by lia,e⟩
  ·rw[if_neg h1] at e
   by_cases h2:i=below xs j
   ·rw[if_pos h2] at e;exact .inl e.symm
   ·rw[if_neg h2] at e;exact .inr ⟨i-1,by lia,e⟩
 ·rintro(rfl|⟨i,hi,e⟩)
  ·exact⟨below xs k,by lia,by rw[eE a,if_neg (by lia),if_pos rfl]⟩
  ·by_cases h1:i<below xs j
   ·exact⟨i,by lia,by rw[eE a,if_pos h1];exact e⟩
   ·exact⟨i+1,by lia,by rw[eE a,if_neg (by lia),if_neg (by lia)];exact e⟩
def Reach(M:Nat)(place:Array Nat)(h:Int)(j:Nat):Prop:=∃ n,n<=10*(M+13)/\J M h n=j/\∀ k<n,taken place (J M h k)=true
structure TI{α:Type}(t:SetTable)(es:Array (Int × α)):Prop where
 pw:∃ m,t.mask+1=2 ^ m/\3<=m
 sz:t.place.size=es.size
 up:Up t.place
 le:∀ i,i<t.place.size->t.place.getD i 0<=t.mask
 dm:t.dummies = #[]
 few:es.size*5<t.mask*3
 path:∀ i h x,es[i]? = some (h,x)->Reach t.mask t.place h (t.place.getD i 0)
section
variable {α:Type}{t:SetTable}{es:Array (Int × α)}
theorem TI.slot(T:TI t es)(j:Nat):t.slot j=if taken t.place j then .live (below t.place j) else .empty:=by
 unfold SetTable.slot taken
 dsimp only
 split
 ·rfl
 ·have:has t.dummies j=false:=by rw[T.dm];rfl
  rw[this];rfl
theorem TI.fits(T:TI t es):t.fits es.size=true:=by
 have:=T.few
 simp only[SetTable.fits,fill,T.dm,T.sz,kK,beq_iff_eq,decide_eq_true_eq,true_and]
 simp;lia
theorem TI.odd(T:TI t es):t.gaveWay=false:=by
 obtain⟨m,h,h3⟩:=T.pw
 unfold SetTable.gaveWay
 rw[beq_eq_false_iff_ne]
 have:2 ^ m=2*2 ^ (m-1):=by
  rw[show m=(m-1)+1 by lia,zo];simp;lia
 lia
theorem TI.free(T:TI t es):∃ e,e<=t.mask/\taken t.place e=false:=by
 have hf:=T.few
 have hs:=T.sz
 by_cases c:∃ e,e<=t.mask/\taken t.place e=false
 ·exact c
 ·exfalso
  have all:∀ e,e<=t.mask->taken t.place e=true:=fun e he=>by
   cases z:taken t.place e with
   |true=>rfl
   |false=>exact absurd ⟨e,he,z⟩ c
  -- slot e stands at place at most e
  have go:∀ e,e<=t.mask->e<=below t.place e:=by
   intro e
   induction e with
   |zero=>intro _;exact fE _
   |succ e ih =>
    intro he
    have h1:=lg T.up (all e (by exact pT ‹_›))
    have h2:=lg T.up (all (e+1) he)
    have:=ih (by exact pT ‹_›)
    obtain⟨_,b,c⟩:=aP T.up (e+1)
    by_cases z:below t.place e<below t.place (e+1)
    ·walk_at "s1"
    ·have:=c (below t.place e) (by exact GP ‹_›) h1.1
     lia
  have:=go t.mask (ck _)
  have:=(lg T.up (all t.mask (ck _))).1
  lia
theorem TI.put(T:TI t es)(hj:j<=t.mask)(hn:taken t.place j=false)(hr:Reach t.mask t.place h j)(ht:t'.mask=t.mask)(hp:t'.place=insertAt t.place (below t.place j) j)(hd:t'.dummies = #[])
  (hf:(es.size+1)*5<t.mask*3):TI t' (insertAt es (below t.place j) (h,x)):=by
 have a:=(aP T.up j).1
 have a':below t.place j<=es.size:=by rw[<- T.sz];exact a
 refine⟨by rw[ht];exact T.pw,by rw[hp,bV _ _ a,bV _ _ a',T.sz],by rw[hp];exact Ea T.up hn,fun i hi=>?_,hd,by rw[bV _ _ a',ht];exact hf,fun i g y e=>?_⟩
 ·rw[hp,bV _ _ a] at hi
  rw[hp,eE a,ht]
  split
  ·exact T.le i (by lia)
  ·split
   ·exact hj
   ·exact T.le (i-1) (by lia)
 ·have mono:∀ {g:Int} {k:Nat},Reach t.mask t.place g k->Reach t'.mask t'.place g k:=fun {g k} ⟨n,h1,h2,h3⟩=>⟨n,by rw[ht];exact h1,by rw[ht];exact h2,fun q hq=>by
   rw[hp,ht,yL T.up hn,h3 q hq,Bool.or_true]⟩
  rw[Q9 es _ a'] at e
  rw[hp,eE a,<- hp]
  by_cases h1:i<below t.place j
  ·rw[if_pos h1] at e ⊢
   exact mono (T.path i g y e)
  ·rw[if_neg h1] at e ⊢
   by_cases h2:i=below t.place j
   ·rw[if_pos h2] at e ⊢
    cases e
    exact mono hr
   ·rw[if_neg h2] at e ⊢
    exact mono (T.path (i-1) g y e)
end
theorem dN{α:Type}[DecidableEq α]:∀ {l m:List α},l.Nodup->(∀ x∈l,x∈m)->l.length<=m.length
 |[],_,_,_=>fE _
 |x :: l,m,nd,h=>by
  rw[js] at nd
  have hx:=h x b5
  have:=dN (l:=l) (m:=m.erase x) nd.2 fun y hy=>(List.mem_erase_of_ne (fun e=>nd.1 (by rw[<- e];exact hy))).mpr (h y (b9 _ hy))
  rw[List.length_erase_of_mem hx] at this
  have:0<m.length:=List.length_pos_of_mem hx
  simp only[pS];lia
def i9(owner:Array (Option Nat))(j:Nat):Bool:=(owner.getD j (some 0)).isSome
theorem tE(h:Int)(owner:Array (Option Nat)):∀ (fuel k:Nat),(∀ q<kc M h k,i9 owner (J M h q)=true)->(∃ K,k<=K/\K<k+fuel/\K<=M+13/\i9 owner (lp M h K).1=false) ->
  ∃ j n,layClean.free M owner fuel (lp M h k).1 (lp M h k).2=some j/\J M h n=j/\n<=10*(M+13)/\i9 owner j=false/\∀ q<n,i9 owner (J M h q)=true
 |0,k,_,⟨K,h1,h2,_⟩=>by lia
 |fuel+1,k,hq,⟨K,h1,h2,h3,h4⟩=>by
  have UO:∀ r,r<=runEnd M (lp M h k).1-(lp M h k).1->J M h (kc M h k+r)=(lp M h k).1+r:=fun r hr=>by
   unfold J
   rw[yF M h (kc M h k) r (by rw[wD];exact hr),wD]
  have hle:=wZ (Ew M h k)
  have e:∀ r,(owner.getD ((lp M h k).1+r) (some 0)).isNone = !i9 owner ((lp M h k).1+r):=fun r=>by
   unfold i9;cases owner.getD ((lp M h k).1+r) (some 0)<;>rfl
  unfold layClean.free
  cases hf:(List.range (runEnd M (lp M h k).1+1-(lp M h k).1)).find? fun r=>(owner.getD ((lp M h k).1+r) (some 0)).isNone with
  |some r =>
   obtain⟨a1,a2,a3⟩:=List.find?_range_eq_some.mp hf
   have a2:r<runEnd M (lp M h k).1+1-(lp M h k).1:=by simpa using a2
   rw[e] at a1
   have a1:i9 owner ((lp M h k).1+r)=false:=by simpa using a1
   have occs:∀ q<kc M h k+r,i9 owner (J M h q)=true:=fun q R3=>by
    by_cases z:q<kc M h k
    ·exact hq q z
    ·have:=a3 (q-kc M h k) (by lia)
     rw[e] at this
     have hj:=UO (q-kc M h k) (by lia)
     rw[show kc M h k+(q-kc M h k)=q by lia] at hj
     rw[hj]
     simpa using this
   refine⟨_,kc M h k+r,rfl,UO r (by lia),?_,a1,occs⟩
   have hb:=zb M h K
   by_cases z:kc M h k+r<=kc M h K
   ·lia
   ·have:=occs (kc M h K) (by lia)
    rw[JG,h4] at this;cases this
  |none =>
   have hn:=List.find?_eq_none.mp hf
   have Zj:∀ r,r<=runEnd M (lp M h k).1-(lp M h k).1->i9 owner ((lp M h k).1+r)=true:=fun r hr=>by
    have:=hn r (by simp;lia)
    rw[e] at this
    simpa using this
   dsimp only
   have hK:K≠k:=fun z=>by
    subst z
    have:=Zj 0 (fE _)
    rw[Qx,h4] at this;cases this
   refine tE h owner fuel (k+1) (fun q R3=>?_) ⟨K,by lia,by lia,h3,h4⟩
   by_cases z:q<kc M h k
   ·exact hq q z
   ·have R3:q<kc M h k+(runEnd M (lp M h k).1-(lp M h k).1)+1:=R3
    have hj:=UO (q-kc M h k) (by lia)
    rw[show kc M h k+(q-kc M h k)=q by lia] at hj
    rw[hj]
    exact Zj _ (by lia)
structure OI(M:Nat)(hs:List Int)(owner:Array (Option Nat)):Prop where
 sz:owner.size=M+1
 lt:∀ j v:Nat,owner[j]? = some (some v)->v<hs.length
 inj:∀ j j' v:Nat,owner[j]? = some (some v)->owner[j']? = some (some v)->j=j'
 all:∀ v:Nat,v<hs.length->∃ j:Nat,owner[j]? = some (some v)
 path:∀ j v:Nat,owner[j]? = some (some v)->∃ n,n<=10*(M+13)/\J M (hs.getD v 0) n=j/\∀ q<n,i9 owner (J M (hs.getD v 0) q)=true
theorem uA(h:j<owner.size):i9 owner j=true↔∃ v,owner[j]? = some (some v):=by
 unfold i9
 rw[wo h]
 simp only[Array.getD,h,dite_true,Option.some.injEq]
 cases hh:owner[j] with
 |none =>
  have:owner.getInternal j h=none:=hh
  rw[this];simp
 |some v =>
  have:owner.getInternal j h=some v:=hh
  rw[this];simp
theorem OI.free(O:OI M hs owner)(hl:hs.length<=M):∃ e,e<=M/\i9 owner e=false:=by
 by_cases c:∃ e,e<=M/\i9 owner e=false
 ·exact c
 ·exfalso
  have all:∀ e,e<=M->∃ v,owner[e]? = some (some v):=fun e he=>by
   refine(uA (by rw[O.sz];lia)).mp ?_
   cases z:i9 owner e with
   |true=>rfl
   |false=>exact absurd ⟨e,he,z⟩ c
  have nd:((List.range (M+1)).map fun j=>(owner.getD j none).getD 0).Nodup:=by
   rw[Qo,pE]
   refine List.Pairwise.imp_of_mem ?_ (Qo.mp List.nodup_range)
   intro a b ha hb gV z
   obtain⟨va,ea⟩:=all a (by have:=mI.mp ha;lia)
   obtain⟨vb,eb⟩:=all b (by have:=mI.mp hb;lia)
   rw[B8,B8,ea,eb] at z
   have z:va=vb:=z
   subst z
   exact gV (O.inj _ _ _ ea eb)
  have:=dN (m:=List.range hs.length) nd fun x hx=>by
   obtain⟨j,hj,rfl⟩:=bI.mp hx
   obtain⟨v,e⟩:=all j (by have:=mI.mp hj;lia)
   rw[B8,e]
   exact mI.mpr (O.lt _ _ e)
  simp at this
  lia
theorem OI.lay(hM:M+1=2 ^ m)(O:OI M hs owner)(hl:hs.length<=M)(h:Int) :
  ∃ j,layClean.free M owner (turns M) (bits h % (M+1)) (bits h)=some j/\OI M (hs++[h]) (owner.setIfInBounds j (some hs.length)):=by
 obtain⟨e,he,hf⟩:=O.free hl
 obtain⟨K,hK,hKe⟩:=cover hM h he
 obtain⟨j,n,e1,e2,e3,e4,e5⟩:=tE h owner (turns M) 0 (fun q hq=>absurd hq (D7 q)) ⟨K,fE _,by unfold turns;lia,hK,by rw[hKe];exact hf⟩
 refine⟨j,e1,?_⟩
 have hj:j<owner.size:=by rw[O.sz,<- e2];exact AO (R1 M h n)
 have get:∀ i,(owner.setIfInBounds j (some hs.length))[i]? = if j=i then some (some hs.length) else owner[i]? := fun i=>by
  rw[Array.getElem?_setIfInBounds]
  by_cases z:j=i
  ·subst z;simp[hj]
  ·simp[z]
 have oc:∀ i,i9 owner i=true->i9 (owner.setIfInBounds j (some hs.length)) i=true:=fun i hi=>by
  unfold i9 at hi ⊢
  rw[B8] at hi ⊢
  rw[get]
  split
  ·rfl
  ·exact hi
 have gV:∀ v,owner[j]?≠some (some v):=fun v z=>by
  have:=(uA hj).mpr ⟨v,z⟩
  rw[e4] at this;cases this
 refine⟨by rw[Array.size_setIfInBounds];exact O.sz,fun i v z=>?_,fun i i' v z z'=>?_,fun v hv=>?_,fun i v z=>?_⟩
 ·rw[get] at z
  split at z
  ·cases z;simp
  ·have:=O.lt i v z;simp;lia
 ·rw[get] at z z'
  split at z
  ·cases z
   split at z'
   ·lia
   ·exact absurd (O.lt _ _ z') (B7 _)
  ·split at z'
   ·cases z'
    exact absurd (O.lt _ _ z) (B7 _)
   ·exact O.inj i i' v z z'
 ·simp at hv
  by_cases c:v=hs.length
  ·exact⟨j,by rw[get,if_pos rfl,c]⟩
  ·obtain⟨i,hi⟩:=O.all v (by lia)
   refine⟨i,?_⟩
   rw[get,if_neg (fun z=>gV v (by rw[z];exact hi))]
   exact hi
 ·rw[get] at z
  split at z
  ·rename_i UQ
   cases z
   refine⟨n,e3,?_,fun q hq=>oc _ ?_⟩
   ·rw[KL,D1 (ck _)]
    simp[e2,UQ]
   ·have:=e5 q hq
    rw[KL,D1 (ck _)]
    simpa using this
  ·have hv:=O.lt i v z
   obtain⟨n',a1,a2,a3⟩:=O.path i v z
   have eg:(hs++[h]).getD v 0=hs.getD v 0:=by
    rw[KL,KL,KP hv]
   rw[eg]
   exact⟨n',a1,a2,fun q hq=>oc _ (a3 q hq)⟩
theorem OI.nil(M:Nat):OI M [] (Array.replicate (M+1) none):=by
 have no:∀ (j v:Nat),¬ (Array.replicate (M+1) (none:Option Nat))[j]? = some (some v):=fun j v z=>by
  rw[Array.getElem?_replicate] at z
  split at z<;>cases z
 exact⟨by simp,fun j v z=>absurd z (no j v),fun j j' v z _=>absurd z (no j v),fun v hv=>absurd hv (D7 v),fun j v z=>absurd z (no j v)⟩
theorem Hj(hM:M+1=2 ^ m)(hs:Array Int)(hl:hs.size<=M):∃ owner,layClean M hs=some owner/\OI M hs.toList owner:=by
 have go:∀ (l pre:List Int) (owner:Array (Option Nat)),OI M pre owner->pre.length+l.length<=M->∃ Zk,l.foldl (fun acc h=>do
   let (owner,k) ← acc
   let j ← layClean.free M owner (turns M) (bits h % (M+1)) (bits h)
   pure (owner.setIfInBounds j (some k),k+1)) (some (owner,pre.length))=some (Zk,pre.length+l.length)/\OI M (pre++l) Zk:=by
  intro l
  induction l with
  |nil=>intro pre owner O _;exact⟨owner,rfl,by rw[qV];exact O⟩
  |cons h l ih =>
   intro pre owner O hz
   rw[pS] at hz
   obtain⟨j,e,O'⟩:=O.lay hM (by lia) h
   obtain⟨o2,e2,O2⟩:=ih (pre++[h]) _ O' (by simp;lia)
   refine⟨o2,?_,by rw[Lv] at O2;exact O2⟩
   rw[List.foldl_cons]
   have:(do
    let (owner,k) ← (some (owner,pre.length):Option (Array (Option Nat) × Nat))
    let j ← layClean.free M owner (turns M) (bits h % (M+1)) (bits h)
    pure (owner.setIfInBounds j (some k),k+1))=some (owner.setIfInBounds j (some pre.length),(pre++[h]).length):=by
    simp[e]
   rw[this,e2]
   simp;lia
 obtain⟨o,e,O⟩:=go hs.toList [] _ (OI.nil M) (by simpa using hl)
 refine⟨o,?_,by simpa using O⟩
 unfold layClean
 rw[<- Array.foldl_toList]
 have e':=e
 simp only[List.length_nil] at e'
 rw[e']
 rfl
theorem jN:∀ (fuel a:Nat),3<=a->n<2 ^ (a+fuel)->∃ b,3<=b/\sizeAbove.go n fuel (2 ^ a)=2 ^ b/\n<2 ^ b/\(2 ^ b<=2*n\/b=a)
 |0,a,ha,h=>⟨a,ha,rfl,by simpa using h,.inr rfl⟩
 |fuel+1,a,ha,h=>by
  unfold sizeAbove.go
  by_cases c:2 ^ a<=n
  ·rw[if_pos c]
   obtain⟨b,h1,h2,h3,h4⟩:=jN fuel (a+1) (by lia) (by rw[show a+1+fuel=a+(fuel+1) by lia];exact h)
   refine⟨b,h1,by rw[zo] at h2;exact h2,h3,?_⟩
   rcases h4 with h4|h4
   ·exact .inl h4
   ·left
    rw[h4,zo];lia
  ·rw[if_neg c]
   exact⟨a,ha,rfl,by lia,.inr rfl⟩
theorem nZ(h:n<2 ^ 60):∃ b,3<=b/\sizeAbove n=2 ^ b/\n<2 ^ b/\(2 ^ b<=2*n\/b=3) :=
 jN 64 3 (ck _) (S5 h (by decide))
section
variable {α:Type}
def bM(M:Nat)(owner:Array (Option Nat)):List (Nat × Nat):=(List.range (M+1)).filterMap fun j=>(owner.getD j none).map (j,·)
theorem fH:p∈bM M owner↔p.1<M+1/\owner[p.1]? = some (some p.2):=by
 unfold bM
 rw[S0]
 constructor
 ·rintro⟨j,hj,e⟩
  rw[B8] at e
  cases h:owner[j]? with
  |none=>rw[h] at e;cases e
  |some o =>
   rw[h] at e
   cases o with
   |none=>cases e
   |some v =>
    cases e
    exact⟨mI.mp hj,h⟩
 ·rintro⟨h1,h2⟩
  exact⟨p.1,mI.mpr h1,by rw[B8,h2];rfl⟩
theorem vy(M:Nat)(owner:Array (Option Nat)):((bM M owner).map (·.1)).Pairwise (· < ·):=by
 unfold bM
 rw[pE,List.pairwise_filterMap]
 refine List.Pairwise.imp ?_ List.pairwise_lt_range
 intro a b wa p hp q hq
 cases h1:owner.getD a none with
 |none=>rw[h1] at hp;cases hp
 |some x =>
  cases h2:owner.getD b none with
  |none=>rw[h2] at hq;cases hq
  |some y =>
   rw[h1] at hp;rw[h2] at hq
   cases hp;cases hq
   exact wa
theorem wI{l:List Nat}(h:l.Pairwise (· < ·)):Up l.toArray:=fun i j kB hj=>by
 have hj:j<l.length:=by simpa using hj
 have:=y6.mp h i j (by walk_at "s1") hj kB
 have e:∀ k (hk:k<l.length),l.toArray.getD k 0=l[k]:=fun k hk=>by simp[Array.getD,hk]
 rw[e i (by walk_at "s1"),e j hj]
 exact this
theorem wy{β:Type}{f:α->Option β}:∀ {l:List α},(∀ x∈l,(f x).isSome=true)->(l.filterMap f).length=l.length/\∀ i:Nat,(l.filterMap f)[i]? = (l[i]?).bind f
 |[],_=>⟨rfl,fun i=>by simp⟩
 |x :: l,h=>by
  obtain⟨a,b⟩:=wy (f:=f) (l:=l) fun y hy=>h y (b9 _ hy)
  have hx:=h x b5
  cases e:f x with
  |none=>rw[e] at hx;cases hx
  |some y =>
   rw[K2,e]
   refine⟨by simp[a],fun i=>?_⟩
   cases i with
   |zero=>simp[e]
   |succ i=>simpa using b i
theorem xf(es:Array (Int × α)):(List.range es.size).filterMap (fun i=>es[i]?)=es.toList:=by
 apply D2
 intro i
 rw[(wy (l:=List.range es.size) fun x hx=>by
  have:=mI.mp hx
  simp[this]).2 i]
 by_cases h:i<es.size
 ·rw[List.getElem?_range h,oq];rfl
 ·rw[tP (by simpa using h),tP (by simpa using h)];rfl
theorem Fo{M m finger moves:Nat}{led plain:Bool}(hM:M+1=2 ^ m)(hm:3<=m){es:Array (Int × α)}(hf:es.size*5<M*3) :
  ∃ t order,laid M finger moves led plain (es.map (·.1))=some (t,order)/\t.plain=plain/\t.led=led/\t.mask=M/\TI t (order.filterMap fun i=>es[i]?)/\(order.filterMap fun i=>es[i]?).size=es.size/\(order.filterMap fun i=>es[i]?).toList.Perm es.toList/\order.toList.Perm (List.range es.size):=by
 obtain⟨owner,e,O⟩:=Hj hM (es.map (·.1)) (by rw[Array.size_map];lia)
 have hn:(es.map (·.1)).toList.length=es.size:=by simp
 refine⟨{ mask:=M,place:=((bM M owner).map (·.1)).toArray,dummies:=#[],finger,led,moves,plain },((bM M owner).map (·.2)).toArray,?_,rfl,rfl,rfl,?_⟩
 ·unfold laid
  rw[e];rfl
 have Zm:∀ p∈bM M owner,p.2<es.size:=fun p hp=>by
  have:=O.lt _ _ (fH.mp hp).2
  lia
 have nd:((bM M owner).map (·.2)).Nodup:=by
  rw[Qo,pE]
  have:=vy M owner
  rw[pE] at this
  refine List.Pairwise.imp_of_mem ?_ this
  intro p q hp hq dQ z
  have:=O.inj _ _ _ (fH.mp hp).2 (by rw[z];exact(fH.mp hq).2)
  lia
 have pm:((bM M owner).map (·.2)).Perm (List.range es.size):=by
  refine(List.perm_ext_iff_of_nodup nd List.nodup_range).mpr fun v=>⟨fun hv=>?_,fun hv=>?_⟩
  ·obtain⟨p,hp,rfl⟩:=bI.mp hv
   exact mI.mpr (Zm p hp)
  ·obtain⟨j,hj⟩:=O.all v (by rw[hn];exact mI.mp hv)
   have Zn:=(QB.mp hj).1
   rw[O.sz] at Zn
   exact bI.mpr ⟨(j,v),fH.mpr ⟨Zn,hj⟩,rfl⟩
 have hlen:(bM M owner).length=es.size:=by
  have:=pm.length_eq
  simpa using this
 have A9:(((bM M owner).map (·.2)).toArray.filterMap fun i=>es[i]?).toList=(bM M owner).filterMap fun p=>es[p.2]? := by
  rw[Array.toList_filterMap,S1];rfl
 obtain⟨f1,f2⟩:=wy (l:=bM M owner) (f:=fun p=>es[p.2]?) fun p hp=>by simp[Zm p hp]
 have fQ':∀ i:Nat,(((bM M owner).map (·.2)).toArray.filterMap fun i=>es[i]?)[i]? = ((bM M owner)[i]?).bind fun p=>es[p.2]? := fun i=>by
  rw[<- oq,A9];exact f2 i
 have hsz:(((bM M owner).map (·.2)).toArray.filterMap fun i=>es[i]?).size=es.size:=by
  rw[<- tT,A9,f1,hlen]
 have pV:∀ i:Nat,∀ p,(bM M owner)[i]? = some p->((bM M owner).map (·.1)).toArray.getD i 0=p.1:=fun i p hp=>by
  rw[B8]
  simp[hp]
 have tk:∀ j,i9 owner j=true->j<=M->taken ((bM M owner).map (·.1)).toArray j=true:=fun j hj hM'=>by
  obtain⟨v,hv⟩:=(uA (by rw[O.sz];exact AO ‹_›)).mp hj
  obtain⟨i,hi⟩:=K0.mp (fH.mpr (show((j,v):Nat × Nat).1<M+1/\owner[((j,v):Nat × Nat).1]? = some (some ((j,v):Nat × Nat).2) from⟨by show j<M+1;exact AO ‹_›,hv⟩))
  exact(gH (wI (vy M owner))).mpr ⟨i,by
   have:=(iS.mp hi).1
   simpa using this,pV i _ hi⟩
 refine⟨?_,hsz,?_,by simpa using pm⟩
 ·refine⟨⟨m,hM,hm⟩,?_,wI (vy M owner),fun i hi=>?_,rfl,by rw[hsz];exact hf,fun i h x hx=>?_⟩
  ·rw[hsz];simp[hlen]
  ·have hi:i<(bM M owner).length:=by simpa using hi
   have e1:=mG hi
   show((bM M owner).map (·.1)).toArray.getD i 0<=M
   rw[pV i _ e1]
   have:=(fH.mp (mn e1)).1
   lia
  ·rw[fQ'] at hx
   cases hp:(bM M owner)[i]? with
   |none=>rw[hp] at hx;cases hx
   |some p =>
    rw[hp] at hx
    have hx:es[p.2]? = some (h,x):=hx
    have hm':=fH.mp (mn hp)
    obtain⟨n,a1,a2,a3⟩:=O.path _ _ hm'.2
    have hh:(es.map (·.1)).toList.getD p.2 0=h:=by
     rw[KL,oq,Array.getElem?_map,hx];rfl
    rw[hh] at a2 a3
    refine⟨n,a1,?_,fun q hq=>tk _ (a3 q hq) (R1 M h q)⟩
    show J M h n=((bM M owner).map (·.1)).toArray.getD i 0
    rw[pV i _ hp];exact a2
 ·rw[A9]
  have:=pm.filterMap fun i=>es[i]?
  rw[xf,S1] at this
  exact this
theorem sX{t:SetTable}{es:Array (Int × α)}(hn:es.size<=10000) :
  ∃ t' order,t.relaid (es.map (·.1)) (grown es.size)=some (t',order)/\t'.plain=t.plain/\t'.led=t.led/\sizeAbove (grown es.size)<=16777216/\(es.size<=1000->t'.mask<=8191)/\TI t' (order.filterMap fun i=>es[i]?)/\(order.filterMap fun i=>es[i]?).size=es.size/\(order.filterMap fun i=>es[i]?).toList.Perm es.toList/\order.toList.Perm (List.range es.size):=by
 have hg:grown es.size=es.size*4:=by unfold grown;rw[if_neg (by lia)]
 obtain⟨b,h3,e,dQ,hle⟩:=nZ (n:=es.size*4) (by lia)
 have h8:8<=2 ^ b:=Nat.pow_le_pow_right (n:=2) (by decide) h3
 unfold relaid
 rw[hg,e]
 obtain⟨t',order,q1,q2,q3,qm,q4⟩:=Fo (M:=2 ^ b-1) (m:=b) (finger:=t.finger) (moves:=t.movedTo (2 ^ b-1)) (led:=t.led) (plain:=t.plain) (by lia) h3 (es:=es) (by lia)
 refine⟨t',order,q1,q2,q3,?_,fun hz=>?_,q4⟩
 ·rcases hle with hle|rfl
  ·lia
  ·decide
 ·rw[qm]
  rcases hle with hle|rfl
  ·lia
  ·decide
end
section
variable {α:Type}{t:SetTable}{es:Array (Int × α)}
theorem qw(T:TI t es)(hashAt:Nat->Int)(h:Int):∀ (fuel n:Nat),(∃ N,n<=N/\N<n+fuel/\taken t.place (J t.mask h N)=false) ->
  ∃ n',n<=n'/\n'<n+fuel/\(∀ q,n<=q->q<n'->taken t.place (J t.mask h q)=true/\hashAt (below t.place (J t.mask h q))≠h) /\
   ((taken t.place (J t.mask h n')=false/\probe.go t hashAt h fuel (ps t.mask h n)=some (.empty (J t.mask h n') none)) \/
    (taken t.place (J t.mask h n')=true/\hashAt (below t.place (J t.mask h n'))=h/\probe.go t hashAt h fuel (ps t.mask h n)=some (.candidate (J t.mask h n') (below t.place (J t.mask h n')) (ps t.mask h (n'+1)))))
 |0,n,⟨N,h1,h2,_⟩=>by lia
 |fuel+1,n,⟨N,h1,h2,h3⟩=>by
  unfold probe.go
  have hs:=T.slot (J t.mask h n)
  have hd:=(Hq t.mask h n).2.2.1
  by_cases c:taken t.place (J t.mask h n)=true
  ·rw[if_pos c] at hs
   have hs:t.slot (ps t.mask h n).j=.live (below t.place (J t.mask h n)):=hs
   rw[hs]
   dsimp only
   by_cases e:hashAt (below t.place (J t.mask h n))=h
   ·rw[if_pos (by simpa using e)]
    exact⟨n,ck _,by lia,fun q a b=>by lia,.inr ⟨c,e,rfl⟩⟩
   ·rw[if_neg (by simpa using e)]
    have hN:N≠n:=fun z=>by rw[z,c] at h3;cases h3
    obtain⟨n',a1,a2,a3,a4⟩:=qw T hashAt h fuel (n+1) ⟨N,by lia,by lia,h3⟩
    refine⟨n',by exact pT ‹_›,by lia,fun q b1 b2=>?_,a4⟩
    by_cases z:q=n
    ·subst z;exact⟨c,e⟩
    ·exact a3 q (by lia) b2
  ·have c:taken t.place (J t.mask h n)=false:=by simpa using c
   rw[if_neg (by rw[c];exact hU)] at hs
   have hs:t.slot (ps t.mask h n).j=.empty:=hs
   rw[hs]
   dsimp only
   rw[hd]
   exact⟨n,ck _,by lia,fun q a b=>by lia,.inl ⟨c,rfl⟩⟩
end
section
variable {prog:Program}{w:World}{K:Type}[DecidableEq K]{knd:KeyKind prog w K}
abbrev aQ(knd:KeyKind prog w K)(k:List K):Int:=tupleKeyHash knd k
def Bu(knd:KeyKind prog w K)(p:List K × Addr):Int × Value:=(aQ knd p.1,.ref p.2)
structure JJ(knd:KeyKind prog w K)(h:Heap)(a:Addr)(ks:List (List K × Addr)):Prop where
 ob:∃ o es ep t,h.get? a=some o/\o.ExactSet/\o.data=.set es ep t/\TI t es/\t.mask<=8191/\t.led=(!w.params.followText "set-order")/\es.toList=ks.map (Bu knd)
 nd:(ks.map (·.1)).Nodup
 is:∀ p∈ks,IsTupleKey knd h p.1 p.2
variable {A:Around}{E:Value->Shared->Prop}{s:Shared}
theorem lK(hk:IsTupleKey knd s.heap k a)(h:Q false s):wpAny (model prog w) A (ofAClassStatement 8 (.ref a)) Q E s:=by
 have hT:=hk.typeIs
 obtain⟨o,items,n,ho,_,hd,hi⟩:=hk
 unfold ofAClassStatement
 refine ah (wpAny_typeOf hT ?_)
 dsimp only
 refine ah ?_
 refine aw ?_
 simp only[LN,kH,if_false]
 refine ah (wpAny_seqItems ho hd ?_)
 dsimp only
 refine ah ?_
 rw[<- S7]
 refine wpAny_forIn_list _ (fun rest r s'=>r.1=none/\s'=s/\∀ v∈rest,carriedByValue v=true) _ ?_ ?_ _ _ ⟨rfl,rfl,hi.byValue⟩
 ·rintro v rest r s' ⟨hr,rfl,mP⟩
  have hv:=mP v b5
  have e:ofAClassStatement 7 v=pure false:=by
   cases v with
   |ref a=>cases hv
   |_=>rfl
  rw[e]
  refine ah (aw ?_)
  simp only[kH,if_false]
  exact aw ⟨rfl,rfl,fun u Fm=>mP u (b9 _ Fm)⟩
 ·rintro⟨r1,r2⟩ s' ⟨hr,rfl,_⟩
  simp only at hr
  subst hr
  exact aw h
theorem jt(hk:IsTupleKey knd s.heap k a)(rS:∀ k v,knd.is k v=true->v.scannable=true)(h:∀ b,Q b s):wpAny (model prog w) A (hashByValue 8 (.ref a)) Q E s:=by
 have hT:=hk.typeIs
 obtain⟨o,items,n,ho,_,hd,hi⟩:=hk
 have fS':∀ v∈items.toList,v.scannable=true:=by
  clear ho hd
  generalize items.toList=l at hi
  induction hi with
  |nil=>intro v hv;cases hv
  |cons h1 _ ih =>
   intro v hv
   rcases dr.mp hv with rfl|hv
   ·exact rS _ _ h1
   ·exact ih v hv
 unfold hashByValue
 refine ah (wpAny_specialOf hT F.slot_tuple_hash.lookup ?_)
 dsimp only
 refine ah (wpAny_seqItems ho hd ?_)
 dsimp only[Option.getD]
 refine ah ?_
 rw[<- S7]
 refine wpAny_forIn_list _ (fun rest r s'=>s'=s/\∀ v∈rest,v.scannable=true) _ ?_ ?_ _ _ ⟨rfl,fS'⟩
 ·rintro v rest r s' ⟨rfl,mP⟩
  rw[hashByValue_scannable 7 (mP v b5)]
  refine ah (aw ?_)
  split
  ·exact aw (aw (h _))
  ·exact aw ⟨rfl,fun u Fm=>mP u (b9 _ Fm)⟩
 ·rintro⟨r1,r2⟩ s' ⟨rfl,_⟩
  cases r1 with
  |none=>exact aw (h true)
  |some b=>exact aw (h b)
end
local macro_rules | `(tactic| walk_at $s:str) => do
 let x:=s.getString
 if x.startsWith "PV" then `(tactic| exact $(Lean.mkIdent (.str (.str (.num (.str (.str (.str .anonymous "_private") "PySem") "SetOps") 0) "PySem") (x.drop 2).toString)))
 else Lean.Macro.throwUnsupported
abbrev zy:Array (Int × Value)->Nat->Int:=by walk_at "PVstoredHashAt"
abbrev GJ:Array (Int × Value)->Option (SetTable × Array Nat)->Sem (Array (Int × Value) × SetTable):=by walk_at "PVreordered"
abbrev qy:Array (Int × Value)->SetTable->Bool:=by walk_at "PVdrawn"
abbrev KC:Array (Int × Value)->SetTable->Sem Unit:=by walk_at "PVmustBeLedForItsPlaces"
abbrev HX:Bool->Sem Unit:=by walk_at "PVgaveWayHere"
def uZ:Array (Int × Value)->Nat->Int:=zy
theorem tZ(es:Array (Int × Value))(i:Nat):uZ es i=(es[i]?.map (·.1)).getD 0:=rfl
section
variable {prog:Program}{w:World}{K:Type}[DecidableEq K]{knd:KeyKind prog w K}{A:Around}{E:Value->Shared->Prop}{s:Shared}
theorem xO(hk:IsTupleKey knd s.heap k a)(hy:∀ y∈ys,∃ k' b,y=.ref b/\IsTupleKey knd s.heap k' b)(h:Q false s):wpAny (model prog w) A (searchCouldBeSeen (.ref a) ys) Q E s:=by
 unfold searchCouldBeSeen
 refine ah ?_
 refine wpAny_forIn_list _ (fun rest r s'=>r.1=none/\s'=s/\∀ y∈rest,∃ k' b,y=.ref b/\IsTupleKey knd s.heap k' b) _ ?_ ?_ _ _ ⟨rfl,rfl,hy⟩
 ·rintro y rest r s' ⟨hr,rfl,mP⟩
  obtain⟨k',b,rfl,hb⟩:=mP y b5
  have go:∀ (P:Prop),P->P:=fun _ p=>p
  dsimp only
  split
  ·exact aw ⟨rfl,rfl,fun u Fm=>mP u (b9 _ Fm)⟩
  ·refine ah (wpAny_eqIsQuiet_tuple hk ?_)
   simp only[LN,kH,if_false]
   refine ah (wpAny_eqIsQuiet_tuple hb ?_)
   simp only[LN,kH,if_false]
   refine ah (lK hk ?_)
   simp only[kH,if_false]
   refine ah (lK hb ?_)
   simp only[kH,if_false]
   exact aw ⟨rfl,rfl,fun u Fm=>mP u (b9 _ Fm)⟩
 ·rintro⟨r1,r2⟩ s' ⟨hr,rfl,_⟩
  simp only at hr
  subst hr
  exact aw h
theorem Kw{K G:Prop}(pk:K)(h:K->G):G:=h pk
theorem rZ{a x:Addr}{k:List K}{ks:List (List K × Addr)}{o:Obj}{es:Array (Int × Value)}{ep:Nat}{t:SetTable}(hu:A.units<cLine)(ho:s.heap.get? a=some o)(hd:o.data=.set es ep t)(T:TI t es)(he:es.toList=ks.map (Bu knd))
  (mE:∀ p∈ks,IsTupleKey knd s.heap p.1 p.2) (hx:IsTupleKey knd s.heap k x) {Q:SetFound->Shared->Prop} (Zo:k∈ks.map (·.1)->Q (.there none) s)
  (nf:Nat) (hnf:nf<=10*(t.mask+13)) (DB:taken t.place (J t.mask (aQ knd k) nf)=false) (Zq:∀ q<nf,taken t.place (J t.mask (aQ knd k) q)=true)
  (xi:k∉ks.map (·.1)->Q (.free (J t.mask (aQ knd k) nf) false) s) :
  ∀ (fuel n:Nat) (stand:Option Probe),stand.getD (t.probeStart (aQ knd k))=ps t.mask (aQ knd k) n->n<=nf->nf<n+fuel ->
   (∀ q<n,∀ p,ks[below t.place (J t.mask (aQ knd k) q)]? = some p->p.1≠k)->wpAny (model prog w) A (setSearchFrom a (.ref x) (aQ knd k) true fuel stand) Q E s
 |0,n,stand,_,h1,h2,_=>by lia
 |fuel+1,n,stand,wx,h1,h2,hq=>by
  have JY:∀ i:Nat,es[i]? = (ks[i]?).map (Bu knd):=fun i=>by rw[<- oq,he,mr]
  unfold setSearchFrom
  refine ah (wpAny_setState_of ho hd T.fits ?_)
  dsimp only
  rw[if_neg (by rw[T.odd];exact hU)]
  obtain⟨n',a1,a2,a3,a4⟩:=qw T (uZ es) (aQ knd k) (10*turns t.mask) n ⟨nf,h1,by unfold turns;lia,DB⟩
  have AV:n'<=nf:=by
   by_cases z:n'<=nf
   ·exact z
   ·have:=(a3 nf h1 (by exact Nat.lt_of_not_le ‹_›)).1
    rw[DB] at this;cases this
  rcases a4 with⟨c1,c2⟩|⟨c1,c2,c3⟩
  ·have c2:t.probe (uZ es) (aQ knd k) (stand.getD (t.probeStart (aQ knd k)))=some (.empty (J t.mask (aQ knd k) n') none):=by rw[wx];exact c2
   have e:n'=nf:=by
    by_cases z:n'<nf
    ·have:=Zq n' z
     rw[c1] at this;cases this
    ·lia
   have c2:t.probe (zy es) (aQ knd k) (stand.getD (t.probeStart (aQ knd k)))=some (.empty (J t.mask (aQ knd k) n') none):=c2
   rw[c2]
   dsimp only
   rw[e]
   refine aw (xi fun hm=>?_)
   obtain⟨p,hp,rfl⟩:=bI.mp hm
   obtain⟨i,hi⟩:=K0.mp hp
   have ei:es[i]? = some (aQ knd p.1,.ref p.2):=by rw[JY,hi];rfl
   have Zr:i<t.place.size:=by rw[T.sz];exact(QB.mp ei).1
   obtain⟨ni,b1,b2,b3⟩:=T.path i _ _ ei
   have bt:below t.place (J t.mask (aQ knd p.1) ni)=i:=by rw[b2];exact below_at T.up Zr
   have tk:taken t.place (J t.mask (aQ knd p.1) ni)=true:=by rw[b2];exact(gH T.up).mpr ⟨i,Zr,rfl⟩
   have dQ:ni<nf:=by
    by_cases z:nf<ni
    ·have:=b3 nf z
     rw[DB] at this;cases this
    ·have:ni≠nf:=fun z=>by rw[z,DB] at tk;cases tk
     lia
   by_cases z:ni<n
   ·exact hq ni z p (by rw[bt];exact hi) rfl
   ·refine(a3 ni (by exact GP ‹_›) (by lia)).2 ?_
    rw[bt,tZ,ei];rfl
  ·have c3:t.probe (zy es) (aQ knd k) (stand.getD (t.probeStart (aQ knd k)))=some (.candidate (J t.mask (aQ knd k) n') (below t.place (J t.mask (aQ knd k) n')) (ps t.mask (aQ knd k) (n'+1))):=by rw[wx];exact c3
   rw[c3]
   dsimp only
   have tk:=lg T.up c1
   have UR:t.slot (J t.mask (aQ knd k) n')=.live (below t.place (J t.mask (aQ knd k) n')):=by rw[T.slot,if_pos c1]
   generalize hi:below t.place (J t.mask (aQ knd k) n')=i at tk c2 UR ⊢
   have Zt:i<es.size:=by rw[<- T.sz];exact tk.1
   obtain⟨p,hp⟩:∃ p,ks[i]? = some p:=by
    have:i<ks.length:=by
     have:=congrArg List.length he
     simp at this;lia
    exact⟨_,mG this⟩
   have ei:es[i]? = some (aQ knd p.1,.ref p.2):=by rw[JY,hp];rfl
   have Zu:=mn hp
   have gV:n'≠nf:=fun z=>by rw[z,DB] at c1;cases c1
   have again:¬ p.1=k->wpAny (model prog w) A (setSearchFrom a (.ref x) (aQ knd k) true fuel (some (ps t.mask (aQ knd k) (n'+1)))) Q E s:=fun hpk =>
    rZ hu ho hd T he mE hx Zo nf hnf DB Zq xi fuel (n'+1) (some (ps t.mask (aQ knd k) (n'+1))) rfl (by lia) (by lia) fun q R3 p' hJ=>by
     by_cases z:q<n
     ·exact hq q z p' hJ
     ·by_cases z2:q=n'
      ·subst z2
       rw[hi,hp] at hJ
       cases hJ
       exact hpk
      ·intro e'
       have:=(a3 q (by exact GP ‹_›) (by lia)).2
       refine this ?_
       rw[tZ,JY,hJ]
       show aQ knd p'.1=_
       rw[e']
   have bp:p.1=k->k∈ks.map (·.1):=fun e=>e ▸ bI.mpr ⟨p,Zu,rfl⟩
   have seen:∀ y∈List.map (fun x=>x.snd) (Array.filter (fun x=>x.fst == aQ knd k) es).toList,∃ k' b,y=.ref b/\IsTupleKey knd s.heap k' b:=fun y hy=>by
    obtain⟨e',IE,rfl⟩:=bI.mp hy
    rw[Array.toList_filter] at IE
    have:=(y8.mp IE).1
    rw[he] at this
    obtain⟨p',hJ,rfl⟩:=bI.mp this
    exact⟨p'.1,p'.2,rfl,mE p' hJ⟩
   refine Kw ?pk (K:=?K) fun key=>?main
   case main =>
    split
    ·refine ah (xO hx seen ?_)
     rw[if_neg hU]
     exact key
    ·exact key
   rw[ei]
   dsimp only
   refine ah (wpAny_holding (wpAny_eqBool_tuple hu (mE p Zu) hx ?_))
   refine ah (wpAny_setState_of ho hd T.fits ?_)
   dsimp only
   by_cases e:p.1=k
   ·rw[if_pos (by simp[e])]
    exact aw (Zo (bp e))
   ·rw[if_neg (by simp[e])]
    have Ur:t.sameMemory t.moves t.mask=some true:=by unfold sameMemory;rw[if_pos (by simp)]
    rw[Ur]
    dsimp only
    rw[if_pos rfl,UR]
    dsimp only
    rw[ei]
    dsimp only
    refine ah (m:=isSame (.ref p.2) (.ref p.2)) ?_
    unfold isSame
    dsimp only
    rw[if_pos (by simp)]
    refine aw (ah (aw ?_))
    rw[if_pos rfl]
    dsimp only
    rw[if_neg (by simp[e])]
    exact again e
end
theorem gB{α β:Type}{f:α->β}:∀ {l l2:List β},l.Perm l2->∀ {m:List α},l2=m.map f->∃ m':List α,l=m'.map f/\m'.Perm m:=by
 intro l l2 p
 induction p with
 |nil=>intro m e;exact⟨m,by rw[<- e],.refl _⟩
 |cons x _ ih =>
  intro m e
  cases m with
  |nil=>cases e
  |cons y m =>
   simp only[fe,List.cons.injEq] at e
   obtain⟨m',e1,p1⟩:=ih e.2
   exact⟨y :: m',by rw[fe,<- e1,e.1],p1.cons _⟩
 |swap x y l =>
  intro m e
  match m,e with
  |a :: b :: m,e =>
   simp only[fe,List.cons.injEq] at e
   exact⟨b :: a :: m,by simp[e.1,e.2.1,e.2.2],.swap ..⟩
 |trans _ _ ih1 Ux =>
  intro m e
  obtain⟨m',e1,p1⟩:=Ux e
  obtain⟨m2,e2,p2⟩:=ih1 e1
  exact⟨m2,e2,p2.trans p1⟩
theorem oX{α:Type}(xs:Array α)(p:Nat)(x:α):(insertAt xs p x).toList=xs.toList.take p++x :: xs.toList.drop p:=by
 unfold insertAt
 simp
 rw[List.take_of_length_le (by simp)]
theorem tU(hz:(order.filterMap fun i=>es[i]?).size=es.size)
  (h:Q (order.filterMap fun i=>es[i]?,t) s):wpAny (model prog w) A (GJ es (some (t,order))) Q E s:=by
 show wpAny _ _ (if ((order.filterMap fun i=>es[i]?).size != es.size)=true then (do unsupported "internal:set-table-lost-an-element";pure (order.filterMap fun i=>es[i]?,t)) else pure (order.filterMap fun i=>es[i]?,t)) _ _ _
 rw[if_neg (by simp[hz])]
 exact aw h
section
variable {prog:Program}{w:World}{K:Type}[DecidableEq K]{knd:KeyKind prog w K}{A:Around}{E:Value->Shared->Prop}{s:Shared}
theorem IsTupleKey.fq(hk:IsTupleKey knd h k a)(e:∀ o,h.get? a=some o->h'.get? a=some o):IsTupleKey knd h' k a:=by
 obtain⟨o,items,n,ho,r⟩:=hk
 exact⟨o,items,n,e o ho,r⟩
theorem JJ.ne(S:JJ knd h a ks)(hx:IsTupleKey knd h k x):x≠a:=by
 obtain⟨⟨o,es,ep,t,ho,hex,_⟩,_,_⟩:=S
 obtain⟨o',items,n,mM,hc,_⟩:=hx
 intro z
 subst z
 rw[ho] at mM
 cases mM
 rw[hex.1] at hc
 exact absurd hc (by decide)
theorem Jk(S:JJ knd s.heap a ks)(hx:IsTupleKey knd s.heap k x)(hz:ks.length<1000)(hu:A.units<cLine)(rS:∀ k v,knd.is k v=true->v.scannable=true)
  (h:∀ (b:Bool) (h':Heap) (dP:List (List K × Addr)),Heap.SameBut a s.heap h'->JJ knd h' a dP->(k∈ks.map (·.1)/\dP=ks\/k∉ks.map (·.1)/\dP.Perm ((k,x) :: ks))->Q b { s with heap:=h' }) :
  wpAny (model prog w) A (setAddHashed a (.ref x) (aQ knd k)) Q E s:=by
 obtain⟨⟨o,es,ep,t,ho,hex,hd,T,hM,hL,he⟩,nd,is⟩:=id S
 have hlen:es.size=ks.length:=by
  have:=congrArg List.length he
  simpa using this
 obtain⟨m,hm,_⟩:=T.pw
 obtain⟨e0,UT,UU⟩:=T.free
 obtain⟨nf,n1,n2,n3⟩:=pq hm (aQ knd k) (taken t.place) UT UU
 unfold setAddHashed setAddHashedIn
 refine wpAny_holding (ah (wpAny_setState_of ho hd T.fits ?_))
 dsimp only
 have hbs:byScan (.ref x) es=false:=by simp[byScan,Value.scannable]
 rw[hbs]
 simp only[kH,if_false]
 refine ah ?_
 unfold setSearch
 refine rZ hu ho hd T he is hx (fun bp=>?_) nf n1 n2 n3 (fun Fn=>?_) 100000 0 none rfl (fE _) (by lia) fun q hq=>absurd hq (D7 q)
 ·dsimp only
  refine aw ?_
  have e:s={ s with heap:=s.heap }:=by cases s;rfl
  rw[e]
  exact h _ _ ks (Heap.SameBut.refl a s.heap) S (.inl ⟨bp,rfl⟩)
 ·dsimp only
  generalize hj:J t.mask (aQ knd k) nf=j at n2 ⊢
  have UW:j<=t.mask:=by rw[<- hj];exact R1 ..
  have UX:Reach t.mask t.place (aQ knd k) j:=⟨nf,n1,hj,n3⟩
  refine ah (wpAny_setState_of ho hd T.fits ?_)
  dsimp only
  have UY:t.put j=({ t with place:=insertAt t.place (below t.place j) j,dummies:=#[] },below t.place j):=by
   unfold SetTable.put
   have:has t.dummies j=false:=by rw[T.dm];rfl
   simp only[this,kH,if_false]
   rw[T.dm]
  rw[UY]
  dsimp only
  have bp:(insertAt es (below t.place j) (aQ knd k,.ref x)).toList=(ks.take (below t.place j)++(k,x) :: ks.drop (below t.place j)).map (Bu knd):=by
   rw[oX,he,kG,fe,LD,LG];rfl
  have wc:(ks.take (below t.place j)++(k,x) :: ks.drop (below t.place j)).Perm ((k,x) :: ks):=by
   refine List.perm_middle.trans ?_
   rw[List.take_append_drop]
  have DJ:below t.place j<=es.size:=by rw[<- T.sz];exact(aP T.up j).1
  have Bi:(insertAt es (below t.place j) (aQ knd k,Value.ref x)).size=es.size+1:=bV _ _ DJ
  have hxa:=S.ne hx
  have OQ:∀ h',Heap.SameBut a s.heap h'->∀ dP:List (List K × Addr),dP.Perm ((k,x) :: ks)->∀ p∈dP,IsTupleKey knd h' p.1 p.2:=fun h' sb dP pm p hp=>by
   have:IsTupleKey knd s.heap p.1 p.2:=by
    rcases dr.mp (pm.mem_iff.mp hp) with rfl|hp
    ·exact hx
    ·exact is p hp
   exact IsTupleKey.fq this fun o' mM=>sb.extBut _ _ (S.ne this) mM
  have OS:∀ dP:List (List K × Addr),dP.Perm ((k,x) :: ks)->(dP.map (·.1)).Nodup:=fun dP pm=>by
   rw[(pm.map _).nodup_iff,fe,js]
   exact⟨Fn,nd⟩
  -- behind the flag
  have main:∀ pl:Bool,wpAny (model prog w) A (do
    storeSet a (insertAt es (below t.place j) (aQ knd k,.ref x)) { t with place:=insertAt t.place (below t.place j) j,dummies:=#[],plain:=pl }
    if (!false && ({ t with place:=insertAt t.place (below t.place j) j,dummies:=#[],plain:=pl }:SetTable).tooFull)=true then do
      setRelay a (grown (es.size+1))
      pure true
     else pure true) Q E s:=fun pl=>by
   generalize OU:({ t with place:=insertAt t.place (below t.place j) j,dummies:=#[],plain:=pl }:SetTable)=t'
   have tm:t'.mask=t.mask:=by rw[<- OU]
   have tp:t'.place=insertAt t.place (below t.place j) j:=by rw[<- OU]
   have td:t'.dummies = #[]:=by rw[<- OU]
   have R4:t'.fill=es.size+1:=by
    unfold SetTable.fill
    rw[tp,td,bV _ _ (aP T.up j).1,T.sz];simp
   refine ah (wpAny_storeSet_of ho hd ?_ (by rw[Bi,sizeLine_eq];lia))
   have sQ:(s.heap.update a (Obj.putSet (insertAt es (below t.place j) (aQ knd k,.ref x)) t')).get? a=some { o with data:=.set (insertAt es (below t.place j) (aQ knd k,.ref x)) (ep+1) t' }:=by
    have:=y9 (Obj.putSet (insertAt es (below t.place j) (aQ knd k,.ref x)) t') ho (by rw[putSet_of _ _ hd];rfl)
    rw[putSet_of _ _ hd] at this;exact this
   have tj:=Heap.SameBut.update s.heap a (Obj.putSet (insertAt es (below t.place j) (aQ knd k,.ref x)) t')
   by_cases c:t'.tooFull=true
   ·rw[if_pos (by rw[c];rfl)]
    have NX:t'.fits (insertAt es (below t.place j) (aQ knd k,Value.ref x)).size=true:=by
     have:=T.few
     simp only[SetTable.fits,R4,kK,beq_iff_eq,decide_eq_true_eq]
     rw[tp,bV _ _ (aP T.up j).1,Bi,T.sz,tm]
     exact⟨rfl,by lia⟩
    obtain⟨t2,order,r1,r2,r3,r4,r5,r6,r7,r8,_⟩:=sX (t:=t') (es:=insertAt es (below t.place j) (aQ knd k,Value.ref x)) (by lia)
    rw[Bi] at r1 r4
    unfold setRelay
    refine ah (ah (wpAny_setState_of sQ rfl NX ?_))
    dsimp only
    rw[if_neg (by rw[sizeLine_eq];lia)]
    refine ah ?_
    rw[r1]
    obtain⟨dP,ek,pk⟩:=gB r8 bp
    refine tU r7 ?_
    dsimp only
    refine wpAny_storeSet_of sQ rfl ?_ (by rw[r7,Bi,sizeLine_eq];lia)
    refine aw ?_
    have DL:=tj.trans (Heap.SameBut.update _ a (Obj.putSet (order.filterMap fun i=>(insertAt es (below t.place j) (aQ knd k,Value.ref x))[i]?) t2))
    have nS:=y9 (Obj.putSet (order.filterMap fun i=>(insertAt es (below t.place j) (aQ knd k,Value.ref x))[i]?) t2) sQ (by rw[putSet_of _ _ rfl];rfl)
    rw[putSet_of _ _ rfl] at nS
    exact h true _ dP DL ⟨⟨_,_,_,_,nS,hex,rfl,r6,r5 (by lia),by rw[r3,<- OU];exact hL,ek⟩,OS dP (pk.trans wc),OQ _ DL dP (pk.trans wc)⟩ (.inr ⟨Fn,pk.trans wc⟩)
   ·rw[if_neg (by simpa using c)]
    refine aw ?_
    have oz:(es.size+1)*5<t.mask*3:=by
     unfold SetTable.tooFull at c
     rw[R4,tm] at c
     simpa using c
    exact h true _ _ tj ⟨⟨_,_,_,_,sQ,hex,rfl,T.put UW n2 UX tm tp td oz,by rw[tm];exact hM,by rw[<- OU];exact hL,bp⟩,OS _ wc,OQ _ tj _ wc⟩ (.inr ⟨Fn,wc⟩)
  split
  ·refine ah (jt hx rS fun b=>?_)
   cases b with
   |true=>exact main t.plain
   |false=>exact main false
  ·exact ah (aw (main t.plain))
end
end TS
namespace TS
open PySem PySem.SetTable PyProof.Rows
section
variable {prog:Program}{w:World}{A:Around}{R:Result->Shared->Prop}{I:Addr}{fp wr:List Addr}{n:Nat}{P:Nat->Value->Prop}{St:Nat->Heap->Prop}
theorem CV(W:Walks prog w A.in1 I fp wr n P St)(S:Addr)(Fs:S∉fp)(SI:Nat->Heap->Prop)(keep:∀ i h h',SI i h->(∀ b o,b∉wr->h.get? b=some o->h'.get? b=some o)->SI i h')
  (step:∀ (i:Nat) (v:Value) (s':Shared) (E':Value->Shared->Prop) (Q:Bool->Shared->Prop),P i v->SI i s'.heap->(∀ b h' tk,Heap.SameBut S s'.heap h'->SI (i+1) h'->Q b { s' with heap:=h',toks:=tk })->wpAny (model prog w) A.in1 (setAdd S v) Q E' s') :
  ∀ (k i:Nat) (s:Shared),n-i=k->i<=n->St i s.heap->SI i s.heap ->
   (∀ h' tk,SI n h'->(∀ b o,b∉wr->b≠S->s.heap.get? b=some o->h'.get? b=some o)->R (.ok (.ret .none)) { s with heap:=h',toks:=tk }) ->
   codeAny (model prog w) A (.builtin "set.update.loop" ⟨[.ref S,.ref I],[]⟩) R s:=by
 have hSw:S∉wr:=fun h=>Fs (W.sub _ h)
 intro k
 induction k with
 |zero =>
  intro i s hk hi wx hS hR
  have bp:i=n:=by lia
  subst bp
  refine codeAny_builtin F.entry_set_update_loop ?_
  rw[Around.under_plainId F.plain_set_update_loop _]
  show wpAny _ A.in1 (pyNext (.ref I) >>= _) _ _ s
  refine ah (W.done s _ _ wx fun h' tk kb=>?_)
  show wpAny _ A.in1 (ret Value.none) _ _ _
  exact aw (hR h' tk (keep _ _ _ hS kb) fun b o hb _ e=>kb b o hb e)
 |succ k ih =>
  intro i s hk hi wx hS hR
  have dQ:i<n:=by lia
  refine codeAny_builtin F.entry_set_update_loop ?_
  rw[Around.under_plainId F.plain_set_update_loop _]
  show wpAny _ A.in1 (pyNext (.ref I) >>= _) _ _ s
  refine ah (W.item i s _ _ dQ wx fun v h' tk hP fX' kb=>?_)
  show wpAny _ A.in1 (holding [v] (setAdd S v) >>= _) _ _ _
  refine ah (wpAny_holding (step i v _ _ _ hP (keep _ _ _ hS kb) fun b h2 Fu sb hS2=>?_))
  refine aw ⟨plainId_quiet F.plain_set_update_loop _,ih (i+1) _ (by lia) dQ (W.frame _ _ _ fX' fun b hb o e=>?_) hS2 fun h3 tk3 hS3 hk3=>?_⟩
  ·exact sb.extBut b o (fun z=>Fs (by rw[<- z];exact hb)) e
  ·exact hR h3 tk3 hS3 fun b o hb OV e=>hk3 b o hb OV (sb.extBut b o OV (kb b o hb e))
end
section
variable {prog:Program}{w:World}{A:Around}{E:Value->Shared->Prop}{s:Shared}
theorem z9(a:Value)
  (h:Q₁ (.ref s.heap.objs.size) { s with heap:=s.heap.push { cls:=.type "set",dict:=none,data:=.set #[] 0 (.fresh 0 0 (!w.params.followText "set-order")) } }) :
  codeAny (model prog w) A (.call (.builtin "set.__new__") ⟨[.type "set",a],[]⟩) (wants Q₁ E) s:=by
 refine codeAny_of_tree ?_
 show wpAny _ A.in1 (do checkBuiltinCall "set.__new__" ⟨[.type "set",a],[]⟩;again (.builtin "set.__new__" ⟨[.type "set",a],[]⟩)) _ _ s
 refine ah (wpAny_of_eq (F.newCall_set_1 a) (aw ⟨plainId_quiet F.plain_set_new _,codeAny_builtin F.entry_set_new ?_⟩))
 rw[Around.under_plainId F.plain_set_new _]
 unfold Builtin.«set.__new__» Builtin.Frozenset.newClass
 have gc':=sub_set_self
 obtain⟨hp,g,d,tk,os⟩:=s
 dsimp only
 wp_walk
 refine wpAny_askSetting (aw ?_)
 dsimp only
 simp only[newObj]
 refine ah (wpAny_alloc (aw ?_))
 exact aw h
theorem jL(hh:A.handled=none)(hl:s.heap.IsList l items)(SI:Nat->Heap->Prop)
  (h0:∀ h,h.get? s.heap.objs.size=some { cls:=.type "set",dict:=none,data:=.set #[] 0 (.fresh 0 0 (!w.params.followText "set-order")) }->(∀ b o,s.heap.get? b=some o->h.get? b=some o)->SI 0 h)
  (keep:∀ i h h',SI i h->(∀ b o,b<=s.heap.objs.size->h.get? b=some o->h'.get? b=some o)->SI i h')
  (step:∀ (i:Nat) (v:Value) (s':Shared) (E':Value->Shared->Prop) (Q:Bool->Shared->Prop),items[i]? = some v->SI i s'.heap->(∀ b h' tk,Heap.SameBut s.heap.objs.size s'.heap h'->SI (i+1) h'->Q b { s' with heap:=h',toks:=tk }) ->
   wpAny (model prog w) A.in1.in1.in1 (setAdd s.heap.objs.size v) Q E' s')
  (h:∀ (h':Heap) (tk:Nat),SI items.size h'->(∀ b o,b<s.heap.objs.size->s.heap.get? b=some o->h'.get? b=some o)->Q (.ref s.heap.objs.size) { s with heap:=h',toks:=tk }) :
  wpAny (model prog w) A (call (.type "set") [.ref l]) Q E s:=by
 obtain⟨c,tl,jI'⟩:=F.called_set.mro
 have jJ':=F.called_set.made
 have gc':=F.called_set.sub
 refine wpAny_call (codeAny_of_tree ?_)
 show wpAny _ _ (callAny (.type "set") _) _ _ _
 refine aw ⟨Code.quiet_builtin _ (by decide +kernel),codeAny_builtin F.entry_type_call ?_⟩
 rw[Around.under_plain (weight_type_call_type "set" [.ref l] []) rfl]
 have h1:=F.called_set.notType
 have h2:=F.called_set.canCreate
 have hct:=F.typeCall_set_1 (.ref l)
 repeat (any_goals (first|assumption|wp_step))
 refine codeAny_mono (z9 (.ref l) (E:=E) (Q₁:=fun obj eM=>obj=.ref s.heap.objs.size/\eM={ s with heap:=s.heap.push { cls:=.type "set",dict:=none,data:=.set #[] 0 (.fresh 0 0 (!w.params.followText "set-order")) } }) ⟨rfl,rfl⟩) fun r eM hr=>?_
 cases r with
 |error e=>exact hr
 |ok fl =>
  cases fl with
  |ret obj =>
   obtain⟨rfl,rfl⟩:=hr
   generalize jL':(!w.params.followText "set-order")=led at h0 ⊢
   have hS:(s.heap.push { cls:=.type "set",dict:=none,data:=.set #[] 0 (.fresh 0 0 led) }).get? s.heap.objs.size=some { cls:=.type "set",dict:=none,data:=.set #[] 0 (.fresh 0 0 led) }:=iX _ rfl
   have hT:Shared.TypeIs { s with heap:=s.heap.push { cls:=.type "set",dict:=none,data:=.set #[] 0 (.fresh 0 0 led) } } (.ref s.heap.objs.size) "set" := ⟨_,hS,rfl⟩
   have hli:=F.called_set.init.lookup
   have hbi:=F.called_set.init.bind (.ref s.heap.objs.size)
   repeat (any_goals (first|assumption|wp_step))
   refine codeAny_mono (codeAny_call_builtin (R:=wants (fun r EG=>r=.none/\∃ h' tk,EG={ s with heap:=h',toks:=tk }/\SI items.size h' /\
     (∀ b o,b<s.heap.objs.size->s.heap.get? b=some o->h'.get? b=some o)) E) F.called_set.init.plain F.entry_set_init (check_set_init_1 hT ?_)) fun gd' EG UZ=>?_
   ·obtain⟨ol,Zv,EV,nl,Zw⟩:=hl
    obtain⟨jO',ge',jP',gf'⟩:=ol
    simp only at EV Zw
    subst EV;subst Zw
    have gg':(s.heap.push { cls:=.type "set",dict:=none,data:=.set #[] 0 (.fresh 0 0 led) }).get? l=some { cls:=.type "list",dict:=ge',data:=.seq items nl,slots:=gf' }:=fh _ Zv
    have jQ':=F.sub_list_set
    have jR':=F.sub_list_frozenset
    have gV:(Value.type "list" == Value.type "dict")=false:=by decide
    have Zx:(s.heap.push { cls:=.type "set",dict:=none,data:=.set #[] 0 (.fresh 0 0 led) }).IsList l items:=⟨_,gg',rfl,nl,rfl⟩
    unfold Builtin.«set.__init__» noKeywords Builtin.Frozenset.updateFrom
    generalize hPI:pyIter=PI
    wp_walk
    subst hPI
    refine wpAny_pyIter_list Zx ?_
    refine ah (wpAny_runValue ?_)
    have Zy:l<s.heap.objs.size:=eh Zv
    have hh3:A.in1.in1.in1.handled=none:=by simp[hh]
    have hsz:(s.heap.push { cls:=.type "set",dict:=none,data:=.set #[] 0 (.fresh 0 0 led) }).objs.size=s.heap.objs.size+1:=Heap.size_push ..
    have gj':l≠(s.heap.push { cls:=.type "set",dict:=none,data:=.set #[] 0 (.fresh 0 0 led) }).objs.size:=by
     rw[hsz];exact fN (zh Zy)
    have Fs:s.heap.objs.size∉[(s.heap.push { cls:=.type "set",dict:=none,data:=.set #[] 0 (.fresh 0 0 led) }).objs.size,l]:=by
     rw[hsz];simp only[dr,kg,B4,or_false,not_or]
     exact⟨fN (Nat.lt_succ_self _),Nat.ne_of_gt Zy⟩
    refine CV (Walks.list hh3 _ l gj' items) s.heap.objs.size Fs SI (fun i h h' hi hk=>keep i h h' hi fun b o hb e=>hk b o ?_ e) (fun i v s' E' Q' hP hi hq=>step i v s' E' Q' hP hi hq) (items.size-0) 0 _ (by lia) (fE _)
     ⟨⟨_,iX _ rfl,rfl,rfl⟩,(Zx.push _)⟩ ?hS0 ?hR
    ·rw[hsz]
     simp only[dr,B4,or_false]
     exact fN (AO hb)
    case hS0 =>
     exact h0 _ (fh _ hS) fun b o e=>fh _ (fh _ e)
    case hR =>
     intro h' Bn OX kb
     show wpAny _ _ _ _ _ _
     refine aw ?_
     show wpAny _ _ (ret Value.none) _ _ _
     refine aw ⟨rfl,h',Bn,rfl,OX,fun b o hb e=>?_⟩
     refine kb b o ?_ (fN hb) (fh _ (fh _ e))
     rw[hsz]
     simp only[dr,B4,or_false]
     exact fN (zh hb)
   ·cases gd' with
    |error e=>exact UZ
    |ok gl' =>
     cases gl' with
     |ret r =>
      obtain⟨rfl,h',tk,rfl,OX,kb⟩:=UZ
      repeat (any_goals (first|assumption|wp_step))
      exact h _ _ OX kb
     |_=>exact UZ.elim
  |_=>exact hr.elim
end
theorem tL:Manifest.owners.lookup (String.ofList ['r','o','t','a','r','e','t','i','_','t','e','s'].reverse)=some Manifest.sig_set_iterator:=by kernel_rfl
theorem bZ:Slot "set_iterator" "__next__" "set_iterator.__next__" :=
 .of (owner := "set_iterator") (n := "__next__") (by rw[typeLookup_type,builtinLookup_eq_fast];kernel_rfl) (by decide +kernel) (by decide +kernel) (by decide +kernel)
  (by first|exact .inl (by decide +kernel)|exact .inr (by decide +kernel)) (by rw[isSubtype_type];kernel_rfl)
theorem oN:entryFor table "set_iterator.__next__" = some Builtin.«set_iterator.__next__» := entryFor_of_tree (by kernel_rfl)
theorem q_ (a:Value):argsOk "set_iterator.__next__" ⟨[a],[]⟩:=by
 unfold argsOk;rw[signature?_of (id := "set_iterator.__next__") (n:=['_','_','t','x','e','n','_','_']) (o:=['r','o','t','a','r','e','t','i','_','t','e','s']) (by kernel_rfl) tL];kernel_rfl
theorem i_:Slot "set_iterator" "__iter__" "set_iterator.__iter__" :=
 .of (owner := "set_iterator") (n := "__iter__") (by rw[typeLookup_type,builtinLookup_eq_fast];kernel_rfl) (by decide +kernel) (by decide +kernel) (by decide +kernel)
  (by first|exact .inl (by decide +kernel)|exact .inr (by decide +kernel)) (by rw[isSubtype_type];kernel_rfl)
theorem nY:entryFor table "set.__iter__" = some Builtin.«frozenset.__iter__» :=
 entryFor_alias (id' := "frozenset.__iter__") (by kernel_rfl) rfl (by decide +kernel) (by kernel_rfl)
theorem jx{α:Type}:∀ (l:List α) (i:Nat) (h:i<l.length),(l[i] :: l.eraseIdx i).Perm l
 |x :: l,0,_=>.refl _
 |x :: l,i+1,h=>by
  have ih:=jx l i (by simpa using h)
  exact(List.Perm.swap _ _ _).trans (ih.cons x)
theorem zU{α:Type}(next:Nat->Nat):∀ (fuel k:Nat) (left:List α) (out:Array α),left.length=fuel->(pickOrder.go next fuel k left out).toList.Perm (out.toList++left)
 |0,k,left,out,h=>by
  have:left=[]:=GA.mp h
  subst this
  unfold pickOrder.go
  rw[qV]
 |fuel+1,k,left,out,h=>by
  unfold pickOrder.go
  have dQ:next k % left.length<left.length:=GW _ (by lia)
  rw[mG dQ]
  dsimp only
  refine(zU next fuel (k+1) _ _ (by rw[SY];split<;>lia)).trans ?_
  rw[Array.toList_push,Lv]
  refine List.Perm.append_left _ ?_
  exact jx _ _ dQ
theorem lM{α:Type}(next:Nat->Nat)(xs:Array α):(pickOrder next xs).toList.Perm xs.toList:=by
 unfold pickOrder
 have:=zU next xs.size 0 xs.toList #[] (by simp)
 simpa using this
section
variable {prog:Program}{w:World}{A:Around}{E:Value->Shared->Prop}{s:Shared}
theorem uv(hn:n≠0)(h:∀ i d,i<n->Q i { s with drawn:=d }):wpAny M A (choose src n) Q E s:=fun Γ p _=>⟨hn,h _ _ (GW _ (Nat.pos_of_ne_zero hn))⟩
theorem Fd{α:Type}(n:Nat):∀ (xs:List α) (s:Shared) (Q:List α->Shared->Prop),xs.length=n->(∀ ys d,ys.Perm xs->Q ys { s with drawn:=d })->wpAny (model prog w) A (drawOrder n xs) Q E s:=by
 induction n with
 |zero =>
  intro xs s Q h q
  have:xs=[]:=GA.mp h
  subst this
  unfold drawOrder
  exact aw (q [] s.drawn (.refl _))
 |succ n ih =>
  intro xs s Q h q
  cases xs with
  |nil=>cases h
  |cons x xs =>
   unfold drawOrder
   refine ah (uv (by simp) fun i d hi=>?_)
   rw[mG hi]
   dsimp only
   refine ah (ih _ _ _ (by rw[SY,if_pos hi];simp at h ⊢;lia) fun ys d' py=>?_)
   refine aw ?_
   exact q _ d' ((py.cons _).trans (jx _ _ hi))
def qq(h:Heap)(I:Addr)(first:Value)(i:Nat)(a:Addr)(n ep:Nat):Prop :=
 h.get? I=some { cls:=.type "set_iterator",dict:=none,data:=.fields #[first,.int i 0,.ref a,.int n 0,.int ep 0],slots:=#[] }
def Ap(h:Heap)(a:Addr)(es:Array (Int × Value))(ep:Nat)(t:SetTable):Prop:=∃ o,h.get? a=some o/\o.data=.set es ep t
variable {a I:Addr}{es:Array (Int × Value)}{ep:Nat}{t:SetTable}{first:Value}{i n:Nat}
theorem qq.typeIs (h:qq s.heap I first i a n ep):s.TypeIs (.ref I) "set_iterator" := ⟨_,h,rfl⟩
theorem yU(hit:qq s.heap I first i a n ep)
  (h:wpAny (model prog w) A.in1 (Builtin.«set_iterator.__next__» ⟨[.ref I],[]⟩) (fun fin s'=>∃ v,fin=.done (.ret v)/\Q (some v) s') (fun e s'=>wpAny (model prog w) A (isInstance e (.type "StopIteration")) (fun b CL=>b=true/\Q none CL) E s') s) :
  wpAny (model prog w) A (pyNext (.ref I)) Q E s:=by
 unfold pyNext
 refine ah (wpAny_attempt (wpAny_callSpecial?_slot (name:=Str.ofString "__next__") hit.typeIs bZ
  (wpAny_call_entry bZ hit.typeIs oN ?_ (q_ _))))
 refine oj h (fun fin s' ⟨v,e,q⟩=>⟨v,e,aw q⟩) fun e s' q=>?_
 refine ah (oj q (fun b CL cE=>?_) fun _ _ x=>x)
 obtain⟨e,q⟩:=cE
 subst e
 rw[if_pos rfl]
 exact aw q
theorem yz{P:Fin->Shared->Prop}{Q:Option Value->Shared->Prop}(hh:A.handled=none)(hQ:∀ h',(∀ b o,s.heap.get? b=some o->h'.get? b=some o)->Q none { s with heap:=h' }) :
  wpAny (model prog w) A.in1 (newExc (.type "StopIteration") [] >>= fun e=>raiseNew e) P (fun e s'=>wpAny (model prog w) A (isInstance e (.type "StopIteration")) (fun b CL=>b=true/\Q none CL) E s') s:=by
 refine ah ?_
 simp only[newExc,newTuple]
 refine ah (wpAny_newObj_type ?_ (by size_fits))
 refine ah (m:=firstArgMember _ _) (wpAny_of_eq (a:=Value.none) (by first|rfl|(simp only[firstArgMember];rfl)) ?_)
 refine wpAny_newObj_type ?_ (by size_fits)
 simp only[raiseNew]
 refine ah (wpAny_handled ?_)
 rw[show A.in1.handled=none from hh]
 refine ah (aw (wpAny_throw ?_))
 refine wpAny_isInstance (T := "StopIteration") (b:=true) ⟨_,iX _ rfl,rfl⟩ isSubtype_stop ⟨rfl,?_⟩
 exact hQ _ fun b o e=>fh _ (fh _ e)
theorem jm{Q:Option Value->Shared->Prop}{slot:Nat}{r:Option (Value × Nat)}(hh:A.handled=none)(gV:a≠I)(hit:qq s.heap I (.int slot 0) i a es.size ep)(FC:Ap s.heap a es ep t)(hf:t.fits es.size=true)
  (hr:∀ (A':Around) (E':Value->Shared->Prop) (Q':Option (Value × Nat)->Shared->Prop),Q' r s->wpAny (model prog w) A' (setNext a slot i ep) Q' E' s)
  (h1:∀ x nx h',r=some (x,nx)->qq h' I (.int nx 0) (i+1) a es.size ep->Heap.SameBut I s.heap h'->Q (some x) { s with heap:=h' })
  (h2:∀ h',r=none->(∀ b o,b≠I->s.heap.get? b=some o->h'.get? b=some o)->Q none { s with heap:=h' }) :
  wpAny (model prog w) A (pyNext (.ref I)) Q E s:=by
 obtain⟨o,ho,hd⟩:=FC
 refine yU hit ?_
 unfold Builtin.«set_iterator.__next__»
 refine ah (m:=slotArgs "__next__" 0 ⟨[.ref I],[]⟩) (wpAny_of_eq (a:=(.ref I,[])) rfl ?_)
 dsimp only
 refine ah (wpAny_fieldsOf hit rfl ?_)
 dsimp only
 refine ah (wpAny_setEntries_of ho hd hf ?_)
 rw[if_neg (by simp)]
 simp only[G0]
 refine ah (hr _ _ _ ?_)
 cases r with
 |some p =>
  obtain⟨x,nx⟩:=p
  dsimp only
  refine ah (wpAny_setField_rec hit (by simp) fun g1 e1 tj=>?_)
  refine ah (wpAny_setField_rec (s:={ s with heap:=g1 }) e1 (by simp) fun g2 e2 DL=>?_)
  exact aw ⟨x,rfl,h1 x nx g2 rfl (by unfold qq;simpa[rawInt] using e2) (tj.trans DL)⟩
 |none =>
  dsimp only
  refine ah (wpAny_setField_rec hit (by simp) fun g1 e1 tj=>?_)
  exact yz (s:={ s with heap:=g1 }) hh fun h' k=>h2 h' rfl fun b o hb e=>k b o (tj.extBut b o hb e)
theorem oW{Q:Option Value->Shared->Prop}{T:Addr}{ix:List Nat}{oT:Obj}{kT:Nat}(hh:A.handled=none)(hit:qq s.heap I (.ref T) i a es.size ep)(FC:Ap s.heap a es ep t)(hf:t.fits es.size=true)
  (hT:s.heap.get? T=some oT) (hTd:oT.data=.seq (ix.map fun(k:Nat)=>Value.int k 0).toArray kT)
  (h1:∀ k e h',ix[i]? = some k->es[k]? = some e->qq h' I (.ref T) (i+1) a es.size ep->Heap.SameBut I s.heap h'->Q (some e.2) { s with heap:=h' }) (xt:∀ k∈ix,k<es.size)
  (h2:∀ h',ix[i]? = none->(∀ b o,b≠I->s.heap.get? b=some o->h'.get? b=some o)->Q none { s with heap:=h' }) :
  wpAny (model prog w) A (pyNext (.ref I)) Q E s:=by
 obtain⟨o,ho,hd⟩:=FC
 refine yU hit ?_
 unfold Builtin.«set_iterator.__next__»
 refine ah (m:=slotArgs "__next__" 0 ⟨[.ref I],[]⟩) (wpAny_of_eq (a:=(.ref I,[])) rfl ?_)
 dsimp only
 refine ah (wpAny_fieldsOf hit rfl ?_)
 dsimp only
 refine ah (wpAny_setEntries_of ho hd hf ?_)
 rw[if_neg (by simp)]
 refine ah (wpAny_seqItems hT hTd ?_)
 dsimp only
 simp only[G0,List.getElem?_toArray,mr]
 cases hk:ix[i]? with
 |some k =>
  dsimp only[Option.map]
  have R5:=xt k (mn hk)
  refine ah ?_
  unfold setNextDrawn
  refine ah (wpAny_setState_of ho hd hf ?_)
  dsimp only
  simp only[G0]
  rw[if_neg (by simp),wo R5]
  refine aw ?_
  refine ah (wpAny_setField_rec hit (by simp) fun g1 e1 tj=>?_)
  exact aw ⟨_,rfl,h1 k es[k] g1 hk (wo R5) (by unfold qq;simpa[rawInt] using e1) tj⟩
 |none =>
  dsimp only[Option.map]
  refine ah (wpAny_setField_rec hit (by simp) fun g1 e1 tj=>?_)
  refine ah (wpAny_setField_rec (s:={ s with heap:=g1 }) e1 (by simp) fun g2 e2 DL=>?_)
  exact yz (s:={ s with heap:=g2 }) hh fun h' k=>h2 h' hk fun b o hb e=>k b o ((tj.trans DL).extBut b o hb e)
theorem qD (a:Value):argsOk "set_iterator.__iter__" ⟨[a],[]⟩:=by
 unfold argsOk;rw[signature?_of (id := "set_iterator.__iter__") (n:=['_','_','r','e','t','i','_','_']) (o:=['r','o','t','a','r','e','t','i','_','t','e','s']) (by kernel_rfl) tL];kernel_rfl
theorem nU:entryFor table "set_iterator.__iter__" = some Builtin.«dict_keyiterator.__iter__» :=
 entryFor_alias (id' := "dict_keyiterator.__iter__") (by kernel_rfl) rfl (by decide +kernel) (by kernel_rfl)
theorem lF(hit:qq s.heap I first i a n ep)(h:Q (.ref I) s):wpAny (model prog w) A (pyIter (.ref I)) Q E s:=by
 refine wpAny_pyIter_slot hit.typeIs i_ (wpAny_call_entry i_ hit.typeIs nU ?_ (qD _))
 show wpAny _ _ (ret (.ref I)) _ _ s
 exact aw ⟨_,rfl, "set_iterator",_,hit.typeIs,bZ.lookup,h⟩
theorem tX {slot:Nat} {Q:Option (Value × Nat)->Shared->Prop} (hb:w.params.followText "set-order" = true) (FC:Ap s.heap a es ep t) (hf:t.fits es.size=true)
  (h:Q (((pickOrder (w.params.setOrder a ep) es)[i]?).map fun e=>(e.2,slot)) s):wpAny (model prog w) A (setNext a slot i ep) Q E s:=by
 obtain⟨o,ho,hd⟩:=FC
 unfold setNext
 refine ah (wpAny_setState_of ho hd hf ?_)
 dsimp only
 unfold setsByText
 refine ah (ah (wpAny_askSetting (aw ?_)))
 dsimp only
 rw[if_pos (by exact hb),if_neg (by simp)]
 refine ah ?_
 unfold setWalk
 refine ah (wpAny_setState_of ho hd hf ?_)
 dsimp only
 unfold setsByText
 refine ah (ah (wpAny_askSetting (aw ?_)))
 dsimp only
 rw[if_pos (by exact hb)]
 refine ah (wpAny_askSetting (aw ?_))
 exact aw h
theorem pC {slot:Nat} {Q:Option (Value × Nat)->Shared->Prop} (hb:w.params.followText "set-order" = false) (hl:t.led=true) (Kb:(!t.plain && decide (es.size>1))=false) (FC:Ap s.heap a es ep t) (hf:t.fits es.size=true)
  (h:Q (match es[below t.place slot]?,t.place[below t.place slot]? with
  |some (_,x),some j=>some (x,j+1)
  |_,_=>none) s):wpAny (model prog w) A (setNext a slot i ep) Q E s:=by
 obtain⟨o,ho,hd⟩:=FC
 unfold setNext
 refine ah (wpAny_setState_of ho hd hf ?_)
 dsimp only
 unfold setsByText
 refine ah (ah (wpAny_askSetting (aw ?_)))
 dsimp only
 rw[if_neg (by rw[show(model prog w).w.params.followText "set-order" = false from hb];exact hU)]
 have e0:qy es t=(!t.plain && decide (es.size>1)):=rfl
 unfold qy at e0
 rw[e0,Kb,if_neg hU]
 refine ah (m:=KC es t) ?_
 show wpAny _ _ (if (!t.led && !es.isEmpty)=true then unsupported "set:maker-not-led" else pure ()) _ _ s
 rw[if_neg (by rw[hl];simp)]
 exact aw (aw h)
def PV(ys:List (Int × Value))(i:Nat)(v:Value):Prop:=∃ e,ys[i]? = some e/\v=e.2
theorem qq.keep(x:qq h I first i a n ep)(e:∀ o,h.get? I=some o->h'.get? I=some o):qq h' I first i a n ep:=e _ x
theorem Ap.keep(x:Ap h a es ep t)(e:∀ o,h.get? a=some o->h'.get? a=some o):Ap h' a es ep t:=let ⟨o,ho,r⟩:=x;⟨o,e _ ho,r⟩
theorem zr (hh:A.handled=none) (gV:a≠I) (hb:w.params.followText "set-order" = true) (hf:t.fits es.size=true) :
  Walks prog w A I [I,a] [I] es.size (PV (pickOrder (w.params.setOrder a ep) es).toList) (fun i h=>(∃ slot:Nat,qq h I (.int slot 0) i a es.size ep)/\Ap h a es ep t) where
 sub:=fun b hb=>by simp at hb;simp[hb]
 frame:=fun _ _ _ ⟨⟨sl,x⟩,y⟩ hk=>⟨⟨sl,x.keep fun o e=>hk I (by simp) o e⟩,y.keep fun o e=>hk a (by simp) o e⟩
 item:=fun i s Q E hi ⟨⟨sl,x⟩,y⟩ hQ=>by
  have hlen:(pickOrder (w.params.setOrder a ep) es).size=es.size:=by
   have:=(lM (w.params.setOrder a ep) es).length_eq
   simpa using this
  refine jm hh gV x y hf (r:=((pickOrder (w.params.setOrder a ep) es)[i]?).map fun e=>(e.2,sl)) (fun A' E' Q' q=>tX hb y hf q) (fun v nx h' e x' sb=>?_) fun h' e k=>?_
  ·rw[wo (by lia)] at e
   cases e
   exact hQ _ h' s.toks ⟨_,by rw[oq];exact wo (by lia),rfl⟩ ⟨⟨_,x'⟩,y.keep fun o e=>sb.extBut _ _ gV e⟩ fun b o hb e=>sb.extBut b o (fun h=>hb (by simp[h])) e
  ·rw[wo (by lia)] at e
   cases e
 done:=fun s Q E ⟨⟨sl,x⟩,y⟩ hQ=>by
  have hlen:(pickOrder (w.params.setOrder a ep) es).size=es.size:=by
   have:=(lM (w.params.setOrder a ep) es).length_eq
   simpa using this
  refine jm hh gV x y hf (r:=((pickOrder (w.params.setOrder a ep) es)[es.size]?).map fun e=>(e.2,sl)) (fun A' E' Q' q=>tX hb y hf q) (fun v nx h' e x' sb=>?_) fun h' e k=>?_
  ·rw[GY (by lia)] at e
   cases e
  ·exact hQ h' s.toks fun b o hb e=>k b o (fun h=>hb (by simp[h])) e
 self:=fun _ _ _ _ ⟨⟨sl,x⟩,y⟩ hQ=>lF x hQ
def slotAt(t:SetTable):Nat->Nat
 |0=>0
 |i+1=>t.place.getD i 0+1
theorem jW(U:Up t.place)(h:i<=t.place.size):below t.place (slotAt t i)=i:=by
 cases i with
 |zero =>
  obtain⟨_,b,_⟩:=aP U 0
  by_cases z:below t.place 0=0
  ·exact z
  ·exact absurd (b 0 (Nat.pos_of_ne_zero z)) (D7 _)
 |succ i=>exact yg U (by lia)
theorem x_ (hh:A.handled=none) (gV:a≠I) (hb:w.params.followText "set-order" = false) (hl:t.led=true) (Kb:(!t.plain && decide (es.size>1))=false) (U:Up t.place) (hz:t.place.size=es.size) (hf:t.fits es.size=true) :
  Walks prog w A I [I,a] [I] es.size (PV es.toList) (fun i h=>qq h I (.int (slotAt t i:Nat) 0) i a es.size ep/\Ap h a es ep t) where
 sub:=fun b hb=>by simp at hb;simp[hb]
 frame:=fun _ _ _ ⟨x,y⟩ hk=>⟨x.keep fun o e=>hk I (by simp) o e,y.keep fun o e=>hk a (by simp) o e⟩
 item:=fun i s Q E hi ⟨x,y⟩ hQ=>by
  have DJ:=jW (t:=t) U (i:=i) (by lia)
  have e1:es[below t.place (slotAt t i)]? = some es[i]:=by rw[DJ];exact wo hi
  have e2:t.place[below t.place (slotAt t i)]? = some (t.place.getD i 0):=by rw[DJ];exact zH (by lia)
  refine jm hh gV x y hf (r:=some (es[i].2,t.place.getD i 0+1)) (fun A' E' Q' q=>pC hb hl Kb y hf (by rw[e1,e2];exact q)) (fun v nx h' e x' sb=>?_) fun h' e k=>nomatch e
  cases e
  exact hQ _ h' s.toks ⟨_,by rw[oq];exact wo hi,rfl⟩ ⟨x',y.keep fun o e=>sb.extBut _ _ gV e⟩ fun b o hb e=>sb.extBut b o (fun h=>hb (by simp[h])) e
 done:=fun s Q E ⟨x,y⟩ hQ=>by
  have DJ:=jW (t:=t) U (i:=es.size) (by lia)
  have e1:es[below t.place (slotAt t es.size)]? = none:=by rw[DJ];exact GY (ck _)
  refine jm hh gV x y hf (r:=none) (fun A' E' Q' q=>pC hb hl Kb y hf (by rw[e1];exact q)) (fun v nx h' e x' sb=>nomatch e) fun h' e k=>?_
  exact hQ h' s.toks fun b o hb e=>k b o (fun h=>hb (by simp[h])) e
 self:=fun _ _ _ _ ⟨x,y⟩ hQ=>lF x hQ
theorem xK{T:Addr}{ix:List Nat}{kT:Nat}(hh:A.handled=none)(gV:a≠I)(hTI:T≠I)(hf:t.fits es.size=true)(hp:ix.Perm (List.range es.size)) :
  Walks prog w A I [I,a,T] [I] es.size (PV (ix.filterMap fun k=>es[k]?)) (fun i h=>qq h I (.ref T) i a es.size ep/\Ap h a es ep t/\∃ o,h.get? T=some o/\o.data=.seq (ix.map fun(k:Nat)=>Value.int k 0).toArray kT):=by
 have hlen:ix.length=es.size:=by simpa using hp.length_eq
 have xt:∀ k∈ix,k<es.size:=fun k hk=>mI.mp (hp.mem_iff.mp hk)
 obtain⟨f1,f2⟩:=wy (l:=ix) (f:=fun k=>es[k]?) fun k hk=>by simp[xt k hk]
 exact {
  sub:=fun b hb=>by simp at hb;simp[hb]
  frame:=fun _ _ _ ⟨x,y,o,z,zd⟩ hk=>⟨x.keep fun o e=>hk I (by simp) o e,y.keep fun o e=>hk a (by simp) o e,o,hk T (by simp) o z,zd⟩
  item:=fun i s Q E hi ⟨x,y,o,z,zd⟩ hQ=>by
   refine oW hh x y hf z zd (fun k e h' e1 e2 x' sb=>?_) xt fun h' e k=>?_
   ·refine hQ _ h' s.toks ⟨e,by rw[f2,e1];exact e2,rfl⟩ ⟨x',y.keep fun o e=>sb.extBut _ _ gV e,o,sb.extBut _ _ hTI z,zd⟩ fun b o hb e=>sb.extBut b o (fun h=>hb (by simp[h])) e
   ·rw[mG (by lia)] at e;cases e
  done:=fun s Q E ⟨x,y,o,z,zd⟩ hQ=>by
   refine oW hh x y hf z zd (fun k e h' e1 e2 x' sb=>?_) xt fun h' e k=>?_
   ·rw[tP (by lia)] at e1;cases e1
   ·exact hQ h' s.toks fun b o hb e=>k b o (fun h=>hb (by simp[h])) e
  self:=fun _ _ _ _ ⟨x,_⟩ hQ=>lF x hQ }
end
section
variable {prog:Program}{w:World}{A:Around}{E:Value->Shared->Prop}{s:Shared}{a:Addr}{o:Obj}{es:Array (Int × Value)}{ep:Nat}{t:SetTable}
theorem Dt {Q:Value->Shared->Prop} (hh:A.handled=none) (ho:s.heap.get? a=some o) (hex:o.ExactSet) (hd:o.data=.set es ep t) (hf:t.fits es.size=true) (U:Up t.place) (hz:t.place.size=es.size) (hl:t.led=(!w.params.followText "set-order")) (hn:es.size<=sizeLine)
  (h:∀ (I:Addr) (h2:Heap) d (fp:List Addr) (St:Nat->Heap->Prop) (ys:List (Int × Value)),(∀ b o,s.heap.get? b=some o->h2.get? b=some o)->s.heap.objs.size<=I->(∀ b∈fp,b=a\/s.heap.objs.size<=b)->ys.Perm es.toList ->
   Walks prog w A I fp [I] es.size (PV ys) St->St 0 h2->Q (.ref I) { s with heap:=h2,drawn:=d }):wpAny (model prog w) A (pyIter (.ref a)) Q E s:=by
 have hT:s.TypeIs (.ref a) "set" := ⟨o,ho,hex.1⟩
 have dQ:a<s.heap.objs.size:=eh ho
 refine wpAny_pyIter_slot hT F.slot_set_iter (wpAny_call_entry F.slot_set_iter hT nY ?_ (F.args_set_iter_1 _))
 unfold Builtin.«frozenset.__iter__»
 refine ah (m:=Builtin.Frozenset.slot0 "__iter__" ⟨[.ref a],[]⟩) (wpAny_of_eq (a:=a) rfl ?_)
 refine ah ?_
 unfold Builtin.Frozenset.sizeOf
 refine ah (wpAny_setEntries_of ho hd hf (aw ?_))
 refine ah ?_
 unfold setDrawn
 refine ah (wpAny_setState_of ho hd hf ?_)
 dsimp only
 unfold setsByText
 refine ah (ah (wpAny_askSetting (aw ?_)))
 refine aw ?_
 have e0:qy es t=(!t.plain && decide (es.size>1)):=rfl
 unfold qy at e0
 rw[e0]
 show wpAny _ _ (if (!w.params.followText "set-order" && (!t.plain && decide (es.size>1)))=true then _ else _) _ _ s
 cases hb:w.params.followText "set-order" with
 |true =>
  rw[if_neg (by simp)]
  refine ah (aw ?_)
  refine ah (wpAny_setEpoch_of ho hd hf ?_)
  refine ah (wpAny_newObj_type ?_)
  refine aw ⟨_,rfl, "set_iterator",_,⟨_,iX _ rfl,rfl⟩,bZ.lookup,?_⟩
  have mM:(s.heap.push { cls:=.type "set_iterator",data:=.fields #[rawInt 0,rawInt 0,.ref a,rawInt es.size,rawInt ep] }).get? a=some o:=fh _ ho
  exact h s.heap.objs.size _ s.drawn _ _ _ (fun b o e=>fh _ e) (ck _) (fun b hb=>by
   rcases dr.mp hb with rfl|hb
   ·exact .inr (ck _)
   ·exact .inl (kg.mp hb)) (lM _ _) (zr (ep:=ep) hh (fN dQ) hb hf) ⟨⟨0,iX _ rfl⟩,o,mM,hd⟩
 |false =>
  cases Kb:(!t.plain && decide (es.size>1)) with
  |false =>
   rw[if_neg (by simp)]
   refine ah (aw ?_)
   refine ah (wpAny_setEpoch_of ho hd hf ?_)
   refine ah (wpAny_newObj_type ?_)
   refine aw ⟨_,rfl, "set_iterator",_,⟨_,iX _ rfl,rfl⟩,bZ.lookup,?_⟩
   have mM:(s.heap.push { cls:=.type "set_iterator",data:=.fields #[rawInt 0,rawInt 0,.ref a,rawInt es.size,rawInt ep] }).get? a=some o:=fh _ ho
   exact h s.heap.objs.size _ s.drawn _ _ _ (fun b o e=>fh _ e) (ck _) (fun b hb=>by
    rcases dr.mp hb with rfl|hb
    ·exact .inr (ck _)
    ·exact .inl (kg.mp hb)) (.refl _) (x_ (ep:=ep) hh (fN dQ) hb (by rw[hl,hb];rfl) Kb U hz hf) ⟨iX _ rfl,o,mM,hd⟩
  |true =>
   rw[if_pos (by simp)]
   refine ah (Fd es.size (List.range es.size) s _ (by simp) fun ix d hp=>?_)
   refine ah (wpAny_newObj_type ?_ ?hzz)
   case hzz =>
    have:=hp.length_eq
    rw[S2] at this
    show(ix.map fun(i:Nat)=>rawInt i).toArray.size<=sizeLine
    rw[h9,bS,this];exact hn
   have sQ:(s.heap.push { cls:=.type "tuple",data:=.seq (ix.map fun(i:Nat)=>rawInt i).toArray }).get? a=some o:=fh _ ho
   refine ah (wpAny_setEpoch_of sQ hd hf ?_)
   refine ah (wpAny_newObj_type ?_)
   refine aw ⟨_,rfl, "set_iterator",_,⟨_,iX _ rfl,rfl⟩,bZ.lookup,?_⟩
   have R6:(s.heap.push { cls:=.type "tuple",data:=.seq (ix.map fun(i:Nat)=>rawInt i).toArray }).objs.size=s.heap.objs.size+1:=Heap.size_push ..
   refine h (s.heap.push { cls:=.type "tuple",data:=.seq (ix.map fun(i:Nat)=>rawInt i).toArray }).objs.size _ d [(s.heap.push { cls:=.type "tuple",data:=.seq (ix.map fun(i:Nat)=>rawInt i).toArray }).objs.size,a,s.heap.objs.size] _ (ix.filterMap fun k=>es[k]?) (fun b o e=>fh _ (fh _ e)) (by rw[R6];exact Ee _) (fun b hb=>?_) ?_
    (xK (ep:=ep) (kT:=0) (T:=s.heap.objs.size) (ix:=ix) (t:=t) hh (by rw[R6];exact fN (zh dQ)) (by rw[R6];exact fN (Nat.lt_succ_self _)) hf hp) ⟨iX _ rfl,⟨o,fh _ sQ,hd⟩,_,fh _ (iX _ rfl),rfl⟩
   ·rcases dr.mp hb with rfl|hb
    ·exact .inr (by rw[R6];exact Ee _)
    ·rcases dr.mp hb with rfl|hb
     ·exact .inl rfl
     ·rw[kg.mp hb];exact .inr (ck _)
   ·have:=hp.filterMap fun k=>es[k]?
    rw[xf] at this
    exact this
theorem CG {Q:Bool->Shared->Prop} (hT:s.TypeIs (.ref a) "set") (h:Q false s):wpAny (model prog w) A (Builtin.List.listLengthHint (.ref a)) Q E s:=by
 unfold Builtin.List.listLengthHint
 refine ah (wpAny_specialOf hT PySem.F.slot_set_len.lookup ?_)
 generalize Zz:("set.__len__" : String)=id0
 wp_delta
 rw[show splitId id0=some ("set", "__len__") from by subst Zz;decide +kernel]
 subst Zz
 refine ah (wpAny_isInstance (T := "set") (b:=true) hT (by rw[isSubtype_type];kernel_rfl) ?_)
 refine wpAny_ite_split (fun wa=>absurd wa (by decide)) (fun _=>?_)
 refine wpAny_ite_split (fun _=>?_) (fun wa=>absurd (by decide +kernel) wa)
 refine ah (wpAny_typeOf hT ?_)
 exact aw h
theorem Fb {R:Result->Shared->Prop} (hh:A.handled=none) (ho:s.heap.get? a=some o) (hex:o.ExactSet) (hd:o.data=.set es ep t) (hf:t.fits es.size=true) (U:Up t.place) (hz:t.place.size=es.size) (hl:t.led=(!w.params.followText "set-order")) (hn:es.size<=sizeLine)
  (S:Addr) (ZC:S≠a) (res:Value) (c₀:Nat) (hS:s.heap.get? S=some { cls:=.type "list",data:=.seq #[] c₀ })
  (hR:∀ h' tk d Bz c' ys,(∀ b o,b≠S->s.heap.get? b=some o->h'.get? b=some o)->h'.get? S=some { cls:=.type "list",dict:=none,data:=.seq Bz c',slots:=#[] }->ys.Perm es.toList->ItemsOf (PV ys) Bz es.size->R (.ok (.ret res)) { s with heap:=h',toks:=tk,drawn:=d }) :
  wpAny (model prog w) A.in1 (Builtin.List.listExtendWith (.ref S) (.ref a) res)
   (fun fin s'=>match fin with|.done f=>R (.ok f) s'|.again c'=>c'.quiet=true/\codeAny (model prog w) A c' R s') (fun e s'=>R (.error e) s') s:=by
 have hT:s.TypeIs (.ref a) "set" := ⟨o,ho,hex.1⟩
 have hSl:=eh hS
 unfold Builtin.List.listExtendWith
 refine ah (wpAny_typeOf hT ?_)
 have h1:Builtin.List.listSameRef (.ref S) (.ref a)=false:=by simp[Builtin.List.listSameRef,ZC]
 simp only[h1,show(Value.type "set" == Value.type "list")=false by decide,show(Value.type "set" == Value.type "tuple")=false by decide,Bool.or_false,kH,if_false]
 refine ah (Dt (A:=A.in1) hh ho hex hd hf U hz hl hn fun I h2 d fp St ys kp hI hfp hp W st=>?_)
 have Fs:S∉fp:=fun hm=>by
  rcases hfp S hm with z|z
  ·exact ZC z
  ·exact absurd hSl (Nat.not_lt.mpr z)
 have key:∀ (h:Heap) (c₁ tk:Nat),St 0 h->(∀ b o,b≠S->s.heap.get? b=some o->h.get? b=some o) ->
   h.get? S=some { cls:=.type "list",data:=.seq #[] c₁ }->codeAny (model prog w) A (.builtin "list.extend.loop" ⟨[.ref S,.ref I,res],[]⟩) R { s with heap:=h,toks:=tk,drawn:=d }:=by
  intro h c₁ tk wx hk OY
  refine codeAny_extend_loopS W.toS hn S Fs res es.size 0 _ #[] c₁ rfl (fE _) wx OY (ItemsOf.nil _) fun s' Bz c' hm OX MY=>?_
  rw[Moved.eq_with hm]
  refine hR s'.heap s'.toks d Bz c' ys (fun b o hb e=>hm.heap b o (fun Nw=>?_) (hk b o hb e)) OX hp MY
  rcases dr.mp Nw with e'|Nw
  ·exact hb e'
  ·exact absurd (eh e) (by rw[kg.mp Nw];exact Nat.not_lt.mpr hI)
 have OY:h2.get? S=some { cls:=.type "list",data:=.seq #[] c₀ }:=kp _ _ hS
 refine ah (wpAny_holding (CG (s:={ s with heap:=h2,drawn:=d }) ⟨o,kp _ _ ho,hex.1⟩ ?_))
 refine wpAny_ite_split (fun _=>?_) (fun _=>aw ⟨plainId_quiet PySem.F.plain_extend_loop _,key _ c₀ _ st (fun b o _ e=>kp b o e) OY⟩)
 refine ah (wpAny_rule ?_)
 refine ah ?_
 show wpAny _ _ (updateSeq S (·.push .none) >>= fun _=>updateSeq S (·.pop)) _ _ _
 refine ah (wpAny_updateSeq OY rfl ?_)
 have ZD:=y9 (Obj.mapSeq (·.push Value.none)) OY rfl
 refine wpAny_updateSeq (hz:=by seq_fits) ZD rfl ?_
 have gt':=y9 (Obj.mapSeq (·.pop)) ZD rfl
 refine aw ⟨plainId_quiet PySem.F.plain_extend_loop _,key _ _ _ ?_ (fun b o hb e=>?_) gt'⟩
 ·refine W.frame 0 _ _ st fun b hb o e=>?_
  have OV:b≠S:=fun h=>Fs (h ▸ hb)
  exact(LH _ _ (Ne.symm OV)).trans ((LH _ _ (Ne.symm OV)).trans e)
 ·exact(LH _ _ (Ne.symm hb)).trans ((LH _ _ (Ne.symm hb)).trans (kp _ _ e))
theorem ye{ys:List (Int × Value)}{acc:Array Value}{n:Nat}(h:ItemsOf (PV ys) acc n)(hn:ys.length=n):acc.toList=ys.map (·.2):=by
 apply D2
 intro i
 rw[mr]
 by_cases hi:i<n
 ·have iF:i<acc.size:=by rw[h.1];exact hi
  have e1:acc[i]? = some acc[i]:=wo iF
  obtain⟨e,he,hv⟩:=h.2 i acc[i] e1
  rw[oq,e1,he,hv];rfl
 ·rw[tP (by rw[tT,h.1];exact GP ‹_›),tP (by lia)];rfl
theorem kh {R:Result->Shared->Prop} (hh:A.handled=none) (ho:s.heap.get? a=some o) (hex:o.ExactSet) (hd:o.data=.set es ep t) (hf:t.fits es.size=true) (U:Up t.place) (hz:t.place.size=es.size) (hl:t.led=(!w.params.followText "set-order")) (hn:es.size<=sizeLine)
  (hR:∀ h' tk d Bz c' ys,(∀ b o,s.heap.get? b=some o->h'.get? b=some o)->h'.get? s.heap.objs.size=some { cls:=.type "list",dict:=none,data:=.seq Bz c',slots:=#[] }->ys.Perm es.toList->ItemsOf (PV ys) Bz es.size->R (.ok (.ret (.ref s.heap.objs.size))) { s with heap:=h',toks:=tk,drawn:=d }) :
  codeAny (model prog w) A (.builtin "proto.collect" ⟨[.ref a],[]⟩) R s:=by
 have dQ:a<s.heap.objs.size:=eh ho
 have hS:(s.heap.push { cls:=.type "list",data:=.seq ([]:List Value).toArray }).get? s.heap.objs.size=some { cls:=.type "list",data:=.seq ([]:List Value).toArray }:=iX _ rfl
 refine codeAny_builtin F.entry_proto_collect ?_
 rw[Around.under_plainId F.plain_proto_collect _]
 show wpAny _ A.in1 (newList [] >>= fun l=>again (.builtin "list.__iadd__" ⟨[l,.ref a],[]⟩)) _ _ s
 refine ah (wpAny_newObj_type ?_)
 refine aw ⟨plainId_quiet F.plain_list_iadd _,codeAny_builtin F.entry_list_iadd ?_⟩
 rw[Around.under_plainId F.plain_list_iadd _]
 show wpAny _ A.in1 (Builtin.List.listExtendWith (.ref s.heap.objs.size) (.ref a) (.ref s.heap.objs.size)) _ _ _
 exact Fb (R:=R) (s:={ s with heap:=s.heap.push { cls:=.type "list",data:=.seq ([]:List Value).toArray } }) hh (fh _ ho) hex hd hf U hz hl hn s.heap.objs.size (Nat.ne_of_gt dQ) _ 0 hS fun h' tk d Bz c' ys kp eo hp ia =>
  hR h' tk d Bz c' ys (fun b o e=>kp b o (fN (eh e)) (fh _ e)) eo hp ia
theorem m7 {Q:List Value->Shared->Prop} (hh:A.handled=none) (ho:s.heap.get? a=some o) (hex:o.ExactSet) (hd:o.data=.set es ep t) (hf:t.fits es.size=true) (U:Up t.place) (hz:t.place.size=es.size) (hl:t.led=(!w.params.followText "set-order")) (hn:es.size<=sizeLine)
  (hQ:∀ h' tk d vs,(∀ b o,s.heap.get? b=some o->h'.get? b=some o)->s.heap.objs.size<=h'.objs.size->vs.Perm (es.toList.map (·.2))->Q vs { s with heap:=h',toks:=tk,drawn:=d }):wpAny (model prog w) A (collect (.ref a)) Q E s:=by
 unfold collect
 refine ah (wpAny_runValue (kh hh ho hex hd hf U hz hl hn fun h' tk d acc c ys kp eo hp ia=>?_))
 show wpAny _ A (load s.heap.objs.size >>= _) _ _ { s with heap:=h',toks:=tk,drawn:=d }
 refine ah (wpAny_load eo ?_)
 refine aw (hQ h' tk d _ kp (pT (eh eo)) ?_)
 rw[ye ia (by rw[hp.length_eq];simp)]
 exact hp.map _
end
end TS
namespace xl
open PySem PyProof.Rows
section
variable {prog:Program}{w:World}{A:Around}{E:Value->Shared->Prop}{s:Shared}{κ:SortKind}{r:Value->Int}{P:Value->Prop}
theorem mH{v:Value}{R:List Value->Prop}{Q:Value->Shared->Prop}
  (gu':∀ (A':Around) (E':Value->Shared->Prop) (Q':List Value->Shared->Prop),A'.handled=A.handled->(∀ vs h1 tk d,R vs->(∀ b o,s.heap.get? b=some o->h1.get? b=some o)->s.heap.objs.size<=h1.objs.size->Q' vs { s with heap:=h1,toks:=tk,drawn:=d })->wpAny (model prog w) A' (collect v) Q' E' s)
  (hsz:∀ vs,R vs->vs.length<=63) (hP:∀ vs,R vs->∀ v∈vs,P v)
  (hk:∀ vs,R vs->2<=vs.length->∀ (A':Around) (E':Value->Shared->Prop) (s':Shared),(∀ b o,s.heap.get? b=some o->s'.heap.get? b=some o)->∀ (Q:SortKind->Shared->Prop),Q κ s'->wpAny (model prog w) A' (keyKind' vs.toArray) Q E' s')
  (C:∀ (s':Shared),(∀ b o,s.heap.get? b=some o->s'.heap.get? b=some o)->rV prog w A.in1.in1 s' κ r P)
  (h:∀ (vs:List Value) (h':Heap) (a:Addr) (out:List Value) (n tk:Nat) d,R vs->out.Perm vs->(out.Pairwise fun x y=>r x<=r y)->(∀ b o,s.heap.get? b=some o->h'.get? b=some o)->s.heap.objs.size<=a->h'.get? a=some (seqObj "list" out.toArray n)->Q (.ref a) { s with heap:=h',toks:=tk,drawn:=d }) :
  wpAny (model prog w) A (call (.builtin "sorted") [v]) Q E s:=by
 refine Calls.call_function_entry kind_sorted plain_sorted entry_sorted (args_sorted1 _) ?_
 unfold Builtin.«sorted»
 refine ah (m:=checkCount "sorted" 1 1 _) (aw ?_)
 refine ah (gu' _ _ _ rfl fun vs h1 tk d hR kp hz=>?_)
 have vw:=hsz vs hR
 have Bi:vs.length<=sizeLine:=gE vw (by rw[sizeLine_eq];decide)
 refine ah (wpAny_newList ?_ (by simpa using Bi))
 have CB:(h1.push (seqObj "list" vs.toArray 0)).get? h1.objs.size=some (seqObj "list" vs.toArray 0):=iX _ rfl
 have old:∀ b o,s.heap.get? b=some o->(eQ (h1.push (seqObj "list" vs.toArray 0)) h1.objs.size vs).get? b=some o:=fun b o e=>by
  have dQ:b<h1.objs.size:=eh (kp b o e)
  rw[mU (fN dQ) (by rw[size_push'];exact zh dQ)]
  exact fh _ (kp b o e)
 show wpAny _ _ _ _ _ { s with heap:=h1.push (seqObj "list" vs.toArray 0),toks:=tk,drawn:=d }
 refine ah (wpAny_holding (wpAny_call_entry slot_list_sort ⟨_,CB,rfl⟩ entry_list_sort (jP (r:=r) (s:={ s with heap:=h1.push (seqObj "list" vs.toArray 0),toks:=tk,drawn:=d }) CB vw (hP vs hR)
  (fun h2=>hk vs hR h2 _ _ _ old) (fun h2=>C _ old) fun out a1 a2=>⟨_,rfl,?_⟩) (args_list_sort _)))
 obtain⟨n,e⟩:=sortedHeap_at (out:=out) CB
 refine aw ⟨_,rfl,h vs _ h1.objs.size out.toList n tk d hR a1 a2 (fun b o e=>?_) hz (by rw[S6];exact e)⟩
 have dQ:b<h1.objs.size:=eh (kp b o e)
 rw[sortedHeap_old (fN dQ) (by rw[size_push'];exact zh dQ)]
 exact fh _ (kp b o e)
end
end xl
namespace TS
open PySem PySem.SetTable PyProof.Rows
section
variable {prog:Program}{w:World}{K:Type}[DecidableEq K]{knd:KeyKind prog w K}{A:Around}{E:Value->Shared->Prop}{s:Shared}
theorem vW{α:Type}(led:Bool):TI (α:=α) (SetTable.fresh 0 0 led) #[] :=
 ⟨⟨3,rfl,ck _⟩,rfl,fun i j h hj=>absurd hj (D7 _),fun i hi=>absurd hi (D7 _),rfl,(by show 0*5<7*3;decide),fun i h x e=>by simp at e⟩
theorem sW{l:Addr}{items:Array Value}{xs:List (List K × Addr)}{Q:Value->Shared->Prop}(hh:A.handled=none)(hu:A.units+8<cLine)(hl:s.heap.IsList l items)(hi:items.toList=xs.map fun p=>Value.ref p.2)
  (mE:∀ p∈xs,IsTupleKey knd s.heap p.1 p.2) (hz:xs.length<=63) (rS:∀ k v,knd.is k v=true->v.scannable=true)
  (h:∀ h' tk ks,JJ knd h' s.heap.objs.size ks->(∀ k,k∈ks.map (·.1)↔k∈xs.map (·.1))->(∀ p∈ks,p∈xs)->(∀ b o,s.heap.get? b=some o->h'.get? b=some o)->Q (.ref s.heap.objs.size) { s with heap:=h',toks:=tk }) :
  wpAny (model prog w) A (call (.type "set") [.ref l]) Q E s:=by
 have lt:∀ p∈xs,p.2<s.heap.objs.size:=fun p hp=>by
  obtain⟨o,_,_,ho,_⟩:=mE p hp
  exact eh ho
 refine jL hh hl (fun i h=>∃ ks,JJ knd h s.heap.objs.size ks/\(∀ k,k∈ks.map (·.1)↔k∈(xs.take i).map (·.1))/\(∀ p∈ks,p∈xs)/\ks.length<=i/\∀ p∈xs,IsTupleKey knd h p.1 p.2) (fun h e k=>?_) (fun i h h' ⟨ks,S,m1,m2,m3,m4⟩ k=>?_) (fun i v s' E' Q' hv ⟨ks,S,m1,m2,m3,m4⟩ q=>?_) fun h' tk ⟨ks,S,m1,m2,m3,m4⟩ k=>?_
 ·exact⟨[],⟨⟨_,#[],0,_,e,⟨rfl,rfl,rfl⟩,rfl,vW _,(by show 7<=8191;decide),rfl,rfl⟩,lh,fun p hp=>nomatch hp⟩,fun k=>by simp,(fun p hp=>nomatch hp),ck _,fun p hp=>IsTupleKey.fq (mE p hp) fun o ho=>k _ _ ho⟩
 ·obtain⟨⟨o,es,ep,t,ho,r⟩,nd,is⟩:=S
  exact⟨ks,⟨⟨o,es,ep,t,k _ _ (ck _) ho,r⟩,nd,fun p hp=>IsTupleKey.fq (is p hp) fun o ho=>k _ _ (pT (lt p (m2 p hp))) ho⟩,m1,m2,m3,fun p hp=>IsTupleKey.fq (m4 p hp) fun o ho=>k _ _ (pT (lt p hp)) ho⟩
 ·have oC:items.toList[i]? = some v:=by rw[oq];exact hv
  rw[hi,mr] at oC
  cases ex:xs[i]? with
  |none=>rw[ex] at oC;cases oC
  |some p =>
   rw[ex] at oC
   cases oC
   have hp:=mn ex
   have Zt:i<xs.length:=(iS.mp ex).1
   have U0:(xs.take (i+1)).map (·.1)=(xs.take i).map (·.1)++[p.1]:=by
    rw[D3,ex,kG];rfl
   unfold setAdd
   refine wpAny_holding (ah (wpAny_pyHash_tuple (by show A.units+3<cLine;lia) (m4 p hp) ?_))
   refine Jk (s:={ s' with toks:=s'.toks+(p.1.length+1) }) S (m4 p hp) (by lia) (by show A.units+3<cLine;lia) rS fun b h' dP sb S' c=>?_
   refine q b h' _ sb ⟨dP,S',fun k=>?_,fun p' hJ=>?_,?_,fun p' hJ=>IsTupleKey.fq (m4 p' hJ) fun o ho=>sb.extBut _ _ (fN (lt p' hJ)) ho⟩
   ·rw[U0,dy,kg,<- m1]
    rcases c with⟨c1,rfl⟩|⟨c1,c2⟩
    ·exact⟨.inl,fun z=>z.elim id fun e=>e ▸ c1⟩
    ·rw[(c2.map _).mem_iff,fe,dr]
     exact⟨fun z=>z.symm,fun z=>z.symm⟩
   ·rcases c with⟨c1,rfl⟩|⟨c1,c2⟩
    ·exact m2 p' hJ
    ·rcases dr.mp (c2.mem_iff.mp hJ) with rfl|z
     ·exact hp
     ·exact m2 p' z
   ·rcases c with⟨c1,rfl⟩|⟨c1,c2⟩
    ·lia
    ·rw[c2.length_eq];simp;lia
 ·have e:items.size=xs.length:=by
   have:=congrArg List.length hi
   simpa using this
  rw[e,tS] at m1
  exact h h' tk ks S m1 m2 fun b o ho=>k b o (eh ho) ho
end
end TS
namespace L2
open PySem PySem.Spec PyProof.Rows
section
variable {X:Cx}{pins:List (Addr × Obj)}{σ:St}{H:Hp}{s:Shared}
theorem Inv.drawn{d}(I:Inv X pins σ H s):Inv X pins σ H { s with drawn:=d }:=⟨I.ok,I.os,I.bare,I.base,I.loc,I.cell,I.free,I.uk,I.pin,I.bq,I.len⟩
theorem vP{prog:Program}{w:World}:∀ (k:Key) (v:Value),(ka prog w).is k v=true->v.scannable=true:=fun k v h=>by
 rcases xE h with⟨i,t,rfl,rfl⟩|⟨x,t,rfl,rfl⟩<;>rfl
def je(K:PySem.W.Frag):V->Hp->VK->Prop:=fun x H Q=>match x with
 |.ref p=>∃ ys ks b0 sh,eR K H p ys/\ys.length<=63/\cG H ys ks/\(∀ k∈ks,iL k=b0 :: sh) /\
   ∀ zs ms l,cG H zs ms->ms.Nodup->(∀ k,k∈ms↔k∈ks)->(ms.Pairwise fun a b=>gX b a=false)->H l=none->Q (.ref l) (upd H l (.lst zs))
 |_=>False
theorem cG.pairs{H:Hp}{ys:List V}{ks:List (List Key)}{vs:List Value}(h:cG H ys ks)(hv:Vals ys vs):∃ xs:List (List Key × Addr),vs=xs.map (fun p=>Value.ref p.2)/\xs.map (·.1)=ks/\∀ p∈xs,H p.2=some (.tup (p.1.map kV)):=by
 induction ys generalizing ks vs with
 |nil=>exact⟨[],Paired.n0 hv,(show ks=[] from Paired.n0 h).symm,fun p hp=>nomatch hp⟩
 |cons y ys ih =>
  obtain⟨k,ks,rfl,⟨b,rfl,g⟩,t⟩:=Paired.c h
  obtain⟨v,vs,rfl,rfl,rs⟩:=Paired.c hv
  obtain⟨xs,e1,e2,e3⟩:=ih t rs
  refine⟨(k,b) :: xs,by rw[e1];rfl,by rw[<- e2];rfl,fun p hp=>?_⟩
  rcases dr.mp hp with rfl|hp
  ·exact g
  ·exact e3 p hp
end
section
variable {X:Cx}{e:Expr}{te:TE}{p p2 pos tq:Pos}
theorem uJ (hc:X.calm=true) (hu:X.A.units+64<cLine) (hg:Gl X "sorted") (hm:X.mg "sorted" = none) (FD:Gl X "set") (oD:X.mg "set" = none) (he:PE X e te)
  (hv:bootBuiltins "sorted" = some (.builtin "sorted")) (U1:bootBuiltins "set" = some (.type "set"))
  (qh:starEach [e] X.env=(false,eval e X.env) :: starEach [] X.env:=by rfl)
  (hs:starEach [.Call (.Name "set" p2) [e] [] tq] X.env=(false,eval (.Call (.Name "set" p2) [e] [] tq) X.env) :: starEach [] X.env:=by rfl) :
  PE X (.Call (.Name "sorted" p) [.Call (.Name "set" p2) [e] [] tq] [] pos) (Tr (je X.K) te):=by
 intro pins s σ H Q I h
 refine wpAny_Call_Name_kw (CC I hg hm hv ?_ (by decide) (by decide))
 refine PyProof.Rows.callWith_builtin1 ?_ hs rfl
 rw[hs]
 refine Calls.spliced_cons ?_
 refine wpAny_Call_Name_kw (CC I FD oD U1 ?_ (by decide) (by decide))
 refine PyProof.Rows.callWith_type1 ?_ qh rfl
 rw[qh]
 refine Calls.spliced_cons (cw (he pins s σ H _ I h) fun u s1 cK=>L2.gI cK fun x H1 I1 r1 q1=>Calls.spliced_nil ?_)
 have q1:je X.K x H1 Q:=q1
 obtain⟨a,rfl⟩:∃ a,x=.ref a:=by
  unfold je at q1
  split at q1
  ·exact⟨_,rfl⟩
  ·exact q1.elim
 obtain⟨ys,ks,b0,sh,hl,OZ,ht,zD,q⟩:=q1
 cases r1
 obtain⟨vs,rv,pl,hz⟩:=I1.list hl
 obtain⟨xs,ex,ek,hx⟩:=ht.pairs rv
 have A2:X.A.handled=none:=I1.ok.hd hc
 have hlen:xs.length=ys.length:=by rw[rv.length,ex,bS]
 have mE:∀ p∈xs,IsTupleKey (ka X.prog X.w) s1.heap p.1 p.2:=fun p hp=>by
  obtain⟨us,ru,o,e1,c1,n1,d1⟩:=I1.tup (hx p hp)
  exact⟨o,us.toArray,n1,e1,c1,d1,by simpa using T5 ru⟩
 refine TS.sW (knd:=ka X.prog X.w) A2 (by lia) pl.isList (by simpa using ex) mE (by lia) vP fun h2 tk dP S m1 m2 kp=>?_
 refine Calls.spliced_nil ?_
 obtain⟨⟨o,es,ep,t,ho,hex,hd,T,hM,hL,A9⟩,nd,is⟩:=S
 have U2:es.toList.map (·.2)=dP.map fun p=>Value.ref p.2:=by rw[A9,eP];rfl
 have gv':dP.length<=63:=by
  have:=TS.dN nd (m:=ks) fun k hk=>by rw[<- ek];exact(m1 k).mp hk
  rw[bS] at this
  have:ks.length=xs.length:=by rw[<- ek,bS]
  lia
 have U3:es.size=dP.length:=by
  have:=congrArg List.length A9
  simpa using this
 have U4:∀ p∈dP,p.1∈ks:=fun p hp=>by rw[<- ek];exact bI.mpr ⟨p,m2 p hp,rfl⟩
 have mem:∀ eS:List Value,eS.Perm (dP.map fun p=>Value.ref p.2)->∀ v∈eS,∃ b k,v=.ref b/\H1 b=some (.tup (k.map kV))/\k∈ks:=fun eS pv v hv=>by
  obtain⟨p,hp,rfl⟩:=bI.mp (pv.mem_iff.mp hv)
  exact⟨p.2,p.1,rfl,hx p (m2 p hp),U4 p hp⟩
 have O0:s1.heap.objs.size<=h2.objs.size:=pT (eh ho)
 refine xl.mH (s:={ s1 with heap:=h2,toks:=tk }) (κ:=tuples' true) (R:=fun eS=>eS.Perm (dP.map fun p=>Value.ref p.2)) (r:=fun v=>z5 ks (oK H1 v)) (P:=fun v=>∃ b k,v=.ref b/\H1 b=some (.tup (k.map kV))/\iL k=b0 :: sh/\k∈ks)
  (fun A' E' Q' hA hQ=>TS.m7 (s:={ s1 with heap:=h2,toks:=tk }) (hA.trans A2) ho hex hd T.fits T.up T.sz hL (by rw[U3,sizeLine_eq];lia) fun h' Bn d eS wd R7 pv=>hQ eS h' Bn d (by rw[<- U2];exact pv) wd R7)
  (fun eS pv=>by rw[pv.length_eq,bS];lia) (fun eS pv v hv=>?_) (fun eS pv ZE A' E' s' wd Q' q'=>?_) (fun s' wd=>wW I1 fun b o e=>wd b o (kp b o e)) fun eS h' a' out n Bn d pv pm pw wd ha eo=>?_
 ·obtain⟨b,k,e1,e2,e3⟩:=mem eS pv v hv
  exact⟨b,k,e1,e2,zD k e3,e3⟩
 ·obtain⟨zs,z1,z2⟩:=cG.of (H:=H1) (ks:=ks) eS (mem eS pv)
  obtain⟨fs,f1,f2,f3⟩:=kat_tups I1 (s':=s') (fun b o e=>wd b o (kp b o e)) z1 z2 fun k hk=>by
   obtain⟨v,hv,rfl⟩:=bI.mp hk
   obtain⟨b,k,rfl,e2,e3⟩:=mem eS pv v hv
   rw[du e2];exact zD k e3
  cases b0 with
  |true =>
   refine PySem.W.kat_kind (T:=.type "int") f1 (by lia) (fun f hf=>?_) (by decide) q'
   obtain⟨i,t,rfl⟩:=(f3 f hf).1 rfl
   exact .now
  |false =>
   refine PySem.W.kat_kind (T:=.type "str") f1 (by lia) (fun f hf=>?_) (by decide) q'
   obtain⟨i,t,rfl⟩:=(f3 f hf).2 rfl
   exact .now
 ·have DM:=pm.trans pv
  obtain⟨zs,z1,z2⟩:=cG.of (H:=H1) (ks:=ks) out fun v hv=>mem _ DM v hv
  have zl:=z2.length
  have ol:=DM.length_eq
  rw[bS] at ol
  have U5:(dP.map fun p=>Value.ref p.2).map (oK H1)=dP.map (·.1):=by
   rw[eP]
   exact B1 fun p hp=>du (hx p (m2 p hp))
  have Rz:(out.map (oK H1)).Perm (dP.map (·.1)):=by rw[<- U5];exact DM.map _
  refine⟨.ref a',_,(I1.laid (a:=a') (t':=Bn) (fun b o e=>wd b o (kp b o e)) (gE O0 ha) (show fo X.prog X.w _ h' _ (.lst zs) from⟨by rw[sizeLine_eq];lia,out,n,z2,eo⟩)).drawn,rfl,
   q zs _ _ z1 (Rz.nodup_iff.mpr nd) (fun k=>by rw[Rz.mem_iff,m1,ek]) ?_ (I1.bq.fresh (gE O0 ha))⟩
  rw[pE]
  refine pw.imp_of_mem fun {x y} mx my hle=>?_
  obtain⟨b,k,rfl,hb,kk⟩:=mem _ DM x mx
  obtain⟨c,m,rfl,ED,km⟩:=mem _ DM y my
  rw[du hb,du ED] at *
  have:=rT (L:=ks) ((zD m km).trans (zD k kk).symm) km
  rw[<- this]
  exact decide_eq_false (by lia)
end
end L2
namespace TS
open PySem PySem.SetTable PyProof.Rows
section
variable {t:SetTable}{es:Array (Int × Value)}
theorem Ar(T:TI t es)(h:Int)(x:Value):∃ j,j<=t.mask/\taken t.place j=false/\Reach t.mask t.place h j /\
  layNew t es h x=(insertAt es (below t.place j) (h,x),{ t with place:=insertAt t.place (below t.place j) j,dummies:=#[] },false,false):=by
 obtain⟨m,hm,_⟩:=T.pw
 obtain⟨e0,UT,UU⟩:=T.free
 obtain⟨nf,n1,n2,n3⟩:=pq hm h (taken t.place) UT UU
 obtain⟨n',a1,a2,a3,a4⟩:=qw T (fun _=>h+1) h (10*turns t.mask) 0 ⟨nf,fE _,by unfold turns;lia,n2⟩
 rcases a4 with⟨c1,c2⟩|⟨_,c2,_⟩
 ·have AV:n'<=nf:=by
   by_cases z:n'<=nf
   ·exact z
   ·have:=(a3 nf (fE _) (by exact Nat.lt_of_not_le ‹_›)).1
    rw[n2] at this;cases this
  refine⟨J t.mask h n',R1 ..,c1,⟨n',by walk_at "s1",rfl,fun q hq=>(a3 q (fE _) hq).1⟩,?_⟩
  have T_:t.freeSlot h=some (J t.mask h n',false):=by
   unfold SetTable.freeSlot
   have:t.probe (fun _=>h+1) h (t.probeStart h)=some (.empty (J t.mask h n') none):=c2
   rw[this];rfl
  have UY:t.put (J t.mask h n')=({ t with place:=insertAt t.place (below t.place (J t.mask h n')) (J t.mask h n'),dummies:=#[] },below t.place (J t.mask h n')):=by
   unfold SetTable.put
   have:has t.dummies (J t.mask h n')=false:=by rw[T.dm];rfl
   simp only[this,kH,if_false]
   rw[T.dm]
  have hb:=(aP T.up (J t.mask h n')).1
  have NX:({ t with place:=insertAt t.place (below t.place (J t.mask h n')) (J t.mask h n'),dummies:=#[] }:SetTable).fits (insertAt es (below t.place (J t.mask h n')) (h,x)).size=true:=by
   have:=T.few
   have hsz:(insertAt es (below t.place (J t.mask h n')) (h,x)).size=es.size+1:=bV _ _ (by rw[<- T.sz];exact hb)
   simp only[SetTable.fits,SetTable.fill,hsz,bV _ _ hb,T.sz,kK,beq_iff_eq,decide_eq_true_eq,true_and]
   simp;lia
  unfold layNew
  rw[T_]
  dsimp only
  rw[UY]
  dsimp only
  unfold SetTable.orStandIn
  rw[NX]
  rfl
 ·exact absurd c2 (by lia)
end
section
variable {prog:Program}{w:World}{K:Type}[DecidableEq K]{knd:KeyKind prog w K}
def Pl(knd:KeyKind prog w K)(p:K × Value):Int × Value:=(knd.hash p.1,p.2)
structure R8(knd:KeyKind prog w K)(h:Heap)(a:Addr)(ks:List (K × Value)):Prop where
 ob:∃ o es ep t,h.get? a=some o/\o.ExactSet/\o.data=.set es ep t/\TI t es/\t.mask<=8191/\t.led=(!w.params.followText "set-order")/\es.toList=ks.map (Pl knd)
 nd:(ks.map (·.1)).Nodup
 is:∀ p∈ks,knd.is p.1 p.2=true
variable {A:Around}{E:Value->Shared->Prop}{s:Shared}
theorem Gv(S:R8 knd s.heap a ks)(hx:knd.is k x=true)(hz:ks.length<1000)(rS:∀ k v,knd.is k v=true->v.scannable=true)
  (h:∀ (b:Bool) (h':Heap) (dP:List (K × Value)),Heap.SameBut a s.heap h'->R8 knd h' a dP->(k∈ks.map (·.1)/\dP=ks\/k∉ks.map (·.1)/\dP.Perm ((k,x) :: ks))->Q b { s with heap:=h' }) :
  wpAny (model prog w) A (setAddHashed a x (knd.hash k)) Q E s:=by
 obtain⟨⟨o,es,ep,t,ho,hex,hd,T,hM,hL,he⟩,nd,is⟩:=id S
 have hlen:es.size=ks.length:=by
  have:=congrArg List.length he
  simpa using this
 have JY:ElemsOf knd es.toList:=fun e hm=>by
  rw[he] at hm
  obtain⟨p,hp,rfl⟩:=bI.mp hm
  exact⟨⟨p.1,is p hp,rfl⟩,rS _ _ (is p hp)⟩
 have Ro:scanBound=4096:=rfl
 unfold setAddHashed setAddHashedIn
 refine wpAny_holding (ah (wpAny_setState_of ho hd T.fits ?_))
 dsimp only
 rw[byScan_of (rS _ _ hx) (by lia) JY]
 simp only[↓reduceIte]
 unfold setAddByScan
 refine ah ?_
 refine ah (wpAny_rule ?_)
 refine ah (wpAny_setScan_of hx ho hd T.fits JY ?_)
 cases hr:List.findIdx? (fun e=>knd.is k e.2) es.toList with
 |some j =>
  dsimp only
  refine aw (aw ?_)
  obtain⟨hj,ZF,_⟩:=List.findIdx?_eq_some_iff_getElem.mp hr
  have hm:es.toList[j]∈ks.map (Pl knd):=by rw[<- he];exact AI hj
  obtain⟨p,hp,ep'⟩:=bI.mp hm
  rw[<- ep'] at ZF
  have hk:k=p.1:=knd.inj p.2 k p.1 ZF (is p hp)
  have e:s={ s with heap:=s.heap }:=by cases s;rfl
  rw[e]
  exact h _ _ ks (Heap.SameBut.refl a s.heap) S (.inl ⟨bI.mpr ⟨p,hp,hk.symm⟩,rfl⟩)
 |none =>
  dsimp only
  have Fn:k∉ks.map (·.1):=fun hm=>by
   obtain⟨p,hp,rfl⟩:=bI.mp hm
   have:=List.findIdx?_eq_none_iff.mp hr (Pl knd p) (by rw[he];exact bI.mpr ⟨p,hp,rfl⟩)
   rw[show knd.is p.1 (Pl knd p).2=true from is p hp] at this
   cases this
  obtain⟨j,UW,n2,UX,hlay⟩:=Ar T (knd.hash k) x
  rw[hlay]
  dsimp only
  refine ah (aw ?_)
  have bp:(insertAt es (below t.place j) (knd.hash k,x)).toList=(ks.take (below t.place j)++(k,x) :: ks.drop (below t.place j)).map (Pl knd):=by
   rw[oX,he,kG,fe,LD,LG];rfl
  have wc:(ks.take (below t.place j)++(k,x) :: ks.drop (below t.place j)).Perm ((k,x) :: ks):=by
   refine List.perm_middle.trans ?_
   rw[List.take_append_drop]
  have DJ:below t.place j<=es.size:=by rw[<- T.sz];exact(aP T.up j).1
  have Bi:(insertAt es (below t.place j) (knd.hash k,x)).size=es.size+1:=bV _ _ DJ
  have OQ:∀ dP:List (K × Value),dP.Perm ((k,x) :: ks)->∀ p∈dP,knd.is p.1 p.2=true:=fun dP pm p hp=>by
   rcases dr.mp (pm.mem_iff.mp hp) with rfl|hp
   ·exact hx
   ·exact is p hp
  have OS:∀ dP:List (K × Value),dP.Perm ((k,x) :: ks)->(dP.map (·.1)).Nodup:=fun dP pm=>by
   rw[(pm.map _).nodup_iff,fe,js]
   exact⟨Fn,nd⟩
  have main:∀ t':SetTable,t'.mask=t.mask->t'.place=insertAt t.place (below t.place j) j->t'.dummies = #[]->t'.led=t.led->wpAny (model prog w) A (do
    storeSet a (insertAt es (below t.place j) (knd.hash k,x)) t'
    if (!false && t'.tooFull)=true then do
      HX (relayAll t' (insertAt es (below t.place j) (knd.hash k,x)) (grown (insertAt es (below t.place j) (knd.hash k,x)).size)).2.2
      storeSet a (relayAll t' (insertAt es (below t.place j) (knd.hash k,x)) (grown (insertAt es (below t.place j) (knd.hash k,x)).size)).1 (relayAll t' (insertAt es (below t.place j) (knd.hash k,x)) (grown (insertAt es (below t.place j) (knd.hash k,x)).size)).2.1
      pure (some true)
     else pure (some true)) (fun r s'=>wpAny (model prog w) A (match r with|some added=>pure added|none=>setAddHashedIn a x (knd.hash k) 99999) Q E s') E s:=fun t' tm tp td tl=>by
   have R4:t'.fill=es.size+1:=by
    unfold SetTable.fill
    rw[tp,td,bV _ _ (aP T.up j).1,T.sz];simp
   refine ah (wpAny_storeSet_of ho hd ?_ (by rw[Bi,sizeLine_eq];lia))
   have sQ:(s.heap.update a (Obj.putSet (insertAt es (below t.place j) (knd.hash k,x)) t')).get? a=some { o with data:=.set (insertAt es (below t.place j) (knd.hash k,x)) (ep+1) t' }:=by
    have:=y9 (Obj.putSet (insertAt es (below t.place j) (knd.hash k,x)) t') ho (by rw[putSet_of _ _ hd];rfl)
    rw[putSet_of _ _ hd] at this;exact this
   have tj:=Heap.SameBut.update s.heap a (Obj.putSet (insertAt es (below t.place j) (knd.hash k,x)) t')
   by_cases c:t'.tooFull=true
   ·rw[if_pos (by rw[c];rfl)]
    obtain⟨t2,order,r1,r2,r3,r4,r5,r6,r7,r8,r9⟩:=sX (t:=t') (es:=insertAt es (below t.place j) (knd.hash k,x)) (by lia)
    have gw':relayAll t' (insertAt es (below t.place j) (knd.hash k,x)) (grown (insertAt es (below t.place j) (knd.hash k,x)).size)=(order.filterMap fun i=>(insertAt es (below t.place j) (knd.hash k,x))[i]?,t2,false):=by
     unfold relayAll
     rw[r1]
     dsimp only
     rw[if_pos]
     rw[kK]
     refine⟨?_,r6.fits⟩
     unfold coversAll
     rw[List.isPerm_iff];exact r9
    rw[gw']
    dsimp only
    refine ah (aw ?_)
    obtain⟨dP,ek,pk⟩:=gB r8 bp
    refine ah (wpAny_storeSet_of sQ rfl ?_ (by rw[r7,Bi,sizeLine_eq];lia))
    refine aw (aw ?_)
    have DL:=tj.trans (Heap.SameBut.update _ a (Obj.putSet (order.filterMap fun i=>(insertAt es (below t.place j) (knd.hash k,x))[i]?) t2))
    have nS:=y9 (Obj.putSet (order.filterMap fun i=>(insertAt es (below t.place j) (knd.hash k,x))[i]?) t2) sQ (by rw[putSet_of _ _ rfl];rfl)
    rw[putSet_of _ _ rfl] at nS
    exact h true _ dP DL ⟨⟨_,_,_,_,nS,hex,rfl,r6,r5 (by lia),by rw[r3,tl];exact hL,ek⟩,OS dP (pk.trans wc),OQ dP (pk.trans wc)⟩ (.inr ⟨Fn,pk.trans wc⟩)
   ·rw[if_neg (by simpa using c)]
    refine aw (aw ?_)
    have oz:(es.size+1)*5<t.mask*3:=by
     unfold SetTable.tooFull at c
     rw[R4,tm] at c
     simpa using c
    exact h true _ _ tj ⟨⟨_,_,_,_,sQ,hex,rfl,T.put UW n2 UX tm tp td oz,by rw[tm];exact hM,by rw[tl];exact hL,bp⟩,OS _ wc,OQ _ wc⟩ (.inr ⟨Fn,wc⟩)
  split
  ·refine ah ?_
   rw[hashByValue_scannable 8 (rS _ _ hx)]
   refine aw ?_
   split
   ·exact main _ rfl rfl rfl rfl
   ·exact main _ rfl rfl rfl rfl
  ·refine ah (aw ?_)
   rw[if_pos rfl]
   exact main _ rfl rfl rfl rfl
end
section
variable {prog:Program}{w:World}{K:Type}[DecidableEq K]{knd:KeyKind prog w K}{A:Around}{E:Value->Shared->Prop}{s:Shared}
theorem rC{l:Addr}{items:Array Value}{xs:List (K × Value)}{Q:Value->Shared->Prop}(hh:A.handled=none)(hl:s.heap.IsList l items)(hi:items.toList=xs.map (·.2))
  (mE:∀ p∈xs,knd.is p.1 p.2=true) (hz:xs.length<=63) (rS:∀ k v,knd.is k v=true->v.scannable=true)
  (h:∀ h' tk ks,R8 knd h' s.heap.objs.size ks->(∀ k,k∈ks.map (·.1)↔k∈xs.map (·.1))->(∀ p∈ks,p∈xs)->(∀ b o,s.heap.get? b=some o->h'.get? b=some o)->Q (.ref s.heap.objs.size) { s with heap:=h',toks:=tk }) :
  wpAny (model prog w) A (call (.type "set") [.ref l]) Q E s:=by
 refine jL hh hl (fun i h=>∃ ks,R8 knd h s.heap.objs.size ks/\(∀ k,k∈ks.map (·.1)↔k∈(xs.take i).map (·.1))/\(∀ p∈ks,p∈xs)/\ks.length<=i) (fun h e k=>?_) (fun i h h' ⟨ks,S,m1,m2,m3⟩ k=>?_) (fun i v s' E' Q' hv ⟨ks,S,m1,m2,m3⟩ q=>?_) fun h' tk ⟨ks,S,m1,m2,m3⟩ k=>?_
 ·exact⟨[],⟨⟨_,#[],0,_,e,⟨rfl,rfl,rfl⟩,rfl,vW _,(by show 7<=8191;decide),rfl,rfl⟩,lh,fun p hp=>nomatch hp⟩,fun k=>by simp,(fun p hp=>nomatch hp),ck _⟩
 ·obtain⟨⟨o,es,ep,t,ho,r⟩,nd,is⟩:=S
  exact⟨ks,⟨⟨o,es,ep,t,k _ _ (ck _) ho,r⟩,nd,is⟩,m1,m2,m3⟩
 ·have oC:items.toList[i]? = some v:=by rw[oq];exact hv
  rw[hi,mr] at oC
  cases ex:xs[i]? with
  |none=>rw[ex] at oC;cases oC
  |some p =>
   rw[ex] at oC
   cases oC
   have hp:=mn ex
   have Zt:i<xs.length:=(iS.mp ex).1
   have U0:(xs.take (i+1)).map (·.1)=(xs.take i).map (·.1)++[p.1]:=by
    rw[D3,ex,kG];rfl
   unfold setAdd
   refine wpAny_holding (ah (knd.pyHash (k:=p.1) (mE p hp) ?_))
   refine Gv (s:={ s' with toks:=s'.toks+1 }) S (mE p hp) (by lia) rS fun b h' dP sb S' c=>?_
   refine q b h' _ sb ⟨dP,S',fun k=>?_,fun p' hJ=>?_,?_⟩
   ·rw[U0,dy,kg,<- m1]
    rcases c with⟨c1,rfl⟩|⟨c1,c2⟩
    ·exact⟨.inl,fun z=>z.elim id fun e=>e ▸ c1⟩
    ·rw[(c2.map _).mem_iff,fe,dr]
     exact⟨fun z=>z.symm,fun z=>z.symm⟩
   ·rcases c with⟨c1,rfl⟩|⟨c1,c2⟩
    ·exact m2 p' hJ
    ·rcases dr.mp (c2.mem_iff.mp hJ) with rfl|z
     ·exact hp
     ·exact m2 p' z
   ·rcases c with⟨c1,rfl⟩|⟨c1,c2⟩
    ·lia
    ·rw[c2.length_eq];simp;lia
 ·have e:items.size=xs.length:=by
   have:=congrArg List.length hi
   simpa using this
  rw[e,tS] at m1
  exact h h' tk ks S m1 m2 fun b o ho=>k b o (eh ho) ho
end
end TS
namespace L2
open PySem PySem.Spec PyProof.Rows
def jk(K:PySem.W.Frag):V->Hp->VK->Prop:=fun x H Q=>match x with
 |.ref p=>∃ (ks:List Key) (b:Bool),eR K H p (ks.map kV)/\ks.length<=63/\(∀ k∈ks,n5 k=b) /\
   ∀ (ms:List Key) (l:Addr),ms.Nodup->(∀ k,k∈ms↔k∈ks)->(ms.Pairwise fun a b=>oI b a=false)->H l=none->Q (.ref l) (upd H l (.lst (ms.map kV)))
 |_=>False
theorem yj{ks:List Key}{vs:List Value}(h:Vals (ks.map kV) vs):∃ xs:List (Key × Value),vs=xs.map (·.2)/\xs.map (·.1)=ks/\∀ p∈xs,RelV (kV p.1) p.2:=by
 induction ks generalizing vs with
 |nil=>exact⟨[],Paired.n0 h,rfl,fun p hp=>nomatch hp⟩
 |cons k ks ih =>
  obtain⟨v,vs,rfl,r,rs⟩:=Paired.c h
  obtain⟨xs,e1,e2,e3⟩:=ih rs
  refine⟨(k,v) :: xs,by rw[e1];rfl,by rw[<- e2];rfl,fun p hp=>?_⟩
  rcases dr.mp hp with rfl|hp
  ·exact r
  ·exact e3 p hp
section
variable {X:Cx}{e:Expr}{te:TE}{p p2 pos tq:Pos}
theorem uV (hc:X.calm=true) (hg:Gl X "sorted") (hm:X.mg "sorted" = none) (FD:Gl X "set") (oD:X.mg "set" = none) (he:PE X e te)
  (hv:bootBuiltins "sorted" = some (.builtin "sorted")) (U1:bootBuiltins "set" = some (.type "set"))
  (qh:starEach [e] X.env=(false,eval e X.env) :: starEach [] X.env:=by rfl)
  (hs:starEach [.Call (.Name "set" p2) [e] [] tq] X.env=(false,eval (.Call (.Name "set" p2) [e] [] tq) X.env) :: starEach [] X.env:=by rfl) :
  PE X (.Call (.Name "sorted" p) [.Call (.Name "set" p2) [e] [] tq] [] pos) (Tr (jk X.K) te):=by
 intro pins s σ H Q I h
 refine wpAny_Call_Name_kw (CC I hg hm hv ?_ (by decide) (by decide))
 refine PyProof.Rows.callWith_builtin1 ?_ hs rfl
 rw[hs]
 refine Calls.spliced_cons ?_
 refine wpAny_Call_Name_kw (CC I FD oD U1 ?_ (by decide) (by decide))
 refine PyProof.Rows.callWith_type1 ?_ qh rfl
 rw[qh]
 refine Calls.spliced_cons (cw (he pins s σ H _ I h) fun u s1 cK=>L2.gI cK fun x H1 I1 r1 q1=>Calls.spliced_nil ?_)
 have q1:jk X.K x H1 Q:=q1
 obtain⟨a,rfl⟩:∃ a,x=.ref a:=by
  unfold jk at q1
  split at q1
  ·exact⟨_,rfl⟩
  ·exact q1.elim
 obtain⟨ks,b,hl,OZ,hb,q⟩:=q1
 cases r1
 obtain⟨vs,rv,pl,hz⟩:=I1.list hl
 obtain⟨xs,ex,ek,hx⟩:=yj rv
 have A2:X.A.handled=none:=I1.ok.hd hc
 have hlen:xs.length=ks.length:=by rw[<- ek,bS]
 have mE:∀ p∈xs,(ka X.prog X.w).is p.1 p.2=true:=fun p hp=>by
  obtain⟨k,v⟩:=p
  have r:=hx _ hp
  rw[aX']
  cases k with
  |inl i=>obtain⟨t,e⟩:=r;rw[show v=_ from e];exact Xa ..
  |inr x=>obtain⟨t,e⟩:=r;rw[show v=_ from e];exact Xb ..
 refine TS.rC (knd:=ka X.prog X.w) A2 pl.isList (by simpa using ex) mE (by lia) vP fun h2 tk dP S m1 m2 kp=>?_
 refine Calls.spliced_nil ?_
 obtain⟨⟨o,es,ep,t,ho,hex,hd,T,hM,hL,A9⟩,nd,is⟩:=S
 have U2:es.toList.map (·.2)=dP.map (·.2):=by rw[A9,eP];rfl
 have gv':dP.length<=63:=by
  have:=TS.dN nd (m:=ks) fun k hk=>by rw[<- ek];exact(m1 k).mp hk
  rw[bS] at this
  lia
 have U3:es.size=dP.length:=by
  have:=congrArg List.length A9
  simpa using this
 have U4:∀ p∈dP,p.1∈ks:=fun p hp=>by rw[<- ek];exact bI.mpr ⟨p,m2 p hp,rfl⟩
 have mem:∀ eS:List Value,eS.Perm (dP.map (·.2))->∀ v∈eS,∃ k,RelV (kV k) v/\k∈ks:=fun eS pv v hv=>by
  obtain⟨p,hp,rfl⟩:=bI.mp (pv.mem_iff.mp hv)
  exact⟨p.1,hx p (m2 p hp),U4 p hp⟩
 have O0:s1.heap.objs.size<=h2.objs.size:=pT (eh ho)
 refine xl.mH (s:={ s1 with heap:=h2,toks:=tk }) (κ:=oneType') (R:=fun eS=>eS.Perm (dP.map (·.2))) (r:=fun v=>z5 (ks.map fun k=>[k]) (jU v)) (P:=fun v=>∃ k,RelV (kV k) v/\n5 k=b/\k∈ks)
  (fun A' E' Q' hA hQ=>TS.m7 (s:={ s1 with heap:=h2,toks:=tk }) (hA.trans A2) ho hex hd T.fits T.up T.sz hL (by rw[U3,sizeLine_eq];lia) fun h' Bn d eS wd R7 pv=>hQ eS h' Bn d (by rw[<- U2];exact pv) wd R7)
  (fun eS pv=>by rw[pv.length_eq,bS];lia) (fun eS pv v hv=>?_) (fun eS pv ZE A' E' s' wd Q' q'=>?_) (fun s' wd=>Dg) fun eS h' a' out n Bn d pv pm pw wd ha eo=>?_
 ·obtain⟨k,rk,mk⟩:=mem eS pv v hv
  exact⟨k,rk,hb k mk,mk⟩
 ·obtain⟨ms,rm⟩:=uh (ks:=ks) eS (mem eS pv)
  refine zY (b:=b) rm (fun k hk=>?_) ZE q'
  have:(eS.map jU)=ms.map fun k=>[k]:=keys_map rm
  have U6:[k]∈eS.map jU:=by rw[this];exact bI.mpr ⟨k,hk,rfl⟩
  obtain⟨v,hv,e⟩:=bI.mp U6
  obtain⟨k',rk,mk⟩:=mem eS pv v hv
  rw[nu rk] at e
  cases e
  exact hb _ mk
 ·have DM:=pm.trans pv
  obtain⟨ms,rm⟩:=uh (ks:=ks) out (mem _ DM)
  have U5:(dP.map (·.2)).map jU=(dP.map (·.1)).map fun k=>[k]:=by
   rw[eP,eP]
   exact B1 fun p hp=>nu (hx p (m2 p hp))
  have pk:ms.Perm (dP.map (·.1)):=Am (by rw[<- keys_map rm,<- U5];exact DM.map _)
  have hml:ms.length=dP.length:=by simpa using pk.length_eq
  have ZG:∀ k∈ms,k∈ks:=fun k hk=>by rw[<- ek];exact(m1 k).mp (pk.mem_iff.mp hk)
  refine⟨.ref a',_,(I1.laid (a:=a') (t':=Bn) (fun b o e=>wd b o (kp b o e)) (gE O0 ha) (show fo X.prog X.w _ h' _ (.lst (ms.map kV)) from⟨by rw[bS,sizeLine_eq];lia,out,n,rm,eo⟩)).drawn,rfl,
   q ms _ (pk.nodup_iff.mpr nd) (fun k=>by rw[pk.mem_iff,m1,ek]) ?_ (I1.bq.fresh (gE O0 ha))⟩
  have ZH:(out.map jU).Pairwise fun x y=>z5 (ks.map fun k=>[k]) x<=z5 (ks.map fun k=>[k]) y:=pE.mpr pw
  rw[keys_map rm,pE] at ZH
  refine ZH.imp_of_mem fun {x y} mx my hle=>?_
  have mx:=ZG x mx
  have my:=ZG y my
  rw[<- Ak,<- rT (L:=ks.map fun k=>[k]) (by simp[iL,hb x mx,hb y my]) (bI.mpr ⟨y,my,rfl⟩)]
  exact decide_eq_false (by lia)
end
end L2
namespace L2.Q
open PySem PySem.Spec PyProof.Rows
section
variable {X:Cx}{K:PySem.W.Frag}{e:Expr}{te:WE}{p p2 pos tq:Pos}
theorem Et:bootBuiltins "set" = some (.type "set"):=by decide +kernel
def gD:W1:=fun _ x Q=>match x with
 |.list xs=>∃ (ks:List (List Key)) (sh:List Bool),xs=ks.map kR/\ks.length<=63/\(∀ k∈ks,iL k=false :: sh)/\∀ ms:List (List Key),ms.Nodup->(∀ k,k∈ms↔k∈ks)->(ms.Pairwise fun a b=>gX b a=false)->Q (.ow true) (.list (ms.map kR))
 |_=>False
def jj:W1:=fun _ x Q=>match x with
 |.list xs=>∃ (ks:List Key) (b:Bool),xs=ks.map kS/\ks.length<=63/\(∀ k∈ks,n5 k=b)/\∀ ms:List Key,ms.Nodup->(∀ k,k∈ms↔k∈ks)->(ms.Pairwise fun a b=>oI b a=false)->Q (.ow true) (.list (ms.map kS))
 |_=>False
theorem uG:RJ K (je K) gD:=by
 intro Hs H m x v As Qd Qv w rx h f
 have r1:=rx.rep w
 cases r1 with
 |list z s q =>
  obtain⟨ks,sh,rfl,hz,hs,h⟩:=h
  obtain⟨ta,ok⟩:=zN q
  have hl:=q.length
  rw[bS] at hl
  refine⟨_,ks,false,sh,s,by lia,ta,hs,fun zs ms l tz nd mm pw UJ=>?_⟩
  have rr:=lq (K:=K) tz fun k hk=>ok k ((mm k).mp hk)
  have:ms.length<=ks.length:=TS.dN nd fun k hk=>(mm k).mp hk
  exact f.lst w (by rw[bS,sizeLine_eq];lia) rr (gK ms) (h ms nd mm pw) l UJ
 |_=>exact h.elim
theorem uP:RJ K (jk K) jj:=by
 intro Hs H m x v As Qd Qv w rx h f
 have r1:=rx.rep w
 cases r1 with
 |list z s q =>
  obtain⟨ks,b,rfl,hz,hb,h⟩:=h
  obtain⟨e,ok⟩:=Af q
  subst e
  refine⟨ks,b,s,hz,hb,fun ms l nd mm pw hl=>?_⟩
  have:ms.length<=ks.length:=TS.dN nd fun k hk=>(mm k).mp hk
  exact f.lst w (by rw[bS,sizeLine_eq];lia) (lz fun k hk=>ok k ((mm k).mp hk)) (lO ms) (h ms nd mm pw) l hl
 |_=>exact h.elim
theorem yf (hu:X.A.units+64<cLine) (hg:Gl X "sorted") (hm:X.mg "sorted" = none) (FD:Gl X "set") (oD:X.mg "set" = none) (he:QE X K e te) (hc:X.calm=true:=by rfl) (hK:X.K=K:=by rfl)
  (qh:starEach [e] X.env=(false,eval e X.env) :: starEach [] X.env:=by rfl)
  (hs:starEach [.Call (.Name "set" p2) [e] [] tq] X.env=(false,eval (.Call (.Name "set" p2) [e] [] tq) X.env) :: starEach [] X.env:=by rfl) :
  QE X K (.Call (.Name "sorted" p) [.Call (.Name "set" p2) [e] [] tq] [] pos) (ic gD te):=by
 subst hK
 refine PE.imp (uJ hc hu hg hm FD oD he gq Et qh hs) fun σ H Qv cE=>?_
 obtain⟨Hs,ρ,ag,Q,sr,h,fin⟩:=cE
 exact⟨Hs,ρ,ag,_,sr,h,fun v H1 aE m x As g1 r1 f1 q1=>uG aE H1 m x v As Q Qv g1.wf r1 q1 (Fin.after fin g1)⟩
theorem xJ (hg:Gl X "sorted") (hm:X.mg "sorted" = none) (FD:Gl X "set") (oD:X.mg "set" = none) (he:QE X K e te) (hc:X.calm=true:=by rfl) (hK:X.K=K:=by rfl)
  (qh:starEach [e] X.env=(false,eval e X.env) :: starEach [] X.env:=by rfl)
  (hs:starEach [.Call (.Name "set" p2) [e] [] tq] X.env=(false,eval (.Call (.Name "set" p2) [e] [] tq) X.env) :: starEach [] X.env:=by rfl) :
  QE X K (.Call (.Name "sorted" p) [.Call (.Name "set" p2) [e] [] tq] [] pos) (ic jj te):=by
 subst hK
 refine PE.imp (uV hc hg hm FD oD he gq Et qh hs) fun σ H Qv cE=>?_
 obtain⟨Hs,ρ,ag,Q,sr,h,fin⟩:=cE
 exact⟨Hs,ρ,ag,_,sr,h,fun v H1 aE m x As g1 r1 f1 q1=>uP aE H1 m x v As Q Qv g1.wf r1 q1 (Fin.after fin g1)⟩
end
end L2.Q
namespace L2.Q.R
open PySem PySem.Spec PyProof.Rows L2.Q
section
variable {Q:Md->L2.Q.D->Prop}{m:Md}{xs:List L2.Q.D}
theorem HF:gD m (.list xs) Q = ∃ (ks:List (List Key)) (sh:List Bool),xs=ks.map kR/\ks.length<=63/\(∀ k∈ks,iL k=false :: sh)/\∀ ms:List (List Key),ms.Nodup->(∀ k,k∈ms↔k∈ks)->(ms.Pairwise fun a b=>gX b a=false)->Q (.ow true) (.list (ms.map kR)):=rfl
theorem HH:jj m (.list xs) Q = ∃ (ks:List Key) (b:Bool),xs=ks.map kS/\ks.length<=63/\(∀ k∈ks,n5 k=b)/\∀ ms:List Key,ms.Nodup->(∀ k,k∈ms↔k∈ks)->(ms.Pairwise fun a b=>oI b a=false)->Q (.ow true) (.list (ms.map kS)):=rfl
end
end L2.Q.R
namespace L2
open PySem PySem.Spec PyProof.Rows
end L2
namespace L2.Q
open PySem PySem.Spec PyProof.Rows
end L2.Q
namespace L2.Q.R
open PySem PySem.Spec PyProof.Rows L2.Q
end L2.Q.R
namespace L2
open PySem PySem.Spec PyProof.Rows Builtin Builtin.Str Builtin.Int
section
variable {prog:Program}{w:World}{A:Around}{E:Value->Shared->Prop}{s:Shared}{x:Str}{n:Int}{t u:Tok}
theorem mF(bq:MulOk x n)(h:∀ t' k,Q (.str (Txt.mul x n) t') { s with toks:=k }):wpAny (model prog w) A (binaryOp .Mult (.str x t) (.int n u)) Q E s:=by
 refine P.mul_str bq.1 bq.2.1 bq.2.2 ?_
 unfold Txt.mul at h
 by_cases h1:n<1
 ·rw[if_pos h1];have h':=h s.toks (s.toks+1);rw[if_pos h1] at h';exact⟨by decide,h'⟩
 ·rw[if_neg h1];refine post_val_or_made (fun hc=>fits_reps (bq.2.2 h1 (by simpa using hc))) fun t' k=>?_
  have h':=h t' k;rw[if_neg h1] at h';exact h'
end
def Ip:R2:=fun x y H Q=>JM y x H Q
theorem Hd{X:Cx}:da X (binaryOp .Mult) Ip:=by
 intro pins s σ H y x u v Q I ry rx h
 unfold Ip JM at h
 split at h
 ·rename_i n z
  obtain⟨⟨h1,h2,h3⟩,q⟩:=h
  obtain⟨t,rfl⟩:=rx
  obtain⟨t',rfl⟩:=ry
  refine mF ⟨?_,fun _ _=>?_,fun _ _=>?_⟩ fun t' k=>⟨.str (og n z),H,I.tok _,⟨_,by rw[Hn h1]⟩,q⟩
  ·have a1:¬ n < -(2 ^ 63:Int):=by lia
   have a2:¬ n >= 2 ^ 63:=by lia
   rw[decide_eq_false a1,decide_eq_false a2];rfl
  ·have:(2 ^ 63-1:Int) / 100<=(2 ^ 63-1) / n:=by
    apply Int.le_ediv_of_mul_le (by lia)
    have:(2 ^ 63-1:Int) / 100*n<=(2 ^ 63-1:Int) / 100*100:=Int.mul_le_mul_of_nonneg_left h2 (by decide)
    lia
   have e:(2 ^ 63-1:Int) / 100=92233720368547758:=by decide
   lia
  ·have:z.length*n.toNat<=100*100:=B6 h3 (by lia)
   have hs:=sizeLine_eq
   simp only[tooLong,decide_eq_false_iff_not]
   generalize z.length*n.toNat=m at this ⊢
   lia
 ·exact h.elim
end L2
namespace L2.Q
open PySem PySem.Spec PyProof.Rows
section
variable {X:Cx}{K:PySem.W.Frag}{a:Expr}{ta:WE}
def U7(t:WE):WE:=fun ρ Q=>t ρ fun m d=>oh m/\Q .sh d
theorem gx'(h:QE X K a ta):QE X K a (U7 ta):=by
 refine PE.imp h fun σ H Qv hx=>kN hx fun Hs ρ ag Q sr h fin=>?_
 refine⟨Hs,ρ,ag,_,sr,h,fun v H1 aE m d As g1 r1 f1 q1=>?_⟩
 obtain⟨nb,q⟩:=q1
 cases m with
 |sh=>exact fin v H1 aE .sh d As g1 r1 f1 q
 |bo=>exact nb.elim
 |ow fl =>
  obtain⟨r,ne⟩:=r1
  have hn:∀ a∈As,aE a=none:=fun a h=>(f1.2 a h).1
  have s:=jg (H:=H1) hn
  refine fin v H1 (tf aE H1 As) .sh d [] ⟨g1.all,g1.sh.trans s,zV g1.wf r.own,fun c hc=>?_⟩ ⟨rfl,r.rep s fun c hc=>by unfold tf;rw[if_pos hc]⟩ ⟨lh,fun _ h=>vx h⟩ q
  unfold tf at hc
  split at hc
  ·rename_i m
   exact .inr (f1.2 c m).2
  ·exact g1.new c hc
def BD(ys:List D)(x:D):Bool:=ys.any fun z=>hX z x
def Pm(neg:Bool):W2:=fun _ x _ y Q=>∃ ys,(y=.list ys\/y=.tup ys)/\cx 12 x=true/\cx 12 y=true/\Q .sh (.bl (if neg then !BD ys x else BD ys x))
def U8(K:PySem.W.Frag)(neg:Bool):R2:=fun x y H Q=>∃ d e xs,L2.Rep K H d x/\L2.Rep K H e y/\(e=.list xs\/e=.tuple xs)/\d.canLay0=true/\PyData.canLayAll0 xs=true/\d.depth<=60/\Q (.bl (if neg then !(xs.any fun z=>PyData.eqv z d) else xs.any fun z=>PyData.eqv z d)) H
theorem yW(hu:X.A.units+64<cLine):da X (compareOp .NotIn) (U8 X.K true):=by
 intro pins s σ H x y v u Q I rx ry h
 obtain⟨d,e,xs,h1,h2,h3,h4,h5,h6,q⟩:=h
 obtain⟨as,r1⟩:=h1.reads I rx
 obtain⟨bs,r2⟩:=h2.reads I ry
 rcases h3 with rfl|rfl
 ·exact PySem.SeqAt.notIn_list_reads r2 r1 h5 h4 (by lia) ⟨.bl _,H,I,rfl,q⟩
 ·exact PySem.SeqAt.notIn_tuple_reads r2 r1 h5 h4 (by lia) ⟨.bl _,H,I,rfl,q⟩
theorem zE(hu:X.A.units+64<cLine)(hK:X.K=K:=by rfl):da X (compareOp .NotIn) (U8 K true):=by subst hK;exact yW hu
theorem Gi(ys:List D)(x:D):((lS ys).any fun z=>PyData.eqv z x.py)=BD ys x:=by
 induction ys with
 |nil=>rfl
 |cons y ys ih =>
  rw[lS,AK,ih]
  rfl
theorem En:kC K (U8 K neg) (Pm neg):=by
 intro Hs H m x v As n y u Bs Qd Qv w rx ry h f
 obtain⟨ys,hy,o1,o2,q⟩:=h
 have l1:=jY 12 x o1
 have l2:=jY 12 y o2
 refine⟨x.py,y.py,lS ys,(rx.rep w).l2 o1,(ry.rep w).l2 o2,?_,l1.1,?_,by lia,?_⟩
 ·rcases hy with rfl|rfl
  ·exact .inl rfl
  ·exact .inr rfl
 ·rcases hy with rfl|rfl
  ·exact l2.1
  ·exact l2.1
 ·rw[Gi]
  exact f.sh w (.bl _) q
def FE(o:Option (Option Sl))(k:List D->Prop):Prop:=match o with
 |some (some (.ow true (.list xs)))=>k xs
 |_=>False
def intD(y:D)(k:Int->Prop):Prop:=match y with
 |.int i=>k i
 |_=>False
def Pp(d:D):Md:=bif d.flat then .sh else .ow true
end
end L2.Q
namespace L2.Q.R
open PySem PySem.Spec PyProof.Rows L2.Q
section
variable {ρ:Env}{te:WE}{m m':Md}{x:L2.Q.D}{ys:List L2.Q.D}{Q:Md->L2.Q.D->Prop}
theorem Nb:FE (some (some (.ow true (.list ys)))) k=k ys:=rfl
theorem NT:intD (.int i) k=k i:=rfl
theorem gy':U7 te ρ Q=te ρ fun m d=>oh m/\Q .sh d:=rfl
theorem Ny:Pm neg m x m' (.list ys) Q=(cx 12 x=true/\cx 12 (.list ys)=true/\Q .sh (.bl (if neg then !BD ys x else BD ys x))):=by
 apply propext
 exact⟨fun⟨zs,h,a,b,c⟩=>by rcases h with h|h<;>cases h;exact⟨a,b,c⟩,fun⟨a,b,c⟩=>⟨ys,.inl rfl,a,b,c⟩⟩
theorem M8:Pm neg m x m' (.tup ys) Q=(cx 12 x=true/\cx 12 (.tup ys)=true/\Q .sh (.bl (if neg then !BD ys x else BD ys x))):=by
 apply propext
 exact⟨fun⟨zs,h,a,b,c⟩=>by rcases h with h|h<;>cases h;exact⟨a,b,c⟩,fun⟨a,b,c⟩=>⟨ys,.inr rfl,a,b,c⟩⟩
end
end L2.Q.R
namespace L2
open PySem PySem.Spec PyProof.Rows
section
variable {prog:Program}{w:World}{A:Around}{E:Value->Shared->Prop}{s:Shared}
theorem GC{κ:Type}[DecidableEq κ]{kd:HeapKind prog w κ}{d b:Addr}{xs:List (κ × Addr × Value)}{k:κ}{r:Value}{Q:Value->Shared->Prop}(hu:kd.room A)(hk:kd.is s.heap k b)(hm:s.heap.DictOfH kd d xs)(hz:xs.length<=sizeLine)
  (h1:∀ p,atKey xs k=some p->Q p.2 { s with toks:=s.toks+kd.draws k })
  (h2:atKey xs k=none->∀ h',h'.DictOfH kd d (storedH xs k b r)->Heap.SameBut d s.heap h'->Q r { s with heap:=h',toks:=s.toks+kd.draws k }):wpAny (model prog w) A (dictSetDefault d (.ref b) r) Q E s:=by
 obtain⟨o,es,ep,ho,hc,hd,he,mE,hn⟩:=hm
 unfold dictSetDefault
 try with_reducible refine wpAny_holding ?_
 refine ah (kd.pyHash hu hk (ah (wpAny_dictFind_heap (s:={ s with toks:=s.toks+kd.draws k }) hu hk ho hd he mE hn (fun no=>?_) fun j p hj=>?_)))
 ·have nk:=atKey_none_of_get no
  refine ah (wpAny_rule (ah (wpAny_updateDictKeys (hz:=by have e:=size_of_entries he;lia) (s:={ s with toks:=s.toks+kd.draws k }) ho hd (aw (h2 nk _ ?_ (Heap.SameBut.update ..))))))
  rw[storedH_new nk]
  refine⟨_,_,ep+1,y9 _ ho (Obj.isFreed_of_dict (Obj.data_mapDictKeys hd _)),hc.mapDictKeys _,Obj.data_mapDictKeys hd _,by simp[he,entryOfKey],fun x hx=>?_,?_⟩
  ·rcases dy.mp hx with q|q
   ·exact kd.keeps (mE x q) ho hd (Heap.SameBut.update ..)
   ·obtain rfl:=kg.mp q
    exact kd.keeps hk ho hd (Heap.SameBut.update ..)
  ·rw[kG]
   refine g9.mpr ⟨hn,by simp,fun x hx y hy e=>?_⟩
   obtain rfl:y=k:=by simpa using hy
   exact not_mem_keys_of_get no (e ▸ hx)
 ·refine ah (wpAny_dictEntries (s:={ s with toks:=s.toks+kd.draws k }) ho hd ?_)
  rw[entry_at he j,hj]
  exact ah (wpAny_rule (aw (h1 _ (atKey_of_get hn hj))))
theorem C_{κ:Type}[DecidableEq κ](kd:HeapKind prog w κ)(d b:Addr)(hd:(d == sysModules)=false)(r:Value) :
  MeetsIn prog w (Builtin.«dict.setdefault» ⟨[.ref d,.ref b,r],[]⟩) (fun A R s=>kd.room A.in1/\∃ k xs,kd.is s.heap k b/\s.heap.DictOfH kd d xs/\xs.length<=sizeLine /\
   (∀ p,atKey xs k=some p->R (.ok (.ret p.2)) { s with toks:=s.toks+kd.draws k }) /\
   (atKey xs k=none->∀ h',h'.DictOfH kd d (storedH xs k b r)->Heap.SameBut d s.heap h'->R (.ok (.ret r)) { s with heap:=h',toks:=s.toks+kd.draws k })) :=
 .of_wp fun A R s cE=>by
  obtain⟨hu,k,xs,hk,hm,hz,h1,h2⟩:=cE
  unfold Builtin.«dict.setdefault» Builtin.Dict.keyAndDefault
  refine ah (ah (wpAny_notOrdered_dict hm.typeIs ?_))
  refine(show wpAny _ _ (pure (d,Value.ref b,some r)) _ _ s from aw ?_)
  refine(show wpAny _ _ (if (d == sysModules)=true then _ else (dictSetDefault d (Value.ref b) r >>= _)) _ _ s from ?_)
  rw[if_neg (by rw[hd];decide)]
  exact ah (GC hu hk hm hz (fun p q=>aw ⟨p.2,rfl,h1 p q⟩) fun q h' a c=>aw ⟨r,rfl,h2 q h' a c⟩)
end
section
variable {X:Cx}{pins:List (Addr × Obj)}{σ:St}{H:Hp}{s:Shared}{a b:Addr}{A:Around}{E:Value->Shared->Prop}
theorem CQ(hu:A.units+1<cLine)(I:Inv X pins σ H s)(e:H a=some (.dT kvs))(eb:H b=some (.tup (k.map kV)))(hl:kvs.length<sizeLine)(rv:RelV v r)
  (h1:∀ v' w' s',gp kvs k=some v'->Inv X pins σ H s'->RelV v' w'->Q w' s') (h2:gp kvs k=none->∀ s',Inv X pins σ (upd H a (.dT (putK kvs k v))) s'->Q r s') :
  wpAny (model X.prog X.w) A (call (.builtin "dict.setdefault") [.ref a,.ref b,r]) Q E s:=by
 obtain⟨z,hd,xs,rel,dd⟩:=MC I.bq e
 have hz:xs.length<=sizeLine:=by rw[<- Paired.length rel];exact z
 have hp:(putK kvs k v).length<=sizeLine:=by have:=T4 kvs k v;lia
 have vl:=rel.val k
 refine call_meetsIn PySem.F.slot_dict_setdefault dd.typeIs PySem.F.entry_dict_setdefault (PySem.F.args_dict_setdefault_3 _ _ _) (C_ (tupleKind (ka X.prog X.w)) a b hd r) ⟨tupleKind_room_in1 hu,k,xs,EK I.bq eb,dd,hz,fun p hJ=>?_,fun hn h' Dx hs=>?_⟩
 ·rw[hJ] at vl
  cases ev:gp kvs k with
  |none=>rw[ev] at vl;exact(vl:False).elim
  |some v'=>rw[ev] at vl;exact h1 v' _ _ ev (I.tok _) vl
 ·have ev:gp kvs k=none:=by
   rw[hn] at vl
   cases ev:gp kvs k with
   |none=>rfl
   |some v'=>rw[ev] at vl;exact(vl:False).elim
  refine h2 ev _ ?_
  obtain⟨q,es,ep,hq,g2,g3,g4,_,g5⟩:=Dx
  refine Rh I (by rw[e];exact True.intro) hs ⟨q,hq⟩ ⟨hp,hd,_,(rel.put k eb rv).keeps fun c ys ec=>?_,q,es,ep,hq,g2,g3,g4,g5⟩
  rw[cv (Tb ec e fun z=>nomatch z)]
  exact ec
end
def tSd(td ty tx:TE):TE:=fun σ H Q=>td σ H fun x H1=>∃ a,x=.ref a/\Ri H1 a/\ty σ H1 fun y H2=>tx σ H2 fun z H3=>∃ kvs k b,H3 a=some (.dT kvs)/\y=.ref b/\H3 b=some (.tup (k.map kV))/\kvs.length<sizeLine /\
 (∀ v,gp kvs k=some v->Q v H3)/\(gp kvs k=none->Q z (upd H3 a (.dT (putK kvs k z))))
theorem Lw {X:Cx} (hu:X.A.units+1<cLine) (ho:PE X o td) (he:PE X e ty) (hf:PE X f tx) (m:M2 X o "setdefault" apos e f dE):PE X (.Call (.Attribute o "setdefault" apos) [e,f] [] dE) (tSd td ty tx):=by
 intro pins s σ H Q I h
 refine wpAny_Call_method m.base m.few m.line PySem.F.plainAttrs_dict PySem.F.slot_dict_setdefault PySem.F.type_dict_setdefault (cw (ho pins s σ H _ I h) fun u s1 cE=>?_)
 obtain⟨x,H1,I1,rx,a,ex,d,q1⟩:=cE
 subst ex
 cases (show u=Value.ref a from rx)
 have td:=Ys I1 d
 refine⟨td.1,td.2.1,?_⟩
 rw[m.trees]
 refine Calls.callWith_builtin rfl (Calls.evalArgs_plain (Calls.spliced_cons (cw (he pins s1 σ H1 _ I1 q1) fun iv s2 cK=>L2.gI cK fun y H2 I2 ry q2=>Calls.spliced_cons (cw (hf pins s2 σ H2 _ I2 q2) fun fv s3 ⟨z,H3,I3,rz,kvs,k,b,e1,e2,e3,hl,q3,q4⟩=>Calls.spliced_nil ?_))))
 subst e2
 cases (show iv=Value.ref b from ry)
 exact CQ hu I3 e1 e3 hl rz (fun v' w' s' ev I' r'=>⟨v',H3,I',r',q3 v' ev⟩) fun ev s' I'=>⟨z,_,I',rz,q4 ev⟩
end L2
namespace L2.Q
open PySem PySem.Spec PyProof.Rows
section
variable {X:Cx}{K:PySem.W.Frag}{a b c:Expr}{ta tb tc:WE}{pos apos dE:Pos}
def R9(x:D)(f:List (Key × D)->Prop)(g:List (List Key × D)->Prop):Prop:=match x with
 |.dK kvs=>f kvs
 |.dT kvs=>g kvs
 |_=>False
def Pt(y:D)(k:List D->Prop):Prop:=match y with
 |.tup ys=>k ys
 |_=>False
def BE(o:Option D)(m n:Md)(z:D)(Q:Md->D->Prop):Prop:=match o with
 |some d=>Q (mh m d) d
 |none=>Q n z
def Pw(ta tb tc:WE):WE:=fun ρ Q=>ta ρ fun m x=>R9 x (fun kvs=>tb ρ fun _ y=>tc ρ fun n z=>∃ k,y.key1=some k/\BE (dz kvs k) m n z Q)
 (fun kvs=>tb ρ fun _ y=>tc ρ fun n z=>Pt y fun ys=>∃ ks,fj ys=some ks/\BE (dz kvs ks) m n z Q)
theorem Dk(hx:mB K (Pw ta tb tc) σ H Qv):Yt (mB K ta) (mB K tb) (mB K tc) σ H Qv:=kN hx fun Hs ρ ag Q sr h fin=>by
 refine⟨Hs,ρ,ag,_,sr,h,fun v H1 aE m x As g1 r1 f1 q1=>?_⟩
 have got:∀ {o:Option V} {d? : Option D} {H2 H3 ay eI:Hp} {w:V} {n:Md} {z:D} {Cs:List Addr},eL aE H1 ay H2->eL ay H2 eI H3->RM K eI H3 n z w Cs->dC eI H2 Cs->(match d? with
   |some d=>∃ v,o=some v/\Rep K H3 d v/\(m=.sh->Rep K eI d v)
   |none=>o=none)->BE d? m n z Q->Qv (o.getD w) H3:=by
  intro o d? H2 H3 ay eI w n z Cs g2 g3 r3 f3 l q
  cases d? with
  |none=>rw[show o=none from l];exact fin w H3 eI n z Cs ((g1.trans g2).trans g3) r3 (f3.of (g1.trans g2).all) q
  |some d =>
   obtain⟨v',e,u1,u2⟩:=l
   rw[e]
   exact(Fin.after fin ((g1.trans g2).trans g3)).mh g3.wf u1 u2 q
 have core:∀ G:Hp,ax G H1->(∀ H3 eI,eL aE H1 eI H3->∀ d v,Rep K G d v->Rep K H3 d v/\(m=.sh->Rep K eI d v))->Rep K G x v->∃ a,v=.ref a/\Ri H1 a/\mB K tb σ H1 fun y H2=>mB K tc σ H2 fun z H3=>∃ o,kP H3 a y o/\Qv (o.getD z) H3:=by
  intro G sg up r
  cases r with
  |dK kk s q =>
   refine⟨_,rfl,.inl ⟨_,ax.rd sg s⟩,aE,ρ,ag,_,sr.grow g1,q1,fun u H2 ay n y Bs g2 r2 f2 q2=>⟨ay,ρ,ag,_,(sr.grow g1).grow g2,q2,fun w H3 eI n3 z Cs g3 r3 f3 q3=>?_⟩⟩
   have ry:=(r2.grow g3).rep g3.wf
   obtain⟨k,hk,q4⟩:=q3
   have ev:=ry.key hk
   subst ev
   refine⟨_,kP.k' (ax.rd (g2.trans g3).all (ax.rd sg s)),got g2 g3 r3 f3 ?_ q4⟩
   have z:=zip_get (k:=k) q
   split
   ·rename_i d e
    rw[e] at z
    obtain⟨v',e',r'⟩:=z
    exact⟨v',e',up _ _ (g2.trans g3) _ _ r'⟩
   ·rename_i e
    rw[e] at z
    exact z
  |dT kk s q =>
   refine⟨_,rfl,.inr ⟨_,ax.rd sg s⟩,aE,ρ,ag,_,sr.grow g1,q1,fun u H2 ay n y Bs g2 r2 f2 q2=>⟨ay,ρ,ag,_,(sr.grow g1).grow g2,q2,fun w H3 eI n3 z Cs g3 r3 f3 q3=>?_⟩⟩
   have ry:=(r2.grow g3).rep g3.wf
   cases ry with
   |tup t2 e2 p2 =>
    obtain⟨k,hk,q4⟩:=q3
    obtain⟨b',eb,e3⟩:=Rep.kR (.tup t2 e2 p2) hk
    cases eb
    refine⟨_,kP.t' (ax.rd (g2.trans g3).all (ax.rd sg s)) e3,got g2 g3 r3 f3 ?_ q4⟩
    have z:=zip_get (k:=k) q
    split
    ·rename_i d e
     rw[e] at z
     obtain⟨v',e',r'⟩:=z
     exact⟨v',e',up _ _ (g2.trans g3) _ _ r'⟩
    ·rename_i e
     rw[e] at z
     exact z
   |_=>exact q3.elim
  |_=>exact q1.elim
 rcases r1.here g1.wf with⟨hm,r⟩|⟨hm,r⟩
 ·exact core aE g1.wf.sub (fun H3 eI g d v q=>⟨q.same (g1.wf.sub.trans g.all),fun _=>q.same g.sh⟩) r
 ·exact core H1 (ax.refl H1) (fun H3 eI g d v q=>⟨q.same g.all,fun z=>absurd z hm⟩) r
theorem JT (hu:X.A.units+64<cLine) (ha:QE X K a ta) (hb:QE X K b tb) (hc:QE X K c tc) (hm:M2 X a "get" apos b c dE:=by exact⟨rfl,rfl,rfl,rfl⟩):QE X K (.Call (.Attribute a "get" apos) [b,c] [] dE) (Pw ta tb tc) :=
 PE.imp (dZ' (by lia) ha hb hc hm) fun σ H Qv hx=>Dk hx
def PC(d x:D):D:=match d with
 |.list xs=>.list (xs++[x])
 |d=>d
def kU:List (List Key × D)->List Key->D->List (List Key × D)
 |[],k,x=>[(k,.list [x])]
 |p :: r,k,x=>if p.1=k then (p.1,PC p.2 x) :: r else p :: kU r k x
def Ki(kvs:List (List Key × D))(k:List Key):List (List Key × D):=match dz kvs k with
 |some _=>kvs
 |none=>kvs++[(k,.list [])]
def Eg:Option D->Prop
 |none=>True
 |some (.list xs)=>xs.length<sizeLine
 |_=>False
def R_(o:Option (Option Sl))(k:List (List Key × D)->Prop):Prop:=match o with
 |some (some (.ow true (.dT kvs)))=>k kvs
 |_=>False
def Sb(i:Nat)(tk te:WE):WS:=fun E ρ=>R_ ρ[i]? fun kvs=>tk ρ fun _ y=>Pt y fun ys=>∃ ks,fj ys=some ks/\kvs.length<sizeLine/\Eg (dz kvs ks) /\
 te (ρ.set i (some (.ow true (.dT (Ki kvs ks))))) fun _ x=>x.flat=true/\E.nx (ρ.set i (some (.ow true (.dT (kU kvs ks x)))))
theorem bL{κ β:Type}[DecidableEq κ](p:κ × β)(r:List (κ × β))(k:κ):dz (p :: r) k=if p.1=k then some p.2 else dz r k:=by
 by_cases h:p.1=k<;>simp[dz,h]
theorem HY:∀ {kvs:List (List Key × D)},dz kvs k=some d->∃ j,(kvs.map (·.2))[j]? = some d/\(∀ vs:List V,vs.length=kvs.length->gp ((kvs.map (·.1)).zip vs) k=vs[j]?) /\
  ∀ x,(kU kvs k x).map (·.1)=kvs.map (·.1)/\(kU kvs k x).map (·.2)=(kvs.map (·.2)).set j (PC d x)
 |[],h=>by simp[dz] at h
 |p :: kvs,h=>by
  rw[bL] at h
  by_cases e:p.1=k
  ·rw[if_pos e] at h
   cases h
   refine⟨0,rfl,fun vs hl=>?_,fun x=>?_⟩
   ·cases vs with
    |nil=>cases hl
    |cons v vs=>exact vn (p:=(p.1,v)) e
   ·simp[kU,e]
  ·rw[if_neg e] at h
   obtain⟨j,h1,h2,h3⟩:=HY h
   refine⟨j+1,by simpa using h1,fun vs hl=>?_,fun x=>?_⟩
   ·cases vs with
    |nil=>cases hl
    |cons v vs =>
     show gp ((p.1,v) :: (kvs.map (·.1)).zip vs) k=_
     rw[vt (p:=(p.1,v)) e,h2 vs (by simpa using hl)]
     rfl
   ·simp[kU,e,h3 x]
theorem sJ:∀ {kvs:List (List Key × D)},dz kvs k=none->dz (kvs++[(k,d)]) k=some d
 |[],_=>by simp[dz]
 |p :: kvs,h=>by
  rw[bL] at h
  by_cases e:p.1=k
  ·rw[if_pos e] at h;cases h
  ·rw[if_neg e] at h
   rw[S3,bL,if_neg e,sJ h]
theorem wJ:∀ {kvs:List (List Key × D)},dz kvs k=none->kU (kvs++[(k,.list [])]) k x=kU kvs k x
 |[],_=>by simp[kU,PC]
 |p :: kvs,h=>by
  rw[bL] at h
  by_cases e:p.1=k
  ·rw[if_pos e] at h;cases h
  ·rw[if_neg e] at h
   rw[S3,kU,kU,if_neg e,if_neg e,wJ h]
theorem dc.place(sr:dc K Hs ρ σ H ag)(e:ρ[i]? = some (some (.ow fl d))):∃ v,σ[i]? = some (some v)/\Place K Hs H σ fl d v fun fl2 d2=>ρ.set i (some (.ow fl2 d2)):=by
 obtain⟨v,As,t,e2,ne,r,sb,g⟩:=SR.put i sr.sr e sr.lP
 refine⟨v,e2,As,r,ne,sb.nodup sr.lP,fun a h=>sr.own a (sb.subset h),fun ay H2 fl2 d2 fR s2 w2 n2 _ r2 ne2 kE o2 st=>?_⟩
 obtain⟨t2,x,y,z⟩:=g ay H2 fl2 d2 fR s2 r2 ne2 kE (fun a ha m=>(o2 a ha).2.elim id fun q=>absurd q (sr.sr.own a m).ne) fun a ha m=>st a (sr.sr.own a ha).ne m
 exact⟨t2,z,w2,x,fun a h=>(y a h).elim (fun q=>n2 a (sr.own a q) (sr.sr.own a q).ne) fun q=>(o2 a q).1⟩
theorem wu(sr:dc K Hs ρ σ H ag)(e1:ρ[i]? = some (some (.ow true (.dT kvs))))(hg:dz kvs ks=some (.list xs)) :
  ∃ a Kj c ws,σ[i]? = some (some (.ref a))/\H a=some (.dT Kj)/\gp Kj ks=some (.ref c)/\H c=some (.lst ws)/\ws.length=xs.length /\
   ∀ x y,x.flat=true->Rep K Hs x y->ws.length<sizeLine->∃ dn,dc K Hs (ρ.set i (some (.ow true (.dT (kU kvs ks x))))) σ (upd H c (.lst (ws++[y]))) dn:=by
 obtain⟨v,e2,pl⟩:=sr.place e1
 obtain⟨gu,r,ne,nd,own,k⟩:=pl.ex
 cases r with
 |sh hf _=>exact absurd rfl ne
 |@dT a0 vs _ A kk e rs =>
  obtain⟨na,nA⟩:=js.mp nd
  obtain⟨j,ej,ev,es⟩:=HY hg
  obtain⟨w,B,e3,r3,sb,g⟩:=rs.at ej nA
  have hl:vs.length=kvs.length:=by have:=rs.length;rw[bS] at this;exact this.symm
  cases r3 with
  |sh hf _=>exact absurd (hf rfl) (by simp[D.flat])
  |@list c ws _ B' hz ec DS =>
   have cA:c∈A:=sb.subset b5
   refine⟨a0,_,c,ws,e2,e,(ev vs hl).trans e3,ec,DS.length.symm,fun x y hx rx hw=>?_⟩
   have hca:a0≠c:=fun z=>na (z ▸ cA)
   obtain⟨nc,nB⟩:=js.mp (sb.nodup nA)
   have r4:bG K Hs (upd H c (.lst (ws++[y]))) true (.list (xs++[x])) (.ref c) (c :: B'):=by
    have:=(DS.fq (H':=upd H c (.lst (ws++[y]))) (ax.refl _) fun b hb=>cv fun z=>nc (z ▸ hb)).append (az.cons (As:=[]) (.sh (fun _=>hx) rx) .nil)
    rw[qV,qV] at this
    exact .list (by rw[kF];exact hw) fi this
   obtain⟨fR,n2,y2,_,r5⟩:=g Hs (upd H c (.lst (ws++[y]))) true _ _ (ax.refl _) id r4 (sb.nodup nA) (fun _ h _=>h) (fun b _ nb=>cv fun z=>nb (z ▸ b5))
   have ZI:∀ b∈fR,b∈A:=fun b hb=>(y2 b hb).elim (fun q=>q.1) fun q=>sb.subset q
   obtain⟨k1,k2⟩:=es x
   have kl:(kU kvs ks x).length=kvs.length:=by have:=congrArg List.length k1;simpa using this
   refine k Hs _ true (.dT (kU kvs ks x)) (a0 :: fR) (ax.refl _) (tR sr.wf (own c (b9 _ cA)) fun _ z=>nomatch z) (fun _ h _=>h) id (.dT (vs:=vs) ⟨by rw[kl];exact kk.1,fun p hp=>?_⟩ (by rw[cv hca,k1];exact e) (by rw[k2];exact r5)) (by simp) (js.mpr ⟨fun z=>na (ZI _ z),n2⟩) (fun b hb=>?_) fun b _ nb=>cv fun z=>nb (z ▸ b9 _ cA)
   ·have:p.1∈kvs.map (·.1):=k1 ▸ List.mem_map_of_mem hp
    obtain⟨p',hJ,e'⟩:=bI.mp this
    rw[<- e'];exact kk.2 p' hJ
   ·have Au:b∈a0 :: A:=(dr.mp hb).elim (fun z=>z ▸ b5) fun z=>b9 _ (ZI b z)
    exact⟨own b Au,.inl Au⟩
theorem DQ{te:WE}{Hs H:Hp}{ρ:Env}{σ:St}{ag:List Addr}{i:Nat}{kvs:List (List Key × D)}{ks:List Key}{xs:List D}{a:Addr}{Kj:List (List Key × V)}{v':V}{R:Env->Prop}{G:Hp->Prop}(sr:dc K Hs ρ σ H ag)(e1:ρ[i]? = some (some (.ow true (.dT kvs))))(hg:dz kvs ks=some (.list xs))(hz:xs.length<sizeLine)
  (ZJ:σ[i]? = some (some (.ref a))) (eH:H a=some (.dT Kj)) (ev:gp Kj ks=some v') (q:te ρ fun _ x=>x.flat=true/\R (ρ.set i (some (.ow true (.dT (kU kvs ks x)))))) (k1:∀ H' ai aT bT,ax Hs ai->dc K ai aT σ H' bT->R aT->G H') :
  TX K "list" v' H/\TF (mB K te) TC σ H fun us H2=>Yn v' us H2 fun _ H3=>G H3:=by
 obtain⟨a',ZK,c,ws,f1,f2,f3,f4,f5,f6⟩:=wu sr e1 hg
 have ea:a'=a:=by rw[f1] at ZJ;cases ZJ;rfl
 subst ea
 have ek:ZK=Kj:=by rw[f2] at eH;cases eH;rfl
 subst ek
 have e':v'=.ref c:=by rw[f3] at ev;cases ev;rfl
 subst e'
 refine⟨.inl ⟨rfl,_,.inl (.inl f4)⟩,Hs,ρ,ag,_,sr,q,fun y H2 ay m x Cs g2 r2 fr2 q2=>?_⟩
 obtain⟨hx,q2⟩:=q2
 obtain⟨b',kv2,c2,ws2,h1,h2,h3,h4,h5,h6⟩:=wu (sr.grow g2) e1 hg
 have ea:b'=a':=by rw[f1] at h1;cases h1;rfl
 subst ea
 have ek:kv2=ZK:=by rw[g2.all _ _ f2] at h2;cases h2;rfl
 subst ek
 have e':c2=c:=by rw[f3] at h3;cases h3;rfl
 subst e'
 obtain⟨dn,fP⟩:=h6 x y hx (r2.flat g2.wf hx) (by lia)
 exact⟨c2,ws2,y,rfl,rfl,h4,by lia,k1 _ ay _ dn g2.sh fP q2⟩
theorem set_own{α:Type}{ρ:List α}{i:Nat}{x:α}(h:ρ[i]? = some x):ρ.set i x=ρ:=by
 apply D2
 intro j
 rw[List.getElem?_set]
 split
 ·rename_i e
  subst e
  have:=(iS.mp h).1
  rw[if_pos this,h]
 ·rfl
theorem Le {L:Str->Hp->Prop} {i:Nat} {p1 p2 p3 p4 p5:Pos} (hu:X.A.units+64<cLine) (he:PE X a (wt i)) (hb:QE X K b tb) (hc:QE X K c tc) (hK:X.K=K:=by rfl) (hm:M2 X a "setdefault" p1 b (.List [] p2) p3:=by exact⟨rfl,rfl,rfl,rfl⟩)
  (hs:swapsWith (.Call (.Attribute (.Call (.Attribute a "setdefault" p1) [b,.List [] p2] [] p3) "append" p4) [c] [] p5) none pos.line X.env=pure false:=by rfl)
  (vj:attributeBase (.Call (.Attribute a "setdefault" p1) [b,.List [] p2] [] p3) "append" X.env (eval (.Call (.Attribute a "setdefault" p1) [b,.List [] p2] [] p3) X.env)=eval (.Call (.Attribute a "setdefault" p1) [b,.List [] p2] [] p3) X.env:=by rfl)
  (oz:((backTo p5 (starEach [c] X.env)).all (fun x=>!x.1) && (backToKw p5 (keywordEach [] X.env)).all (fun x=>x.1.isSome)
   && decide ([c].length+([]:List Keyword).length+(if ([]:List Keyword).isEmpty then 0 else 1)<30))=true:=by rfl)
  (hline:(p4.endLine == p5.line)=true:=by rfl) (pd:starEach (c :: []) X.env=(false,eval c X.env) :: starEach [] X.env:=by rfl) (vk:(backTo p5 (starEach [] X.env)).any (·.1)=false:=by rfl) :
  QS X K L (.Expr (.Call (.Attribute (.Call (.Attribute a "setdefault" p1) [b,.List [] p2] [] p3) "append" p4) [c] [] p5) pos) (Sb i tb tc):=by
 subst hK
 refine PS.imp (EE (EJ PySem.F.plainAttrs_list PySem.F.slot_list_append PySem.F.type_list_append Rg (Lw (by lia) he hb (jE (K:=X.K) au) hm) (q0 hc uS pd) vj oz hline pd vk) hs) fun D σ H hx=>dW hx fun Hs ρ ag E sr h k1 k2 k3 k4=>?_
 unfold Sb R_ at h
 split at h
 ·rename_i kvs e1
  obtain⟨v,e2,pl⟩:=sr.place e1
  obtain⟨gu,r,ne,nd,own,k⟩:=pl.ex
  have lv:∀ x∈gu,Hs x=none/\H x≠none:=fun x hx=>⟨own x hx,(r.own x hx).ne⟩
  cases r with
  |sh hf _=>exact absurd rfl ne
  |@dT a0 vs _ A kk e rs =>
   refine⟨_,e2,a0,rfl,.inr ⟨_,.inl e⟩,Hs,ρ,ag,_,sr,h,fun u H2 ay m y Bs g2 r2 f2 q2=>?_⟩
   refine⟨ay,ρ,ag,fun m d=>m=.ow true/\d=.list [],sr.grow g2,⟨fE _,rfl,rfl⟩,fun w H3 eI n z Cs g3 r3 f3 q3=>?_⟩
   obtain⟨rfl,rfl⟩:=q3
   have ry:=(r2.grow g3).rep g3.wf
   cases ry with
   |tup t2 ey p2 =>
    obtain⟨ks,hk,hz,zD,q⟩:=q2
    obtain⟨b',eb,e3⟩:=Rep.kR (.tup t2 ey p2) hk
    cases eb
    have g:=g2.trans g3
    have hl:kvs.length=vs.length:=by have:=rs.length;rwa[bS] at this
    have srg:=sr.grow g
    have zg:=zip_get (k:=ks) (rs.reps (G:=H) sr.wf.sub fun _ _=>rfl)
    refine⟨_,ks,_,g.all _ _ e,rfl,e3,by rw[D6,bS,<- hl,GV];exact hz,fun v' ev=>?_,fun ev=>?_⟩
    ·cases hg:dz kvs ks with
     |none=>rw[hg] at zg;rw[zg] at ev;cases ev
     |some d =>
      rw[hg] at zD
      cases d with
      |list xs =>
       rw[show Ki kvs ks=kvs by unfold Ki;rw[hg],set_own e1] at q
       exact DQ (G:=fun H'=>D.nx σ H') srg e1 hg zD e2 (g.all _ _ e) ev q fun H' ai aT bT s1 s2 q'=>k1 σ H' ai aT bT (g.sh.trans s1) s2 q'
      |_=>exact zD.elim
    ·have hg:dz kvs ks=none:=by
      cases hg:dz kvs ks with
      |none=>rfl
      |some d=>rw[hg] at zg;obtain⟨v',z,_⟩:=zg;rw[z] at ev;cases ev
     rw[show Ki kvs ks=kvs++[(ks,.list [])] by unfold Ki;rw[hg]] at q
     obtain⟨r3,_⟩:=r3
     cases r3 with
     |sh hf _=>exact absurd (hf rfl) (by simp[Q.D.flat])
     |@list c ws _ B' hw ec DS =>
      cases DS
      obtain⟨na,nA⟩:=js.mp nd
      have fc:=f3.2 c b5
      have Sd:H c=none:=g2.all.free fc.2
      have cA:∀ b∈a0 :: A,b≠c:=fun b hb z=>by
       subst z
       rcases dr.mp hb with rfl|hb
       ·rw[e] at Sd;cases Sd
       ·exact(rs.own _ hb).ne Sd
      have ek:putK ((kvs.map (·.1)).zip vs) ks (V.ref c)=((kvs++[(ks,Q.D.list [])]).map (·.1)).zip (vs++[V.ref c]):=by
       have:=MA ks ((kvs.map (·.1)).zip vs)
       rw[ev] at this
       unfold putK
       rw[this,if_neg (by decide),kG,List.zip_append (by rw[bS];exact hl)]
       rfl
      obtain⟨kl,ko⟩:=wK p2 hk
      have l1:=p2.length
      have rs3:=rs.grow g.sh g.all
      have rs4:az X.K eI (upd H3 a0 (.dT (((kvs++[(ks,Q.D.list [])]).map (·.1)).zip (vs++[V.ref c])))) true ((kvs++[(ks,Q.D.list [])]).map (·.2)) (vs++[V.ref c]) (A++[c]):=by
       have q1:=rs3.fq (H':=upd H3 a0 (.dT (((kvs++[(ks,Q.D.list [])]).map (·.1)).zip (vs++[V.ref c])))) (ax.refl _) fun b hb=>cv fun z=>na (z ▸ hb)
       have q2:=q1.append (az.cons (bG.list (ds:=[]) (As:=[]) hw ((cv fun z=>cA a0 b5 z.symm).trans ec) .nil) .nil)
       rw[show(kvs++[(ks,Q.D.list [])]).map (·.2)=kvs.map (·.2)++[Q.D.list []] by simp]
       exact q2
      obtain⟨dn,fP⟩:=k.node (fl2:=true) (d2:=.dT (kvs++[(ks,.list [])])) (C:=A++[c]) g lv (fun _ z=>by cases z) id
       (.dT ⟨by rw[kF];exact hz,fun p hp=>(dy.mp hp).elim (kk.2 p) fun z=>by
        obtain rfl:p=(ks,.list []):=by simpa using z
        exact⟨by show ks.length<=_;lia,ko⟩⟩ fi rs4)
       (g9.mpr ⟨nA,by simp,fun x hx y hy z=>cA x (b9 _ hx) (by rw[z];simpa using hy)⟩) (fun z=>(dy.mp z).elim na fun z=>cA a0 b5 (by simpa using z))
       (fun x hx=>(dy.mp hx).imp id fun z=>by
        obtain rfl:x=c:=by simpa using z
        exact⟨fc.1,Sd⟩)
      rw[ek]
      have hi:i<ρ.length:=(iS.mp e1).1
      refine DQ (G:=fun H'=>D.nx σ H') (R:=E.nx) (kvs:=kvs++[(ks,.list [])]) (xs:=[]) fP (by simp[hi]) (sJ hg) (by rw[sizeLine_eq];decide) e2 fi (by rw[<- ek,dJ',if_pos rfl]) ?_ fun H' ai aT bT s1 s2 q'=>k1 σ H' ai aT bT (g.sh.trans s1) s2 q'
      simp only[List.set_set,wJ hg]
      exact q
   |_=>exact q2.elim
 ·exact h.elim
end
end L2.Q
namespace L2
open PySem PySem.Spec PyProof.Rows
def Gy:R2:=fun x y H Q=>match x,y with
 |.str z,.int n=>(0<=n/\n<=100/\z.length<=100)/\Q (.str (og n z)) H
 |_,_=>False
theorem Fw{X:Cx}:da X (binaryOp .Mult) Gy:=by
 intro pins s σ H x y v u Q I rx ry h
 unfold Gy at h
 split at h
 ·rename_i z n
  obtain⟨⟨h1,h2,h3⟩,q⟩:=h
  by_cases hn:n<1
  ·obtain⟨t,rfl⟩:=rx
   obtain⟨t',rfl⟩:=ry
   have e:n=0:=by lia
   subst e
   refine mF ⟨by decide,fun z=>absurd hn z,fun z=>absurd hn z⟩ fun t' k=>⟨.str (og 0 z),H,I.tok _,⟨t',by rw[show Txt.mul z 0=og 0 z from by unfold Txt.mul og;rw[if_pos hn];rfl]⟩,q⟩
  ·exact Hd pins s σ H (.str z) (.int n) v u Q I rx ry ⟨⟨by lia,h2,h3⟩,q⟩
 ·exact h.elim
end L2
namespace L2.Q
open PySem PySem.Spec PyProof.Rows
section
variable {X:Cx}{K:PySem.W.Frag}{a b c:Expr}{ta tb:WE}{pos:Pos}
def CZ:W2:=fun _ x _ y Q=>match x with
 |.str z=>match y with
  |.int n=>(0<=n/\n<=100/\z.length<=100)/\Q .sh (.str (og n z))
  |_=>False
 |_=>False
theorem GR:kC K Gy CZ:=by
 intro Hs H m x v As n y u Bs Qd Qv w rx ry h f
 have r1:=rx.rep w
 have r2:=ry.rep w
 cases r1 with
 |str hz=>cases r2 with
  |int n =>
   obtain⟨hh,q⟩:=h
   refine⟨hh,f.sh w (.str ?_) q⟩
   rw[qK,sizeLine_eq]
   have:n.toNat*Str.length _<=100*100:=B6 (by lia) hh.2.2
   lia
  |_=>exact h.elim
 |_=>exact h.elim
theorem JD(ha:QE X K a ta)(hb:QE X K b tb):QE X K (.BinOp a .Mult b pos) (av CZ ta tb):=E6 Fw GR ha hb
def gG'(d:D)(k:List (Key × D)->Prop):Prop:=match d with
 |.dK kvs=>k kvs
 |_=>False
theorem SR.take(i:Nat)(s:SR K Hs H ρ σ ag):ρ[i]? = some (some (.ow fl d))->ag.Nodup ->
  ∃ (v:V) (As bT:List Addr),σ[i]? = some (some v)/\bG K Hs H fl d v As/\As.Sublist ag/\bT.Sublist ag/\(∀ a∈As,a∉bT)/\SR K Hs H (ρ.set i none) σ bT:=by
 induction s generalizing i with
 |nil=>intro e;simp at e
 |non q ih =>
  intro e n
  cases i with
  |zero=>simp at e
  |succ i =>
   obtain⟨v,As,t,o,a,b,c,d,f⟩:=ih i e n
   exact⟨v,As,t,o,a,b,c,d,.non f⟩
 |sh r q ih =>
  intro e n
  cases i with
  |zero=>simp at e
  |succ i =>
   obtain⟨v,As,t,o,a,b,c,d,f⟩:=ih i e n
   exact⟨v,As,t,o,a,b,c,d,.sh r f⟩
 |xc q ih =>
  intro e n
  cases i with
  |zero=>simp at e
  |succ i =>
   obtain⟨v,As,t,o,a,b,c,d,f⟩:=ih i e n
   exact⟨v,As,t,o,a,b,c,d,.xc f⟩
 |ow ne r q ih =>
  intro e n
  obtain⟨n1,n2,n3⟩:=g9.mp n
  cases i with
  |zero =>
   simp at e
   obtain⟨rfl,rfl⟩:=e
   exact⟨_,_,_,rfl,r,FY _ _,om _ _,fun a h m=>n3 a h a m rfl,.non q⟩
  |succ i =>
   obtain⟨v,As,t,o,a,b,c,d,f⟩:=ih i e n2
   exact⟨v,As,_,o,a,b.trans (om _ _),c.append_left _,rG n b d,.ow ne r f⟩
 |lk ne r q ih =>
  intro e n
  obtain⟨n1,n2,n3⟩:=g9.mp n
  cases i with
  |zero=>simp at e
  |succ i =>
   obtain⟨v,As,t,o,a,b,c,d,f⟩:=ih i e n2
   exact⟨v,As,_,o,a,b.trans (om _ _),c.append_left _,rG n b d,.lk ne r f⟩
theorem DK(h:FE o k):∃ xs,o=some (some (.ow true (.list xs)))/\k xs:=by
 unfold FE at h
 split at h
 ·exact⟨_,rfl,h⟩
 ·exact h.elim
theorem Fg(kB:i≠j)(sr:dc K Hs ρ σ H ag)(ei:ρ[i]? = some (some (.ow true (.list hs))))(ej:ρ[j]? = some (some (.ow true (.list xs))))
  (fl:cp xs=true) (OZ:hs.length<sizeLine) :
  ∃ a ws c vs dn,σ[i]? = some (some (.ref a))/\H a=some (.lst ws)/\ws.length<sizeLine/\σ[j]? = some (some (.ref c))/\upd H a (.lst (ws++[.ref c])) c=some (.lst vs)/\aI K Hs xs vs/\vs.length<=sizeLine /\
   dc K Hs ((ρ.set j none).set i (some (.ow true (.list (hs++[.list xs]))))) σ (upd H a (.lst (ws++[.ref c]))) dn:=by
 obtain⟨v,As,bT,e1,r,sb,st,dj,s1⟩:=SR.take j sr.sr ej sr.lP
 have ei':(ρ.set j none)[i]? = some (some (.ow true (.list hs))):=by rw[GB (Ne.symm kB)];exact ei
 obtain⟨u,Ai,_,e2,ne,ri,si,g⟩:=SR.put i s1 ei' (st.nodup sr.lP)
 cases r with
 |sh hf _=>exact absurd (hf rfl) (by simp[D.flat])
 |@list c vs _ B hz ec rs =>
  cases ri with
  |sh _ _=>exact absurd rfl ne
  |@list a ws _ A hw ea ra =>
   have ZL:c≠a:=fun z=>dj c b5 (si.subset (z ▸ b5))
   have UK:=si.nodup (st.nodup sr.lP)
   obtain⟨na,nA⟩:=js.mp UK
   have ndj:=sb.nodup sr.lP
   have dA:∀ x∈c :: B,x∉a :: A:=fun x hx m=>dj x hx (si.subset m)
   have nB:∀ x∈c :: B,x≠a:=fun x hx z=>dA x hx (z ▸ b5)
   have hl:=ra.length
   have r3:bG K Hs (upd H a (.lst (ws++[.ref c]))) true (.list (hs++[.list xs])) (.ref a) (a :: (A++((c :: B)++[]))):=by
    refine .list (by rw[kF,<- hl];exact OZ) fi ((ra.fq (H':=upd H a (.lst (ws++[.ref c]))) (ax.refl _) fun b hb=>cv fun z=>na (by subst z;exact hb)).append (.cons (.list hz ((cv ZL).trans ec) (rs.fq (ax.refl _) fun b hb=>cv (nB b (b9 _ hb)))) .nil))
   obtain⟨dn,n2,i2,s2⟩:=g Hs _ true _ _ (ax.refl _) r3 (by simp) (js.mpr ⟨fun m=>(dy.mp m).elim na fun m=>nB a (by simpa using m) rfl,g9.mpr ⟨nA,by simpa using ndj,fun x hx y hy e=>dA y (by simpa using hy) (e ▸ b9 _ hx)⟩⟩)
    (fun b hb m=>by
     rcases dr.mp hb with rfl|hb
     ·exact b5
     ·rcases dy.mp hb with hb|hb
      ·exact b9 _ hb
      ·exact absurd m (dj b (by simpa using hb)))
    (fun b _ nb=>cv fun z=>nb (z ▸ b5))
   have Ha:Hs a=none:=sr.own a (st.subset (si.subset b5))
   refine⟨a,ws,c,vs,dn,e2,ea,by lia,e1,(cv ZL).trans ec,(rs.reps sr.wf.sub fun _ _=>rfl).eZ sr.wf.ib fl,hz,s2,tR sr.wf Ha (fun _ z=>nomatch z),n2,fun b hb=>?_⟩
   rcases i2 b hb with m|m
   ·exact sr.own b (st.subset m)
   ·rcases dr.mp m with rfl|m
    ·exact Ha
    ·rcases dy.mp m with m|m
     ·exact sr.own b (st.subset (si.subset (b9 _ m)))
     ·exact sr.own b (sb.subset (by simpa using m))
end
end L2.Q
namespace L2.Q.R
open PySem PySem.Spec PyProof.Rows L2.Q
section
variable {ρ:Env}{E:qM}{te tb tc tk:WE}{m m':Md}{x y:L2.Q.D}{ys:List L2.Q.D}{Q:Md->L2.Q.D->Prop}{i k:Nat}
theorem M7{a:Int}{x:Str}:CZ m (.str x) m' (.int a) Q=((0<=a/\a<=100/\x.length<=100)/\Q .sh (.str (og a x))):=rfl
theorem Pu{kvs:List (Key × L2.Q.D)}{k:List (Key × L2.Q.D)->Prop}:gG' (.dK kvs) k=k kvs:=rfl
theorem Qi:Pw te tb tc ρ Q=te ρ fun m x=>bX x (f:=fun x=>R9 x (fun kvs=>tb ρ fun _ y=>tc ρ fun n z=>∃ k,y.key1=some k/\BE (dz kvs k) m n z Q)
 (fun kvs=>tb ρ fun _ y=>tc ρ fun n z=>bX y (f:=fun y=>Pt y fun ys=>∃ ks,fj ys=some ks/\BE (dz kvs ks) m n z Q) ⟨⟩)) ⟨⟩:=rfl
theorem O7:R9 (.dK kvs) f g=f kvs:=rfl
theorem Oh:R9 (.dT kvs) f g=g kvs:=rfl
theorem Og{k:List L2.Q.D->Prop}:Pt (.tup ys) k=k ys:=rfl
theorem gJ':Sb i tk te E ρ=bX ρ[i]? (f:=fun o=>R_ o fun kvs=>tk ρ fun _ y=>bX y (f:=fun y=>Pt y fun ys=>∃ ks,fj ys=some ks/\kvs.length<sizeLine/\Eg (dz kvs ks) /\
 te (ρ.set i (some (.ow true (.dT (Ki kvs ks))))) fun _ x=>x.flat=true/\E.nx (ρ.set i (some (.ow true (.dT (kU kvs ks x)))))) ⟨⟩) ⟨⟩:=rfl
theorem Qh{kvs:List (List Key × L2.Q.D)}{k:List (List Key × L2.Q.D)->Prop}:R_ (some (some (.ow true (.dT kvs)))) k=k kvs:=rfl
end
end L2.Q.R
namespace L2
open PySem PySem.Spec PyProof.Rows
section
variable {X:Cx}
def Se(K:PySem.W.Frag):List V->Hp->VK->Prop:=fun xs H Q=>match xs with
 |[.ref a]=>∃ bs:List Bool,eR K H a (bs.map V.bl)/\Q (.bl (bs.any id)) H
 |_=>False
theorem Ay (hc:X.calm=true):kM X (.builtin "any") (Se X.K):=by
 intro pins s σ H xs us Q I r h
 unfold Se at h
 split at h
 ·rename_i a
  obtain⟨bs,e,q⟩:=h
  obtain⟨u,rfl,ru⟩:=Vals.one r
  cases ru
  obtain⟨its,rv,pl,hz⟩:=I.list e
  have hl:s.heap.IsList a its.toArray:=pl.isList
  obtain⟨o,ho,HK,n,rL⟩:=id hl
  have hlen:=rv.length
  rw[bS] at hlen
  refine call_any_walk (wpAny_pyIter_list hl ?_)
  have gV:a≠s.heap.objs.size:=fN (eh ho)
  have A2:X.A.in1.handled=none:=I.ok.hd hc
  refine⟨s.heap.objs.size,_,_,_,_,_,fun i=>bs.getD i false,rfl,Walks.list A2 s.heap.objs.size a gV its.toArray,⟨⟨_,iX _ rfl,rfl,rfl⟩,⟨_,fh _ ho,HK,n,rL⟩⟩,?_,fun h' tk hk=>?_⟩
  ·intro i v s' Q' E' hv hq
   have oC:its[i]? = some v:=by simpa using (show its.toArray[i]? = some v from hv)
   have hi:i<bs.length:=by
    have:=(iS.mp oC).1
    lia
   obtain⟨w',e1,r1⟩:=rv.get (i:=i) (x:=V.bl bs[i]) (by simp[hi])
   rw[oC] at e1
   cases e1
   cases (show v=Value.bool bs[i] from r1)
   have hq:Q' (bs.getD i false) s':=hq
   rw[show bs.getD i false=bs[i] by simp[List.getD,hi]] at hq
   exact wpAny_truthy_bool hq
  ·have e3:((List.range its.toArray.size).any fun i=>bs.getD i false)=bs.any id:=by
    rw[h9,<- hlen]
    apply sF.mpr
    simp only[D5,mI,id]
    constructor
    ·rintro⟨i,hi,h⟩
     exact⟨bs[i],AI hi,by simpa[List.getD,hi] using h⟩
    ·rintro⟨b,hb,h⟩
     obtain⟨i,hi,rfl⟩:=Qp.mp hb
     exact⟨i,hi,by simpa[List.getD,hi] using h⟩
   rw[e3]
   refine⟨.bl (bs.any id),H,?_,rfl,q⟩
   exact I.kept (t':=tk) fun b o e=>hk b o (by simp;exact fN (eh e)) (fh _ e)
 ·exact h.elim
end
end L2
namespace L2.Q
open PySem PySem.Spec PyProof.Rows
section
variable {X:Cx}{K:PySem.W.Frag}{L:Str->Hp->Prop}{e e2 e3:Expr}{p:WP}{te UG:WE}{apos dE pos:Pos}
theorem gK' (hc:X.calm=true:=by rfl) (hK:X.K=K:=by rfl):kM X (.builtin "any") (Se K):=by subst hK;exact Ay hc
theorem Ji:bootBuiltins "any" = some (.builtin "any"):=by decide +kernel
def U9:W1:=fun _ x Q=>match x with
 |.list xs=>∃ bs:List Bool,xs=bs.map D.bl/\Q .sh (.bl (bs.any (fun b=>b)))
 |_=>False
theorem HQ:An K (Se K) U9:=by
 intro Hs H m x v As Qd Qv w rx h f
 have r1:=rx.rep w
 cases r1 with
 |list z s q =>
  obtain⟨bs,rfl,h⟩:=h
  cases Er q
  exact⟨bs,s,f.sh w (.bl _) h⟩
 |_=>exact h.elim
def HB(p:WP)(tk:WE):WS:=fun E ρ=>p ρ fun fl d up=>match d with
 |.list xs=>tk ρ fun _ j=>match j with
  |.int j=>∃ y,0<=j/\xs[j.toNat]? = some y/\y.flat=true/\E.nx (up fl (.list (xs.eraseIdx j.toNat)))
  |_=>False
 |_=>False
theorem Place.short(pl:Place K aE H1 σ fl (.list xs) v up)(e:v=.ref a)(h:H1 a=some (.lst vs)):vs.length<=sizeLine:=by
 subst e
 rcases pl.ex with⟨gu,r,ne,_⟩
 cases r with
 |sh _ _=>exact absurd rfl ne
 |list hz e3 _=>rw[h] at e3;cases e3;exact hz
theorem Ez(ho:QP X K e p)(he:QE X K e2 UG)(hK:X.K=K:=by rfl)
  (vj:attributeBase e "pop" X.env (eval e X.env)=eval e X.env:=by rfl)
  (oz:((backTo dE (starEach [e2] X.env)).all (fun x=>!x.1) && (backToKw dE (keywordEach [] X.env)).all (fun x=>x.1.isSome)
   && decide ([e2].length+([]:List Keyword).length+(if ([]:List Keyword).isEmpty then 0 else 1)<30))=true:=by rfl)
  (hline:(apos.endLine == dE.line)=true:=by rfl) (pd:starEach (e2 :: []) X.env=(false,eval e2 X.env) :: starEach [] X.env:=by rfl) (vk:(backTo dE (starEach [] X.env)).any (·.1)=false:=by rfl)
  (hs:swapsWith (.Call (.Attribute e "pop" apos) [e2] [] dE) none pos.line X.env=pure false:=by rfl) :
  QS X K L (.Expr (.Call (.Attribute e "pop" apos) [e2] [] dE) pos) (HB p UG):=by
 subst hK
 refine PS.imp (EE (EJ PySem.F.plainAttrs_list PySem.F.slot_list_pop PySem.F.type_list_pop dI' ho (q0 he uS pd) vj oz hline pd vk) hs) fun D σ H hx=>dW hx fun Hs ρ ag E sr h k1 k2 k3 k4=>?_
 refine⟨Hs,ρ,ag,_,sr,h,fun v H1 aE fl d up g1 p1 q1=>?_⟩
 cases d with
 |list xs =>
  obtain⟨a1,Zd,e1,s1⟩:=p1.UI g1.wf
  refine⟨by subst e1;exact .inl ⟨rfl,_,s1⟩,aE,ρ,ag,_,sr.grow g1,q1,fun w H2 ay m jd As g2 r2 f2 q2=>?_⟩
  have rj:=r2.rep g2.wf
  cases rj with
  |int j =>
   obtain⟨y,hj,ey,fy,q2⟩:=q2
   obtain⟨a,vs,A,ea,e2,U_,rs,nd,hn,k⟩:=p1.put g2
   have hz0:=p1.short ea U_
   obtain⟨nA,JA⟩:=js.mp nd
   obtain⟨u,eu,ru⟩:=rs.fL' ey fy g2.wf
   obtain⟨B,sb,rb⟩:=rs.erase j.toNat
   have dQ:=(iS.mp eu).1
   have UR:sizeLine<2 ^ 62:=by rw[sizeLine_eq];decide
   refine⟨a,vs,j,j.toNat,u,ea,rfl,e2,by lia,by lia,?_,eu,?_⟩
   ·unfold seqIndex?
    simp only[show ¬ j<0 by lia,if_false]
    rw[if_pos (by simp only[kK,decide_eq_true_eq];lia)]
   ·obtain⟨dn,fP⟩:=k fl _ _ B id rb (by rw[SY];split<;>lia) (sb.nodup JA) (fun z=>nA (sb.subset z)) (fun x hx=>.inl (sb.subset hx))
    exact k1 _ _ ay _ dn (g1.sh.trans g2.sh) fP q2
  |_=>exact q2.elim
 |_=>exact q1.elim
def Va(p:WP)(te:WE):WS:=fun E ρ=>p ρ fun fl d up=>match d with
 |.list xs=>te ρ fun m y=>m=.ow true/\match y with
  |.list ys=>cp ys=true/\xs.length+ys.length<=sizeLine/\E.nx (up fl (.list (xs++ys)))
  |_=>False
 |_=>False
theorem Iz (ho:QP X K e p) (he:QE X K e2 te) (hK:X.K=K:=by rfl) (hs:swapsWith (.Call (.Attribute e "extend" apos) [e2] [] dE) none pos.line X.env=pure false:=by rfl)
  (vj:attributeBase e "extend" X.env (eval e X.env)=eval e X.env:=by rfl)
  (oz:((backTo dE (starEach [e2] X.env)).all (fun x=>!x.1) && (backToKw dE (keywordEach [] X.env)).all (fun x=>x.1.isSome)
   && decide ([e2].length+([]:List Keyword).length+(if ([]:List Keyword).isEmpty then 0 else 1)<30))=true:=by rfl)
  (hline:(apos.endLine == dE.line)=true:=by rfl) (pd:starEach (e2 :: []) X.env=(false,eval e2 X.env) :: starEach [] X.env:=by rfl) (vk:(backTo dE (starEach [] X.env)).any (·.1)=false:=by rfl) :
  QS X K L (.Expr (.Call (.Attribute e "extend" apos) [e2] [] dE) pos) (Va p te):=by
 subst hK
 refine PS.imp (EE (EJ PySem.F.plainAttrs_list PySem.F.slot_list_extend PySem.F.type_list_extend dF' ho (q0 he uS pd) vj oz hline pd vk) hs) fun D σ H hx=>dW hx fun Hs ρ ag E sr h k1 k2 k3 k4=>?_
 refine⟨Hs,ρ,ag,_,sr,h,fun v H1 aE fl d up g1 p1 q1=>?_⟩
 cases d with
 |list xs =>
  obtain⟨a1,Zd,e1,s1⟩:=p1.UI g1.wf
  refine⟨by subst e1;exact .inl ⟨rfl,_,s1⟩,aE,ρ,ag,_,sr.grow g1,q1,fun y H2 ay m x As g2 r2 f2 q2=>?_⟩
  obtain⟨rfl,q2⟩:=q2
  obtain⟨a,vs,A,ea,e2,U_,rs,nd,hn,k⟩:=p1.put g2
  obtain⟨r,ne⟩:=r2
  cases r with
  |sh _ _=>exact absurd rfl ne
  |list hz e3 Fc =>
   obtain⟨fy,hl,q2⟩:=q2
   obtain⟨nA,JA⟩:=js.mp nd
   have l1:=rs.length
   have l2:=Fc.length
   refine⟨a,_,vs,_,ea,rfl,e2,e3,by lia,?_⟩
   obtain⟨dn,fP⟩:=k fl (xs++_) (vs++_) (A++[]) id (rs.append (aI.owned ((Fc.reps g2.wf.sub fun _ _=>rfl).eZ g2.wf.ib fy) fy)) (by rw[kF];lia) (by simpa using JA) (by simpa using nA) (fun x hx=>.inl (by simpa using hx))
   exact k1 _ _ ay _ dn (g1.sh.trans g2.sh) fP q2
  |_=>exact q2.elim
 |_=>exact q1.elim
end
end L2.Q
namespace L2.Q.R
open PySem PySem.Spec PyProof.Rows L2.Q
section
variable {ρ:Env}{E:qM}{te tk:WE}{m:Md}{Q:Md->L2.Q.D->Prop}{p:WP}{xs ys:List L2.Q.D}{k:List L2.Q.D->Prop}
def Sf(d:L2.Q.D)(k:List L2.Q.D->Prop):Prop:=match d with
 |.list xs=>k xs
 |_=>False
theorem Qa:Sf (.list xs) k=k xs:=rfl
theorem Mv:HB p tk E ρ=p ρ fun fl d up=>bX d (f:=fun d=>Sf d fun xs=>tk ρ fun _ j=>bX j (f:=fun j=>intD j fun j=>∃ y,0<=j/\xs[j.toNat]? = some y/\y.flat=true/\E.nx (up fl (.list (xs.eraseIdx j.toNat)))) ⟨⟩) ⟨⟩:=rfl
theorem PJ:Va p te E ρ=p ρ fun fl d up=>bX d (f:=fun d=>Sf d fun xs=>te ρ fun m y=>m=.ow true/\bX y (f:=fun y=>Sf y fun ys=>cp ys=true/\xs.length+ys.length<=sizeLine/\E.nx (up fl (.list (xs++ys)))) ⟨⟩) ⟨⟩:=rfl
theorem NB:BE (some d) m n z Q=Q (mh m d) d:=rfl
theorem Nk:BE none m n z Q=Q n z:=rfl
theorem O1:U9 m (.list xs) Q = ∃ bs:List Bool,xs=bs.map L2.Q.D.bl/\Q .sh (.bl (bs.any (fun b=>b))):=rfl
end
end L2.Q.R
namespace PySem.SeqAt
open AutoSeq1 (wpAny_loadPart')
open MeetsSeq MeetsSeq2 MeetsSeq3 SeqRoads2
def nh(A:Around)(s:Shared)(u v:Value)(b:Bool):Prop:=∀ (prog:Program) (w:World) (Q:Value->Shared->Prop) (E:Value->Shared->Prop),Q (.bool b) s->wpAny (model prog w) A (richCompare .Lt u v) Q E s
def tF(e f:Nat->Bool)(m n:Nat):Nat->Nat->Bool
 |0,_=>decide (m<n)
 |k+1,i=>if e i then tF e f m n k (i+1) else f i
theorem Av(l b:Addr)(items df:Array Value)(n n2:Nat)(dd n4:Option Addr)(sl rg:Array (Option Value))(e f:Nat->Bool)(k:Nat) :
  ∀ i:Nat,min items.size df.size-i=k->i<=min items.size df.size->Meets (Builtin.«list.__eq__.loop» ⟨[.ref l,.ref b,rawInt i,rawInt 0],[]⟩)
   (fun A R s=>s.heap.get? l=some { cls:=.type "list",dict:=dd,data:=.seq items n,slots:=sl }/\s.heap.get? b=some { cls:=.type "list",dict:=n4,data:=.seq df n2,slots:=rg } /\
    (∀ j (h1:j<items.size) (h2:j<df.size),EqAt A.in1 s items[j] df[j] (e j))/\(∀ j (h1:j<items.size) (h2:j<df.size),e j=false->nh A.in1 s items[j] df[j] (f j)) /\
    R (.ok (.ret (.bool (tF e f items.size df.size k i)))) s):=by
 induction k with
 |zero =>
  intro i hk hle prog w A R s h
  obtain⟨hp,g,d,tk,os⟩:=s;obtain⟨hl,hb,he,hf,h⟩:=h
  wp_walk using wpAny_loadPart' hl,wpAny_loadPart' hb
  rcases (show items.size<=i\/df.size<=i by lia) with z|z
  ·have FG:items[((i:Nat):Int).toNat]? = none:=by simp;lia
   rw[FG]
   wp_walk using wpAny_loadPart' hl,wpAny_loadPart' hb
   exact h
  ·have z0:df[((i:Nat):Int).toNat]? = none:=by simp;lia
   rw[z0]
   cases items[((i:Nat):Int).toNat]?<;>wp_walk using wpAny_loadPart' hl,wpAny_loadPart' hb<;>exact h
 |succ k ih =>
  intro i hk hle prog w A R s h
  obtain⟨hp,g,d,tk,os⟩:=s;obtain⟨hl,hb,he,hf,h⟩:=h
  wp_walk using wpAny_loadPart' hl,wpAny_loadPart' hb
  have dQ:i<items.size:=by lia
  have Vb:i<df.size:=by lia
  have FG:items[((i:Nat):Int).toNat]? = some items[i]:=by simp[dQ]
  have z0:df[((i:Nat):Int).toNat]? = some df[i]:=by simp[Vb]
  have hc:((i:Int)+1)=((i+1:Nat):Int):=by push_cast;rfl
  rw[FG,z0]
  refine ah (he i dQ Vb prog w _ _ ?_)
  cases Au:e i with
  |true =>
   rw[tF,Au,if_pos rfl] at h
   wp_walk
   rw[hc]
   exact⟨plainId_quiet plain_eq_loop _,codeAny_builtin entry_eq_loop (by
    rw[Around.under_plainId plain_eq_loop _]
    exact ih (i+1) (by lia) (by lia) prog w A R _ ⟨hl,hb,he,hf,h⟩)⟩
  |false =>
   rw[tF,Au,if_neg hU] at h
   wp_walk using wpAny_loadPart' hl,wpAny_loadPart' hb
   rw[FG,z0]
   refine ah (hf i dQ Vb Au prog w _ _ ?_)
   wp_walk
   exact h
theorem Bp(l b:Addr)(items df:Array Value)(n n2:Nat)(dd n4:Option Addr)(sl rg:Array (Option Value))(e f:Nat->Bool) :
  Meets (Builtin.«list.__lt__» ⟨[.ref l,.ref b],[]⟩)
   (fun A R s=>s.heap.get? l=some { cls:=.type "list",dict:=dd,data:=.seq items n,slots:=sl }/\s.heap.get? b=some { cls:=.type "list",dict:=n4,data:=.seq df n2,slots:=rg } /\
    (∀ j (h1:j<items.size) (h2:j<df.size),EqAt A.in1 s items[j] df[j] (e j))/\(∀ j (h1:j<items.size) (h2:j<df.size),e j=false->nh A.in1 s items[j] df[j] (f j)) /\
    R (.ok (.ret (.bool (tF e f items.size df.size (min items.size df.size) 0)))) s):=by
 intro prog w A R s h
 obtain⟨hp,g,d,tk,os⟩:=s;obtain⟨hl,hb,he,hf,h⟩:=h
 have f3:=AutoSeq1.sub_list_list
 wp_walk using wpAny_loadPart' hl,wpAny_loadPart' hb
 exact⟨plainId_quiet plain_eq_loop _,codeAny_builtin entry_eq_loop (by
  rw[Around.under_plainId plain_eq_loop _]
  exact Av l b items df n n2 dd n4 sl rg e f _ 0 (LM _) (fE _) prog w A R _ ⟨hl,hb,he,hf,h⟩)⟩
theorem yh(l b:Addr)(items df:Array Value)(n n2:Nat)(dd n4:Option Addr)(sl rg:Array (Option Value))(e f:Nat->Bool) :
  Meets (Builtin.«tuple.__lt__» ⟨[.ref l,.ref b],[]⟩)
   (fun A R s=>s.heap.get? l=some { cls:=.type "tuple",dict:=dd,data:=.seq items n,slots:=sl }/\s.heap.get? b=some { cls:=.type "tuple",dict:=n4,data:=.seq df n2,slots:=rg } /\
    (∀ j (h1:j<items.size) (h2:j<df.size),EqAt A.in1 s items[j] df[j] (e j))/\(∀ j (h1:j<items.size) (h2:j<df.size),e j=false->nh A.in1 s items[j] df[j] (f j)) /\
    R (.ok (.ret (.bool (tF e f items.size df.size (min items.size df.size) 0)))) s) :=
 .of_wp fun prog w A R s h=>by
  obtain⟨hp,g,d,tk,os⟩:=s;obtain⟨hl,hb,he,hf,h⟩:=h
  have f2:=AutoSeq1.sub_tuple_tuple
  have hZ:(items.toList.zip df.toList).length=min items.size df.size:=by simp
  wp_walk using wpAny_loadPart' hl,wpAny_loadPart' hb,wpAny_forIn_list _ (fun rest b s'=>b.1=none/\s'=⟨hp,g,d,tk,os⟩/\∃ i,rest=(items.toList.zip df.toList).drop i/\i<=min items.size df.size /\
   R (.ok (.ret (.bool (tF e f items.size df.size (min items.size df.size-i) i)))) ⟨hp,g,d,tk,os⟩) _
  case turn =>
   rintro⟨y,x⟩ rest b s' ⟨Au,rfl,i,hz,hi,hR⟩
   have dQ:i<(items.toList.zip df.toList).length:=by
    rcases zk i (items.toList.zip df.toList).length with h'|h'
    ·exact h'
    ·rw[SV h'] at hz;cases hz
   have hm:i<min items.size df.size:=hZ ▸ dQ
   have h1:i<items.size:=nI hm (Nat.min_le_left _ _)
   have h2:i<df.size:=nI hm (Nat.min_le_right _ _)
   rw[AF dQ] at hz
   injection hz with ZM Vc
   have hy:y=items[i]:=by have:=congrArg Prod.fst ZM;simpa using this
   have hx:x=df[i]:=by have:=congrArg Prod.snd ZM;simpa using this
   subst hy hx
   rw[show min items.size df.size-i=(min items.size df.size-(i+1))+1 by lia,tF] at hR
   refine ah (he i h1 h2 prog w _ _ ?_)
   cases hy:e i with
   |true =>
    rw[hy,if_pos rfl] at hR
    wp_walk
    exact⟨rfl,rfl,i+1,Vc,hm,hR⟩
   |false =>
    rw[hy,if_neg hU] at hR
    simp only[Bool.not_false,if_true]
    refine ah (wpAny_rule ?_)
    refine ah (hf i h1 h2 hy prog w _ _ ?_)
    wp_walk
    exact⟨_,rfl,hR⟩
  case fin =>
   rintro⟨b1,b2⟩ s' ⟨Au,rfl,i,hz,hi,hR⟩
   simp only at Au
   subst Au
   have Uo:min items.size df.size<=i:=by
    rcases zk i (items.toList.zip df.toList).length with h'|h'
    ·rw[AF h'] at hz;cases hz
    ·exact hZ ▸ h'
   rw[show min items.size df.size-i=0 by lia,tF] at hR
   wp_walk
   exact⟨_,rfl,by simpa[Builtin.Tuple.tupleCompareSizes] using hR⟩
  case h =>
   exact⟨rfl,rfl,0,rfl,fE _,h⟩
section
variable {A:Around}{s:Shared}
theorem nh.tuples(hl:s.heap.IsTuple l items)(hb:s.heap.IsTuple b df)(hu:A.units<cLine)
  (he:∀ j (h1:j<items.size) (h2:j<df.size),EqAt A.in1 s items[j] df[j] (e j)) (hf:∀ j (h1:j<items.size) (h2:j<df.size),e j=false->nh A.in1 s items[j] df[j] (f j)) :
  nh A s (.ref l) (.ref b) (tF e f items.size df.size (min items.size df.size) 0):=fun prog w Q E h=>by
 obtain⟨⟨cls,dd,data,sl⟩,ho,hc,n,hd⟩:=id hl
 obtain⟨⟨TK,n4,data2,rg⟩,nS,ya,n2,hd2⟩:=id hb
 simp only at hc hd ya hd2
 subst hc hd ya hd2
 exact richCompare_meets_room (op:=.Lt) ⟨_,ho,rfl⟩ ⟨_,nS,rfl⟩ F.slot_tuple_lt F.entry_tuple_lt (F.args_tuple_lt_2 _ _) (yh l b items df n n2 dd n4 sl rg e f)
  ⟨ho,nS,he,hf,show Value.bool _≠Value.notImplemented/\Q (.bool _) s from⟨(fun x=>nomatch x),h⟩⟩ hu
theorem nh.lists(hl:s.heap.IsList l items)(hb:s.heap.IsList b df)(hu:A.units<cLine)
  (he:∀ j (h1:j<items.size) (h2:j<df.size),EqAt A.in1 s items[j] df[j] (e j)) (hf:∀ j (h1:j<items.size) (h2:j<df.size),e j=false->nh A.in1 s items[j] df[j] (f j)) :
  nh A s (.ref l) (.ref b) (tF e f items.size df.size (min items.size df.size) 0):=fun prog w Q E h=>by
 obtain⟨⟨cls,dd,data,sl⟩,ho,hc,n,hd⟩:=id hl
 obtain⟨⟨TK,n4,data2,rg⟩,nS,ya,n2,hd2⟩:=id hb
 simp only at hc hd ya hd2
 subst hc hd ya hd2
 exact richCompare_meets_room (op:=.Lt) ⟨_,ho,rfl⟩ ⟨_,nS,rfl⟩ F.slot_list_lt F.entry_list_lt (F.args_list_lt_2 _ _) (Bp l b items df n n2 dd n4 sl rg e f)
  ⟨ho,nS,he,hf,show Value.bool _≠Value.notImplemented/\Q (.bool _) s from⟨(fun x=>nomatch x),h⟩⟩ hu
theorem nh.int(a:Int)(t:Tok)(b:Int)(u:Tok):nh A s (.int a t) (.int b u) (decide (a<b)):=fun prog w Q E h=>(show wpAny _ _ (compareOp .Lt _ _) _ _ _ from PyProof.Rows.lt_int h)
theorem nh.str(a:Str)(t:Tok)(b:Str)(u:Tok):nh A s (.str a t) (.str b u) (decide (a.cps.toList<b.cps.toList)):=fun prog w Q E h=>(show wpAny _ _ (compareOp .Lt _ _) _ _ _ from PySem.P.lt_str h)
end
def nr(lt:PyData->PyData->Bool):List PyData->List PyData->Bool
 |[],ys=>!ys.isEmpty
 |_ :: _,[]=>false
 |x :: xs,y :: ys=>if PyData.eqv x y then nr lt xs ys else lt x y
def cS:Nat->PyData->PyData->Bool
 |_,.int i,.int j=>decide (i<j)
 |_,.str x,.str y=>decide (x.cps.toList<y.cps.toList)
 |n+1,.list xs,.list ys=>nr (cS n) xs ys
 |n+1,.tuple xs,.tuple ys=>nr (cS n) xs ys
 |_,_,_=>false
def oi:Nat->PyData->PyData->Prop
 |_,.int _,.int _=>True
 |_,.str _,.str _=>True
 |n+1,.list xs,.list ys=>∀ (j:Nat) (x y:PyData),xs[j]? = some x->ys[j]? = some y->PyData.eqv x y=false->oi n x y
 |n+1,.tuple xs,.tuple ys=>∀ (j:Nat) (x y:PyData),xs[j]? = some x->ys[j]? = some y->PyData.eqv x y=false->oi n x y
 |_,_,_=>False
def at2(g:PyData->PyData->Bool)(xs ys:List PyData)(j:Nat):Bool:=match xs[j]?,ys[j]? with
 |some x,some y=>g x y
 |_,_=>false
theorem oV(hx:xs[j]? = some x)(hy:ys[j]? = some y):at2 g xs ys j=g x y:=by
 unfold at2
 rw[hx,hy]
theorem D_(lt:PyData->PyData->Bool)(xs ys:List PyData)(k:Nat):∀ i,min xs.length ys.length-i=k->i<=min xs.length ys.length->tF (at2 PyData.eqv xs ys) (at2 lt xs ys) xs.length ys.length k i=nr lt (xs.drop i) (ys.drop i):=by
 induction k with
 |zero =>
  intro i hk hi
  rw[tF]
  rcases zk xs.length ys.length with z|z
  ·rw[decide_eq_true z,SV (show xs.length<=i by lia),AF (show i<ys.length by lia)]
   rfl
  ·rw[decide_eq_false (by lia),SV (show ys.length<=i by lia)]
   cases xs.drop i<;>rfl
 |succ k ih =>
  intro i hk hi
  have h1:i<xs.length:=by lia
  have h2:i<ys.length:=by lia
  rw[tF,oV (mG h1) (mG h2),oV (mG h1) (mG h2),ih (i+1) (by lia) (by lia),
   AF h1,AF h2,nr]
theorem dO:∀ {vs:List Value} {as:List Addr},ReadsAll h vs xs as->∀ (j:Nat) (v:Value),vs[j]? = some v->∃ x bs,xs[j]? = some x/\Reads h v x bs:=by
 induction xs with
 |nil =>
  intro vs as r j v hv
  cases r
  simp at hv
 |cons x xs ih =>
  intro vs as r j v hv
  cases r with
  |cons r rs =>
   cases j with
   |zero =>
    simp at hv
    subst hv
    exact⟨x,_,rfl,r⟩
   |succ j=>exact ih rs j v (by simpa using hv)
theorem jR{xs:List PyData}(h:PyData.canLayAll0 xs=true){j:Nat}{x:PyData}(hx:xs[j]? = some x):x.canLay0=true:=by
 induction xs generalizing j with
 |nil=>simp at hx
 |cons y xs ih =>
  have h:y.canLay0=true/\PyData.canLayAll0 xs=true:=by simpa[PyData.canLayAll0] using h
  cases j with
  |zero=>simp at hx;subst hx;exact h.1
  |succ j=>exact ih h.2 (by simpa using hx)
theorem rD{xs:List PyData}{j:Nat}{x:PyData}(hx:xs[j]? = some x):x.depth<=PyData.depthAll xs:=by
 induction xs generalizing j with
 |nil=>simp at hx
 |cons y xs ih =>
  simp only[PyData.depthAll]
  cases j with
  |zero=>simp at hx;subst hx;lia
  |succ j=>have:=ih (j:=j) (by simpa using hx);lia
theorem B_(n:Nat):∀ (d e:PyData) (A:Around) (s:Shared) (a b:Value) (as bs:List Addr),Reads s.heap a d as->Reads s.heap b e bs->d.canLay0=true->e.canLay0=true->oi n d e->d.depth<=20->A.units+n+30<cLine->nh A s a b (cS n d e):=by
 induction n with
 |zero =>
  intro d e A s a b as bs ra rb _ _ c _ _
  cases ra<;>cases rb<;>first|(rw[cS];exact nh.int _ _ _ _)|(rw[cS];exact nh.str _ _ _ _)|exact absurd c (by simp[oi])
 |succ n ih =>
  intro d e A s a b as bs ra rb la lb c dd hu
  cases ra with
  |int i t=>cases rb<;>first|(rw[cS];exact nh.int _ _ _ _)|exact absurd c (by simp[oi])
  |str x t=>cases rb<;>first|(rw[cS];exact nh.str _ _ _ _)|exact absurd c (by simp[oi])
  |@list l o vs m xs Vd h1 h2 h3 h4 =>
   cases rb with
   |@list l' o' eS m' ys ZN k1 k2 k3 k4 =>
    have n1:vs.size=xs.length:=by simpa using ReadsAll.length _ _ _ h4
    have n2:eS.size=ys.length:=by simpa using ReadsAll.length _ _ _ k4
    have PD:∀ j (h1:j<vs.size),∃ x cs,xs[j]? = some x/\Reads s.heap vs[j] x cs:=fun j hj=>dO h4 j vs[j] (by simp[hj])
    have PF:∀ j (h1:j<eS.size),∃ x cs,ys[j]? = some x/\Reads s.heap eS[j] x cs:=fun j hj=>dO k4 j eS[j] (by simp[hj])
    have dx:PyData.depthAll xs<20:=by simp only[PyData.depth] at dd;lia
    have:=nh.lists (A:=A) (s:=s) (e:=at2 PyData.eqv xs ys) (f:=at2 (cS n) xs ys) ⟨_,h1,h2,_,h3⟩ ⟨_,k1,k2,_,k3⟩ (by lia) (fun j j1 j2=>by
     obtain⟨x,cs,ex,rx⟩:=PD j j1
     obtain⟨y,Ve,ey,ry⟩:=PF j j2
     rw[oV ex ey]
     have:=rD ex
     exact eqAt_reads x y A.in1 s _ _ _ _ rx ry (jR la ex) (jR lb ey) (by show A.units+1+_<cLine;lia)) (fun j j1 j2 ne=>by
     obtain⟨x,cs,ex,rx⟩:=PD j j1
     obtain⟨y,Ve,ey,ry⟩:=PF j j2
     rw[oV ex ey] at ne ⊢
     have:=rD ex
     exact ih x y A.in1 s _ _ _ _ rx ry (jR la ex) (jR lb ey) (c j x y ex ey ne) (by lia) (by show A.units+1+n+30<cLine;lia))
    rw[n1,n2,D_ (cS n) xs ys _ 0 (LM _) (fE _)] at this
    exact this
   |_=>exact absurd c (by simp[oi])
  |@tuple l o vs m xs Vd h1 h2 h3 h4 =>
   cases rb with
   |@tuple l' o' eS m' ys ZN k1 k2 k3 k4 =>
    have n1:vs.size=xs.length:=by simpa using ReadsAll.length _ _ _ h4
    have n2:eS.size=ys.length:=by simpa using ReadsAll.length _ _ _ k4
    have PD:∀ j (h1:j<vs.size),∃ x cs,xs[j]? = some x/\Reads s.heap vs[j] x cs:=fun j hj=>dO h4 j vs[j] (by simp[hj])
    have PF:∀ j (h1:j<eS.size),∃ x cs,ys[j]? = some x/\Reads s.heap eS[j] x cs:=fun j hj=>dO k4 j eS[j] (by simp[hj])
    have dx:PyData.depthAll xs<20:=by simp only[PyData.depth] at dd;lia
    have:=nh.tuples (A:=A) (s:=s) (e:=at2 PyData.eqv xs ys) (f:=at2 (cS n) xs ys) ⟨_,h1,h2,_,h3⟩ ⟨_,k1,k2,_,k3⟩ (by lia) (fun j j1 j2=>by
     obtain⟨x,cs,ex,rx⟩:=PD j j1
     obtain⟨y,Ve,ey,ry⟩:=PF j j2
     rw[oV ex ey]
     have:=rD ex
     exact eqAt_reads x y A.in1 s _ _ _ _ rx ry (jR la ex) (jR lb ey) (by show A.units+1+_<cLine;lia)) (fun j j1 j2 ne=>by
     obtain⟨x,cs,ex,rx⟩:=PD j j1
     obtain⟨y,Ve,ey,ry⟩:=PF j j2
     rw[oV ex ey] at ne ⊢
     have:=rD ex
     exact ih x y A.in1 s _ _ _ _ rx ry (jR la ex) (jR lb ey) (c j x y ex ey ne) (by lia) (by show A.units+1+n+30<cLine;lia))
    rw[n1,n2,D_ (cS n) xs ys _ 0 (LM _) (fE _)] at this
    exact this
   |_=>exact absurd c (by simp[oi])
  |_=>cases rb<;>exact absurd c (by simp[oi])
end PySem.SeqAt
namespace L2
open PySem PySem.Spec PyProof.Rows PySem.SeqAt
structure ja(lt:PyData->PyData->Bool)(S:PyData->Prop):Prop where
 pe:∀ x,S x->lt x x=false
 tr:∀ x y z,S x->S y->S z->lt x y=true->lt y z=true->lt x z=true
 ag:∀ x y,S x->S y->lt x y=false->lt y x=false->x=y
 eqv:∀ x y,S x->S y->(PyData.eqv x y=true↔x=y)
theorem ja.int(n:Nat):ja (cS n) fun x=>∃ i,x=.int i where
 pe:=by rintro x ⟨i,rfl⟩;rw[cS];simp
 tr:=by rintro x y z ⟨i,rfl⟩ ⟨j,rfl⟩ ⟨k,rfl⟩;rw[cS,cS,cS];simp only[decide_eq_true_eq];lia
 ag:=by rintro x y ⟨i,rfl⟩ ⟨j,rfl⟩;rw[cS,cS];simp only[decide_eq_false_iff_not,PyData.int.injEq];lia
 eqv:=by rintro x y ⟨i,rfl⟩ ⟨j,rfl⟩;simp[PyData.eqv]
theorem ja.str(n:Nat):ja (cS n) fun x=>∃ s,x=.str s where
 pe:=by rintro x ⟨i,rfl⟩;rw[cS];exact z8 i
 tr:=by rintro x y z ⟨i,rfl⟩ ⟨j,rfl⟩ ⟨k,rfl⟩;rw[cS,cS,cS];exact fun h g=>Es (y:=j) h g
 ag:=by rintro x y ⟨i,rfl⟩ ⟨j,rfl⟩;rw[cS,cS];exact fun h g=>by rw[z6 (x:=i) (y:=j) h g]
 eqv:=by rintro x y ⟨i,rfl⟩ ⟨j,rfl⟩;simp[PyData.eqv]
section
variable {lt:PyData->PyData->Bool}{S:PyData->Prop}
theorem Du(T:ja lt S)(xs:List PyData)(h:∀ x∈xs,S x):nr lt xs xs=false:=by
 induction xs with
 |nil=>rfl
 |cons x xs ih =>
  rw[nr,if_pos ((T.eqv x x (h x b5) (h x b5)).mpr rfl)]
  exact ih fun y hy=>h y (b9 _ hy)
open Classical in
theorem dJ(T:ja lt S)(hx:S x)(hy:S y):nr lt (x :: xs) (y :: ys)=if x=y then nr lt xs ys else lt x y:=by
 rw[nr]
 by_cases e:x=y
 ·rw[if_pos e,if_pos ((T.eqv x y hx hy).mpr e)]
 ·rw[if_neg e,if_neg fun z=>e ((T.eqv x y hx hy).mp z)]
theorem Dn(T:ja lt S)(xs:List PyData):∀ ys:List PyData,(∀ x∈xs,S x)->(∀ y∈ys,S y)->nr lt xs ys=false->nr lt ys xs=false->xs=ys:=by
 induction xs with
 |nil =>
  intro ys _ _ h _
  cases ys with
  |nil=>rfl
  |cons y ys=>cases h
 |cons x xs ih =>
  intro ys hx hy h1 h2
  cases ys with
  |nil=>cases h2
  |cons y ys =>
   have sx:=hx x b5
   have sy:=hy y b5
   rw[dJ T sx sy] at h1
   rw[dJ T sy sx] at h2
   by_cases e:x=y
   ·subst e
    rw[if_pos rfl] at h1 h2
    rw[ih ys (fun z hz=>hx z (b9 _ hz)) (fun z hz=>hy z (b9 _ hz)) h1 h2]
   ·rw[if_neg e] at h1
    rw[if_neg fun z=>e z.symm] at h2
    exact absurd (T.ag x y sx sy h1 h2) e
theorem Ga(T:ja lt S)(xs:List PyData):∀ ys zs:List PyData,(∀ x∈xs,S x)->(∀ y∈ys,S y)->(∀ z∈zs,S z)->nr lt xs ys=true->nr lt ys zs=true->nr lt xs zs=true:=by
 induction xs with
 |nil =>
  intro ys zs _ _ _ h1 h2
  cases zs with
  |cons z zs=>rfl
  |nil =>
   cases ys with
   |nil=>cases h1
   |cons y ys=>cases h2
 |cons x xs ih =>
  intro ys zs hx hy hz h1 h2
  cases ys with
  |nil=>cases h1
  |cons y ys =>
   cases zs with
   |nil=>cases h2
   |cons z zs =>
    have sx:=hx x b5
    have sy:=hy y b5
    have sz:=hz z b5
    rw[dJ T sx sy] at h1
    rw[dJ T sy sz] at h2
    rw[dJ T sx sz]
    have tl:=ih ys zs (fun z hz=>hx z (b9 _ hz)) (fun z hz=>hy z (b9 _ hz)) fun w hw=>hz w (b9 _ hw)
    by_cases e1:x=y
    ·subst e1
     rw[if_pos rfl] at h1
     by_cases e2:x=z
     ·subst e2
      rw[if_pos rfl] at h2 ⊢
      exact tl h1 h2
     ·rw[if_neg e2] at h2 ⊢
      exact h2
    ·rw[if_neg e1] at h1
     by_cases e2:y=z
     ·subst e2
      rw[if_neg e1]
      exact h1
     ·rw[if_neg e2] at h2
      have t:=T.tr x y z sx sy sz h1 h2
      by_cases e3:x=z
      ·subst e3
       rw[T.pe x sx] at t
       cases t
      ·rw[if_neg e3];exact t
theorem xr(T:ja lt S)(xs:List PyData):∀ ys:List PyData,(∀ x∈xs,S x)->(∀ y∈ys,S y)->(PyData.eqvAll xs ys=true↔xs=ys):=by
 induction xs with
 |nil=>intro ys _ _;cases ys<;>simp[PyData.eqvAll]
 |cons x xs ih =>
  intro ys hx hy
  cases ys with
  |nil=>simp[PyData.eqvAll]
  |cons y ys =>
   have h1:=T.eqv x y (hx x b5) (hy y b5)
   have h2:=ih ys (fun z hz=>hx z (b9 _ hz)) fun z hz=>hy z (b9 _ hz)
   simp only[PyData.eqvAll,kK,List.cons.injEq]
   exact and_congr h1 h2
end
theorem ja.list{S:PyData->Prop}(T:ja (cS n) S):ja (cS (n+1)) fun x=>∃ xs,x=.list xs/\∀ y∈xs,S y where
 pe:=by rintro x ⟨xs,rfl,h⟩;rw[cS];exact Du T xs h
 tr:=by rintro x y z ⟨xs,rfl,h⟩ ⟨ys,rfl,h'⟩ ⟨zs,rfl,Sg⟩;rw[cS,cS,cS];exact Ga T xs ys zs h h' Sg
 ag:=by
  rintro x y ⟨xs,rfl,h⟩ ⟨ys,rfl,h'⟩
  rw[cS,cS]
  exact fun h1 h2=>by rw[Dn T xs ys h h' h1 h2]
 eqv:=by
  rintro x y ⟨xs,rfl,h⟩ ⟨ys,rfl,h'⟩
  rw[PyData.list.injEq]
  exact xr T xs ys h h'
open Classical in
theorem fD{S U:PyData->Prop}(T:ja (cS n) S)(T2:ja (cS n) U)(ha:S a)(hb:U b)(hc:S c)(hd:U d):nr (cS n) [a,b] [c,d]=if a=c then cS n b d else cS n a c:=by
 rw[dJ T ha hc,dJ T2 hb hd]
 by_cases e:b=d
 ·subst e
  rw[if_pos rfl,show nr (cS n) [] []=false from rfl,T2.pe b hb]
 ·rw[if_neg e]
theorem ja.pair{S U:PyData->Prop}(T:ja (cS n) S)(T2:ja (cS n) U):ja (cS (n+1)) fun x=>∃ a b,x=.tuple [a,b]/\S a/\U b where
 pe:=by rintro x ⟨a,b,rfl,ha,hb⟩;rw[cS,fD T T2 ha hb ha hb,if_pos rfl];exact T2.pe b hb
 tr:=by
  rintro x y z ⟨a,b,rfl,ha,hb⟩ ⟨c,d,rfl,hc,hd⟩ ⟨e,f,rfl,he,hf⟩
  rw[cS,cS,cS,fD T T2 ha hb hc hd,fD T T2 hc hd he hf,fD T T2 ha hb he hf]
  intro h1 h2
  by_cases e1:a=c
  ·subst e1
   rw[if_pos rfl] at h1
   by_cases e2:a=e
   ·subst e2
    rw[if_pos rfl] at h2 ⊢
    exact T2.tr b d f hb hd hf h1 h2
   ·rw[if_neg e2] at h2 ⊢
    exact h2
  ·rw[if_neg e1] at h1
   by_cases e2:c=e
   ·subst e2
    rw[if_neg e1];exact h1
   ·rw[if_neg e2] at h2
    have t:=T.tr a c e ha hc he h1 h2
    by_cases e3:a=e
    ·subst e3
     rw[T.pe a ha] at t;cases t
    ·rw[if_neg e3];exact t
 ag:=by
  rintro x y ⟨a,b,rfl,ha,hb⟩ ⟨c,d,rfl,hc,hd⟩
  rw[cS,cS,fD T T2 ha hb hc hd,fD T T2 hc hd ha hb]
  intro h1 h2
  by_cases e:a=c
  ·subst e
   rw[if_pos rfl] at h1 h2
   rw[T2.ag b d hb hd h1 h2]
  ·rw[if_neg e] at h1
   rw[if_neg fun z=>e z.symm] at h2
   exact absurd (T.ag a c ha hc h1 h2) e
 eqv:=by
  rintro x y ⟨a,b,rfl,ha,hb⟩ ⟨c,d,rfl,hc,hd⟩
  have h1:=T.eqv a c ha hc
  have h2:=T2.eqv b d hb hd
  simp only[PyData.eqv,PyData.eqvAll,kK,Qz,PyData.tuple.injEq,List.cons.injEq,and_true]
  exact and_congr h1 h2
section
variable {prog:Program}{w:World}{A:Around}{E:Value->Shared->Prop}{s:Shared}{Q:Bool->Shared->Prop}
theorem Cw(xs:List PyData):∀ (ys:List PyData) (us vs:List Value) (as bs:List Addr) (i:Nat),ReadsAll s.heap us xs as->ReadsAll s.heap vs ys bs->PyData.canLayAll0 xs=true->PyData.canLayAll0 ys=true->PyData.depthAll xs<=20 ->
  (∀ (j:Nat) (x y:PyData),xs[j]? = some x->ys[j]? = some y->PyData.eqv x y=false->oi n x y)->(i=0->∀ x y,xs[0]? = some x->ys[0]? = some y->(∃ k,x=.int k)/\∃ k,y=.int k)->xs.length=ys.length->A.units+n+30<cLine->Q (nr (cS n) xs ys) s ->
  PySem.W.KatLex prog w A true false Q (us.zip vs) i s:=by
 induction xs with
 |nil =>
  intro ys us vs as bs i ra rb _ _ _ _ _ hl _ q
  cases ys with
  |cons y ys=>cases hl
  |nil =>
   cases ra
   exact PySem.W.kat_nil q
 |cons x xs ih =>
  intro ys us vs as bs i ra rb la lb dp c hi hl hu q
  cases ys with
  |nil=>cases hl
  |cons y ys =>
   cases ra with
   |cons r rs =>
    cases rb with
    |cons r' DS =>
     have Vf:x.canLay0=true/\PyData.canLayAll0 xs=true:=by simpa[PyData.canLayAll0] using la
     have Vg:y.canLay0=true/\PyData.canLayAll0 ys=true:=by simpa[PyData.canLayAll0] using lb
     have ZO:x.depth<=20/\PyData.depthAll xs<=20:=by simp only[PyData.depthAll] at dp;lia
     rw[AG]
     rw[nr] at q
     refine PySem.W.kat_cons (eqAt_reads x y A s _ _ _ _ r r' Vf.1 Vg.1 (by lia) prog w _ _ (PySem.W.kat_go (fun h=>PySem.W.kat_yes ?_) (fun h=>PySem.W.kat_no ?_)))
     ·rw[if_pos h] at q
      exact ih ys _ _ _ _ (i+1) rs DS Vf.2 Vg.2 ZO.2 (fun j=>c (j+1)) (fun z=>by lia) (by simpa using hl) hu q
     ·rw[if_neg (by rw[h];exact hU)] at q
      by_cases h0:i=0
      ·obtain⟨⟨a,rfl⟩,⟨b,rfl⟩⟩:=hi h0 x y rfl rfl
       subst h0
       cases r
       cases r'
       rw[cS] at q
       exact oneLt_int q
      ·rw[show(true && i == 0)=false by simp[h0]]
       exact PySem.W.kat_one _ _ (B_ n x y A s _ _ _ _ r r' Vf.1 Vg.1 (c 0 x y rfl rfl h) ZO.1 (by lia) prog w _ _ q)
structure FH(n:Nat)(S:PyData->Prop):Prop where
 ag:ja (cS (n+1)) S
 tup:∀ x,S x->∃ i xs,x=.tuple (.int i :: xs)/\x.canLay0=true/\x.depth<=20
 len:∀ xs ys,S (.tuple xs)->S (.tuple ys)->xs.length=ys.length
 cm:∀ x y,S x->S y->oi (n+1) x y
open Classical in
def nq(h:Heap)(v:Value):PyData:=if z:∃ d as,Reads h v d as/\d.canLay0=true then z.choose else .none
theorem gQ(r:Reads h v d as)(l:d.canLay0=true):nq h v=d:=by
 have z:∃ d as,Reads h v d as/\d.canLay0=true:=⟨d,as,r,l⟩
 unfold nq
 rw[dif_pos z]
 obtain⟨bs,r2,l2⟩:=z.choose_spec
 exact Reads.unique _ _ _ _ _ l2 r2 r
def FI(n:Nat)(L:List PyData)(d:PyData):Int:=(L.countP fun e=>cS n e d:Nat)
theorem Ec{S:PyData->Prop}(T:ja (cS n) S)(hL:∀ d∈L,S d)(ha:a∈L)(hb:S b):decide (FI n L a<FI n L b)=cS n a b:=by
 have sa:=hL a ha
 unfold FI
 cases h:cS n a b with
 |true =>
  have:=qJ (fun j=>cS n j a) (fun j=>cS n j b) a (T.pe a sa) h L ha fun x hx z=>T.tr x a b (hL x hx) sa hb z h
  exact decide_eq_true (by lia)
 |false =>
  refine decide_eq_false ?_
  cases g:cS n b a with
  |false =>
   rw[T.ag a b sa hb h g]
   lia
  |true =>
   have:=count_le (fun j=>cS n j b) (fun j=>cS n j a) L fun x hx z=>T.tr x b a (hL x hx) hb sa z g
   lia
theorem Ci{S:PyData->Prop}(K:FH n S)(kp:∀ b o,h0.get? b=some o->s.heap.get? b=some o)(hL:∀ d∈L,S d)(hu:A.units+n+31<cLine) :
  xl.rV prog w A s (tuples' true) (fun v=>FI (n+1) L (nq h0 v)) (fun v=>∃ d as,d∈L/\Reads h0 v d as):=by
 rintro x y ⟨d,as,md,rd⟩ ⟨e,bs,me,re⟩ Q E q
 have sd:=hL d md
 have se:=hL e me
 obtain⟨i,xs,rfl,ld,dd⟩:=K.tup d sd
 obtain⟨j,ys,rfl,le,de⟩:=K.tup e se
 replace q:Q (decide (FI (n+1) L (nq h0 x)<FI (n+1) L (nq h0 y))) s:=q
 rw[gQ rd ld,gQ re le,Ec K.ag hL md se,cS] at q
 have rd':=PyProof.Rows.Reads.keeps kp rd
 have re':=PyProof.Rows.Reads.keeps kp re
 have cm:=K.cm _ _ sd se
 have hl:=K.len _ _ sd se
 cases rd' with
 |@tuple a o us m _ Vd h1 h2 h3 h4 =>
  cases re' with
  |@tuple b o' vs m' _ ZN k1 k2 k3 k4 =>
   have n1:us.size=(PyData.int i :: xs).length:=by simpa using ReadsAll.length _ _ _ h4
   have n2:vs.size=(PyData.int j :: ys).length:=by simpa using ReadsAll.length _ _ _ k4
   refine PySem.W.kat_lt h1 h3 k1 k3 ?_
   rw[show decide (us.size<vs.size)=false from decide_eq_false (by lia)]
   exact Cw (n:=n) _ _ _ _ _ _ 0 h4 k4 ld le (by simp only[PyData.depth] at dd;lia) cm (fun _ x y hx hy=>by cases hx;cases hy;exact⟨⟨_,rfl⟩,_,rfl⟩) hl (by lia) q
end
section
variable {X:Cx}{pins:List (Addr × Obj)}{σ:St}{H:Hp}{s:Shared}
theorem yH(I:Inv X pins σ H s):∀ {ds:List PyData} {ys:List V} {vs:List Value},aI X.K H ds ys->Vals ys vs->∀ v∈vs,∃ d y as,d∈ds/\Rep X.K H d y/\RelV y v/\Reads s.heap v d as
 |_,_,_,.nil,.nil,v,hv=>nomatch hv
 |_,_,_,.cons r rs,.cons q qs,v,hv=>by
  rcases dr.mp hv with rfl|hv
  ·obtain⟨as,z⟩:=r.reads I q
   exact⟨_,_,as,b5,r,q,z⟩
  ·obtain⟨d,y,as,a,b,c,z⟩:=yH I rs qs v hv
   exact⟨d,y,as,b9 _ a,b,c,z⟩
theorem wU{h0:Heap}{n:Nat}{S:PyData->Prop}(K:FH n S):∀ (vs:List Value),(∀ v∈vs,∃ d as,S d/\Reads h0 v d as)->∃ fs:List Value,PySem.W.KatTups h0 vs fs/\fs.length=vs.length/\∀ f∈fs,∃ i t,f=Value.int i t
 |[],_=>⟨[],.nil,rfl,fun f hf=>nomatch hf⟩
 |v :: vs,h=>by
  obtain⟨fs,f1,f2,f3⟩:=wU K vs fun u hu=>h u (b9 _ hu)
  obtain⟨d,as,sd,r⟩:=h v b5
  obtain⟨i,xs,rfl,_,_⟩:=K.tup d sd
  cases r with
  |@tuple a o us m _ Vd h1 h2 h3 h4 =>
   obtain⟨us⟩:=us
   cases h4 with
   |cons r rs =>
    cases r with
    |int _ t =>
     exact⟨_ :: fs,.cons h1 h2 h3 rfl f1,by simp[f2],fun f hf=>by
      rcases dr.mp hf with rfl|hf
      ·exact⟨_,_,rfl⟩
      ·exact f3 f hf⟩
def FK:Value->V
 |.ref a=>.ref a
 |_=>.non
theorem yD{n:Nat}{S:PyData->Prop}(K:FH n S){h0:Heap}{d:PyData}{y:V}{v:Value}{as:List Addr}(sd:S d)(q:RelV y v)(r:Reads h0 v d as):FK v=y:=by
 obtain⟨i,xs,rfl,_,_⟩:=K.tup d sd
 cases r with
 |tuple h1 h2 h3 h4 =>
  cases y with
  |ref b=>cases (show Value.ref _=Value.ref b from q);rfl
  |_=>simp[RelV] at q
theorem vM{n:Nat}{S:PyData->Prop}(K:FH n S)(I:Inv X pins σ H s):∀ {ds:List PyData} {ys:List V} {vs:List Value},aI X.K H ds ys->Vals ys vs->(∀ d∈ds,S d)->vs.map (fun v=>(nq s.heap v,FK v))=ds.zip ys
 |_,_,_,.nil,.nil,_=>rfl
 |_,_,_,.cons r rs,.cons q qs,h=>by
  obtain⟨as,z⟩:=r.reads I q
  have sd:=h _ b5
  obtain⟨_,_,_,l,_⟩:=K.tup _ sd
  rw[fe,gQ z l,yD K sd q z,vM K I rs qs fun d hd=>h d (b9 _ hd),AG]
def ph(K:PySem.W.Frag)(n:Nat)(S:PyData->Prop):List V->Hp->VK->Prop:=fun xs H Q=>match xs with
 |[.ref p]=>∃ ys ds,ys.length<=63/\eR K H p ys/\aI K H ds ys/\(∀ d∈ds,S d)/\∀ (ps:List (PyData × V)) l,ps.Perm (ds.zip ys)->(ps.Pairwise fun a b=>cS (n+1) b.1 a.1=false)->H l=none->Q (.ref l) (upd H l (.lst (ps.map (·.2))))
 |_=>False
theorem xY {n:Nat} {S:PyData->Prop} (K:FH n S) (hu:X.A.units+n+40<cLine):kM X (.builtin "sorted") (ph X.K n S):=by
 intro pins s σ H xs us Q I r h
 unfold ph at h
 split at h
 ·rename_i p
  obtain⟨ys,ds,vw,hl,hr,hS,q⟩:=h
  obtain⟨u,rfl,ru⟩:=Vals.one r
  cases ru
  obtain⟨vs,rv,pl,hz⟩:=I.list hl
  have lay:∀ d∈ds,d.canLay0=true:=fun d hd=>by obtain⟨_,_,_,l,_⟩:=K.tup d (hS d hd);exact l
  have mem:=yH I hr rv
  have hlen:=rv.length
  refine xl.rQ (κ:=tuples' true) (r:=fun v=>FI (n+1) ds (nq s.heap v)) (P:=fun v=>∃ d as,d∈ds/\Reads s.heap v d as) pl.isList (by lia) (fun v hv=>?_) (fun h2 A' E' s' kp Q' q'=>?_) (fun h2 s' kp=>Ci K kp hS (by show X.A.units+1+1+n+31<cLine;lia)) fun h' out m pm pw kp eo=>?_
  ·obtain⟨d,y,as,a,b,c,z⟩:=mem v hv
   exact⟨d,as,a,z⟩
  ·obtain⟨fs,f1,f2,f3⟩:=wU (h0:=s'.heap) K vs fun v hv=>by
    obtain⟨d,y,as,a,b,c,z⟩:=mem v hv
    exact⟨d,as,hS d a,PyProof.Rows.Reads.keeps kp z⟩
   refine PySem.W.kat_kind (T:=.type "int") f1 (by lia) (fun f hf=>?_) (by decide) q'
   obtain⟨i,t,rfl⟩:=f3 f hf
   exact .now
  ·have back:∀ v∈out,∃ d y as,d∈ds/\Rep X.K H d y/\RelV y v/\Reads s.heap v d as:=fun v hv=>mem v (pm.mem_iff.mp hv)
   have rel:∀ l:List Value,(∀ v∈l,v∈out)->Vals (l.map FK) l:=by
    intro l
    induction l with
    |nil=>exact fun _=>.nil
    |cons v l ih =>
     intro hm
     obtain⟨d,y,as,a,b,c,z⟩:=back v (hm v b5)
     exact .cons (by rw[yD K (hS d a) c z];exact c) (ih fun u hu=>hm u (b9 _ hu))
   have z2:=rel out fun _ h=>h
   have ol:=pm.length_eq
   have e2:(out.map fun v=>(nq s.heap v,FK v)).map (·.2)=out.map FK:=by rw[eP];rfl
   have q':=q (out.map fun v=>(nq s.heap v,FK v)) (s.heap.objs.size+1) (by rw[<- vM K I hr rv hS];exact pm.map _) ?_ (I.bq.fresh (Ee _))
   ·rw[e2] at q'
    exact⟨.ref (s.heap.objs.size+1),_,I.laid (a:=s.heap.objs.size+1) (t':=s.toks) kp (Ee _) (show fo X.prog X.w _ h' _ (.lst (out.map FK)) from⟨by rw[bS];lia,out,m,z2,eo⟩),rfl,q'⟩
   rw[pE]
   refine pw.imp_of_mem fun {x y} mx my hle=>?_
   obtain⟨d,_,as,md,_,_,rd⟩:=back x mx
   obtain⟨e,_,bs,me,_,_,re⟩:=back y my
   rw[gQ rd (lay d md),gQ re (lay e me)] at *
   have:=Ec K.ag hS me (hS d md)
   rw[<- this]
   exact decide_eq_false (by lia)
 ·exact h.elim
end
end L2
namespace L2.Q
open PySem PySem.Spec PyProof.Rows PySem.SeqAt
section
variable {X:Cx}{K:PySem.W.Frag}{Hs H:Hp}
theorem jB(xs:List D):lS xs=xs.map D.py:=by
 induction xs with
 |nil=>rfl
 |cons x xs ih=>rw[lS,ih];rfl
theorem Cv{xs:List D}:∀ {vs:List V},aI K H xs vs->∀ p∈xs.zip vs,Rep K H p.1 p.2:=by
 induction xs with
 |nil=>intro vs r p hp;simp at hp
 |cons x xs ih =>
  intro vs r p hp
  obtain⟨u,us,rfl,r1,rs⟩:=r.c
  rw[AG] at hp
  rcases dr.mp hp with rfl|hp
  ·exact r1
  ·exact ih rs p hp
theorem yo(l:List (D × V))(h:∀ p∈l,Rep K H p.1 p.2):aI K H (l.map (·.1)) (l.map (·.2)):=by
 induction l with
 |nil=>exact .nil
 |cons p l ih=>exact .cons (h p b5) (ih fun q hq=>h q (b9 _ hq))
def Eb(n:Nat)(S:PyData->Prop):W1:=fun m x Q=>match x with
 |.list xs=>m=.sh/\xs.length<=63/\(∀ d∈xs,cx 12 d=true/\S d.py)/\∀ ms:List D,ms.Perm xs->(ms.Pairwise fun a b=>cS (n+1) b.py a.py=false)->Q (.ow false) (.list ms)
 |_=>False
theorem By{n:Nat}{S:PyData->Prop}:An K (ph K n S) (Eb n S):=by
 intro Hs H m x v As Qd Qv w rx h f
 have r1:=rx.rep w
 cases r1 with
 |@list _ _ Sh z s q =>
  obtain⟨rfl,vw,hS,h⟩:=h
  obtain⟨_,rx⟩:=rx
  cases rx with
  |@list _ eS _ z' s' q' =>
   have hl:=q'.length
   have ez:(lS Sh).zip eS=(Sh.zip eS).map fun p=>(p.1.py,p.2):=by
    rw[jB,List.zip_map_left]
    rfl
   refine⟨_,lS Sh,by lia,ax.seq w.sub s',Rep.E5.2 (q'.same w.sub) 12 fun d hd=>(hS d hd).1,fun d hd=>?_,fun ps l hp hw hn=>?_⟩
   ·rw[jB] at hd
    obtain⟨e,he,rfl⟩:=bI.mp hd
    exact(hS e he).2
   ·obtain⟨m',rfl,pm⟩:=TS.gB hp ez
    have p1:(m'.map (·.1)).Perm Sh:=by
     have:=pm.map (·.1)
     rwa[D4 (AQ hl)] at this
    have rr:=yo (K:=K) (H:=Hs) m' fun p hp=>Cv q' p (pm.mem_iff.mp hp)
    rw[show(m'.map fun p=>(p.1.py,p.2)).map (·.2)=m'.map (·.2) by rw[eP];rfl]
    refine f.ND w (by rw[p1.length_eq];lia) rr (h _ p1 ?_) l hn
    rw[pE] at hw ⊢
    exact hw
 |_=>exact h.elim
theorem JN {n:Nat} {S:PyData->Prop} (KS:FH n S) (hu:X.A.units+n+40<cLine) (hK:X.K=K:=by rfl):kM X (.builtin "sorted") (ph K n S):=by subst hK;exact xY KS hu
end
end L2.Q
namespace L2
open PySem PySem.Spec PyProof.Rows PySem.SeqAt
section
variable {X:Cx}
def Gk(K:PySem.W.Frag):V->List V->Hp->VK->Prop:=fun x xs H Q=>∃ l ys ds y d,∃ j:Nat,x=.ref l/\xs=[y]/\eR K H l ys/\aI K H ds ys/\Rep K H d y/\(∀ e∈ds,e.canLay0=true/\e.depth<=20)/\d.canLay0=true /\
 (∃ e,ds[j]? = some e/\PyData.eqv e d=true)/\(∀ (m:Nat) e,m<j->ds[m]? = some e->PyData.eqv e d=false)/\Q (.int j) H
theorem Bw (hu:X.A.units+64<cLine):TR X "list.index" (Gk X.K):=by
 intro pins s σ H x vs v us Q I rx rv h
 obtain⟨l,ys,ds,y,d,j,rfl,rfl,hl,hr,hd,hS,ld,⟨e,ej,eq⟩,xi,q⟩:=h
 cases rx
 obtain⟨u,rfl,ru⟩:=Vals.one rv
 obtain⟨its,ZP,pl,hz⟩:=I.list hl
 obtain⟨as,rd⟩:=hd.reads I ru
 obtain⟨bs,ra⟩:=aI.reads I hr ZP
 have len:its.length=ds.length:=ReadsAll.length _ _ _ ra
 have at':∀ (m:Nat) (v:Value),its[m]? = some v->∃ e cs,ds[m]? = some e/\Reads s.heap v e cs/\nq s.heap v=e:=fun m v hv=>by
  obtain⟨e,cs,h1,h2⟩:=dO ra m v hv
  exact⟨e,cs,h1,h2,gQ h2 (hS e (mn h1)).1⟩
 have jl:j<ds.length:=(iS.mp ej).1
 have ZQ:j<its.toArray.size:=by rw[h9];lia
 have zs:sizeLine<2 ^ 62:=by rw[sizeLine_eq];decide
 have hlen:=ZP.length
 obtain⟨⟨cls,dd,data,sl⟩,ho,hc,n,ZR⟩:=id pl.isList
 simp only at hc ZR
 subst hc ZR
 refine call_meets F.slot_list_index ⟨_,ho,rfl⟩ F.entry_list_index (F.args_list_index_2 _ _) (list_indexAt l its.toArray n dd sl u (fun v=>PyData.eqv (nq s.heap v) d) j ZQ (by lia) ?_ fun m hm h'=>?_) ⟨ho,fun v hv=>?_,⟨.int j,H,I.tok _,⟨_,rfl⟩,q⟩⟩
 ·obtain⟨e',cs,h1,_,h3⟩:=at' j its.toArray[j] (by simp at ZQ ⊢)
  rw[h3]
  rw[ej] at h1
  cases h1
  exact eq
 ·obtain⟨e',cs,h1,_,h3⟩:=at' m its.toArray[m] (by simp at hm ⊢)
  rw[h3]
  exact xi m e' h' h1
 ·obtain⟨m,hm⟩:=K0.mp (show v∈its by simpa using hv)
  obtain⟨e',cs,h1,h2,h3⟩:=at' m v hm
  rw[h3]
  have:=hS e' (mn h1)
  exact eqAt_reads e' d X.A.in1 s _ _ _ _ h2 rd this.1 ld (by show X.A.units+1+_<cLine;lia)
end
end L2
namespace L2.Q
open PySem PySem.Spec PyProof.Rows PySem.SeqAt
end L2.Q
namespace L2.Q.R
open PySem PySem.Spec PyProof.Rows L2.Q PySem.SeqAt
end L2.Q.R
namespace L2
open PySem PySem.Spec PyProof.Rows PySem.SeqAt
section
variable {X:Cx}
def Gn(K:PySem.W.Frag):R2:=fun x y H Q=>∃ l xs n,x=.ref l/\y=.int n/\eR K H l xs/\0<=n/\n<=4000/\xs.length<=1000/\∀ p,H p=none->Q (.ref p) (upd H p (.lst (List.replicate n.toNat xs).flatten))
theorem Cq{xs:List V}{vs:List Value}(h:Vals xs vs)(k:Nat):Vals (List.replicate k xs).flatten (List.replicate k vs).flatten:=by
 induction k with
 |zero=>exact .nil
 |succ k ih=>rw[xD,xD,AH,AH];exact h.append ih
theorem wG{α:Type}(xs:List α)(k:Nat):(List.replicate k xs).flatten.length=xs.length*k:=by
 induction k with
 |zero=>rfl
 |succ k ih=>rw[xD,AH,kF,ih,Nat.mul_succ];lia
theorem GD:da X (binaryOp .Mult) (Gn X.K):=by
 intro pins s σ H x y v u Q I rx ry h
 obtain⟨l,xs,n,rfl,rfl,hH,h0,h1,h2,q⟩:=h
 cases rx
 obtain⟨t,rfl⟩:=ry
 obtain⟨its,r,pl,z⟩:=I.list hH
 have hl:=r.length
 obtain⟨⟨cls,dd,data,sl⟩,ho,hc,k,hd⟩:=id pl.isList
 simp only at hc hd
 subst hc hd
 have hm:its.toArray.size*n.toNat<=1000*4000:=B6 (by rw[h9];lia) (by lia)
 have hsz:=sizeLine_eq
 refine wpAny_binaryOp_repeat_ref (T := "list") (U := "int") (by decide) ⟨_,ho,rfl⟩ (fun s'=>typeIs_int s' n t) noFill_list_mul PySem.F.fills_int_mul PySem.F.slot_int_rmul repeat_list PySem.F.slot_int_index.lookup
  (call_meets PySem.F.slot_int_rmul (typeIs_int s n t) PySem.F.entry_int_rmul (PySem.F.args_int_rmul_2 _ _) (lm_int_rmul_list_any n t l its.toArray k dd sl)
   ⟨ho,rfl,⟨_,ho,rfl⟩,call_meets PySem.F.slot_list_mul ⟨_,ho,rfl⟩ PySem.F.entry_list_mul (PySem.F.args_list_mul_2 _ _)
    (lm_list_mul_any l its.toArray k dd sl n t (by simp[Builtin.List.listFitsIndex];lia) (by lia) (by simp only[Builtin.List.listTooLong,decide_eq_true_eq];lia))
    ⟨ho,?_⟩⟩)
 rw[listMul_foldl_if]
 exact⟨.ref _,_,I.T3 (t':=s.toks) (Cq r _) (by
  rw[wG]
  have:xs.length*n.toNat<=1000*4000:=B6 h2 (by lia)
  lia),rfl,q _ I.fresh⟩
end
theorem ja.sub{lt:PyData->PyData->Bool}{S U:PyData->Prop}(T:ja lt S)(h:∀ x,U x->S x):ja lt U :=
 ⟨fun x a=>T.pe x (h x a),fun x y z a b c=>T.tr x y z (h x a) (h y b) (h z c),fun x y a b=>T.ag x y (h x a) (h y b),fun x y a b=>T.eqv x y (h x a) (h y b)⟩
def nQ(p:Str × Int):PyData:=.tuple [.str p.1,.int p.2]
def tI(x:PyData):Prop:=∃ (i:Int) (ps:List (Str × Int)),x=.tuple [.int i,.list (ps.map nQ)]/\∀ p∈ps,PyData.strOk p.1=true
theorem FQ(p q:Str × Int):oi 1 (nQ p) (nQ q):=by
 unfold nQ
 rw[oi]
 intro j x y hx hy _
 match j with
 |0=>cases hx;cases hy;rw[oi];trivial
 |1=>cases hx;cases hy;rw[oi];trivial
 |j+2=>simp at hx
theorem Fj(ps:List (Str × Int))(h:∀ p∈ps,PyData.strOk p.1=true):PyData.canLayAll0 (ps.map nQ)=true/\PyData.depthAll (ps.map nQ)<=2:=by
 induction ps with
 |nil=>exact⟨rfl,by simp[PyData.depthAll]⟩
 |cons p ps ih =>
  have ih:=ih fun q hq=>h q (b9 _ hq)
  have hp:=h p b5
  rw[fe]
  constructor
  ·simp only[PyData.canLayAll0,kK]
   refine⟨?_,ih.1⟩
   simp[nQ,PyData.canLay0,PyData.canLayAll0,hp]
  ·have h2:=ih.2
   simp only[PyData.depthAll]
   have:(nQ p).depth<=2:=by simp[nQ,PyData.depth,PyData.depthAll]
   lia
theorem Si:FH 2 tI where
 ag:=((ja.pair (ja.int 2) (ja.list (ja.pair (ja.str 0) (ja.int 0)))).sub) fun x ⟨i,ps,e,_⟩=>⟨_,_,e,⟨i,rfl⟩,_,rfl,fun y hy=>by
  obtain⟨p,_,rfl⟩:=bI.mp hy
  exact⟨_,_,rfl,⟨_,rfl⟩,_,rfl⟩⟩
 tup:=by
  rintro x ⟨i,ps,rfl,h⟩
  have:=Fj ps h
  refine⟨i,_,rfl,?_,?_⟩
  ·simp[PyData.canLay0,PyData.canLayAll0,this.1]
  ·simp only[PyData.depth,PyData.depthAll];lia
 len:=by
  rintro xs ys ⟨i,ps,e,_⟩ ⟨j,qs,e2,_⟩
  cases e;cases e2;rfl
 cm:=by
  rintro x y ⟨i,ps,rfl,_⟩ ⟨j,qs,rfl,_⟩
  rw[oi]
  intro k x y hx hy _
  match k with
  |0=>cases hx;cases hy;rw[oi];trivial
  |1 =>
   cases hx;cases hy
   rw[oi]
   intro k x y hx hy _
   obtain⟨p,_,rfl⟩:=bI.mp (mn hx)
   obtain⟨q,_,rfl⟩:=bI.mp (mn hy)
   exact FQ p q
  |k+2=>simp at hx
end L2
namespace L2.Q
open PySem PySem.Spec PyProof.Rows PySem.SeqAt
section
variable {X:Cx}{K:PySem.W.Frag}{a b:Expr}{ta tb:WE}{pos:Pos}
def Ck:W2:=fun _ x _ y Q=>match x with
 |.list xs=>match y with
  |.int n=>(0<=n/\n<=4000/\xs.length<=1000)/\cp xs=true/\Q (.ow true) (.list (List.replicate n.toNat xs).flatten)
  |_=>False
 |_=>False
theorem CT{H:Hp}{xs:List D}{vs:List V}(h:aI K H xs vs)(k:Nat):aI K H (List.replicate k xs).flatten (List.replicate k vs).flatten:=by
 induction k with
 |zero=>exact .nil
 |succ k ih=>rw[xD,xD,AH,AH];exact h.append ih
theorem Bk{xs:List D}(h:cp xs=true)(k:Nat):cp (List.replicate k xs).flatten=true:=by
 induction k with
 |zero=>rfl
 |succ k ih=>rw[xD,AH,gf,h,ih];rfl
theorem FW:kC K (Gn K) Ck:=by
 intro Hs H m x v As n y u Bs Qd Qv w rx ry h f
 have r1:=rx.rep w
 have r2:=ry.rep w
 cases r1 with
 |list z s q=>cases r2 with
  |int n =>
   obtain⟨⟨h0,h1,h2⟩,fl,h⟩:=h
   have hl:=q.length
   refine⟨_,_,_,rfl,rfl,s,h0,h1,by lia,?_⟩
   refine f.lst w ?_ (CT q _) (Bk fl _) h
   rw[wG,sizeLine_eq]
   have:List.length _*n.toNat<=1000*4000:=B6 h2 (by lia)
   exact gE this (by decide)
  |_=>exact h.elim
 |_=>exact h.elim
theorem Lj(hK:X.K=K:=by rfl):da X (binaryOp .Mult) (Gn K):=by subst hK;exact GD
theorem Js(ha:QE X K a ta)(hb:QE X K b tb)(hK:X.K=K:=by rfl):QE X K (.BinOp a .Mult b pos) (av Ck ta tb):=E6 (Lj hK) FW ha hb
def vO(to te:WE):WE:=fun ρ Q=>to ρ fun _ x=>match x with
 |.list xs=>te ρ fun _ y=>cx 12 (.list xs)=true/\cx 12 y=true/\∃ j:Nat,(∃ z,xs[j]? = some z/\hX z y=true)/\(∀ (i:Nat) z,i<j->xs[i]? = some z->hX z y=false)/\Q .sh (.int j)
 |_=>False
theorem Ey{o e:Expr}{to te:WE}{apos dE:Pos}(hu:X.A.units+64<cLine)(ho:QE X K o to)(he:QE X K e te)(hK:X.K=K:=by rfl)
  (vj:attributeBase o "index" X.env (eval o X.env)=eval o X.env:=by rfl)
  (oz:((backTo dE (starEach [e] X.env)).all (fun x=>!x.1) && (backToKw dE (keywordEach [] X.env)).all (fun x=>x.1.isSome)
   && decide ([e].length+([]:List Keyword).length+(if ([]:List Keyword).isEmpty then 0 else 1)<30))=true:=by rfl)
  (hline:(apos.endLine == dE.line)=true:=by rfl) (pd:starEach (e :: []) X.env=(false,eval e X.env) :: starEach [] X.env:=by rfl) (vk:(backTo dE (starEach [] X.env)).any (·.1)=false:=by rfl) :
  QE X K (.Call (.Attribute o "index" apos) [e] [] dE) (vO to te):=by
 subst hK
 refine PE.imp (EJ PySem.F.plainAttrs_list PySem.F.slot_list_index PySem.F.type_list_index (Bw hu) ho (q0 he uS pd) vj oz hline pd vk) fun σ H Qv hx=>kN hx fun Hs ρ ag Q sr h f=>?_
 refine⟨Hs,ρ,ag,_,sr,h,fun v H1 aE m x As g1 r1 f1 q1=>?_⟩
 have r:=r1.rep g1.wf
 cases r with
 |list hz s rs =>
  refine⟨.inl ⟨rfl,_,s⟩,aE,ρ,ag,_,sr.grow g1,q1,fun y H2 ay m2 x2 fR g2 r2 f2 q2=>?_⟩
  obtain⟨o1,o2,j,⟨z,ez,eq⟩,xi,q⟩:=q2
  have rr:=(r1.grow g2).rep g2.wf
  cases rr with
  |list R7 s' DS =>
   have l2:=jY 12 _ o2
   have ZS:∀ d∈_,cx 11 d=true:=GH.mp (show List.all _ (cx 11)=true from o1)
   refine⟨_,_,_,_,_,j,rfl,rfl,s',Rep.E5.2 DS 11 ZS,(r2.rep g2.wf).l2 o2,fun e he=>?_,l2.1,⟨z.py,?_,eq⟩,fun m e hm he=>?_,Fin.sh (Fin.after f (g1.trans g2)) g2.wf (.int _) q⟩
   ·rw[jB] at he
    obtain⟨d,hd,rfl⟩:=bI.mp he
    have:=jY 11 d (ZS d hd)
    exact⟨this.1,by lia⟩
   ·rw[jB,mr,ez];rfl
   ·rw[jB,mr] at he
    obtain⟨d,hd,rfl⟩:=QF.mp he
    exact xi m d hm hd
 |_=>exact q1.elim
abbrev zz:W1:=Eb 2 tI
theorem IK (hu:X.A.units+64<cLine) (hK:X.K=K:=by rfl):kM X (.builtin "sorted") (ph K 2 tI):=JN Si (by lia) hK
theorem Dq:An K (ph K 2 tI) zz:=By
end
end L2.Q
namespace L2.Q.R
open PySem PySem.Spec PyProof.Rows L2.Q PySem.SeqAt
section
variable {Q:Md->L2.Q.D->Prop}{m m':Md}{x y:L2.Q.D}{xs:List L2.Q.D}{ZT te:WE}{ρ:Env}{a:Int}
theorem Lx:Ck m (.list xs) m' (.int a) Q=((0<=a/\a<=4000/\xs.length<=1000)/\cp xs=true/\Q (.ow true) (.list (List.replicate a.toNat xs).flatten)):=rfl
theorem Ld:vO ZT te ρ Q=ZT ρ fun _ x=>bX x (f:=fun x=>yA x fun xs=>te ρ fun _ y=>cx 12 (.list xs)=true/\cx 12 y=true/\∃ j:Nat,(∃ z,xs[j]? = some z/\hX z y=true)/\(∀ (i:Nat) z,i<j->xs[i]? = some z->hX z y=false)/\Q .sh (.int j)) ⟨⟩:=by unfold vO bX yA;rfl
theorem KD:zz m (.list xs) Q=(m=.sh/\xs.length<=63/\(∀ d∈xs,cx 12 d=true/\tI d.py)/\∀ ms:List L2.Q.D,ms.Perm xs->(ms.Pairwise fun a b=>PySem.SeqAt.cS 3 b.py a.py=false)->Q (.ow false) (.list ms)):=rfl
end
end L2.Q.R
namespace L2
open PySem PySem.Spec PyProof.Rows
end L2
namespace L2.Q
open PySem PySem.Spec PyProof.Rows
section
variable {X:Cx}{K:PySem.W.Frag}{a b c e:Expr}{ta tb te:WE}{pos p2:Pos}
def Sj(ta tb:WE):WE:=fun ρ Q=>ta ρ fun m x=>m=.ow true/\match x with
 |.list xs=>tb ρ fun _ y=>intD y fun k=>∃ d,L2.ft xs k=some d/\Q (Pp d) d
 |_=>False
theorem KN(ha:QE X K a ta)(hb:QE X K b tb)(hs:Rb b:=by exact fun _ _=>rfl)(hK:X.K=K:=by rfl):QE X K (.Subscript a b pos) (Sj ta tb):=by
 refine PE.imp (TV (kIx hK) ha hb hs) fun σ H Qv hx=>kN hx fun Hs ρ ag Q sr h f=>?_
 refine⟨Hs,ρ,ag,_,sr,h,fun v H1 aE m x As g1 r1 f1 q1=>?_⟩
 obtain⟨rfl,q1⟩:=q1
 obtain⟨r1,ne⟩:=r1
 cases r1 with
 |sh _ r=>exact absurd rfl ne
 |@list a vs xs As z e rs =>
  refine⟨aE,ρ,ag,_,sr.grow g1,q1,fun u H2 ay m2 y Bs g2 r2 f2 q2=>?_⟩
  have ry:=r2.rep g2.wf
  cases ry with
  |int k =>
   obtain⟨d,e3,q⟩:=q2
   obtain⟨j,ej,ed⟩:=Ju e3
   have nd:As.Nodup:=(js.mp f1.1).2
   obtain⟨w,B,ew,kr,sB,_⟩:=rs.at ed nd
   have r3:=kr.grow g2.sh g2.all
   refine .inl ⟨vs,w,.inl (.inl (g2.all _ _ e)),Ax (by rw[<- rs.length];exact ej) ew,?_⟩
   cases hf:d.flat with
   |true =>
    rw[Pp,hf] at q
    exact f w H2 ay .sh d [] (g1.trans g2) ⟨rfl,(r3.rep g2.wf.sub fun _ _=>rfl).eZ g2.wf.ib hf⟩ ⟨lh,fun _ h=>vx h⟩ q
   |false =>
    rw[Pp,hf] at q
    refine f w H2 ay (.ow true) d B (g1.trans g2) ⟨r3,r3.ne hf⟩ ⟨sB.nodup nd,fun c hc=>?_⟩ q
    have:=f1.2 c (b9 _ (sB.subset hc))
    exact⟨g2.mS this.1 (kr.own c hc).ne,this.2⟩
  |_=>exact q2.elim
 |_=>exact q1.elim
theorem SR.view{Hs H:Hp}(G:Hp)(s:ax Hs H){ρ:Env}{σ:St}{ag:List Addr}(r:SR K Hs H ρ σ ag):SR K H G (ρ.map (Option.map N4)) σ []:=by
 induction r with
 |nil=>exact .nil
 |non _ ih=>exact .non ih
 |sh r _ ih=>exact .sh (r.same s) ih
 |xc _ ih=>exact .xc ih
 |ow _ r _ ih=>exact .sh (r.rep s fun _ _=>rfl) ih
 |lk _ r _ ih=>exact .sh (r.rep s fun _ _=>rfl) ih
def Sn(i j:Nat)(hs xs:List D)(ρ:Env):Env:=(ρ.set j none).set i (some (.ow true (.list (hs++[.list xs]))))
def Vh(i j:Nat)(hs xs:List D)(ρ:Env):Env:=((Sn i j hs xs ρ).map (Option.map N4)).set j (some (.sh (.list xs)))
def gN'(o:Option Sl)(k:Sl->Prop):Prop:=match o with
 |some s=>k s
 |none=>False
def zx(i j:Nat)(te:WE):WS:=fun E ρ=>FE ρ[i]? fun hs=>FE ρ[j]? fun xs=>cp xs=true/\hs.length<sizeLine /\
 te (Vh i j hs xs ρ) fun m d=>gN' (asg (DI m d) d) fun sl=>E.nx ((Sn i j hs xs ρ).set j (some sl))
theorem BW{L:Str->Hp->Prop}{i j:Nat}{x:Str}{p1 p2 p3 pos':Pos}(hN:X.N.Nodup)(hj0:X.N[j]? = some x)(hx:Loc X.env.scope x)(hi:PE X a (wt i))(hj:PE X b (wt j))(he:QE X K e te)(gV:i≠j:=by decide)(hK:X.K=K:=by rfl)
  (s1:swapsWith (.Call (.Attribute a "append" p1) [b] [] p2) none pos.line X.env=pure false:=by rfl) (b1:attributeBase a "append" X.env (eval a X.env)=eval a X.env:=by rfl)
  (f1:((backTo p2 (starEach [b] X.env)).all (fun x=>!x.1) && (backToKw p2 (keywordEach [] X.env)).all (fun x=>x.1.isSome) && decide ([b].length+([]:List Keyword).length+(if ([]:List Keyword).isEmpty then 0 else 1)<30))=true:=by rfl)
  (l1:(p1.endLine == p2.line)=true:=by rfl) (t1:starEach (b :: []) X.env=(false,eval b X.env) :: starEach [] X.env:=by rfl) (q1:(backTo p2 (starEach [] X.env)).any (·.1)=false:=by rfl)
  (hs:swapsWith e (some (.Name x p3)) pos'.line X.env=pure false:=by rfl) (hf:X.fn x=true\/X.env.scope.names.lookup x=some .local:=by first|exact .inl rfl|exact .inr rfl|assumption) :
  xv X K L [.Expr (.Call (.Attribute a "append" p1) [b] [] p2) pos,.Assign [.Name x p3] e pos'] (zx i j te):=by
 subst hK
 refine lj.imp (Xx (EE (EJ PySem.F.plainAttrs_list PySem.F.slot_list_append PySem.F.type_list_append Rg hi (q0 hj uS t1) b1 f1 l1 t1 q1) s1)
  (Xy (XC hN hj0 hx he hs hf))) fun D σ H hx=>dW hx fun Hs ρ ag E sr h k1 k2 k3 k4=>?_
 obtain⟨hs,ei,h⟩:=DK h
 obtain⟨xs,ej,fl,OZ,h⟩:=DK h
 obtain⟨a,ws,c,vs,dn,u1,u2,u3,u4,u5,u6,u7,fP⟩:=Fg gV sr ei ej fl OZ
 refine⟨_,u1,.inl ⟨rfl,_,.inl (.inl u2)⟩,_,u4,a,ws,_,rfl,rfl,u2,u3,?_⟩
 have rc:Rep X.K (upd H a (.lst (ws++[.ref c]))) (.list xs) (.ref c):=.list u7 (.inl (.inl u5)) (u6.same fP.wf.sub)
 have v0:=SR.view (upd H a (.lst (ws++[.ref c]))) fP.wf.sub fP.sr
 obtain⟨t,st,v1⟩:=v0.yu rc j
 have e0:σ.set j (some (.ref c))=σ:=by
  apply D2
  intro m
  by_cases hm:j=m
  ·subst hm;rw[SQ (by have:=(iS.mp u4).1;exact this),u4]
  ·rw[GB hm]
 rw[e0] at v1
 have et:t=[]:=List.eq_nil_of_subset_nil st.subset
 subst et
 refine⟨upd H a (.lst (ws++[.ref c])),_,[],_,⟨v1,⟨ax.refl _,fun _ _ z=>z⟩,lh,fun _ h=>vx h⟩,h,fun v H1 aE m d As g1 r1 f1 q1=>?_⟩
 obtain⟨gu,r',fr⟩:=uN fP.wf g1.sh g1.wf r1 f1.1 fun a ha=>(f1.2 a ha).1
 have gb:=ji fP.wf g1.sh g1.wf
 cases ea:asg (DI m d) d with
 |none=>rw[ea] at q1;exact q1.elim
 |some sl =>
  rw[ea] at q1
  obtain⟨bT,s'⟩:=(fP.grow gb).set j r' fr.1 (fun a ha=>⟨(fr.2 a ha).1,fun m=>(fP.sr.own a m).ne (fr.2 a ha).2⟩) ea
  exact k1 _ H1 _ _ bT gb.sh s' q1
end
end L2.Q
namespace L2.Q.R
open PySem PySem.Spec PyProof.Rows L2.Q
section
variable {Q:Md->L2.Q.D->Prop}{m:Md}{x y:L2.Q.D}{xs:List L2.Q.D}{ta tb te:WE}{ρ:L2.Q.Env}{E:qM}{i j:Nat}
theorem PQ:Sj ta tb ρ Q=ta ρ fun m x=>m=.ow true/\bX x (f:=fun x=>yA x fun xs=>tb ρ fun _ y=>bX y (f:=fun y=>intD y fun k=>∃ d,L2.ft xs k=some d/\bX d (f:=fun d=>Q (Pp d) d) ⟨⟩) ⟨⟩) ⟨⟩:=by unfold Sj bX yA;rfl
theorem Lg:zx i j te E ρ=bX ρ[i]? (f:=fun o=>FE o fun hs=>bX ρ[j]? (f:=fun o=>FE o fun xs=>cp xs=true/\hs.length<sizeLine /\
 te (Vh i j hs xs ρ) fun m d=>bX (asg (DI m d) d) (f:=fun o=>put o fun sl=>E.nx ((Sn i j hs xs ρ).set j (some sl))) ⟨⟩) ⟨⟩) ⟨⟩:=rfl
end
end L2.Q.R
namespace L2.Q
open PySem PySem.Spec PyProof.Rows
structure yB(H G:Hp):Prop where
 tup:∀ a vs,H a=some (.tup vs)->G a=some (.tup vs)
 lst:∀ a vs,Rd H a (.lst vs)->Rd G a (.lst vs)
 dct:∀ a u,kZ u->Rd H a u->Rd G a u
section
variable {K:PySem.W.Frag}{H G Hs Gs:Hp}{p:Addr}{u:HO}{o:Obj}
theorem yB.rep2(s:yB H G):(∀ {d:D} {v:V},Rep K H d v->Rep K G d v)/\∀ {ds:List D} {vs:List V},aI K H ds vs->aI K G ds vs :=
 Rep.ind .non .bl .int (fun _ h=>.str h) (fun _ _ _ z h _ ih=>.list z (h.imp (s.lst _ _) id) ih) (fun _ _ _ z h _ ih=>.tup z (s.tup _ _ h) ih) (fun _ _ _ kk h _ ih=>.dK kk (s.dct _ _ trivial h) ih) (fun _ _ _ kk h _ ih=>.dT kk (s.dct _ _ trivial h) ih) .nil fun _ _ _ _ _ _ a b=>.cons a b
theorem yB.rep(s:yB H G)(r:Rep K H d v):Rep K G d v:=s.rep2.1 r
theorem yB.Hv(s:yB Hs Gs):(∀ {d:D} {v:V} {As:List Addr},bG K Hs H fl d v As->(∀ a∈As,G a=H a)->bG K Gs G fl d v As)/\∀ {ds:List D} {vs:List V} {As:List Addr},az K Hs H fl ds vs As->(∀ a∈As,G a=H a)->az K Gs G fl ds vs As :=
 bG.ind (m1:=fun d v As=>(∀ a∈As,G a=H a)->bG K Gs G fl d v As) (m2:=fun ds vs As=>(∀ a∈As,G a=H a)->az K Gs G fl ds vs As) (fun _ _ f r _=>.sh f (s.rep r))
  (fun _ _ _ _ z e _ ih k=>.list z ((k _ b5).trans e) (ih fun a h=>k a (b9 _ h))) (fun _ _ _ _ z e n _ ih k=>.tup z (s.tup _ _ e) n (ih k)) (fun _ _ _ _ z e _ ih k=>.dK z ((k _ b5).trans e) (ih fun a h=>k a (b9 _ h)))
  (fun _ _ _ _ z e _ ih k=>.dT z ((k _ b5).trans e) (ih fun a h=>k a (b9 _ h))) (fun _=>.nil) fun _ _ _ _ _ _ _ _ i1 i2 k=>.cons (i1 fun a h=>k a (kf _ h)) (i2 fun a h=>k a (fw _ h))
theorem yB.sr(s:yB Hs Gs)(r:SR K Hs H ρ σ ag):(∀ a∈ag,G a=H a)->SR K Gs G ρ σ ag:=by
 induction r with
 |nil=>exact fun _=>.nil
 |non _ ih=>exact fun k=>.non (ih k)
 |sh h _ ih=>exact fun k=>.sh (s.rep h) (ih k)
 |xc _ ih=>exact fun k=>.xc (ih k)
 |ow ne h _ ih=>exact fun k=>.ow ne (s.Hv.1 h fun a m=>k a (kf _ m)) (ih fun a m=>k a (fw _ m))
 |lk ne h _ ih=>exact fun k=>.lk ne (s.Hv.1 h fun a m=>k a (kf _ m)) (ih fun a m=>k a (fw _ m))
theorem yR(hu:kZ u)(e:H p=some u):yB H (upd H p (.eC o u)):=by
 have ne:∀ {a:Addr} {w:HO},(w≠u)->Rd H a w->a≠p:=fun hw h z=>by
  subst z
  rcases h with h|⟨ob,h⟩
  ·rw[e] at h;cases h;exact hw rfl
  ·rw[e] at h;cases h;exact hu
 have mv:∀ {a:Addr} {w:HO},a≠p->Rd H a w->Rd (upd H p (.eC o u)) a w:=fun n h=>h.imp (fun h=>by rw[cv n];exact h) fun⟨ob,h⟩=>⟨ob,by rw[cv n];exact h⟩
 refine⟨fun a vs h=>?_,fun a vs h=>mv (ne (fun z=>by subst z;exact hu) h) h,fun a w hw h=>?_⟩
 ·rw[cv (ne (w:=.tup vs) (fun z=>by subst z;exact hu) (.inl h))];exact h
 ·by_cases z:a=p
  ·subst z
   rcases h with h|⟨ob,h⟩
   ·rw[e] at h;cases h;exact .inr ⟨o,fi⟩
   ·rw[e] at h;cases h;exact hu.elim
  ·exact mv z h
theorem qb(hu:kZ u)(e:H p=some (.eC o u)):yB H (upd H p u):=by
 have ne:∀ {a:Addr} {w:HO},(w≠u)->(∀ ob x,w≠.eC ob x)->Rd H a w->a≠p:=fun hw hf h z=>by
  subst z
  rcases h with h|⟨ob,h⟩
  ·rw[e] at h;cases h;exact hf _ _ rfl
  ·rw[e] at h;cases h;exact hw rfl
 have mv:∀ {a:Addr} {w:HO},a≠p->Rd H a w->Rd (upd H p u) a w:=fun n h=>h.imp (fun h=>by rw[cv n];exact h) fun⟨ob,h⟩=>⟨ob,by rw[cv n];exact h⟩
 refine⟨fun a vs h=>?_,fun a vs h=>mv (ne (w:=.lst vs) (fun z=>by subst z;exact hu) (fun _ _ z=>nomatch z) h) h,fun a w hw h=>?_⟩
 ·rw[cv (ne (w:=.tup vs) (fun z=>by subst z;exact hu) (fun _ _ z=>nomatch z) (.inl h))];exact h
 ·by_cases z:a=p
  ·subst z
   rcases h with h|⟨ob,h⟩
   ·rw[e] at h;cases h;exact hw.elim
   ·rw[e] at h;cases h;exact .inl fi
  ·exact mv z h
theorem dc.tO(s:dc K Hs ρ σ H ag)(e:Hs p=some w)(hw:∀ vs,w≠.tup vs)(hx:∀ vs,x≠.tup vs)(m:yB Hs (upd Hs p x)):dc K (upd Hs p x) ρ σ (upd H p x) ag:=by
 have np:∀ a∈ag,a≠p:=fun a h z=>by subst z;rw[s.own a h] at e;cases e
 refine⟨m.sr s.sr fun a h=>cv (np a h),⟨fun a o h=>?_,fun a vs h=>?_⟩,s.lP,fun a h=>by rw[cv (np a h)];exact s.own a h⟩
 ·by_cases z:a=p
  ·subst z;rw[fi] at h ⊢;exact h
  ·rw[cv z] at h ⊢;exact s.wf.sub a o h
 ·by_cases z:a=p
  ·subst z;rw[fi] at h;cases h;exact absurd rfl (hx _)
  ·rw[cv z] at h ⊢;exact s.wf.ib a vs h
theorem RM.thw(hu:kZ u)(e:Hs p=some (.eC o u))(w:Wf Hs H)(hn:∀ a∈As,Hs a=none)(r:RM K Hs H m d v As):RM K (upd Hs p u) (upd H p u) m d v As:=by
 cases m with
 |sh=>exact⟨r.1,(qb hu e).rep r.2⟩
 |bo=>exact⟨r.1,(qb hu (w.sub _ _ e)).rep r.2⟩
 |ow fl=>exact⟨(qb hu e).Hv.1 r.1 (fun a h=>cv fun z=>by subst z;rw[hn a h] at e;cases e),r.2⟩
theorem vY(e:Hs p=some u)(s:ax (upd Hs p (.eC o u)) ay):ax Hs (upd ay p u):=fun a w h=>by
 by_cases z:a=p
 ·subst z;rw[e] at h;cases h;exact fi
 ·rw[cv z];exact s a w (by rw[cv z];exact h)
theorem nT.dct(e:Hs p=some (.eC o u))(rs:aI K Hs ds ks):nT K (E4 p o ks) ds fun G _=>ax Hs G where
 go:=fun i G H s w h=>⟨by rw[<- rs.length];exact h,u,w.sub _ _ (s _ _ e)⟩
 ll:=fun i G H x H' d s w h y=>by
  obtain⟨y1,y2⟩:=y
  subst y1
  obtain⟨v,ev,r⟩:=rs.get h
  rw[y2] at ev
  cases ev
  exact⟨G,eL.refl w,r.same s⟩
 stop:=fun G H s w=>⟨rs.length,u,w.sub _ _ (s _ _ e)⟩
end
def Gg:D->Option (List D)
 |.dK kvs=>some (kvs.map fun kv=>kS kv.1)
 |.dT kvs=>some (kvs.map fun kv=>kR kv.1)
 |_=>none
def Gh(te:WE)(g:WG)(b:WS):WS:=fun E ρ=>te ρ fun m x=>m=.sh/\∃ ds,Gg x=some ds/\jy g b E ds ρ
section
variable {X:Cx}{K:PySem.W.Frag}{L:Str->Hp->Prop}{e tg:Expr}{pos:Pos}{te:WE}{g:WG}{b:WS}{body:List Stmt}
theorem sY{J:It}(S:nT K J ds fun G _=>ax aE G)(sr:dc K aE ρ σ H1 ag)(q1:jy g b E ds ρ)(hL:∀ n H,L n H)
  (k1:∀ bE H' ai aT bT,ax aE ai->dc K ai aT bE H' bT->E.nx aT->D'.nx bE H')
  (k4:∀ v H' ai m d As,ax aE ai->Wf ai H'->RM K ai H' m d v As->As.Nodup->(∀ a∈As,ai a=none)->E.rt m d->D'.rt v H'):Ru J (Oy K g) (vE K L b) D' σ H1:=by
 refine⟨fun i m σ H=>m=ds.length-i/\i<=ds.length/\∃ ai aT bT,ax aE ai/\dc K ai aT σ H bT/\jy g b E (ds.drop i) aT,⟨ds.length,by simp,fE _,aE,ρ,ag,ax.refl _,sr,by simpa using q1⟩,?_⟩
 rintro i m jv H2 ⟨rfl,hi,ay,gi,dn,s2,fP,q2⟩
 by_cases dQ:i<ds.length
 ·refine .inr ⟨S.go i ay H2 s2 fP.wf dQ,fun nL H3=>∃ ai aT bT,ax aE ai/\dc K ai aT nL H3 bT/\jy g b E (ds.drop (i+1)) aT,fun nL H3 h3=>⟨ds.length-(i+1),by lia,rfl,dQ,h3⟩,fun x H3 y=>?_⟩
  obtain⟨eI,g3,rd⟩:=S.ll i ay H2 x H3 ds[i] s2 fP.wf (by simp[dQ]) y
  rw[AF dQ] at q2
  have s3:=s2.trans g3.sh
  refine⟨eI,gi,dn,ds[i],_,fP.grow g3,rd,q2,fun σ4 sA OB IZ _ q4=>?_⟩
  refine⟨eI,sA,OB,_,IZ,q4,?_,?_,?_,?_,fun n H5 _ _=>hL n H5⟩
  ·exact fun yy H5 ku oP oQ s5 oS q5=>⟨ku,oP,oQ,s3.trans s5,oS,q5⟩
  ·exact fun yy H5 ku oP oQ s5 oS q5=>k1 yy H5 ku oP oQ (s3.trans s5) oS q5
  ·exact fun yy H5 ku oP oQ s5 oS q5=>⟨ku,oP,oQ,s3.trans s5,oS,q5⟩
  ·exact fun v H5 ku m d As s5=>k4 v H5 ku m d As (s3.trans s5)
 ·have e:i=ds.length:=by lia
  subst e
  refine .inl ⟨S.stop ay H2 s2 fP.wf,?_⟩
  rw[Qt] at q2
  exact k1 jv H2 ay gi dn s2 fP q2
theorem yr(r:Rep K Hs x (.ref a))(w:Wf Hs H)(xh:Gg x=some ds)(hu:kZ u)(e:Rd Hs a u)(h:oY H u ks):aI K Hs ds ks:=by
 have one:∀ {w:HO},kZ w->Rd Hs a w->w=u:=fun {w} hw r2=>by
  rcases e with e|⟨o,e⟩<;>rcases r2 with z|⟨o2,z⟩<;>rw[e] at z<;>cases z
  ·rfl
  ·exact hu.elim
  ·exact hw.elim
  ·rfl
 cases r with
 |@dK _ vs kvs kk rd q =>
  cases xh
  have:=one (w:=.dK _) trivial rd
  subst this
  have h:ks=_:=h
  have hl:=q.length
  rw[bS] at hl
  have e1:((kvs.map (·.1)).zip vs).map (·.1)=kvs.map (·.1):=D4 (by rw[bS];exact AQ hl)
  have e2:=congrArg (List.map kV) e1
  rw[eP] at e2
  rw[h,show(kvs.map fun kv=>kS kv.1)=(kvs.map (·.1)).map kS by rw[eP];rfl]
  refine(show aI K Hs _ (((kvs.map (·.1)).zip vs).map (kV ∘ fun x=>x.1)) from ?_)
  rw[e2]
  exact lz fun k hk=>by obtain⟨p,hp,rfl⟩:=bI.mp hk;exact kk.2 p hp
 |@dT _ vs kvs kk rd q =>
  cases xh
  have:=one (w:=.dT _) trivial rd
  subst this
  have h:cG H ks _:=h
  have hl:=q.length
  rw[bS] at hl
  rw[D4 (by rw[bS];exact AQ hl)] at h
  rw[show(kvs.map fun kv=>kR kv.1)=(kvs.map (·.1)).map kR by rw[eP];rfl]
  exact(lq (K:=K) h fun k hk=>by obtain⟨p,hp,rfl⟩:=bI.mp hk;exact kk.2 p hp).eZ w.ib (gK _)
 |_=>cases xh
theorem Fx(hp:PassesOwn (model X.prog X.w) X.A X.env X.xe)(hc:X.calm=true)(he:QE X K e te)(hg:QG X K tg g)(hb:xv X K L body b)(hL:∀ n H,L n H)(hs:∀ x,foldedSetIterable e X.env x=pure x:=by intro _;rfl) :
  QS X K L (.For tg e body [] pos) (Gh te g b):=by
 refine PS.imp (Hx (XH hp hc (Gz he) hg hb hs)) fun D σ H hx=>mL hx fun Hs ρ ag E sr h k1 k2 k3 k4 kx=>?_
 rw[zM]
 refine⟨Hs,ρ,ag,_,sr,h,fun v H1 aE m x As g1 r1 f1 q1=>?_⟩
 obtain⟨rfl,ds,xh,q1⟩:=q1
 obtain⟨rfl,r1⟩:=r1
 have ZU:=sr.grow g1
 have go:∀ {a:Addr} {u:HO},v=.ref a->kZ u->Rd aE a u->∃ p u,v=.ref p/\kZ u/\((H1 p=some u/\∀ o ks,(∀ o' w,X.nK p≠some (.eC o' w))->(∀ ps,X.nK p≠some (.sL ps))->oY H1 u ks->Ru (E4 p o ks) (Oy K g) (vE K L b) { D with nx:=A4 X D.nx,bk:=A4 X D.bk,ct:=A4 X D.ct,rt:=Uv X D.rt } σ (upd H1 p (.eC o u))) \/
   ∃ o,H1 p=some (.eC o u)/\∀ ks,oY H1 u ks->Ru (E4 p o ks) (Oy K g) (vE K L b) { D with nx:=A4 X D.nx,bk:=A4 X D.bk,ct:=A4 X D.ct,rt:=Uv X D.rt } σ H1):=by
  intro a u ev hu rd
  subst ev
  refine⟨a,u,rfl,hu,?_⟩
  rcases rd with rd|⟨o,rd⟩
  ·refine .inl ⟨g1.wf.sub _ _ rd,fun o ks nf nb hk=>?_⟩
   have rs:=(yR (o:=o) hu rd).rep2.2 (yr r1 g1.wf xh hu (.inl rd) hk)
   have sf:=ZU.tO (x:=.eC o u) rd (fun vs z=>by subst z;exact hu) (fun vs z=>nomatch z) (yR hu rd)
   refine sY (.dct fi rs) sf q1 hL (fun bE H' ai aT bT s' DH n=>.inr ⟨a,u,o,?_,nf,nb,?_⟩) fun v H' ai m d As s' w' r' PH AV n=>.inr ⟨a,u,o,?_,nf,nb,?_⟩
   ·exact DH.wf.sub _ _ (s' _ _ fi)
   ·have e:=s' _ _ (fi (H:=aE) (a:=a) (o:=HO.eC o u))
    exact k1 bE _ _ aT bT (g1.sh.trans (vY rd s')) (DH.tO e (fun vs z=>nomatch z) (fun vs z=>by subst z;exact hu) (qb hu e)) n
   ·exact w'.sub _ _ (s' _ _ fi)
   ·have e:=s' _ _ (fi (H:=aE) (a:=a) (o:=HO.eC o u))
    refine k4 v _ _ m d As (g1.sh.trans (vY rd s')) ⟨fun b ob h=>?_,fun b vs h=>?_⟩ (r'.thw hu e w' AV) PH (fun b hb=>?_) n
    ·by_cases z:b=a
     ·subst z;rw[fi] at h ⊢;exact h
     ·rw[cv z] at h ⊢;exact w'.sub b ob h
    ·by_cases z:b=a
     ·subst z;rw[fi] at h;cases h;exact hu.elim
     ·rw[cv z] at h ⊢;exact w'.ib b vs h
    ·rw[cv fun z=>by subst z;rw[AV _ hb] at e;cases e];exact AV b hb
  ·refine .inr ⟨o,g1.wf.sub _ _ rd,fun ks hk=>?_⟩
   have rs:=yr r1 g1.wf xh hu (.inr ⟨o,rd⟩) hk
   exact sY (.dct rd rs) ZU q1 hL (fun bE H' ai aT bT s' DH n=>.inl (k1 bE H' ai aT bT (g1.sh.trans s') DH n)) fun v H' ai m d As s' w' r' PH AV n=>.inl (k4 v H' ai m d As (g1.sh.trans s') w' r' PH AV n)
 cases r1 with
 |dK kk rd q=>exact go (u:=.dK _) rfl trivial rd
 |dT kk rd q=>exact go (u:=.dT _) rfl trivial rd
 |_=>cases xh
end
end L2.Q
namespace L2.Q.R
open PySem PySem.Spec PyProof.Rows L2.Q
section
variable {E:qM}{ρ:Env}{te:WE}{g:WG}{b:WS}{ks:List (Key × L2.Q.D)}{ts:List (List Key × L2.Q.D)}{P:List L2.Q.D->Prop}
def Vi(d:L2.Q.D)(P:List L2.Q.D->Prop):Prop:=∃ ds,Gg d=some ds/\P ds
theorem Ma:Vi (.dK ks) P=P (ks.map fun kv=>kS kv.1):=propext ⟨fun⟨_,e,h⟩=>by cases e;exact h,fun h=>⟨_,rfl,h⟩⟩
theorem MJ:Vi (.dT ts) P=P (ts.map fun kv=>kR kv.1):=propext ⟨fun⟨_,e,h⟩=>by cases e;exact h,fun h=>⟨_,rfl,h⟩⟩
theorem Mh:Gh te g b E ρ=te ρ fun m x=>m=.sh/\bX x (f:=fun x=>Vi x fun ds=>jy g b E ds ρ) ⟨⟩:=rfl
end
end L2.Q.R
namespace L2
open PySem PySem.Spec PyProof.Rows
section
variable {prog:Program}{w:World}{A:Around}{E:Value->Shared->Prop}{s:Shared}{κ:Type}[DecidableEq κ]{knd:KeyKind prog w κ}
theorem qi{d b:Addr}{xs:List (List κ × Addr × Value)}{k:List κ}{v:Value}{Q:Unit->Shared->Prop}(hu:(tupleKind knd).room A)(Q8:(tupleKind knd).is s.heap k b)(hm:s.heap.DictOfH (tupleKind knd) d xs)(Sq:k∉xs.map (·.1))(hsz:xs.length<=sizeLine)
  (hQ:∀ h',h'.DictOfH (tupleKind knd) d (xs++[(k,b,v)])->Heap.SameBut d s.heap h'->Q () { s with heap:=h' }):wpAny (model prog w) A (dictSetHashed d (.ref b) ((tupleKind knd).hash k) v) Q E s:=by
 obtain⟨o,es,ep,ho,hc,hd,he,mE,hn⟩:=hm
 unfold dictSetHashed
 try with_reducible refine wpAny_holding ?_
 refine ah (wpAny_dictFind_heap hu Q8 ho hd he mE hn (fun xi=>?_) fun j p hj=>?_)
 ·refine ah (wpAny_rule (wpAny_updateDictKeys (hz:=by have e:=size_of_entries he;lia) ho hd (hQ _ ⟨_,_,ep+1,y9 _ ho (Obj.isFreed_of_dict (Obj.data_mapDictKeys hd _)),hc.mapDictKeys _,Obj.data_mapDictKeys hd _,?_,?_,?_⟩ (Heap.SameBut.update ..))))
  ·simp[he,entryOfKey]
  ·intro x hx
   rcases dy.mp hx with hx|hx
   ·exact(tupleKind knd).keeps (mE x hx) ho hd (Heap.SameBut.update ..)
   ·simp only[kg] at hx
    subst hx
    exact(tupleKind knd).keeps Q8 ho hd (Heap.SameBut.update ..)
  ·rw[kG,g9]
   refine⟨hn,by simp,?_⟩
   intro x hx y hy
   simp only[fe,List.map_nil,kg] at hy
   subst hy
   exact fun e=>Sq (e ▸ hx)
 ·exact absurd (bI.mpr ⟨_,mn hj,rfl⟩) Sq
theorem uB{k:List κ}{b:Addr}{Q:Bool->Shared->Prop}(hk:(tupleKind knd).is s.heap k b)(h:Q false s):wpAny (model prog w) A (Builtin.Dict.quietEq (.ref b)) Q E s:=by
 unfold Builtin.Dict.quietEq
 refine ah (wpAny_specialOf (IsTupleKey.typeIs hk) F.slot_tuple_eq.lookup ?_)
 exact aw h
theorem xZ{es:List DictEntry}(h:(es.map (·.hash)).Nodup)(e:DictEntry)(he:e∈es):((es.filter (·.hash == e.hash)).length<=1):=by
 induction es with
 |nil=>simp
 |cons x es ih =>
  obtain⟨h1,h2⟩:=js.mp h
  have none:∀ {y:DictEntry},y.hash∉es.map (·.hash)->es.filter (·.hash == y.hash)=[]:=fun hy=>List.filter_eq_nil_iff.mpr fun z hz q=>hy (bI.mpr ⟨z,hz,beq_iff_eq.mp q⟩)
  rcases dr.mp he with rfl|he
  ·rw[Qr,none h1];split<;>simp
  ·rw[Qr,if_neg]
   ·exact ih h2 he
   ·intro q
    exact h1 (bI.mpr ⟨e,he,(beq_iff_eq.mp q).symm⟩)
theorem sU{id:String}{d:Addr}{o:Obj}{es ep}{xs:List (List κ × Addr × Value)}{Q:Array DictEntry->Shared->Prop}(ho:s.heap.get? d=some o)(hd:o.data=.dict es ep)(he:es.toList=xs.map (entryOfKey (tupleKind knd)))(mE:∀ x∈xs,(tupleKind knd).is s.heap x.1 x.2.1)
  (hh:(xs.map fun x=>(tupleKind knd).hash x.1).Nodup) (h:Q es s):wpAny (model prog w) A (Builtin.Dict.entriesForEmpty id d) Q E s:=by
 unfold Builtin.Dict.entriesForEmpty
 refine ah (wpAny_dictEntries ho hd ?_)
 have hn:(es.toList.map (·.hash)).Nodup:=by rw[he,eP];exact hh
 refine ah ?_
 rw[<- S7]
 refine wpAny_forIn_list _ (fun rest _ s'=>s'=s/\∀ e∈rest,e∈es.toList) _ ?_ ?_ _ _ ⟨rfl,fun e h=>h⟩
 ·rintro x rest b s' ⟨rfl,hr⟩
  have hx:=hr x b5
  have Sr:=hx
  rw[he] at Sr
  obtain⟨y,hy,rfl⟩:=bI.mp Sr
  refine ah (uB (mE y hy) ?_)
  have one:=xZ hn _ hx
  have sz:¬ (es.filter (·.hash == (entryOfKey (tupleKind knd) y).hash)).size>1:=by
   rw[<- tT,Array.toList_filter];lia
  simp only[Bool.not_false,if_true]
  rw[if_neg sz]
  exact aw ⟨rfl,fun e h=>hr e (b9 _ h)⟩
 ·rintro b s' ⟨rfl,_⟩
  exact aw h
theorem xT{nm:String}{d o:Addr}{xs ys:List (List κ × Addr × Value)}{Q:Unit->Shared->Prop}(hu:(tupleKind knd).room A)(Ss:d≠o)(Vj:(o == sysModules)=false)(hd:s.heap.DictOfH (tupleKind knd) d xs)(ho:s.heap.DictOfH (tupleKind knd) o ys)
  (dj:∀ y∈ys,y.1∉xs.map (·.1)) (hh:(ys.map fun x=>(tupleKind knd).hash x.1).Nodup) (hsz:xs.length+ys.length<=sizeLine) (hQ:∀ h',h'.DictOfH (tupleKind knd) d (xs++ys)->Heap.SameBut d s.heap h'->Q () { s with heap:=h' }) :
  wpAny (model prog w) A (Builtin.Dict.mergeDict nm d o) Q E s:=by
 obtain⟨od,esd,epd,rL,ot,xk,hed,jV',hnd⟩:=id hd
 obtain⟨oo,sC,epo,PK,hco,Kk,xI,Vk,xi⟩:=id ho
 have hlen:sC.size=ys.length:=size_of_entries xI
 unfold Builtin.Dict.mergeDict
 rw[if_neg (by simpa using Ss)]
 unfold Builtin.Dict.showsAll
 rw[if_neg (by rw[Vj];exact hU)]
 refine ah (aw ?_)
 refine ah (wpAny_dictEntries PK Kk ?_)
 have loop:wpAny (model prog w) A (do
   let epoch ← dictEpoch o
   let l ← dictEntries o
   forIn [:l.size] PUnit.unit fun i (_:PUnit)=>(do
     let l' ← dictEntries o
     match l'[i]? with
      |some e=>do
       holding [e.key,e.val] (dictSetHashed d e.key e.hash e.val)
       let ep' ← dictEpoch o
       if (ep' != epoch)=true then do
         (unsupported (toString nm++toString ":source-changed-during-callback"):Sem PUnit)
         pure (ForInStep.yield PUnit.unit)
        else pure (ForInStep.yield PUnit.unit)
      |_=>do
       (unsupported "internal:dict-merge" : Sem PUnit)
       pure (ForInStep.yield PUnit.unit):Sem (ForInStep PUnit))
   pure ()) Q E s:=by
  refine ah (wpAny_dictEpoch PK Kk ?_)
  refine ah (wpAny_dictEntries PK Kk ?_)
  refine ah ?_
  rw[Std.Legacy.Range.forIn_eq_forIn_range']
  simp only[Std.Legacy.Range.size,LM,Nat.add_sub_cancel,Nat.div_one]
  refine wpAny_forIn_list _
   (fun rest _ s'=>∃ h' i,s'={ s with heap:=h' }/\rest=List.range' i (sC.size-i)/\i<=sC.size/\h'.DictOfH (tupleKind knd) d (xs++ys.take i)/\h'.get? o=some oo/\Heap.SameBut d s.heap h')
   _ ?_ ?_ _ _ ⟨s.heap,0,rfl,by simp,fE _,by simpa using hd,PK,Heap.SameBut.refl _ _⟩
  ·rintro x rest b s' ⟨h',i,rfl,hr,hi,Ct,Vl,fA⟩
   have dQ:i<sC.size:=by
    rcases zk i sC.size with h|h
    ·exact h
    ·rw[Nat.sub_eq_zero_of_le h] at hr;simp at hr
   obtain⟨rfl,Vc⟩:x=i/\rest=List.range' (i+1) (sC.size-(i+1)):=by
    have e:sC.size-i=(sC.size-(i+1))+1:=by lia
    rw[e,List.range'_succ] at hr
    injection hr with h1 h2
    exact⟨h1,h2⟩
   refine ah (wpAny_dictEntries Vl Kk ?_)
   have hx:x<ys.length:=by lia
   have ey:sC[x]? = some (entryOfKey (tupleKind knd) ys[x]):=by rw[entry_at xI,mG hx];rfl
   rw[ey]
   have hy:ys[x]∈ys:=AI hx
   have hk0:=Vk _ hy
   have hk1:(tupleKind knd).is h' ys[x].1 ys[x].2.1:=(tupleKind knd).keeps hk0 rL xk fA
   have tl:(ys.take x).length=x:=by rw[qS];lia
   have Sq:ys[x].1∉(xs++ys.take x).map (·.1):=by
    rw[kG]
    intro q
    rcases dy.mp q with q|q
    ·exact dj _ hy q
    ·obtain⟨z,hz,e⟩:=bI.mp q
     obtain⟨j,hj,ej⟩:=List.mem_take_iff_getElem.mp hz
     have E3:j<ys.length:=by lia
     exact absurd (by rw[List.getElem_map,List.getElem_map,ej];exact e) (y6.mp xi j x (by rw[bS];lia) (by rw[bS];exact hx) (by lia))
   show wpAny _ _ (holding [.ref ys[x].2.1,ys[x].2.2] (dictSetHashed d (.ref ys[x].2.1) ((tupleKind knd).hash ys[x].1) ys[x].2.2) >>= _) _ _ _
   refine ah (wpAny_holding (qi hu hk1 Ct Sq (by rw[kF];lia) fun Sg gV' ZV=>?_))
   have ZW:Sg.get? o=some oo:=(ZV.2 o (Ne.symm Ss)).trans Vl
   refine ah (wpAny_dictEpoch ZW Kk ?_)
   rw[if_neg (by simp)]
   refine aw ⟨Sg,x+1,rfl,Vc,dQ,?_,ZW,fA.trans ZV⟩
   rw[List.take_succ_eq_append_getElem hx,<- Lv]
   exact gV'
  ·rintro b s' ⟨h',i,rfl,hr,hi,Ct,Vl,fA⟩
   have bp:i=sC.size:=by
    rcases zk i sC.size with h|h
    ·have e:sC.size-i=(sC.size-(i+1))+1:=by lia
     rw[e,List.range'_succ] at hr;exact nomatch hr
    ·exact Nat.le_antisymm hi h
   refine aw (hQ h' ?_ fA)
   rw[bp,hlen,tS] at Ct;exact Ct
 dsimp only
 split
 ·refine ah (wpAny_dictEntries rL xk ?_)
  split
  ·rename_i gW'
   have hxs:xs=[]:=by
    have h0:esd = #[]:=Array.isEmpty_iff.mp gW'
    have:=size_of_entries hed;rw[h0] at this;exact GA.mp this.symm
   subst hxs
   refine ah (sU PK Kk xI Vk hh ?_)
   split
   ·have hto:sC.size<=sizeLine+1:=by
     simp only[List.length_nil,D9] at hsz
     lia
    refine ah (wpAny_updateDictKeysTo rL xk (aw (hQ _ ⟨_,_,epd+1,y9 _ rL (Obj.isFreed_of_dict (Obj.data_mapDictKeys xk _)),ot.mapDictKeys _,
     Obj.data_mapDictKeys xk _,by simpa using xI,fun x hx=>(tupleKind knd).keeps (Vk x hx) rL xk (Heap.SameBut.update ..),by simpa using xi⟩ (Heap.SameBut.update ..))) hto)
   ·rename_i gV
    have h0:sC = #[]:=Array.isEmpty_iff.mp (by simpa using gV)
    have hm0:ys=[]:=GA.mp (by rw[<- hlen,h0];rfl)
    subst hm0
    exact aw (hQ _ hd (Heap.SameBut.refl _ _))
  ·exact loop
 ·exact loop
theorem uM(knd:KeyKind prog w κ)(d o:Addr)(Ss:d≠o)(Vj:(o == sysModules)=false) :
  MeetsIn prog w (Builtin.«dict.update» ⟨[.ref d,.ref o],[]⟩) (fun A R s=>(tupleKind knd).room A.in1/\∃ xs ys,s.heap.DictOfH (tupleKind knd) d xs/\s.heap.DictOfH (tupleKind knd) o ys/\(∀ y∈ys,y.1∉xs.map (·.1))/\(ys.map fun x=>(tupleKind knd).hash x.1).Nodup/\xs.length+ys.length<=sizeLine /\
   ∀ h',h'.DictOfH (tupleKind knd) d (xs++ys)->Heap.SameBut d s.heap h'->R (.ok (.ret .none)) { s with heap:=h' }) :=
 .of_wp fun A R s cE=>by
  obtain⟨hu,xs,ys,hd,ho,dj,hh,hsz,h⟩:=cE
  unfold Builtin.«dict.update»
  refine ah ?_
  unfold Builtin.Dict.selfAndRest
  refine ah (wpAny_notOrdered_dict hd.typeIs ?_)
  show wpAny _ _ (pure (d,[Value.ref o])) _ _ s
  refine aw ?_
  show wpAny _ _ (Builtin.Dict.updateFrom "dict.update" d (.ref o) [] .none) _ _ s
  unfold Builtin.Dict.updateFrom
  refine ah (wpAny_typeOf ho.typeIs ?_)
  rw[if_neg (by decide)]
  refine ah ?_
  unfold Builtin.Dict.merge
  refine ah ?_
  ·unfold Builtin.Dict.readDirectly
   refine ah (wpAny_isInstance ho.typeIs isSubtype_dict_dict ?_)
   simp only[LN,kH,if_false]
   refine ah (wpAny_specialOf ho.typeIs F.slot_dict_iter.lookup (aw ?_))
   simp only[beq_self_eq_true,if_true]
   refine ah (aw ?_)
   refine xT hu Ss Vj hd ho dj hh hsz fun h' Ct fA=>?_
   show wpAny _ _ (Builtin.Dict.addKeywords d [] >>= _) _ _ _
   exact ah (aw (aw ⟨.none,rfl,h h' Ct fA⟩))
end
def Jw(p q:Int):Int:=reduceHash (Builtin.Tuple.tupleHashOf [hashInt p,hashInt q])
theorem Di:((List.range 12).flatMap fun p:Nat=>(List.range 12).map fun q:Nat=>Jw p q).Nodup:=by decide +kernel
theorem BR{f:Nat->Nat->Int}:∀ {n m:Nat},((List.range n).flatMap fun p:Nat=>(List.range m).map fun q:Nat=>f p q).Nodup->∀ {a b c d:Nat},a<n->c<n->b<m->d<m->f a b=f c d->a=c/\b=d:=by
 intro n m h a b c d ha hc hb hd e
 obtain⟨h1,h2⟩:=List.pairwise_flatMap.mp h
 by_cases z:a=c
 ·subst z
  refine⟨rfl,?_⟩
  have h3:=h1 a (mI.mpr ha)
  by_cases y:b=d
  ·exact y
  ·exfalso
   have h4:=pE.mp h3
   have h5:=(y6.mp h4)
   rcases Nat.lt_or_gt_of_ne y with y|y
   ·exact h5 b d (by simpa using hb) (by simpa using hd) y (by simpa using e)
   ·exact h5 d b (by simpa using hd) (by simpa using hb) y (by simpa using e.symm)
 ·exfalso
  have h5:=y6.mp h2
  have key:∀ {a b c d:Nat},a<n->c<n->b<m->d<m->a<c->f a b≠f c d:=fun {a b c d} ha hc hb hd y e=>by
   have:=h5 a c (by simpa using ha) (by simpa using hc) y
   simp only[List.getElem_range] at this
   exact this _ (bI.mpr ⟨b,mI.mpr hb,rfl⟩) _ (bI.mpr ⟨d,mI.mpr hd,rfl⟩) e
  rcases Nat.lt_or_gt_of_ne z with y|y
  ·exact key ha hc hb hd y e
  ·exact key hc ha hd hb y e.symm
def PR(k:List Key):Prop:=∃ i j:Nat,i<12/\j<12/\k=[.inl (i:Int),.inl (j:Int)]
theorem Gj{P:Program}{w:World}{ks:List (List Key)}(h:∀ k∈ks,PR k)(nd:ks.Nodup):(ks.map fun k=>(tupleKind (ka P w)).hash k).Nodup:=by
 refine pE.mpr (List.Pairwise.imp_of_mem (fun {a b} ha hb ne e=>?_) nd)
 obtain⟨i,j,hi,hj,rfl⟩:=h a ha
 obtain⟨k,l,hk,hl,rfl⟩:=h b hb
 obtain⟨rfl,rfl⟩:=BR (f:=fun p q=>Jw p q) Di hi hk hj hl e
 exact ne rfl
theorem KT.append{H:Hp}{kvs more:List (List Key × V)}{xs ys:List (List Key × Addr × Value)}(r:KT H kvs xs)(q:KT H more ys):KT H (kvs++more) (xs++ys):=by
 induction r with
 |nil=>exact q
 |cons h t ih=>exact .cons h ih
theorem KT.keys{H:Hp}{kvs:List (List Key × V)}{xs:List (List Key × Addr × Value)}(r:KT H kvs xs):xs.map (·.1)=kvs.map (·.1):=by
 induction r with
 |nil=>rfl
 |cons h t ih=>rw[fe,fe,ih,h.1]
section
variable {X:Cx}
theorem Ft (hu:X.A.units+1<cLine):TR X "dict.update" (fun x xs H Q=>∃ a b kvs more,x=.ref a/\xs=[.ref b]/\a≠b/\H a=some (.dT kvs)/\H b=some (.dT more)/\(∀ p∈more,p.1∉kvs.map (·.1)/\PR p.1)/\kvs.length+more.length<=sizeLine/\Q .non (upd H a (.dT (kvs++more)))):=by
 intro pins s σ H x vs v us Q I rx rv h
 obtain⟨a,b,kvs,more,rfl,rfl,wa,e,eb,bp,hsz,q⟩:=h
 cases (show v=Value.ref a from rx)
 obtain⟨u,rfl,ru⟩:=Vals.one rv
 cases (show u=Value.ref b from ru)
 obtain⟨z,hd,xs,rel,dd⟩:=MC I.bq e
 obtain⟨z2,hd2,ys,Vm,n4⟩:=MC I.bq eb
 have l1:=Paired.length rel
 have l2:=Paired.length Vm
 have k1:=KT.keys rel
 have k2:=KT.keys Vm
 have ndy:(ys.map (·.1)).Nodup:=by obtain⟨_,_,_,_,_,_,_,_,n⟩:=id n4;exact n
 have hk:∀ k∈ys.map (·.1),k∉kvs.map (·.1)/\PR k:=fun k hk=>by
  rw[k2] at hk
  obtain⟨p,hp,rfl⟩:=bI.mp hk
  exact bp p hp
 refine call_meetsIn PySem.F.slot_dict_update dd.typeIs PySem.F.entry_dict_update (PySem.F.args_dict_update_2 _ _) (uM (ka X.prog X.w) a b wa hd2) ⟨tupleKind_room_in1 hu,xs,ys,dd,n4,fun y hy=>?_,?_,by lia,fun h' Dx hs=>?_⟩
 ·rw[k1];exact(hk _ (bI.mpr ⟨y,hy,rfl⟩)).1
 ·have:=Gj (P:=X.prog) (w:=X.w) (fun k h=>(hk k h).2) ndy
  rwa[eP] at this
 ·obtain⟨qo,es,ep,hq,g2,g3,g4,_,g5⟩:=Dx
  have ob:fo X.prog X.w (upd H a (.dT (kvs++more))) h' a (.dT (kvs++more)):=by
   refine⟨by rw[kF];lia,hd,_,(KT.append rel Vm).keeps fun c zs ec=>?_,qo,es,ep,hq,g2,g3,g4,g5⟩
   rw[cv (Tb ec e fun z=>nomatch z)]
   exact ec
  exact⟨.non,_,Rh I (by rw[e];exact True.intro) hs ⟨qo,hq⟩ ob,rfl,q⟩
end
end L2
namespace L2.Q
open PySem PySem.Spec PyProof.Rows
section
variable {X:Cx}{K:PySem.W.Frag}{L:Str->Hp->Prop}{e e2:Expr}{i j:Nat}{apos dE pos:Pos}
def BF(o:Option (Option Sl))(k:List (List Key × D)->Prop):Prop:=match o with
 |some (some (.ow true (.dT kvs)))=>k kvs
 |_=>False
theorem zc{o:Option (Option Sl)}{k:List (List Key × D)->Prop}(h:BF o k):∃ kvs,o=some (some (.ow true (.dT kvs)))/\k kvs:=by
 unfold BF at h
 split at h
 ·exact⟨_,rfl,h⟩
 ·exact h.elim
theorem bG.Sv{Hs H:Hp}{kvs:List (List Key × D)}{v:V}{As:List Addr}(r:bG K Hs H true (.dT kvs) v As):∃ a vs A,v=.ref a/\As=a :: A/\NC kvs/\H a=some (.dT ((kvs.map (·.1)).zip vs))/\az K Hs H true (kvs.map (·.2)) vs A:=by
 cases r with
 |sh hf _=>exact absurd (hf rfl) (by simp[D.flat])
 |dT z e rs=>exact⟨_,_,_,rfl,rfl,z,e,rs⟩
def Fy(i j:Nat):WS:=fun E ρ=>BF ρ[i]? fun kvs=>BF ρ[j]? fun more=>(∀ p∈more,p.1∉kvs.map (·.1)/\PR p.1)/\cp (more.map (·.2))=true/\kvs.length+more.length<=sizeLine/\E.nx (ρ.set i (some (.ow true (.dT (kvs++more)))))
theorem GZ(hu:X.A.units+1<cLine)(hi:PE X e (wt i))(hj:PE X e2 (wt j))(hK:X.K=K:=by rfl)(kB:i≠j:=by decide)
  (vj:attributeBase e "update" X.env (eval e X.env)=eval e X.env:=by rfl)
  (oz:((backTo dE (starEach [e2] X.env)).all (fun x=>!x.1) && (backToKw dE (keywordEach [] X.env)).all (fun x=>x.1.isSome)
   && decide ([e2].length+([]:List Keyword).length+(if ([]:List Keyword).isEmpty then 0 else 1)<30))=true:=by rfl)
  (hline:(apos.endLine == dE.line)=true:=by rfl) (pd:starEach (e2 :: []) X.env=(false,eval e2 X.env) :: starEach [] X.env:=by rfl) (vk:(backTo dE (starEach [] X.env)).any (·.1)=false:=by rfl)
  (hs:swapsWith (.Call (.Attribute e "update" apos) [e2] [] dE) none pos.line X.env=pure false:=by rfl) :
  QS X K L (.Expr (.Call (.Attribute e "update" apos) [e2] [] dE) pos) (Fy i j):=by
 subst hK
 refine PS.imp (EE (EJ PySem.F.plainAttrs_dict PySem.F.slot_dict_update PySem.F.type_dict_update (Ft hu) hi (q0 hj uS pd) vj oz hline pd vk) hs) fun D σ H hx=>dW hx fun Hs ρ ag E sr h k1 k2 k3 k4=>?_
 obtain⟨kvs,ei,h⟩:=zc h
 obtain⟨more,ej,bp,hf,hsz,q⟩:=zc h
 obtain⟨u,Ai,_,ev,ne,ri,si,up⟩:=SR.put i sr.sr ei sr.lP
 obtain⟨a,vs,A,rfl,rfl,kk,ea,rs⟩:=ri.Sv
 obtain⟨u2,Aj,_,ev2,rj,sj,_,dj,srn⟩:=SR.take j sr.sr ej sr.lP
 obtain⟨b,ws,B,rfl,rfl,kk2,eb,Fc⟩:=rj.Sv
 have wa:a≠b:=fun z=>by
  obtain⟨v',gu,ev',_,r',s'⟩:=SR.at srn (show(ρ.set j none)[i]? = _ by rw[GB (Ne.symm kB)];exact ei)
  obtain⟨a',_,_,rfl,rfl,_⟩:=r'.Sv
  cases ev.symm.trans ev'
  exact dj b b5 (z ▸ s'.subset b5)
 have l1:kvs.length=vs.length:=by have:=rs.length;rwa[bS] at this
 have l2:more.length=ws.length:=by have:=Fc.length;rwa[bS] at this
 have z1:((kvs.map (·.1)).zip vs).map (·.1)=kvs.map (·.1):=D4 (by rw[bS];lia)
 have z2:((more.map (·.1)).zip ws).map (·.1)=more.map (·.1):=D4 (by rw[bS];lia)
 refine⟨_,ev,.inr (.inr (.inl ⟨rfl,.inr ⟨_,ea⟩⟩)),_,ev2,a,b,_,_,rfl,rfl,wa,ea,eb,fun p hp=>?_,by rw[D6,D6,bS,bS];lia,?_⟩
 ·have:p.1∈more.map (·.1):=by rw[<- z2];exact bI.mpr ⟨p,hp,rfl⟩
  obtain⟨p',hJ,e'⟩:=bI.mp this
  rw[z1,<- e']
  exact bp p' hJ
 have ez:(kvs.map (·.1)).zip vs++(more.map (·.1)).zip ws=((kvs++more).map (·.1)).zip (vs++ws):=by rw[kG,List.zip_append (by rw[bS];lia)]
 rw[ez]
 obtain⟨nA,JA⟩:=js.mp (si.nodup sr.lP)
 have kr:az X.K Hs H true (more.map (·.2)) ws []:=aI.owned ((Fc.reps sr.wf.sub fun _ _=>rfl).eZ sr.wf.ib hf) hf
 have rr:bG X.K Hs (upd H a (.dT (((kvs++more).map (·.1)).zip (vs++ws)))) true (.dT (kvs++more)) (.ref a) (a :: A):=by
  refine .dT (vs:=vs++ws) ⟨by rw[kF];exact hsz,fun p hp=>(dy.mp hp).elim (kk.2 p) (kk2.2 p)⟩ fi ?_
  rw[kG]
  have:=(rs.append kr).fq (H':=upd H a (.dT (((kvs++more).map (·.1)).zip (vs++ws)))) (ax.refl _) fun c hc=>cv fun z=>nA (by subst z;simpa using hc)
  simpa using this
 obtain⟨dn,n2,i2,s2⟩:=up Hs _ true _ (a :: A) (ax.refl _) rr (LB _ _) (si.nodup sr.lP) (fun c hc _=>hc) (fun c _ nc=>cv fun z=>nc (z ▸ b5))
 have Ha:Hs a=none:=sr.own a (si.subset b5)
 exact k1 _ _ Hs _ dn (ax.refl _) ⟨s2,tR sr.wf Ha (fun _ z=>nomatch z),n2,fun c hc=>(i2 c hc).elim (sr.own c) fun m=>sr.own c (si.subset m)⟩ q
end
end L2.Q
namespace L2.Q.R
open PySem PySem.Spec PyProof.Rows L2.Q
theorem hr'{kvs:List (List Key × L2.Q.D)}{k:List (List Key × L2.Q.D)->Prop}:BF (some (some (.ow true (.dT kvs)))) k=k kvs:=rfl
theorem LK{i j:Nat}{E:qM}{ρ:L2.Q.Env}:Fy i j E ρ=bX ρ[i]? (f:=fun o=>BF o fun kvs=>bX ρ[j]? (f:=fun o=>BF o fun more=>(∀ p∈more,p.1∉kvs.map (·.1)/\PR p.1)/\cp (more.map (·.2))=true/\kvs.length+more.length<=sizeLine/\E.nx (ρ.set i (some (.ow true (.dT (kvs++more)))))) ⟨⟩) ⟨⟩:=rfl
end L2.Q.R
namespace L2
open PySem PySem.Spec PyProof.Rows
theorem xn{prog:Program}{w:World}{A:Around}{E:Value->Shared->Prop}{s:Shared}{d:Addr}{es:MX}{ep:Nat}{Q:Bool->Shared->Prop}(hd:(d == sysModules)=false)(x:qa s.heap d es ep)(NX:(es.size:Int)<2 ^ 63)
  (h:∀ t',Q (!es.isEmpty) { s with toks:=t' }):wpAny (model prog w) A (truthy (.ref d)) Q E s:=by
 have gV:((es.size:Int) != 0) = !es.isEmpty:=by
  unfold Array.isEmpty
  cases e:es.size with
  |zero=>rfl
  |succ n=>simp;lia
 have mt:MeetsIn prog w (Builtin.«dict.__len__» ⟨[.ref d],[]⟩) (fun _ R s=>qa s.heap d es ep/\R (.ok (.ret (.int es.size s.toks))) { s with toks:=s.toks+1 }):=.of_wp fun A R s cE=>by
  obtain⟨hm,h⟩:=cE
  obtain⟨o,ho,hc,DC⟩:=hm
  show wpAny _ _ (dictSize d >>= _) _ _ s
  unfold dictSize
  refine ah (ah (wpAny_dictEntries ho DC (aw ?_)))
  show wpAny _ _ (Builtin.Dict.pendingCount d >>= _) _ _ s
  refine ah (wpAny_pendingCount_other hd ?_)
  refine wpAny_ret_mkInt ?_
  rw[Qx];exact h
 have key:wpAny (model prog w) A (runValue (.builtin "len" ⟨[.ref d],[]⟩)) (fun r s'=>(∃ t,r=.int es.size t)/\Q (!es.isEmpty) s') E s:=by
  refine wpAny_runValue (codeAny_builtin entry_len ?_)
  rw[Around.under_plainId plain_len _]
  refine oj (Q:=fun fin s'=>∃ r,fin=.done (.ret r)/\(∃ t,r=.int es.size t)/\Q (!es.isEmpty) s') ?_ (fun fin s' h'=>by obtain⟨r,rfl,hq⟩:=h';exact hq) fun _ _ e=>e
  unfold Builtin.«len»
  refine ah (m:=oneArg "len" _) (aw ?_)
  refine ah (m:=callSpecial? (.ref d) (Str.ofString "__len__")) (wpAny_callSpecial?_slot (name:=Str.ofString "__len__") x.typ F.slot_dict_len
   (call_meetsIn F.slot_dict_len x.typ F.entry_dict_len (F.args_dict_len_1 _) mt ⟨x,?_⟩))
  show wpAny _ _ _ _ _ { s with toks:=s.toks+1 }
  refine ah (wpAny_holding (aw ?_))
  refine ah (wpAny_letGo ?_)
  show wpAny _ _ (if ((es.size:Nat):Int)<0 then _ else _) _ _ _
  rw[if_neg (by lia)]
  show wpAny _ _ (if ((es.size:Nat):Int) >= 2 ^ 63 then _ else _) _ _ _
  rw[if_neg (by lia)]
  exact ah (wpAny_mkInt (aw ⟨_,rfl,⟨_,rfl⟩,h _⟩))
 unfold truthy
 first
  |refine ah (wpAny_callSpecial?_none (name:=Str.ofString "__bool__") x.typ noBool_dict ?_)
  |refine ah (aw (ah (wpAny_callSpecial?_none (name:=Str.ofString "__bool__") x.typ noBool_dict ?_)))
 first
  |refine ah (wpAny_specialOf (name:=Str.ofString "__len__") x.typ F.slot_dict_len.lookup ?_)
  |refine ah (aw (ah (wpAny_specialOf (name:=Str.ofString "__len__") x.typ F.slot_dict_len.lookup ?_)))
 first
  |exact ah (oj key (fun r s' h'=>by obtain⟨⟨t,rfl⟩,hq⟩:=h';exact aw (gV ▸ hq)) fun _ _ e=>e)
  |exact ah (aw (ah (oj key (fun r s' h'=>by obtain⟨⟨t,rfl⟩,hq⟩:=h';exact aw (gV ▸ hq)) fun _ _ e=>e)))
theorem Jv{X:Cx}:ce' X (fun x H Q=>∃ a kvs,x=.ref a/\H a=some (.dT kvs)/\Q (!kvs.isEmpty) H):=by
 intro pins s σ H x v Q I rx h
 obtain⟨a,kvs,rfl,e,q⟩:=h
 cases rx
 obtain⟨z,hd,xs,rel,o,es,ep,ho,hc,DC,he,_,_⟩:=MC I.bq e
 have l1:=Paired.length rel
 have l2:=size_of_entries he
 have hs:sizeLine=16777216:=sizeLine_eq
 refine xn hd ⟨o,ho,hc,DC⟩ (by lia) fun t=>⟨H,I.tok _,?_⟩
 have:(!es.isEmpty) = !kvs.isEmpty:=by
  unfold Array.isEmpty
  cases kvs with
  |nil=>rw[show es.size=0 by rw[l2,<- l1];rfl];rfl
  |cons p r=>rw[show es.size=r.length+1 by rw[l2,<- l1];rfl];rfl
 rw[this];exact q
end L2
namespace L2.Q
open PySem PySem.Spec PyProof.Rows
def Fv(i:Nat):WT:=fun ρ Q=>BF ρ[i]? fun kvs=>Q (!kvs.isEmpty)
theorem G8{X:Cx}{K:PySem.W.Frag}{e:Expr}{i:Nat}(ha:PE X e (wt i))(he:∀ whole,isTrue e X.env whole=(do let v <- whole;standAt e.pos;holding [v] (truthy v)):=by intro _;rfl)(hK:X.K=K:=by rfl):QT X K e (Fv i):=by
 subst hK
 intro pins s σ H Qv I hx
 obtain⟨Hs,ρ,ag,Q,sr,h,f⟩:=hx
 obtain⟨kvs,ei,h⟩:=zc h
 obtain⟨v,As,ev,ne,r,sb⟩:=sr.sr.at ei
 obtain⟨a,vs,A,rfl,rfl,kk,ea,rs⟩:=r.Sv
 have l1:kvs.length=vs.length:=by have:=rs.length;rwa[bS] at this
 refine isTrue_plain (cw (ha pins s σ H (fun x H'=>x=.ref a/\H'=H) I ⟨_,ev,rfl,rfl⟩) fun v s1 cK=>L2.gI cK fun x H1 I1 r1 q1=>?_) (he _)
 obtain⟨rfl,rfl⟩:=q1
 refine Jv pins s1 σ H1 _ v Qv I1 r1 ⟨a,_,rfl,ea,?_⟩
 refine f _ H1 Hs (eL.refl sr.wf) ?_
 have:((kvs.map (·.1)).zip vs).isEmpty=kvs.isEmpty:=by
  cases kvs with
  |nil=>rfl
  |cons p r=>cases vs with
   |nil=>simp at l1
   |cons q t=>rfl
 rw[this];exact h
end L2.Q
namespace L2.Q.R
open PySem PySem.Spec PyProof.Rows L2.Q
theorem Np{i:Nat}{ρ:L2.Q.Env}{Q:Bool->Prop}:Fv i ρ Q=bX ρ[i]? (f:=fun o=>BF o fun kvs=>bX (!kvs.isEmpty) (f:=Q) ⟨⟩) ⟨⟩:=rfl
end L2.Q.R
namespace L2.Q
open PySem PySem.Spec PyProof.Rows
namespace R
theorem Mx:A7 m (.bl i) m' (.bl j) Q=Q .sh (.bl (!decide (i=j))):=rfl
end R
end L2.Q
local macro_rules | `(tactic| walk_at "q") => do
 let nm (s:String):Lean.Ident:=Lean.mkIdent ((s.splitOn ".").foldl Lean.Name.mkStr .anonymous)
 let ds ← ("Nx Om Mw Mf Ls Mz Od Ot Kc J2 N_ Nm Oa MK NP MT PB M4 Nz Nh hr' LK Np Mv PJ Qa NB Nk O1 M7 Pu Qi O7 Oh Og gJ' Qh P0 O4 NZ LC Nf Ow O8 Lp Nq Mi Jm J_ J5 Ke OD Mr wB_ Ob Pa fC' Pj Py K6 Km wC_ fE' fF' Kv fG' Nv Oi Pq Oq Mt Lr Kq Ko Ln Kz J9 K8 KR Mj NQ Nu Lz Mg M_ MN N6 Ov Pb Pz Ly M5 P_ PX Ox OJ HF Lx Ld KD PQ Lg Mh Ma MJ HH Oz Mx Ni Oe Pg O3 Px Oj PN PL Ol O_ Qf Qe Ml Nr L_ Ng M6 O6 Lk Lh KY fH' J3 Ms M9 Ph Pn Qg Mu Kg fI' J0 Qc KZ Oc O5 LR Oo Kf Nt MF NK Kr J4 J7 J1 gN_ gT_ N8 O9 M3 N5 MP KQ K7 K9 Pk N7 Mq Nb NT gy' Ny M8".splitOn " ").toArray.mapM fun s=>`(Lean.Parser.Tactic.simpLemma| ↓$(nm ("L2.Q.R." ++ s)):ident)
 let us ← ("L2.Q.Sn L2.Q.Vh L2.Q.RZ L2.Q.Pp L2.Q.tG L2.Q.Hm L2.Q.yv L2.Q.E8 L2.Q.DF L2.Q.DI L2.Q.Ka L2.Q.N9 L2.Q.N3 L2.Q.N4 L2.Q.pJ L2.Q.Gx L2.Q.asg L2.Q.mh L2.Q.aG L2.Q.D.flat L2.Q.cp L2.Q.D.E7 L2.Q.D.ty L2.Q.fg' L2.Q.D.key1 L2.Q.fj L2.Q.pG L2.Q.Mm List.length_map List.map_cons List.map_nil List.length_cons List.length_nil List.replicate_succ List.replicate_zero List.cons_append List.nil_append List.append_nil List.getElem?_cons_zero List.getElem?_cons_succ List.getElem?_nil List.set_cons_zero List.set_cons_succ List.all_cons List.all_nil Option.some.injEq Option.join_some Option.map_some Option.map_none Nat.reduceAdd Nat.reduceSub true_and and_true Bool.and_true Bool.true_and Bool.and_false Bool.false_and Bool.not_true Bool.not_false Bool.false_eq_true if_true if_false decide_true decide_false reduceIte cond_true cond_false PySem.sizeLine_eq L2.Q.fy' L2.Q.fz' L2.Q.fA' L2.Q.cR L2.Q.Ih L2.Q.empty_app Nat.zero_add exists_eq_left' Int.reduceLT Int.reduceLE Int.reducePow Int.reduceNeg Int.reduceToNat Int.reduceAdd Int.reduceMul Int.reduceSub Nat.reduceLeDiff Nat.reduceLT false_or or_false and_self L2.Ou".splitOn " ").toArray.mapM fun s=>`(Lean.Parser.Tactic.simpLemma| $(nm s):ident)
 let as:Lean.TSyntaxArray [`Lean.Parser.Tactic.simpStar,`Lean.Parser.Tactic.simpErase,`Lean.Parser.Tactic.simpLemma]:=(ds++us).map fun x=>⟨x.raw⟩
 `(tactic| simp -dsimp only [$as,*])
namespace L2.Q.Vn
open PySem PySem.Spec PyProof.Rows
theorem small{n:Nat}(h:n<=10000):n<=sizeLine:=gE h (by decide)
theorem Ir{n:Nat}(h:n<=10000):n<sizeLine:=W_ h (by decide)
def isLet(c:Nat):Bool:=decide (97<=c/\c<=122)
abbrev abc:Str := "abcdefghijklmnopqrstuvwxyz"
theorem vX:sg abc=(List.range 26).map (97 + ·):=by decide +kernel
theorem Jh{i:Int}(h0:0<=i)(h1:i<26):∃ c,ft (sg abc) i=some c/\isLet c=true:=by
 refine⟨97+i.toNat,?_,?_⟩
 ·have:ft (sg abc) ((i.toNat:Nat):Int)=some (97+i.toNat):=L9 (by
   rw[vX]
   have:i.toNat<26:=by lia
   simp[this])
  rwa[B9 h0] at this
 ·simp[isLet];lia
theorem yE(x:Int):∃ c,ft (sg abc) (x % 26)=some c/\isLet c=true:=Jh (QD _ (by decide)) (QC _ (by decide))
def lets(x:Str):Prop:=∀ c∈sg x,isLet c=true
def Open(x:Str):Prop:=1<=x.length/\x.length<=6/\lets x
def yT (x:Str):Prop:=x = "*"\/Open x
theorem qF{x y:Str}(hx:lets x)(hy:lets y):lets (x++y):=fun c hc=>by
 rw[DX] at hc
 exact(dy.mp hc).elim (hx c) (hy c)
theorem lB{c:Nat}(h:isLet c=true):lets ⟨#[c]⟩:=fun d hd=>by
 have:d=c:=by simpa[sg] using hd
 rw[this];exact h
theorem CJ{x:Str}(h:lets x)(lo hi:Option Int):lets (rq x lo hi):=fun c hc=>by
 unfold rq sg at hc
 rw[List.toList_toArray] at hc
 exact h c (SX (Qq hc))
theorem bc(c:Nat):(⟨#[c]⟩:Str).length=1:=rfl
theorem yT.ok{x:Str}(h:yT x):PyData.strOk x=true:=by
 rw[G_]
 rcases h with rfl|h
 ·have:sg "*" = [42]:=by decide +kernel
  intro c hc
  rw[this] at hc
  have:c=42:=by simpa using hc
  lia
 ·intro c hc
  have:=h.2.2 c hc
  simp[isLet] at this
  lia
abbrev aC:=Int × Str × Int
def qA(s:aC):List Key:=[.inl s.1,.inr s.2.1,.inl s.2.2]
def eB(s:aC):D:=.tup [.int s.1,.str s.2.1,.int s.2.2]
def mD(many:Int)(steps:List aC):D:=.tup [.int many,.list (steps.map eB)]
theorem jq:∀ (l:List aC),cp (l.map eB)=true
 |[]=>rfl
 |x :: l=>by simp[cp,jq l,eB,D.flat]
def Sw(many:Int)(s:aC):Prop:=0<=s.1/\s.1<many/\yT s.2.1/\0<=s.2.2/\s.2.2<many
theorem Ei{many:Int}{s:aC}(n:Nat)(h:Sw many s):cx (n+1) (eB s)=true:=by
 have:=h.2.2.1.ok
 simp[cx,eB,this]
theorem Az{many:Int}{l:List aC}(n:Nat)(h:∀ s∈l,Sw many s):cx (n+2) (.list (l.map eB))=true:=by
 simp only[cx,Qu,GH]
 intro s hs
 exact Ei n (h s hs)
theorem Bo:∀ (l:List aC),vF (l.map eB)=true
 |[]=>rfl
 |x :: l=>by simp[vF,Bo l,eB,D.nb]
theorem Dh{s t:aC}(h:qA s=qA t):s=t:=by
 obtain⟨a,b,c⟩:=s
 obtain⟨a',b',c'⟩:=t
 simp[qA] at h
 obtain⟨rfl,rfl,rfl⟩:=h
 rfl
def cS(s t:aC):Bool:=gX (qA s) (qA t)
theorem uy{P:aC->Prop}:∀ {ks:List (List Key)},(∀ k∈ks,∃ s,k=qA s/\P s)->∃ l:List aC,ks=l.map qA/\∀ s∈l,P s
 |[],_=>⟨[],rfl,fun s h=>nomatch h⟩
 |k :: ks,h=>by
  obtain⟨s,rfl,p⟩:=h k b5
  obtain⟨l,rfl,q⟩:=uy fun k hk=>h k (b9 _ hk)
  refine⟨s :: l,rfl,fun t ht=>?_⟩
  rcases dr.mp ht with rfl|ht
  ·exact p
  ·exact q t ht
abbrev Kn:=List (List Key × D)
def BG(P:aC->Prop)(kvs:Kn):Prop:=(∀ p∈kvs,∃ s,p.1=qA s/\P s)/\(kvs.map (·.1)).Nodup
theorem zp{κ β:Type}[DecidableEq κ](kvs:List (κ × β))(k:κ)(v:β):(lT kvs k v).map (·.1)=if k∈kvs.map (·.1) then kvs.map (·.1) else kvs.map (·.1)++[k]:=by
 unfold lT
 by_cases h:k∈kvs.map (·.1)
 ·have:(kvs.any fun kv=>decide (kv.1=k))=true:=by
   obtain⟨p,hp,e⟩:=bI.mp h
   exact D5.mpr ⟨p,hp,decide_eq_true e⟩
  rw[if_pos this,if_pos h,eP]
  apply B1
  intro p _
  show(if p.1=k then (p.1,v) else p).1=p.1
  split<;>rfl
 ·have:¬ (kvs.any fun kv=>decide (kv.1=k))=true:=by
   intro z
   obtain⟨p,hp,e⟩:=D5.mp z
   exact h (bI.mpr ⟨p,hp,of_decide_eq_true e⟩)
  rw[if_neg this,if_neg h,kG]
  rfl
theorem BG.put{P:aC->Prop}{kvs:Kn}{s:aC}{d:D}(h:BG P kvs)(hs:P s):BG P (lT kvs (qA s) d):=by
 refine⟨fun p hp=>?_,?_⟩
 ·rcases qP hp with e|e
  ·exact⟨s,e,hs⟩
  ·obtain⟨q,hq,e⟩:=bI.mp e
   rw[<- e]
   exact h.1 q hq
 ·rw[zp]
  split
  ·exact h.2
  ·rename_i hn
   exact g9.mpr ⟨h.2,by simp,fun a ha b hb e=>by
    have:b=qA s:=by simpa using hb
    subst this;subst e;exact hn ha⟩
theorem BG.nil{P:aC->Prop}:BG P []:=⟨(fun p hp=>nomatch hp),lh⟩
theorem m5:∀ (l:List Int),cp (l.map D.int)=true
 |[]=>rfl
 |x :: l=>by simp[cp,m5 l,D.flat]
theorem jJ{n i:Nat}{lo:Int}{x:D}(h:(lH lo n)[i]? = some x):i<n/\x=.int (lo+(i:Nat)):=by
 unfold lH at h
 rw[mr] at h
 by_cases hi:i<n
 ·rw[List.getElem?_range hi] at h
  exact⟨hi,(Option.some.inj h).symm⟩
 ·rw[tP (by simpa using hi)] at h
  cases h
theorem jh(lo:Int)(n:Nat):(lH lo n).length=n:=by simp[lH]
theorem HD{names:List Str}{i:Int}(h0:0<=i)(h1:i<names.length):∃ n,n∈names/\ft (names.map D.str) i=some (.str n):=by
 have hn:i.toNat<names.length:=by lia
 refine⟨names[i.toNat],AI hn,?_⟩
 have:=L9 (xs:=names.map D.str) (j:=i.toNat) (v:=.str names[i.toNat]) (by simp[hn])
 rwa[B9 h0] at this
theorem name_mod{names:List Str}(x:Int)(h:1<=names.length):∃ n,n∈names/\ft (names.map D.str) (x % (names.length:Int))=some (.str n) :=
 HD (QD _ (by lia)) (QC _ (by lia))
theorem CN(l:List Int)(lo hi:Option Int):jI (l.map D.int) lo hi=(jI l lo hi).map D.int:=by
 unfold jI
 rw[bS,LD,LG]
theorem wg{n d:Nat}{k:Int}(h0:0<=k)(h1:k<=n):HT.bP n d (some k)=k.toNat:=by
 simp only[HT.bP]
 rw[if_neg (by lia)]
 lia
theorem fK{α:Type}[DecidableEq α]:∀ {l m:List α},l.Nodup->(∀ x∈l,x∈m)->l.length<=m.length
 |[],_,_,_=>fE _
 |x :: l,m,nd,h=>by
  obtain⟨hx,nd⟩:=js.mp nd
  have hm:=h x b5
  have:=fK (l:=l) (m:=m.erase x) nd fun y hy=>(List.mem_erase_of_ne (fun e=>by subst e;exact hx hy)).mpr (h y (b9 _ hy))
  rw[List.length_erase_of_mem hm] at this
  have:=List.length_pos_of_mem hm
  simp only[pS]
  lia
def cP(n:Nat):List Int:=(List.range n).map fun i=>((i:Nat):Int)
theorem gO(n:Nat):(cP n).length=n:=by simp[cP]
theorem cQ{n:Nat}{x:Int}:x∈cP n↔0<=x/\x<n:=by
 unfold cP
 rw[bI]
 constructor
 ·rintro⟨i,hi,rfl⟩
  have:=mI.mp hi
  lia
 ·intro ⟨h0,h1⟩
  exact⟨x.toNat,mI.mpr (by lia),by lia⟩
def eW(many:Int)(steps:List aC):Prop:=∀ s∈steps,Sw many s
theorem vB{κ β:Type}[DecidableEq κ]{kvs:List (κ × β)}{k:κ}:(kvs.any fun kv=>decide (kv.1=k))=true↔k∈kvs.map (·.1):=by
 rw[D5,bI]
 exact⟨fun⟨p,hp,e⟩=>⟨p,hp,of_decide_eq_true e⟩,fun⟨p,hp,e⟩=>⟨p,hp,decide_eq_true e⟩⟩
theorem uD{κ β:Type}[DecidableEq κ]:∀ {kvs:List (κ × β)} {k:κ},(dz kvs k).isSome=true↔k∈kvs.map (·.1)
 |[],k=>by simp[dz]
 |p :: kvs,k=>by
  have ih:=uD (kvs:=kvs) (k:=k)
  rw[fe,dr]
  by_cases h:p.1=k
  ·subst h;simp[dz]
  ·have:dz (p :: kvs) k=dz kvs k:=by simp[dz,h]
   rw[this,ih]
   exact⟨.inr,fun z=>z.elim (fun e=>absurd e.symm h) id⟩
def cC(l:List aC)(s:Int)(d:Str):List Int:=(l.filter fun t=>decide (t.1=s) && decide (t.2.1=d)).map (·.2.2)
theorem lr{l:List aC}{s:Int}{d:Str}{x:Int}:x∈cC l s d↔(s,d,x)∈l:=by
 unfold cC
 rw[bI]
 constructor
 ·rintro⟨⟨p,q,r⟩,ht,rfl⟩
  obtain⟨h1,e⟩:=y8.mp ht
  simp only[kK,decide_eq_true_eq] at e
  rw[<- e.1,<- e.2]
  exact h1
 ·exact fun h=>⟨_,y8.mpr ⟨h,by simp⟩,rfl⟩
theorem Dd(l:List aC)(s:Int)(d:Str):(cC l s d).length<=l.length:=by
 unfold cC
 rw[bS]
 exact SW _ _
def xC(l:List aC)(kvs:Kn):Prop:=∀ s d,dz kvs [.inl s,.inr d]=if cC l s d=[] then none else some (.list ((cC l s d).map .int))
theorem vI(k k':List Key)(x:D):∀ (kvs:Kn),dz (kU kvs k x) k'=if k'=k then some (match dz kvs k with
  |none=>.list [x]
  |some d=>PC d x) else dz kvs k'
 |[]=>by
  rw[kU,bL]
  by_cases h:k'=k
  ·rw[if_pos h.symm,if_pos h];rfl
  ·rw[if_neg fun e=>h e.symm,if_neg h]
 |p :: r=>by
  rw[kU]
  by_cases e:p.1=k
  ·rw[if_pos e,bL]
   by_cases h:k'=k
   ·rw[if_pos h,h,bL p r k,if_pos e,if_pos e]
   ·rw[if_neg h,bL p r k',if_neg fun z=>h (z.symm.trans e),if_neg fun z=>h (z.symm.trans e)]
  ·rw[if_neg e,bL,vI k k' x r]
   by_cases h:k'=k
   ·rw[if_pos h,h,bL p r k,if_neg e,if_neg e,if_pos rfl]
   ·rw[if_neg h,bL p r k',if_neg h]
theorem zR(k:List Key)(x:D):∀ (kvs:Kn),(kU kvs k x).length<=kvs.length+1
 |[]=>by simp[kU]
 |p :: r=>by
  have:=zR k x r
  rw[kU]
  split<;>simp only[pS]<;>lia
theorem xC.nil:xC [] []:=fun s d=>rfl
theorem xC.put{l:List aC}{kvs:Kn}(h:xC l kvs)(p:Int)(n:Str)(r:Int):xC (l++[(p,n,r)]) (kU kvs [.inl p,.inr n] (.int r)):=by
 intro s d
 rw[vI]
 have ee:cC (l++[(p,n,r)]) s d=cC l s d++if p=s/\n=d then [r] else []:=by
  unfold cC
  rw[List.filter_append,kG]
  congr 1
  by_cases e:p=s/\n=d
  ·simp[e.1,e.2]
  ·rw[if_neg e,List.filter_cons_of_neg (by simpa using e)];rfl
 by_cases e:p=s/\n=d
 ·rw[if_pos e] at ee
  obtain⟨rfl,rfl⟩:=e
  rw[ee,if_pos rfl,h p n,if_neg (show ¬ cC l p n++[r]=[] by simp)]
  by_cases z:cC l p n=[]
  ·rw[if_pos z,z];rfl
  ·rw[if_neg z];simp[PC]
 ·rw[if_neg e,qV] at ee
  rw[ee,if_neg fun z=>e ?_,h s d]
  simp only[List.cons.injEq,Sum.inl.injEq,Sum.inr.injEq,and_true] at z
  exact⟨z.1.symm,z.2.symm⟩
theorem BZ{l:List aC}{kvs:Kn}(h:xC l kvs){s:Int}{d:Str}{Q:Md->D->Prop}(q:Q .sh (.list ((cC l s d).map .int))):BE (dz kvs [.inl s,.inr d]) .sh .sh (.list []) Q:=by
 rw[h s d]
 by_cases z:cC l s d=[]
 ·rw[if_pos z];rw[z] at q;exact q
 ·rw[if_neg z];exact q
theorem Eo{steps:List aC}{i:Nat}{x:D}(h:(steps.map eB)[i]? = some x):∃ p d r,x=.tup [.int p,.str d,.int r]/\(p,d,r)∈steps/\steps.take (i+1)=steps.take i++[(p,d,r)]:=by
 rw[mr] at h
 cases e:steps[i]? with
 |none=>rw[e] at h;cases h
 |some s =>
  rw[e] at h
  cases h
  obtain⟨p,d,r⟩:=s
  exact⟨p,d,r,rfl,mn e,by rw[D3,e];rfl⟩
theorem int_at{l:List Int}{i:Nat}{x:D}(h:(l.map D.int)[i]? = some x):∃ c,x=.int c/\c∈l/\l.take (i+1)=l.take i++[c]:=by
 rw[mr] at h
 cases e:l[i]? with
 |none=>rw[e] at h;cases h
 |some s =>
  rw[e] at h
  cases h
  exact⟨s,rfl,mn e,by rw[D3,e];rfl⟩
abbrev Pr:=Str × Int
abbrev Ky:=Int × List Pr
def pf(p:Pr):List Key:=[.inr p.1,.inl p.2]
def kX(p:Pr):D:=.tup [.str p.1,.int p.2]
def g0(k:Ky):D:=.tup [.int k.1,.list (k.2.map kX)]
def AA(r:List Int):D:=.list (r.map .int)
def tJ(a b:Ky):Bool:=PySem.SeqAt.cS 3 (g0 a).py (g0 b).py
def sD(k:Ky):Prop:=∀ p∈k.2,PyData.strOk p.1=true
theorem Fe(k:Ky):(g0 k).py=.tuple [.int k.1,.list (k.2.map L2.nQ)]:=by
 show PyData.tuple [.int k.1,.list (lS (k.2.map kX))]=_
 rw[jB,eP]
 rfl
theorem sD.tI{k:Ky}(h:sD k):L2.tI (g0 k).py:=⟨k.1,k.2,Fe k,h⟩
theorem pX(a:Ky)(h:sD a):tJ a a=false:=L2.Si.ag.pe _ h.tI
theorem IW{a b c:Ky}(ha:sD a)(hb:sD b)(hc:sD c):tJ a b=true->tJ b c=true->tJ a c=true:=L2.Si.ag.tr _ _ _ ha.tI hb.tI hc.tI
theorem Gp{p q:Pr}(h:kX p=kX q):p=q:=by
 obtain⟨a,b⟩:=p
 obtain⟨c,d⟩:=q
 simp[kX] at h
 rw[h.1,h.2]
theorem G4{p q:Pr}(h:pf p=pf q):p=q:=by
 obtain⟨a,b⟩:=p
 obtain⟨c,d⟩:=q
 simp[pf] at h
 rw[h.1,h.2]
theorem map_inj{α β:Type}{f:α->β}(hf:∀ a b,f a=f b->a=b):∀ {l m:List α},l.map f=m.map f->l=m
 |[],[],_=>rfl
 |[],_ :: _,h=>by simp at h
 |_ :: _,[],h=>by simp at h
 |x :: l,y :: m,h=>by
  simp only[fe,List.cons.injEq] at h
  rw[hf _ _ h.1,map_inj hf h.2]
theorem yp{a b:Ky}(h:g0 a=g0 b):a=b:=by
 simp only[g0,D.tup.injEq,List.cons.injEq,D.int.injEq,D.list.injEq] at h
 exact Prod.ext h.1 (map_inj (fun _ _=>Gp) h.2.1)
theorem DW:∀ l:List Pr,vF (l.map kX)=true
 |[]=>rfl
 |x :: l=>by simp[vF,DW l,kX,D.nb]
theorem I_(k:Ky):(g0 k).nb=true:=by simp[g0,D.nb,vF,DW]
theorem xm(a b:Ky):hX (g0 a) (g0 b)=decide (a=b):=by
 rw[sF,qR _ _ (I_ a) (I_ b),decide_eq_true_iff]
 exact⟨yp,fun e=>by rw[e]⟩
theorem Gr{a b:Ky}(ha:sD a)(hb:sD b)(h1:tJ a b=false)(h2:tJ b a=false):a=b:=by
 have e:=L2.Si.ag.ag _ _ ha.tI hb.tI h1 h2
 have:hX (g0 a) (g0 b)=hX (g0 a) (g0 a):=by unfold hX;rw[e]
 rw[xm,xm] at this
 simpa using this
theorem Fq{a b:Ky}(h:a.1<b.1):tJ a b=true:=by
 unfold tJ
 rw[Fe,Fe,PySem.SeqAt.cS,PySem.SeqAt.nr]
 have:PyData.eqv (.int a.1) (.int b.1)=false:=by
  have:a.1≠b.1:=by lia
  simpa[PyData.eqv] using this
 rw[this,if_neg hU,PySem.SeqAt.cS]
 exact decide_eq_true h
theorem BK{k:Ky}(h:sD k)(n:Nat):cx (n+3) (g0 k)=true:=by
 have:∀ p∈k.2.map kX,cx (n+1) p=true:=fun d hd=>by
  obtain⟨p,hp,rfl⟩:=bI.mp hd
  simp[kX,cx,h p hp]
 simp only[g0,cx,AJ,List.all_nil,Qz,Bool.true_and,GH]
 exact this
theorem Ep{l:List Ky}(h:∀ k∈l,sD k)(n:Nat):cx (n+4) (.list (l.map g0))=true:=by
 simp only[cx,Qu,GH]
 exact fun k hk=>BK (h k hk) n
theorem JR(l:List Ky)(k:Ky):BD (l.map g0) (g0 k)=decide (k∈l):=by
 unfold BD
 rw[List.any_map,sF,D5,decide_eq_true_iff]
 constructor
 ·rintro⟨j,hj,e⟩
  have e:hX (g0 j) (g0 k)=true:=e
  rw[xm,decide_eq_true_iff] at e
  rwa[<- e]
 ·exact fun hk=>⟨k,hk,by show hX (g0 k) (g0 k)=true;rw[xm];exact decide_eq_true rfl⟩
theorem vf:∀ l:List Int,vF (l.map D.int)=true
 |[]=>rfl
 |x :: l=>by simp[vF,vf l,D.nb]
theorem K_(a b:List Int):hX (.list (a.map .int)) (.list (b.map .int))=decide (a=b):=by
 rw[sF,qR _ _ (by simp[D.nb,vf]) (by simp[D.nb,vf]),decide_eq_true_iff]
 refine⟨fun h=>map_inj (f:=D.int) (fun _ _=>D.int.inj) (D.list.inj h),fun e=>by rw[e]⟩
theorem yK(l:List Int)(n:Nat):cx (n+1) (.list (l.map .int))=true:=by
 simp[cx,Qu]
theorem Vo{α β:Type}{f:β->α}{P:β->Prop}:∀ {ks:List α},(∀ k∈ks,∃ s,k=f s/\P s)->∃ l:List β,ks=l.map f/\∀ s∈l,P s
 |[],_=>⟨[],rfl,fun s h=>nomatch h⟩
 |k :: ks,h=>by
  obtain⟨s,rfl,p⟩:=h k b5
  obtain⟨l,rfl,q⟩:=Vo fun k hk=>h k (b9 _ hk)
  refine⟨s :: l,rfl,fun t ht=>?_⟩
  rcases dr.mp ht with rfl|ht
  ·exact p
  ·exact q t ht
theorem vJ{α:Type}{lt:α->α->Prop}:∀ {l m:List α},(∀ a∈l,∀ b∈l,lt a b->lt b a->False)->l.Pairwise lt->m.Pairwise lt->(∀ x,x∈l↔x∈m)->l=m
 |[],[],_,_,_,_=>rfl
 |[],y :: m,_,_,_,h=>absurd ((h y).mpr b5) (by simp)
 |x :: l,[],_,_,_,h=>absurd ((h x).mp b5) (by simp)
 |x :: l,y :: m,as,hl,hm,h=>by
  obtain⟨a1,a2⟩:=List.pairwise_cons.mp hl
  obtain⟨b1,b2⟩:=List.pairwise_cons.mp hm
  have e:x=y:=by
   rcases dr.mp ((h x).mp b5) with e|e
   ·exact e
   ·rcases dr.mp ((h y).mpr b5) with e'|e'
    ·exact e'.symm
    ·exact(as x b5 y (b9 _ e') (a1 y e') (b1 x e)).elim
  subst e
  have pe:¬ lt x x:=fun z=>as x b5 x b5 z z
  rw[vJ (fun a ha b hb=>as a (b9 _ ha) b (b9 _ hb)) a2 b2 fun z=>⟨fun hz=>by
   rcases dr.mp ((h z).mp (b9 _ hz)) with e|e
   ·subst e;exact absurd (a1 z hz) pe
   ·exact e,fun hz=>by
   rcases dr.mp ((h z).mpr (b9 _ hz)) with e|e
   ·subst e;exact absurd (b1 z hz) pe
   ·exact e⟩]
def rk(cq:List Int)(s:Int):Int:=cq.getD s.toNat 0
structure PY(steps:List aC)(cq:List Int)(s:Int)(k:Ky):Prop where
 fst:k.1=rk cq s
 up:k.2.Pairwise fun a b=>gX (pf a) (pf b)=true
 mem:∀ p,p∈k.2↔∃ t∈steps,t.1=s/\p=(t.2.1,rk cq t.2.2)
theorem PY.ok{many:Int}{steps:List aC}{cq:List Int}{s:Int}{k:Ky}(a:PY steps cq s k)(h:eW many steps):sD k:=fun p hp=>by
 obtain⟨t,ht,_,rfl⟩:=(a.mem p).mp hp
 exact(h t ht).2.2.1.ok
structure y0(many:Int)(steps:List aC)(cq r:List Int)(ky:Int->Ky)(diff:List Ky):Prop where
 len:r.length=many.toNat
 key:∀ s,0<=s->s<many->PY steps cq s (ky s)
 up:diff.Pairwise fun a b=>tJ a b=true
 mem:∀ k,k∈diff↔∃ s,(0<=s/\s<many)/\k=ky s
 pos:∀ s,0<=s->s<many->0<=rk r s/\diff[(rk r s).toNat]? = some (ky s)
def RB(many:Int)(steps:List aC)(cq r:List Int):Prop:=∃ ky diff,y0 many steps cq r ky diff
section
variable {many:Int}{steps:List aC}{cq r:List Int}{ky:Int->Ky}{diff:List Ky}
theorem y0.ok(h:y0 many steps cq r ky diff)(bp:eW many steps){k:Ky}(hk:k∈diff):sD k:=by
 obtain⟨s,hs,rfl⟩:=(h.mem k).mp hk
 exact(h.key s hs.1 hs.2).ok bp
theorem Nj{l m:List Int}(hl:l.length=many.toNat)(hm:m.length=many.toNat)(h:∀ s,0<=s->s<many->rk l s=rk m s):l=m:=by
 apply List.ext_getElem (by lia)
 intro i h1 h2
 have:=h (i:Nat) (by lia) (by lia)
 unfold rk at this
 simpa[List.getD,h1,h2] using this
theorem y0.inj(h:y0 many steps cq r ky diff)(bp:eW many steps){i j:Nat}{k:Ky}(hi:diff[i]? = some k)(hj:diff[j]? = some k):i=j:=by
 obtain⟨FG,z0⟩:=iS.mp hi
 obtain⟨E3,FL⟩:=iS.mp hj
 have hk:k∈diff:=mn hi
 have pe:=pX k (h.ok bp hk)
 have pw:=y6.mp h.up
 rcases Nat.lt_trichotomy i j with e|e|e
 ·have:=pw i j FG E3 e
  rw[z0,FL,pe] at this;cases this
 ·exact e
 ·have:=pw j i E3 FG e
  rw[z0,FL,pe] at this;cases this
theorem y0.zP(h:y0 many steps cq r ky diff){s t:Int}(hs:0<=s/\s<many)(ht:0<=t/\t<many)(e:rk r s=rk r t):ky s=ky t:=by
 have p1:=(h.pos s hs.1 hs.2).2
 have p2:=(h.pos t ht.1 ht.2).2
 rw[e,p2] at p1
 exact(Option.some.inj p1).symm
theorem y0.lt(h:y0 many steps cq r ky diff)(bp:eW many steps){s t:Int}(hs:0<=s/\s<many)(ht:0<=t/\t<many):rk r s<rk r t↔tJ (ky s) (ky t)=true:=by
 have p1:=h.pos s hs.1 hs.2
 have p2:=h.pos t ht.1 ht.2
 have k1:=h.ok bp (mn p1.2)
 have k2:=h.ok bp (mn p2.2)
 obtain⟨a1,a2⟩:=iS.mp p1.2
 obtain⟨b1,b2⟩:=iS.mp p2.2
 have pw:=y6.mp h.up
 constructor
 ·intro l
  have:=pw _ _ a1 b1 (by lia)
  rwa[a2,b2] at this
 ·intro l
  by_cases z:rk r t<rk r s
  ·have:=pw _ _ b1 a1 (by lia)
   rw[a2,b2] at this
   have:=IW k1 k2 k1 l this
   rw[pX _ k1] at this;cases this
  ·by_cases z2:rk r s=rk r t
   ·have:=h.zP hs ht z2
    rw[this,pX _ k2] at l;cases l
   ·lia
theorem RB.mono(h:RB many steps cq r)(bp:eW many steps){s t:Int}(hs:0<=s/\s<many)(ht:0<=t/\t<many)(l:rk cq s<rk cq t):rk r s<rk r t:=by
 obtain⟨ky,diff,h⟩:=h
 refine(h.lt bp hs ht).mpr (Fq ?_)
 rw[(h.key s hs.1 hs.2).fst,(h.key t ht.1 ht.2).fst]
 exact l
theorem RB.hw'(h:RB many steps cq r){s t:Int}(hs:0<=s/\s<many)(ht:0<=t/\t<many)(e:rk r s=rk r t):rk cq s=rk cq t:=by
 obtain⟨ky,diff,h⟩:=h
 have:=h.zP hs ht e
 rw[<- (h.key s hs.1 hs.2).fst,<- (h.key t ht.1 ht.2).fst,this]
theorem RB.ZX(h:RB many steps cq r)(bp:eW many steps){t:aC}(ht:t∈steps){s:Int}(hs:0<=s/\s<many)(e:rk r t.1=rk r s):∃ u∈steps,u.1=s/\u.2.1=t.2.1/\rk cq u.2.2=rk cq t.2.2:=by
 obtain⟨ky,diff,h⟩:=h
 have hk:=h.zP ⟨(bp t ht).1,(bp t ht).2.1⟩ hs e
 have hm:=((h.key t.1 (bp t ht).1 (bp t ht).2.1).mem (t.2.1,rk cq t.2.2)).mpr ⟨t,ht,rfl,rfl⟩
 rw[hk] at hm
 obtain⟨u,hu,e1,e2⟩:=((h.key s hs.1 hs.2).mem _).mp hm
 exact⟨u,hu,e1,(Prod.mk.inj e2).1.symm,(Prod.mk.inj e2).2.symm⟩
def xU(many:Int)(r:List Int):Prop:=r.length=many.toNat/\(∀ s,0<=s->s<many->0<=rk r s/\rk r s<many)/\∀ s,0<=s->s<many->0<rk r s->∃ t,(0<=t/\t<many)/\rk r t=rk r s-1
theorem y0.short(h:y0 many steps cq r ky diff)(bp:eW many steps):diff.length<=many.toNat:=by
 have nd:diff.Nodup:=by
  rw[Qo]
  have:=y6.mp h.up
  rw[y6]
  intro i j hi hj kB e
  have z:=this i j hi hj kB
  rw[e,pX _ (h.ok bp (AI hj))] at z
  cases z
 have:=fK (m:=(cP many.toNat).map ky) nd fun k hk=>by
  obtain⟨s,hs,rfl⟩:=(h.mem k).mp hk
  exact bI.mpr ⟨s,cQ.mpr (by lia),rfl⟩
 rwa[bS,gO] at this
theorem RB.BV(h:RB many steps cq r)(bp:eW many steps):xU many r:=by
 obtain⟨ky,diff,h⟩:=h
 have sh:=h.short bp
 refine⟨h.len,fun s a b=>?_,fun s a b c=>?_⟩
 ·have p:=h.pos s a b
  have:=(iS.mp p.2).1
  lia
 ·have p:=h.pos s a b
  have l:=(iS.mp p.2).1
  have l2:(rk r s-1).toNat<diff.length:=by lia
  obtain⟨t,ht,e⟩:=(h.mem _).mp (AI l2)
  have p2:=h.pos t ht.1 ht.2
  have:=h.inj bp p2.2 (iS.mpr ⟨l2,e⟩)
  exact⟨t,ht,by lia⟩
theorem RB.grows(h:RB many steps cq r)(bp:eW many steps)(d:xU many cq):∀ (n:Nat) (s:Int),0<=s->s<many->rk cq s=n->rk cq s<=rk r s
 |0,s,a,b,e=>by rw[e];exact((h.BV bp).2.1 s a b).1
 |n+1,s,a,b,e=>by
  obtain⟨t,ht,et⟩:=d.2.2 s a b (by lia)
  have:=RB.grows h bp d n t ht.1 ht.2 (by lia)
  have:=h.mono bp ht ⟨a,b⟩ (by lia)
  lia
theorem RB.le(h:RB many steps cq r)(bp:eW many steps)(d:xU many cq){s:Int}(a:0<=s)(b:s<many):rk cq s<=rk r s :=
 h.grows bp d (rk cq s).toNat s a b (by have:=(d.2.1 s a b).1;lia)
end
theorem Ek:∀ {l m:List Int},l.length=m.length->(∀ (i:Nat) (h1:i<l.length) (h2:i<m.length),l[i]<=m[i])->l.sum<=m.sum/\(l≠m->l.sum<m.sum)
 |[],[],_,_=>⟨by simp,fun h=>absurd rfl h⟩
 |[],y :: m,h,_=>by simp at h
 |x :: l,[],h,_=>by simp at h
 |x :: l,y :: m,h,hl=>by
  have ih:=Ek (l:=l) (m:=m) (by simpa using h) fun i h1 h2=>by
   have:=hl (i+1) (by simp;lia) (by simp;lia)
   simpa using this
  have h0:x<=y:=by have:=hl 0 (by simp) (by simp);simpa using this
  simp only[List.sum_cons]
  refine⟨by have:=ih.1;lia,fun ne=>?_⟩
  by_cases e:x=y
  ·subst e
   have:l≠m:=fun z=>ne (by rw[z])
   have:=ih.2 this
   lia
  ·have:=ih.1
   lia
theorem sum_bound{l:List Int}{b:Int}(h:∀ x∈l,x<=b)(hb:0<=b):l.sum<=l.length*b:=by
 induction l with
 |nil=>simp
 |cons x l ih =>
  have:=ih fun y hy=>h y (b9 _ hy)
  have:=h x b5
  simp only[List.sum_cons,pS]
  have e:((l.length+1:Nat):Int)*b=l.length*b+b:=by rw[Int.natCast_add,Int.add_mul];simp
  lia
theorem GF{r:List Int}{i:Nat}(h:i<r.length):r[i]=rk r i:=by simp[rk,List.getD,h]
theorem RB.sum{many:Int}{steps:List aC}{cq r:List Int}(h:RB many steps cq r)(bp:eW many steps)(d:xU many cq)(hm:0<=many)(ne:r≠cq):cq.sum<r.sum/\r.sum<=many*many:=by
 have d2:=h.BV bp
 have hl:=d.1
 have sP:=d2.1
 refine⟨(Ek (by lia) fun i h1 h2=>?_).2 fun e=>ne e.symm,?_⟩
 ·rw[GF h1,GF h2]
  exact h.le bp d (by lia) (by lia)
 ·have:=sum_bound (l:=r) (b:=many) (fun x hx=>by
   obtain⟨i,hi,rfl⟩:=Qp.mp hx
   rw[GF hi]
   have:=(d2.2.1 i (by lia) (by lia)).2
   lia) hm
  rwa[sP,B9 hm] at this
def Chain(many:Int)(steps:List aC):List Int->List (List Int)->Prop
 |cur,[]=>RB many steps cur cur
 |cur,ml :: rest=>RB many steps cur ml/\ml≠cur/\Chain many steps ml rest
def jG(cur:List Int)(rest:List (List Int)):List Int:=(cur :: rest).getLast (by simp)
theorem xQ(cur ml:List Int)(rest:List (List Int)):jG cur (ml :: rest)=jG ml rest:=by simp[jG]
theorem Chain.last{many:Int}{steps:List aC}:∀ {cur:List Int} {rest:List (List Int)},Chain many steps cur rest->RB many steps (jG cur rest) (jG cur rest)
 |_,[],h=>h
 |cur,ml :: rest,h=>by rw[xQ];exact h.2.2.last
def zeros(many:Int):List Int:=List.replicate many.toNat 0
theorem k_(many s:Int):rk (zeros many) s=0:=by
 unfold rk zeros
 by_cases h:s.toNat<many.toNat
 ·simp[List.getD,h]
 ·rw[List.getD,tP (by simpa using h)];rfl
theorem uY{many:Int}(h:1<=many):xU many (zeros many) :=
 ⟨by simp[zeros],fun s _ _=>by rw[k_];lia,fun s _ _ z=>by rw[k_] at z;lia⟩
def Kinds(many:Int)(steps:List aC)(k:List Int):Prop:=∃ rest,Chain many steps (zeros many) rest/\k=jG (zeros many) rest
theorem CW{ps:List Pr}(hl:ps.length<=63){m:Md}{Q:Md->D->Prop}(k:∀ l:List Pr,l.Pairwise (fun a b=>gX (pf a) (pf b)=true)->(∀ p,p∈l↔p∈ps)->Q (.ow true) (.list (l.map kX))) :
  gD m (.list (ps.map kX)) Q:=by
 refine⟨ps.map pf,[true],by rw[eP];rfl,by rw[bS];exact hl,fun k hk=>?_,fun ms nd mm pw=>?_⟩
 ·obtain⟨p,_,rfl⟩:=bI.mp hk
  rfl
 ·obtain⟨l,rfl,hp⟩:=Vo (f:=pf) (P:=fun p=>p∈ps) (ks:=ms) fun k hk=>by
   obtain⟨p,hp,e⟩:=bI.mp ((mm k).mp hk)
   exact⟨p,e.symm,hp⟩
  have e:(l.map pf).map kR=l.map kX:=by rw[eP];rfl
  rw[e]
  refine k l ?_ fun p=>⟨hp p,fun hJ=>?_⟩
  ·rw[pE] at pw
   have PH:l.Pairwise fun a b=>pf a≠pf b:=by
    rw[List.Nodup,pE] at nd
    exact nd
   refine(pw.and PH).imp fun {a b} ⟨h1,h2⟩=>?_
   cases h3:gX (pf a) (pf b) with
   |true=>rfl
   |false=>exact absurd (uX (a:=pf a) (b:=pf b) rfl h3 h1) h2
  ·obtain⟨q,hq,e⟩:=bI.mp ((mm (pf p)).mpr (bI.mpr ⟨p,hJ,rfl⟩))
   rw[<- G4 e]
   exact hq
def nE(steps:List aC)(s:Int):List Pr:=(steps.filter fun t=>decide (t.1=s)).map (·.2)
def pj(many:Int)(steps:List aC):List D:=(cP many.toNat).map fun s=>.list ((nE steps s).map kX)
def wm(many:Int)(steps:List aC):D:=.list (pj many steps)
theorem JB(many:Int):((lH 0 many.toNat).filter fun _=>true).map (fun _=>D.list [])=pj many []:=by
 unfold pj lH cP
 rw[Lc.mpr fun _ _=>rfl,eP,eP]
 rfl
theorem G7{many s:Int}(steps:List aC)(h0:0<=s)(h1:s<many):(pj many steps)[s.toNat]? = some (.list ((nE steps s).map kX)):=by
 have:s.toNat<many.toNat:=by lia
 simp[pj,cP,this,B9 h0]
theorem lR(many:Int)(steps:List aC):(pj many steps).length=many.toNat:=by simp[pj,cP]
theorem Bd{n:Nat}{i:Int}(h0:0<=i)(h1:i<n):mw n i=some i.toNat:=by unfold mw;rw[if_pos h0,if_pos h1]
theorem Dv(steps:List aC)(p:Int)(d:Str)(r s:Int):nE (steps++[(p,d,r)]) s=if p=s then nE steps s++[(d,r)] else nE steps s:=by
 unfold nE
 by_cases h:p=s
 ·simp[h]
 ·simp[h]
theorem Jb{many p:Int}(steps:List aC)(d:Str)(r:Int)(h0:0<=p)(h1:p<many):(pj many steps).set p.toNat (.list ((nE steps p).map kX++[.tup [.str d,.int r]]))=pj many (steps++[(p,d,r)]):=by
 apply D2
 intro i
 by_cases hi:i<many.toNat
 ·have e:∀ st,(pj many st)[i]? = some (.list ((nE st (i:Nat)).map kX)):=fun st=>by
   have:=G7 (many:=many) (s:=(i:Nat)) st (by lia) (by lia)
   simpa using this
  rw[e,Dv]
  by_cases hp:p=(i:Nat)
  ·subst hp
   rw[if_pos rfl]
   simp[lR,hi,kX]
  ·rw[if_neg hp,GB (by lia),e]
 ·rw[tP (by rw[List.length_set,lR];lia),tP (by rw[lR];lia)]
theorem Hg{many s:Int}(steps:List aC)(h0:0<=s)(h1:s<many):ft (pj many steps) s=some (.list ((nE steps s).map kX)) :=
 Ax (Bd h0 (by rw[lR];lia)) (G7 steps h0 h1)
theorem Dr{many s:Int}{r:List Int}(hl:r.length=many.toNat)(h0:0<=s)(h1:s<many):ft (r.map D.int) s=some (.int (rk r s)):=by
 have h:s.toNat<r.length:=by lia
 refine Ax (Bd h0 (by rw[bS];lia)) ?_
 simp[rk,List.getD,h]
theorem vD{steps:List aC}{s:Int}{p:Pr}(h:p∈nE steps s):∃ t∈steps,t.1=s/\t.2=p:=by
 obtain⟨t,ht,e⟩:=bI.mp h
 obtain⟨ht,hs⟩:=y8.mp ht
 exact⟨t,ht,of_decide_eq_true hs,e⟩
theorem zZ{steps:List aC}{t:aC}(h:t∈steps):t.2∈nE steps t.1:=bI.mpr ⟨t,y8.mpr ⟨h,decide_eq_true rfl⟩,rfl⟩
theorem yt(steps:List aC)(s:Int):(nE steps s).length<=steps.length:=by
 unfold nE
 rw[bS]
 exact SW _ _
theorem z7(many:Int):(List.replicate many.toNat [D.int 0]).flatten=(zeros many).map D.int:=by
 unfold zeros
 generalize many.toNat=n
 induction n with
 |zero=>rfl
 |succ n ih=>rw[xD,AH,ih,xD];rfl
theorem RB.len{many:Int}{steps:List aC}{cq r:List Int}(h:RB many steps cq r):r.length=many.toNat:=by
 obtain⟨ky,diff,h⟩:=h
 exact h.len
abbrev P2:=Int × Int
def gv(p:P2):List Key:=[.inl p.1,.inl p.2]
def kz(p:P2):D:=.tup [.int p.1,.int p.2]
theorem zG{p q:P2}(h:gv p=gv q):p=q:=by
 obtain⟨a,b⟩:=p
 obtain⟨c,d⟩:=q
 simp only[gv,List.cons.injEq,Sum.inl.injEq,and_true] at h
 rw[h.1,h.2]
theorem ql:∀ (l:List P2),cp (l.map kz)=true
 |[]=>rfl
 |x :: l=>by simp[cp,ql l,kz,D.flat]
theorem za{l:List P2}{i:Nat}{x:D}(h:(l.map kz)[i]? = some x):∃ p q,x=.tup [.int p,.int q]/\(p,q)∈l/\l.take (i+1)=l.take i++[(p,q)]:=by
 rw[mr] at h
 cases e:l[i]? with
 |none=>rw[e] at h;cases h
 |some s =>
  rw[e] at h
  cases h
  exact⟨s.1,s.2,rfl,mn e,by rw[D3,e];rfl⟩
def eT(many:Int)(p:P2):Prop:=(0<=p.1/\p.1<many)/\0<=p.2/\p.2<many
def px(ks:List P2):Kn:=ks.map fun p=>(gv p,.bl true)
theorem lZ(ks:List P2):(px ks).map (·.1)=ks.map gv:=by simp[px,eP,Function.comp_def]
theorem rH(ks:List P2):(px ks).length=ks.length:=by simp[px]
theorem jr{ks:List P2}{x:P2}:gv x∈ks.map gv↔x∈ks:=by
 rw[bI]
 exact⟨fun⟨y,hy,e⟩=>zG e ▸ hy,fun h=>⟨x,h,rfl⟩⟩
def BH(ks:List P2)(x:P2):List P2:=if x∈ks then ks else ks++[x]
theorem vZ(ks:List P2)(x:P2):lT (px ks) (gv x) (.bl true)=px (BH ks x):=by
 unfold lT BH
 by_cases h:x∈ks
 ·rw[if_pos (vB.mpr (by rw[lZ];exact jr.mpr h)),if_pos h]
  unfold px
  rw[eP]
  apply B1
  intro p _
  show(if gv p=gv x then (gv p,D.bl true) else (gv p,D.bl true))=_
  split<;>rfl
 ·rw[if_neg fun z=>h (jr.mp (by rw[<- lZ];exact vB.mp z)),if_neg h]
  simp[px]
theorem Cu(ks:List P2)(x:P2):(dz (px ks) (gv x)).isSome=decide (x∈ks):=by
 rw[sF,uD,lZ,jr,decide_eq_true_eq]
theorem qd{ks:List P2}{x y:P2}:y∈BH ks x↔y∈ks\/y=x:=by
 unfold BH
 split
 ·rename_i h
  exact⟨.inl,fun z=>z.elim id fun e=>e ▸ h⟩
 ·simp
theorem o_{ks:List P2}{x:P2}(h:ks.Nodup):(BH ks x).Nodup:=by
 unfold BH
 split
 ·exact h
 ·rename_i n
  exact g9.mpr ⟨h,by simp,fun a ha b hb e=>n (by rw[<- kg.mp hb,<- e];exact ha)⟩
theorem CK(ks:List P2)(x:P2):(BH ks x).length<=ks.length+1:=by
 unfold BH
 split<;>simp
structure FP(ps ks:List P2):Prop where
 nd:ks.Nodup
 mem:∀ x,x∈ks↔x∈ps
 len:ks.length<=ps.length
theorem FP.nil:FP [] []:=⟨lh,fun _=>Iff.rfl,by simp⟩
theorem FP.put{ps ks:List P2}(h:FP ps ks)(x:P2):FP (ps++[x]) (BH ks x):=⟨o_ h.nd,fun y=>by rw[qd,dy,kg,h.mem],by
 have:=CK ks x
 have:=h.len
 rw[kF,List.length_singleton]
 lia⟩
def BI(l:List aC)(ps:List P2)(p q:Int):Prop:=∀ d e,(p,d,e)∈l->∃ o,(q,d,o)∈l/\(e,o)∈ps
def ZY(l:List aC)(ps:List P2)(p q:Int):Prop:=∀ d o,(q,d,o)∈l->∃ e,(p,d,e)∈l/\(e,o)∈ps
def Sx(l:List aC)(ps:List P2)(p:P2):Prop:=BI l ps p.1 p.2/\ZY l ps p.1 p.2
theorem BI.congr{l:List aC}{ps qs:List P2}(h:∀ x,x∈ps↔x∈qs){p q:Int}:BI l ps p q↔BI l qs p q:=by
 unfold BI
 simp only[h]
theorem Dw(ks:List P2):(px ks).map (fun kv=>kR kv.1)=ks.map kz:=by unfold px;rw[eP];rfl
theorem Ja{l:List Pr}{i:Nat}{x:D}(h:(l.map kX)[i]? = some x):∃ d e,x=.tup [.str d,.int e]/\(d,e)∈l/\l.take (i+1)=l.take i++[(d,e)]:=by
 rw[mr] at h
 cases e:l[i]? with
 |none=>rw[e] at h;cases h
 |some s =>
  rw[e] at h
  cases h
  exact⟨s.1,s.2,rfl,mn e,by rw[D3,e];rfl⟩
theorem rM{steps:List aC}{s:Int}{d:Str}{e:Int}:(d,e)∈nE steps s↔(s,d,e)∈steps:=by
 constructor
 ·intro h
  obtain⟨t,ht,e1,e2⟩:=vD h
  obtain⟨a,b,c⟩:=t
  cases e1
  cases e2
  exact ht
 ·exact fun h=>zZ h
theorem lA{α:Type}{l:List α}{i:Nat}{x:α}{P:α->Prop}(tk:l.take (i+1)=l.take i++[x])(h:∀ y∈l.take i,P y)(hx:P x):∀ y∈l.take (i+1),P y:=fun y hy=>by
 rw[tk] at hy
 rcases dy.mp hy with hy|hy
 ·exact h y hy
 ·rw[kg.mp hy];exact hx
def SM(l:List aC)(ps:List P2):Prop:=∀ p∈ps,BI l ps p.1 p.2
def ZZ(f:Int->D):D->D
 |.int o=>f o
 |_=>.non
theorem Fi(f:Int->D)(l:List Int):(((l.map D.int).filter fun _=>true).map (ZZ f))=l.map f:=by
 rw[Lc.mpr fun _ _=>rfl,eP]
 rfl
theorem RB.iff{many:Int}{steps:List aC}{cq r:List Int}(h:RB many steps cq r)(bp:eW many steps){s t:Int}(hs:0<=s/\s<many)(ht:0<=t/\t<many) :
  rk r s=rk r t↔rk cq s=rk cq t/\(∀ d e,(s,d,e)∈steps->∃ o,(t,d,o)∈steps/\rk cq e=rk cq o)/\∀ d o,(t,d,o)∈steps->∃ e,(s,d,e)∈steps/\rk cq e=rk cq o:=by
 constructor
 ·intro e
  refine⟨h.hw' hs ht e,fun d x hx=>?_,fun d o ho=>?_⟩
  ·obtain⟨⟨a,b,c⟩,hu,e1,e2,e3⟩:=h.ZX bp hx ht e
   cases e1
   cases e2
   exact⟨c,hu,e3.symm⟩
  ·obtain⟨⟨a,b,c⟩,hu,e1,e2,e3⟩:=h.ZX bp ho hs e.symm
   cases e1
   cases e2
   exact⟨c,hu,e3⟩
 ·rintro⟨e0,f,b⟩
  obtain⟨ky,diff,h⟩:=h
  have ks:=h.key s hs.1 hs.2
  have kt:=h.key t ht.1 ht.2
  have e:ky s=ky t:=by
   refine Prod.ext (by rw[ks.fst,kt.fst,e0]) (vJ (fun x _ y _ h1 h2=>by have:=wV h1 h2;rw[uE] at this;cases this) ks.up kt.up fun p=>?_)
   rw[ks.mem,kt.mem]
   constructor
   ·rintro⟨⟨a,d,e⟩,hu,rfl,rfl⟩
    obtain⟨o,ho,m⟩:=f d e hu
    exact⟨_,ho,rfl,by show(d,rk cq e)=(d,rk cq o);rw[m]⟩
   ·rintro⟨⟨a,d,o⟩,hu,rfl,rfl⟩
    obtain⟨e,he,m⟩:=b d o hu
    exact⟨_,he,rfl,by show(d,rk cq o)=(d,rk cq e);rw[m]⟩
  have p1:=h.pos s hs.1 hs.2
  have p2:=h.pos t ht.1 ht.2
  rw[<- e] at p2
  have:=h.inj bp p1.2 p2.2
  lia
structure Rds(many:Int)(steps:List aC)(rest:List (List Int))(f:Nat->List Int):Prop where
 zero:f 0=zeros many
 ml:∀ k,RB many steps (f k) (f (k+1))
 at':∀ k,k<=rest.length->(zeros many :: rest)[k]? = some (f k)
 fq:∀ k,rest.length<=k->f k=f rest.length
theorem Chain.sq{many:Int}{steps:List aC}:∀ {cur:List Int} {rest:List (List Int)},Chain many steps cur rest->∃ f:Nat->List Int,f 0=cur/\(∀ k,RB many steps (f k) (f (k+1)))/\(∀ k,k<=rest.length->(cur :: rest)[k]? = some (f k))/\∀ k,rest.length<=k->f k=f rest.length
 |cur,[],h=>⟨fun _=>cur,rfl,fun _=>h,fun k hk=>by
   have:k=0:=Nat.le_zero.mp hk
   subst this
   rfl,fun _ _=>rfl⟩
 |cur,ml :: rest,h=>by
  obtain⟨f,f0,fn,fa,fs⟩:=h.2.2.sq
  refine⟨fun k=>Nat.casesOn k cur f,rfl,fun k=>?_,fun k hk=>?_,fun k hk=>?_⟩
  ·cases k with
   |zero=>show RB many steps cur (f 0);rw[f0];exact h.1
   |succ k=>exact fn k
  ·cases k with
   |zero=>rfl
   |succ k=>exact fa k (Nat.le_of_succ_le_succ hk)
  ·cases k with
   |zero=>exact absurd hk (by simp)
   |succ k=>exact fs k (Nat.le_of_succ_le_succ hk)
theorem Chain.rds{many:Int}{steps:List aC}{rest:List (List Int)}(h:Chain many steps (zeros many) rest):∃ f,Rds many steps rest f:=by
 obtain⟨f,a,b,c,d⟩:=h.sq
 exact⟨f,a,b,c,d⟩
def LS(many:Int)(l:List aC):Nat->P2->Prop
 |0,x=>eT many x
 |k+1,x=>LS many l k x/\(∀ d e,(x.1,d,e)∈l->∃ o,(x.2,d,o)∈l/\LS many l k (e,o))/\∀ d o,(x.2,d,o)∈l->∃ e,(x.1,d,e)∈l/\LS many l k (e,o)
theorem LS.both{many:Int}{l:List aC}{k:Nat}{ks:List P2}(h:∀ x,x∈ks↔LS many l k x)(x:P2):LS many l (k+1) x↔x∈ks/\Sx l ks x:=by
 unfold Sx BI ZY
 simp only[h]
 exact Iff.rfl
theorem LS.le{many:Int}{l:List aC}{x:P2}:∀ {v u:Nat},u<=v->LS many l v x->LS many l u x
 |0,u,hu,e=>by
  have:u=0:=Nat.le_zero.mp hu
  subst this
  exact e
 |v+1,u,hu,e=>by
  rcases zk v u with z|z
  ·have:u=v+1:=by lia
   subst this
   exact e
  ·exact LS.le z e.1
def Vp(many:Int)(l:List aC)(x:P2)(v:Nat):Prop:=¬ LS many l v x/\∀ u,u<v->LS many l u x
structure Vq(many:Int)(l:List aC)(k:Nat)(kvs:Kn):Prop where
 get:∀ x:P2,eT many x->∀ d,dz kvs (gv x)=some d↔∃ v:Nat,v<=k/\d=.int (v:Nat)/\Vp many l x v
 key:∀ kv∈kvs,∃ x:P2,eT many x/\kv.1=gv x
theorem Cg(cur:List Int)(rest:List (List Int)):(cur :: rest)[rest.length]? = some (jG cur rest):=by
 unfold jG
 rw[List.getLast_eq_getElem]
 simp
theorem Kinds.rb{many:Int}{l:List aC}{k:List Int}(h:Kinds many l k):RB many l k k:=by
 obtain⟨rest,hc,rfl⟩:=h
 exact hc.last
theorem Kinds.same{many:Int}{l:List aC}{k:List Int}{ps:List P2}(h:Kinds many l k)(bp:eW many l)(hi:∀ x∈ps,eT many x)(hb:∀ x∈ps,Sx l ps x):∀ x∈ps,rk k x.1=rk k x.2:=by
 obtain⟨rest,hc,rfl⟩:=h
 obtain⟨f,hf⟩:=hc.rds
 have go:∀ i,∀ x∈ps,rk (f i) x.1=rk (f i) x.2:=fun i=>by
  induction i with
  |zero=>intro x _;rw[hf.zero,k_,k_]
  |succ i ih =>
   intro x hx
   have b:=hb x hx
   refine((hf.ml i).iff bp (hi x hx).1 (hi x hx).2).mpr ⟨ih x hx,fun d e he=>?_,fun d o ho=>?_⟩
   ·obtain⟨o,ho,m⟩:=b.1 d e he
    exact⟨o,ho,ih _ m⟩
   ·obtain⟨e,he,m⟩:=b.2 d o ho
    exact⟨e,he,ih _ m⟩
 have e:=hf.at' rest.length (ck _)
 rw[Cg] at e
 rw[Option.some.inj e]
 exact go _
abbrev Mp:=List (P2 × D)
def dS(mp:Mp):List P2:=mp.map (·.1)
def g7(mp:Mp):Kn:=mp.map fun x=>(gv x.1,x.2)
theorem qp(mp:Mp):(g7 mp).map (·.1)=(dS mp).map gv:=by simp[g7,dS,eP,Function.comp_def]
theorem l_(mp:Mp):(g7 mp).length=mp.length:=by simp[g7]
theorem jD(mp:Mp)(x:P2):(dz (g7 mp) (gv x)).isSome=decide (x∈dS mp):=by
 rw[sF,uD,qp,jr,decide_eq_true_eq]
theorem yw{mp:Mp}{x:P2}(h:x∈dS mp):∃ d,dz (g7 mp) (gv x)=some d/\(x,d)∈mp:=by
 have:(dz (g7 mp) (gv x)).isSome=true:=by rw[jD];exact decide_eq_true h
 obtain⟨d,e⟩:=S9.mp this
 obtain⟨q,hq,e'⟩:=QF.mp e
 obtain⟨y,hy,rfl⟩:=bI.mp (List.mem_of_find?_eq_some hq)
 have e2:gv y.1=gv x:=by simpa using List.find?_some hq
 have e3:=zG e2
 refine⟨d,e,?_⟩
 rw[<- e3,<- e']
 exact hy
theorem G6{mp:Mp}{x:P2}(d:D)(h:x∉dS mp):lT (g7 mp) (gv x) d=g7 (mp++[(x,d)]):=by
 unfold lT
 rw[if_neg fun z=>h (jr.mp (by rw[<- qp];exact vB.mp z))]
 simp[g7]
def BM(l:List aC)(ks:List P2)(p:P2):Prop:=∃ d e,(p.1,d,e)∈l/\∀ o,(p.2,d,o)∈l->(e,o)∈ks
def Rk(l:List aC):Nat->P2->Prop
 |0,_=>False
 |n+1,p=>Rk l n p\/∃ d e,(p.1,d,e)∈l/\∀ o,(p.2,d,o)∈l->Rk l n (e,o)
theorem Rk.mono{l:List aC}{p:P2}{n m:Nat}(h:n<=m)(r:Rk l n p):Rk l m p:=by
 induction h with
 |refl=>exact r
 |step _ ih=>exact .inl ih
def Z0(l:List aC)(n:Nat)(p:P2):Prop:=Rk l n p/\∀ m,m<n->¬ Rk l m p
structure qB(many:Int)(l:List aC)(f:Nat->D->Prop)(n:Nat)(mp:Mp):Prop where
 nd:(dS mp).Nodup
 pz:∀ x∈mp,eT many x.1/\∃ k,k<=n/\Z0 l k x.1/\f k x.2
 all:∀ p,eT many p->Rk l n p->p∈dS mp
theorem qB.nil{many:Int}{l:List aC}{f:Nat->D->Prop}:qB many l f 0 []:=⟨lh,(fun x hx=>nomatch hx),fun p _ r=>r.elim⟩
section
variable {many:Int}{l:List aC}{f:Nat->D->Prop}{n:Nat}{mp:Mp}
theorem qB.mem(h:qB many l f n mp){p:P2}(hp:eT many p):p∈dS mp↔Rk l n p:=by
 refine⟨fun m=>?_,h.all p hp⟩
 obtain⟨x,hx,rfl⟩:=bI.mp m
 obtain⟨_,k,hk,fs,_⟩:=h.pz x hx
 exact fs.1.mono hk
theorem qB.Vs(h:qB many l f n mp)(bp:eW many l){p:P2}:BM l (dS mp) p↔∃ d e,(p.1,d,e)∈l/\∀ o,(p.2,d,o)∈l->Rk l n (e,o):=by
 constructor
 ·rintro⟨d,e,he,ho⟩
  exact⟨d,e,he,fun o hm=>(h.mem ⟨(bp _ he).2.2.2,(bp _ hm).2.2.2⟩).mp (ho o hm)⟩
 ·rintro⟨d,e,he,ho⟩
  exact⟨d,e,he,fun o hm=>(h.mem ⟨(bp _ he).2.2.2,(bp _ hm).2.2.2⟩).mpr (ho o hm)⟩
theorem pairs_len{ks:List P2}(nd:ks.Nodup)(h:∀ x∈ks,eT many x):ks.length<=many.toNat*many.toNat:=by
 have:=fK (m:=(cP many.toNat).flatMap fun a=>(cP many.toNat).map fun b=>(a,b)) nd fun x hx=>List.mem_flatMap.mpr ⟨x.1,cQ.mpr (by have:=h x hx;unfold eT at this;lia),bI.mpr ⟨x.2,cQ.mpr (by have:=h x hx;unfold eT at this;lia),rfl⟩⟩
 refine gE this (AQ ?_)
 rw[List.length_flatMap,show(fun a=>((cP many.toNat).map fun b=>(a,b)).length)=fun _:Int=>many.toNat from funext fun a=>by rw[bS,gO],List.map_const',List.sum_replicate_nat,gO]
theorem qB.len(h:qB many l f n mp)(hm:many<=12):mp.length<=144:=by
 have:=pairs_len (many:=many) h.nd fun x hx=>by
  obtain⟨y,hy,rfl⟩:=bI.mp hx
  exact(h.pz y hy).1
 rw[dS,bS] at this
 have:many.toNat*many.toNat<=12*12:=B6 (by lia) (by lia)
 lia
structure PZ(many:Int)(l:List aC)(mp:Mp)(g:D->Prop)(fm:Mp):Prop where
 nd:(dS fm).Nodup
 pz:∀ x∈fm,eT many x.1/\x.1∉dS mp/\BM l (dS mp) x.1/\g x.2
 all:∀ p,eT many p->p∉dS mp->BM l (dS mp) p->p∈dS fm
theorem qB.next(h:qB many l f n mp)(bp:eW many l){fm:Mp}(x:PZ many l mp (f (n+1)) fm):qB many l f (n+1) (mp++fm):=by
 refine⟨?_,fun y hy=>?_,fun p hp r=>?_⟩
 ·rw[dS,kG]
  refine g9.mpr ⟨h.nd,x.nd,fun a ha b hb e=>?_⟩
  obtain⟨y,hy,rfl⟩:=bI.mp hb
  exact(x.pz y hy).2.1 (e ▸ ha)
 ·rcases dy.mp hy with hy|hy
  ·obtain⟨i,k,hk,z⟩:=h.pz y hy
   exact⟨i,k,by lia,z⟩
  ·obtain⟨i,nm,ms,g⟩:=x.pz y hy
   refine⟨i,n+1,ck _,⟨.inr ((h.Vs bp).mp ms),fun m hm r=>nm ((h.mem i).mpr (r.mono (by lia)))⟩,g⟩
 ·rw[dS,kG,dy]
  by_cases e:p∈dS mp
  ·exact .inl e
  ·refine .inr (x.all p hp e ?_)
   rcases r with r|r
   ·exact absurd ((h.mem hp).mpr r) e
   ·exact(h.Vs bp).mpr r
theorem Bt(h:qB many l f n mp)(bp:eW many l){g:D->Prop}(x:PZ many l mp g []){p:P2}(hp:eT many p):∀ k,Rk l (n+k) p->Rk l n p:=by
 intro k
 induction k generalizing p with
 |zero=>exact id
 |succ k ih =>
  rintro(r|⟨d,e,he,ho⟩)
  ·exact ih hp r
  ·by_cases z:p∈dS mp
   ·exact(h.mem hp).mp z
   ·have:=x.all p hp z ((h.Vs bp).mpr ⟨d,e,he,fun o hm=>ih ⟨(bp _ he).2.2.2,(bp _ hm).2.2.2⟩ (ho o hm)⟩)
    exact nomatch this
structure All(many:Int)(l:List aC)(f:Nat->D->Prop)(mp:Mp):Prop where
 nd:(dS mp).Nodup
 pz:∀ x∈mp,eT many x.1/\∃ k,Z0 l k x.1/\f k x.2
 all:∀ p,eT many p->p∉dS mp->∀ k,¬ Rk l k p
theorem qB.end(h:qB many l f n mp)(bp:eW many l){g:D->Prop}(x:PZ many l mp g []):All many l f mp:=by
 refine⟨h.nd,fun y hy=>?_,fun p hp z k r=>z (h.all p hp ?_)⟩
 ·obtain⟨i,k,_,z⟩:=h.pz y hy
  exact⟨i,k,z⟩
 ·exact Bt h bp x hp k (r.mono (by lia))
end
def uQ(n:Nat)(d:D):Prop:=∃ s e,d=.tup [.int n,.str s,.int e]
theorem dR(x:Int){m:Int}(h:0<m):0<=x % m/\x % m<m:=⟨QD _ (by lia),QC _ h⟩
theorem tW{a b:Int}(h0:-1000<=b)(h1:b<=10000000000):EH a b:=.inr ⟨by lia,by lia⟩
theorem CP(l:List Str)(lo hi:Option Int):jI (l.map D.str) lo hi=(jI l lo hi).map D.str:=by
 unfold jI
 rw[bS,LD,LG]
theorem H_{α:Type}{l:List α}{a b:Int}(h0:0<=a)(h1:a<b)(h2:a<l.length):1<=(jI l (some a) (some b)).length/\(jI l (some a) (some b)).length<=l.length/\∀ x∈jI l (some a) (some b),x∈l:=by
 have e:HT.bP l.length 0 (some a)=a.toNat:=wg h0 (by lia)
 have e2:a.toNat<HT.bP l.length l.length (some b):=by
  simp only[HT.bP]
  rw[if_neg (by lia)]
  lia
 unfold jI
 rw[e,qS,B3]
 exact⟨by lia,by lia,fun x hx=>SX (Qq hx)⟩
theorem uz{α:Type}(l:List α):l.filter (fun _=>true)=l:=Lc.mpr fun _ _=>rfl
theorem ug{α β:Type}{f:α->β}{l:List α}(h:(l.map f).Nodup):l.Nodup:=by
 rw[List.Nodup,pE] at h
 exact h.imp fun wa e=>wa (by rw[e])
def P1(steps:List aC):List Str:=steps.map (·.2.1)
def Kd (pool:List Str) (l:List aC):Prop:=∀ s∈l,s.2.1 = "*"\/s.2.1∈pool
def Z1(a:Int)(s:aC):aC:=(s.1+a,s.2.1,s.2.2+a)
def jn(a:Int)(l1 l2:List aC):List aC:=l1++l2.map (Z1 a)
def Can(l:List aC)(p:P2):Prop:=∀ n,¬ Rk l n p
def DT(many:Int)(l:List aC):Prop:=(1<=many/\many<=12)/\eW many l/\l.length<=63
theorem Bg{l:List aC}{S:P2->Prop}(h:∀ p,S p->∀ d e,(p.1,d,e)∈l->∃ o,(p.2,d,o)∈l/\S (e,o)){p:P2}(hp:S p):Can l p:=by
 intro n
 induction n generalizing p with
 |zero=>exact id
 |succ n ih =>
  rintro(r|⟨d,e,he,ho⟩)
  ·exact ih hp r
  ·obtain⟨o,hm,s⟩:=h p hp d e he
   exact ih s (ho o hm)
theorem Can.sim{l:List aC}{p q:Int}(c:Can l (p,q)){d:Str}{e:Int}(he:(p,d,e)∈l):∃ o,(q,d,o)∈l/\Can l (e,o):=by
 refine Classical.byContradiction fun z=>?_
 have go:∀ xs:List aC,(∀ t∈xs,t∈l)->∃ n,∀ t∈xs,t.1=q->t.2.1=d->Rk l n (e,t.2.2):=fun xs=>by
  induction xs with
  |nil=>exact fun _=>⟨0,fun t ht=>nomatch ht⟩
  |cons t xs ih =>
   intro hs
   obtain⟨n,hn⟩:=ih fun u hu=>hs u (b9 _ hu)
   by_cases y:t.1=q/\t.2.1=d
   ·have nc:¬ Can l (e,t.2.2):=fun cc=>z ⟨t.2.2,by rw[<- y.1,<- y.2];exact hs t b5,cc⟩
    obtain⟨m,hm⟩:=Classical.not_forall.mp nc
    have hm:=Classical.not_not.mp hm
    refine⟨n+m,fun u hu e1 e2=>?_⟩
    rcases dr.mp hu with rfl|hu
    ·exact hm.mono (by lia)
    ·exact(hn u hu e1 e2).mono (by lia)
   ·refine⟨n,fun u hu e1 e2=>?_⟩
    rcases dr.mp hu with rfl|hu
    ·exact absurd ⟨e1,e2⟩ y
    ·exact hn u hu e1 e2
 obtain⟨n,hn⟩:=go l fun _ h=>h
 exact c (n+1) (.inr ⟨d,e,he,fun o ho=>hn _ ho rfl rfl⟩)
theorem Can.trans{l:List aC}{p q r:Int}(a:Can l (p,q))(b:Can l (q,r)):Can l (p,r):=by
 refine Bg (S:=fun x=>∃ y,Can l (x.1,y)/\Can l (y,x.2)) (fun x hx d e he=>?_) ⟨q,a,b⟩
 obtain⟨y,c1,c2⟩:=hx
 obtain⟨o,ho,c3⟩:=c1.sim he
 obtain⟨u,hu,c4⟩:=c2.sim ho
 exact⟨u,hu,o,c3,c4⟩
theorem Kinds.can{many:Int}{l:List aC}{k:List Int}(hk:Kinds many l k)(bp:eW many l){p q:Int}(hp:eT many (p,q))(e:rk k p=rk k q):Can l (p,q):=by
 refine Bg (S:=fun x=>eT many x/\rk k x.1=rk k x.2) (fun x hx d e he=>?_) ⟨hp,e⟩
 obtain⟨o,ho,z⟩:=((hk.rb.iff bp hx.1.1 hx.1.2).mp hx.2).2.1 d e he
 exact⟨o,ho,⟨(bp _ he).2.2.2,(bp _ ho).2.2.2⟩,z⟩
structure OW(many:Int)(l:List aC)(ps:List P2):Prop where
 mem:∀ x,x∈ps↔eT many x/\Can l x
 len:ps.length<=144
theorem OW.two{many:Int}{l:List aC}{xs ys:List P2}(a:OW many l xs)(b:OW many l ys)(bp:eW many l):SM l (xs++ys):=by
 intro p hp d e he
 have hp:eT many p/\Can l p:=(dy.mp hp).elim (a.mem p).mp (b.mem p).mp
 obtain⟨o,ho,c⟩:=Can.sim (p:=p.1) (q:=p.2) hp.2 he
 exact⟨o,ho,kf _ ((a.mem _).mpr ⟨⟨(bp _ he).2.2.2,(bp _ ho).2.2.2⟩,c⟩)⟩
theorem OW.chain{many:Int}{l:List aC}{xs ys zs:List P2}(a:OW many l xs)(b:OW many l ys)(bp:eW many l)(h:∀ z,z∈zs↔∃ q,(z.1,q)∈xs/\(q,z.2)∈ys):SM l zs:=by
 intro p hp d e he
 obtain⟨q,h1,h2⟩:=(h p).mp hp
 obtain⟨o,ho,c1⟩:=((a.mem _).mp h1).2.sim he
 obtain⟨u,hu,c2⟩:=((b.mem _).mp h2).2.sim ho
 have i1:=(bp _ he).2.2.2
 have i2:=(bp _ ho).2.2.2
 have i3:=(bp _ hu).2.2.2
 exact⟨u,hu,(h _).mpr ⟨o,(a.mem _).mpr ⟨⟨i1,i2⟩,c1⟩,(b.mem _).mpr ⟨⟨i2,i3⟩,c2⟩⟩⟩
def lQ:WS :=
 (b6 (jS (A6 (sv (wB (ic (UD "str") (ae 0)))) (sv (wB (oZ IQ IQ (wC (.int 1)) (ic qf (ae 0)) (wC (.int 6))))))
 (iO (wC (.bl false)))
 cO)
 (iO (ic UN (iC (Ce (ae 0)) (gN 0) xA (av (vT false) (ae 0) (wC (.str "abcdefghijklmnopqrstuvwxyz"))) 1 []))))
theorem Fp{c:Nat}:zS ⟨#[c]⟩ abc=isLet c:=by
 rw[Gq]
 have:abc.cps.toList=(List.range 26).map (97 + ·):=vX
 rw[this]
 apply sF.mpr
 simp only[decide_eq_true_eq,isLet,bI,mI]
 constructor
 ·rintro⟨i,hi,rfl⟩;lia
 ·intro h;exact⟨c-97,by lia,by lia⟩
def dH:gy:=fun ds Q=>∃ x:Str,ds=[.str x]/\Q .sh (.bl (decide (1<=x.length/\x.length<=6) && (sg x).all isLet))
theorem uT (ds Q) (h:dH ds Q):ds.length=["thing"].length:=by obtain⟨_,rfl,_⟩:=h;rfl
theorem Ag:∀ ds Q,dH ds Q->lQ { nx:=fun _=>Q .sh .non,rt:=Q } (aG 1 ds):=by
 rintro ds Q ⟨x,rfl,h⟩
 unfold lQ
 walk_at "q"
 refine R.F rfl ?_
 walk_at "q"
 refine R.D (fun h1=>?_) fun h1=>?_
 ·walk_at "q"
  refine R.B (fun h2=>?_) fun h2=>?_
  rotate_left
  ·have h2:x.length<=6:=by simp at h2;lia
   walk_at "q"
   refine cN (fun _=>true) (fun d=>match d with
    |.str z=>.bl (zS z abc)
    |d=>d) (fun ρ=>∃ o,ρ=[o]) _ _ _ ⟨_,rfl⟩ ?_ ?_
   ·rintro y hy ρ ⟨o,rfl⟩ N1 N2 _ h2
    obtain⟨c,hc,rfl⟩:=bI.mp hy
    walk_at "q"
    exact⟨.inl rfl,h2 _ ⟨_,rfl⟩ rfl⟩
   ·rw[uz]
    refine⟨(sg x).map isLet,?_,?_⟩
    ·unfold UE
     rw[eP,eP]
     refine B1 fun c _=>?_
     show D.bl (zS ⟨#[c]⟩ abc)=_
     rw[Fp];rfl
    ·rw[decide_eq_true (by lia),Bool.true_and] at h
     rw[Qu]
     exact h
  ·have h2:¬ x.length<=6:=by simp at h2;lia
   walk_at "q"
   rw[decide_eq_false (by lia),Bool.false_and] at h
   exact h
 ·walk_at "q"
  rw[decide_eq_false (by lia),Bool.false_and] at h
  exact h
def fM:WS :=
 (jS (sv (wB (oZ IQ NM (wC (.int 0)) (ae 1) (av dv (ae 0) (wC (.int 0))))))
 pD
 cO)
def aD:gy:=fun ds Q=>∃ (many:Int) (l:List aC) (s:Int),ds=[mD many l,.int s]/\0<=s/\s<many/\Q .sh .non
theorem mX (ds Q) (h:aD ds Q):ds.length=["m", "state"].length:=by obtain⟨_,_,_,rfl,_⟩:=h;rfl
theorem qg:∀ ds Q,aD ds Q->fM { nx:=fun _=>Q .sh .non,rt:=Q } (aG 2 ds):=by
 rintro ds Q ⟨many,l,s,rfl,h0,h1,h⟩
 unfold fM mD
 walk_at "q"
 refine R.T (decide_eq_true h0) ?_
 walk_at "q"
 refine R.F (by simp[h1]) ?_
 walk_at "q"
 exact h
def mj:WS :=
 (b6 (eK 1 jX)
 (b6 (fI 0 (oa (d_ (av dv (ae 0) (wC (.int 1)))) (gT 3 (bu (gN 2) (bu (gN 3) (bu (gN 4) jH))))
 (fI 4 (fI 3 (fI 2 (Sb 1 (i7 (ak (ae 2) (ak (ae 3) b4))) (ae 4)))))))
 (nW 1)))
def cB:gy:=fun ds Q=>∃ (many:Int) (l:List aC),ds=[mD many l]/\l.length<=10000/\∀ kvs,xC l kvs->Q (.ow true) (.dT kvs)
theorem uL (ds Q) (h:cB ds Q):ds.length=["m"].length:=by obtain⟨_,_,rfl,_⟩:=h;rfl
theorem Bf:∀ ds Q,cB ds Q->mj { nx:=fun _=>Q .sh .non,rt:=Q } (aG 5 ds):=by
 rintro ds Q ⟨many,l,rfl,hz,h⟩
 unfold mj mD
 walk_at "q"
 refine bO _ (fun i ρ=>∃ (kvs:Kn) (o2 o3 o4:Option Sl),xC (l.take i) kvs/\kvs.length<=i/\ρ=[some (.sh (.tup [.int many,.list (l.map eB)])),some (.ow true (.dT kvs)),o2,o3,o4]) ⟨[],_,_,_,xC.nil,by simp,rfl⟩ ?_ ?_
 ·rintro i x ρ hx ⟨kvs,o2,o3,o4,hw,hk,rfl⟩ N hN
  have hi:=(iS.mp hx).1
  rw[bS] at hi
  obtain⟨p,d,r,rfl,hs,et⟩:=Eo hx
  walk_at "q"
  refine⟨by lia,?_,hN _ ⟨_,_,_,_,by rw[et];exact hw.put p d r,by have:=zR [.inl p,.inr d] (.int r) kvs;lia,rfl⟩⟩
  rw[hw p d]
  have:=Dd (l.take i) p d
  rw[qS] at this
  split
  ·trivial
  ·show List.length _<_
   rw[bS]
   exact Ir (by lia)
 ·rintro ρ ⟨kvs,o2,o3,o4,hw,hk,rfl⟩
  rw[bS,tS] at hw
  walk_at "q"
  exact h kvs hw
def jK:WS :=
 (b6 (eK 1 (iC (il (av dv (ae 0) (wC (.int 0)))) (gN 0) xA (sT b4) 1 []))
 (b6 (fI 0 (oa (d_ (av dv (ae 0) (wC (.int 1)))) (gT 3 (bu (gN 2) (bu (gN 3) (bu (gN 4) jH))))
 (fI 4 (fI 3 (Jn (RW (xB 1) (ae 2)) (i7 (ak (ae 3) (ak (ae 4) b4))))))))
 (nW 1)))
def aX:gy:=fun ds Q=>∃ (many:Int) (steps:List aC),ds=[mD many steps]/\(0<=many/\many<=63)/\eW many steps/\steps.length<=63/\Q (.ow true) (wm many steps)
theorem sH (ds Q) (h:aX ds Q):ds.length=["m"].length:=by obtain⟨_,_,rfl,_⟩:=h;rfl
theorem xH:∀ ds Q,aX ds Q->jK { nx:=fun _=>Q .sh .non,rt:=Q } (aG 5 ds):=by
 rintro ds Q ⟨many,steps,rfl,hm,bp,hl,h⟩
 unfold jK mD
 walk_at "q"
 refine⟨by lia,by lia,?_⟩
 refine cN (fun _=>true) (fun _=>.list []) (fun ρ=>∃ o,ρ=[o]) _ _ _ ⟨_,rfl⟩ ?_ ?_
 ·rintro x hx ρ ⟨o,rfl⟩ N1 N2 n1 n2
  walk_at "q"
  exact⟨.inr rfl,n2 _ ⟨_,rfl⟩ rfl⟩
 rw[JB]
 refine bO _ (fun i ρ=>∃ o2 o3 o4,ρ=[some (.sh (.tup [.int many,.list (steps.map eB)])),some (.ow true (.list (pj many (steps.take i)))),o2,o3,o4]) ⟨none,none,none,by simp⟩ ?_ ?_
 ·rintro i x ρ hx ⟨o2,o3,o4,rfl⟩ N hN
  obtain⟨p,d,r,rfl,hs,ht⟩:=Eo hx
  have ok:=bp _ hs
  walk_at "q"
  refine⟨p.toNat,.list ((nE (steps.take i) p).map kX),Bd ok.1 (by rw[lR];have:=ok.2.1;lia),G7 _ ok.1 ok.2.1,rfl,?_⟩
  walk_at "q"
  refine⟨?_,?_⟩
  ·have:=yt (steps.take i) p
   have:(steps.take i).length<=steps.length:=by rw[qS];lia
   lia
  ·refine hN _ ⟨some (.sh (.int p)),some (.sh (.str d)),some (.sh (.int r)),?_⟩
   rw[Jb _ _ _ ok.1 ok.2.1,<- ht]
 ·rintro ρ ⟨o2,o3,o4,rfl⟩
  walk_at "q"
  rw[tS]
  exact h
def jz:WS :=
 (iO (ic jj (iC (iy (av dv (ae 0) (wC (.int 1)))) (gN 0) xA (av dv (ae 0) (wC (.int 1))) 1 [])))
def cU:gy:=fun ds Q=>∃ (many:Int) (steps:List aC),ds=[mD many steps]/\steps.length<=63/\∀ names:List Str,names.Nodup->(∀ n,n∈names↔n∈P1 steps)->Q (.ow true) (.list (names.map .str))
theorem tD (ds Q) (h:cU ds Q):ds.length=["m"].length:=by obtain⟨_,_,rfl,_⟩:=h;rfl
theorem xP:∀ ds Q,cU ds Q->jz { nx:=fun _=>Q .sh .non,rt:=Q } (aG 1 ds):=by
 rintro ds Q ⟨many,steps,rfl,hz,h⟩
 unfold jz mD
 walk_at "q"
 refine cN (fun _=>true) (fun d=>match d with
  |.tup [.int p,.str d,.int r]=>.str d
  |d=>d) (fun ρ=>∃ o,ρ=[o]) _ _ _ ⟨_,rfl⟩ ?_ ?_
 ·rintro x hx ρ ⟨o,rfl⟩ N1 N2 _ h2
  obtain⟨⟨p,d,r⟩,fA,rfl⟩:=bI.mp hx
  unfold eB
  walk_at "q"
  exact⟨.inl rfl,h2 _ ⟨_,rfl⟩ rfl⟩
 ·rw[uz]
  refine⟨(P1 steps).map Sum.inr,false,?_,by simp[P1];lia,?_,?_⟩
  ·unfold P1
   rw[eP,eP,eP];rfl
  ·intro k hk
   obtain⟨x,_,rfl⟩:=bI.mp hk
   rfl
  ·intro ms nd mm pw
   have mP:∀ k∈ms,∃ x,k=Sum.inr x/\x∈P1 steps:=fun k hk=>by
    obtain⟨x,hx,rfl⟩:=bI.mp ((mm k).mp hk)
    exact⟨x,rfl,hx⟩
   obtain⟨names,rfl⟩:∃ names:List Str,ms=names.map Sum.inr:=by
    clear nd mm pw
    induction ms with
    |nil=>exact⟨[],rfl⟩
    |cons k ms ih =>
     obtain⟨x,rfl,_⟩:=mP k b5
     obtain⟨l,rfl⟩:=ih fun k hk=>mP k (b9 _ hk)
     exact⟨x :: l,rfl⟩
   have e:(names.map (Sum.inr:Str->Key)).map kS=names.map D.str:=by rw[eP];rfl
   rw[e]
   refine h names (ug nd) fun n=>?_
   have:=mm (Sum.inr n)
   simpa using this
def pP:WS :=
 (iO (i7 (ak (av dv (ae 1) (ae 2)) (ak (ic gD (iC (iy (av dv (ae 0) (ae 2))) (gT 2 (bu (gN 0) (bu (gN 1) jH))) xA (i7 (ak (ae 0) (ak (av dv (ae 2) (ae 1)) b4))) 2 [1])) b4))))
def e_:gy:=fun ds Q=>∃ (many:Int) (steps:List aC) (cq:List Int) (s:Int),ds=[wm many steps,.list (cq.map .int),.int s]/\(0<=s/\s<many)/\cq.length=many.toNat/\eW many steps/\steps.length<=63/\∀ k,PY steps cq s k->Q (.ow true) (g0 k)
theorem xW (ds Q) (h:e_ ds Q):ds.length=["exits", "ranks", "state"].length:=by obtain⟨_,_,_,_,rfl,_⟩:=h;rfl
theorem Cj:∀ ds Q,e_ ds Q->pP { nx:=fun _=>Q .sh .non,rt:=Q } (aG 3 ds):=by
 rintro ds Q ⟨many,steps,cq,s,rfl,hs,hr,bp,hl,h⟩
 unfold pP wm
 walk_at "q"
 refine⟨_,Dr hr hs.1 hs.2,?_⟩
 walk_at "q"
 refine⟨_,Hg steps hs.1 hs.2,?_⟩
 walk_at "q"
 refine cN (fun _=>true) (fun d=>match d with
  |.tup [.str x,.int e]=>.tup [.str x,.int (rk cq e)]
  |d=>d) (fun ρ=>∃ o0 o1,ρ=[o0,o1,some (.sh (.list (cq.map .int)))]) _ _ _ ⟨_,_,rfl⟩ ?_ ?_
 ·rintro x hx ρ ⟨o0,o1,rfl⟩ N1 N2 n1 n2
  obtain⟨p,hp,rfl⟩:=bI.mp hx
  obtain⟨t,ht,e1,e2⟩:=vD hp
  obtain⟨x,e⟩:=p
  have ok:=bp t ht
  obtain⟨t1,t2,t3⟩:=t
  cases e2
  unfold kX
  walk_at "q"
  refine⟨_,Dr hr ok.2.2.2.1 ok.2.2.2.2,?_⟩
  walk_at "q"
  exact⟨.inl rfl,n2 _ ⟨_,_,rfl⟩ rfl⟩
 have e1:((nE steps s).map kX |>.filter fun _=>true).map (fun d=>match d with
   |.tup [.str x,.int e]=>.tup [.str x,.int (rk cq e)]
   |d=>d)=((nE steps s).map fun p=>(p.1,rk cq p.2)).map kX:=by
  rw[Lc.mpr fun _ _=>rfl,eP,eP]
  rfl
 rw[e1]
 refine CW (ps:=(nE steps s).map fun p=>(p.1,rk cq p.2)) (m:=.ow true) (Q:=fun _ d=>Q (.ow true) (.tup [.int (rk cq s),d])) (by rw[bS];exact gE (yt steps s) hl) fun l up mem=>?_
 refine h (rk cq s,l) ⟨rfl,up,fun p=>(mem p).trans ⟨fun hp=>?_,fun hp=>?_⟩⟩
 ·obtain⟨q,hq,rfl⟩:=bI.mp hp
  obtain⟨t,ht,e1,rfl⟩:=vD hq
  exact⟨t,ht,e1,rfl⟩
 ·obtain⟨t,ht,rfl,rfl⟩:=hp
  exact bI.mpr ⟨t.2,zZ ht,rfl⟩
def gr:WS :=
 (b6 (fI 2 (oa (d_ (ae 2)) (gN 3)
 (fI 3 (fI 1 (jS (wB (av (vT true) (i7 (ak (ae 1) (ak (ae 3) b4))) (ae 0)))
 (iO (wC (.bl false)))
 cO)))))
 (iO (wC (.bl true))))
def bW:gy:=fun ds Q=>∃ (mp:Mp) (e:Int) (os:List Int),ds=[.dT (g7 mp),.int e,.list (os.map .int)]/\∀ b,(b=true↔∀ o∈os,(e,o)∈dS mp)->Q .sh (.bl b)
theorem oE (ds Q) (h:bW ds Q):ds.length=["missed", "end", "others"].length:=by obtain⟨_,_,_,rfl,_⟩:=h;rfl
theorem rR:∀ ds Q,bW ds Q->gr { nx:=fun _=>Q .sh .non,rt:=Q } (aG 4 ds):=by
 rintro ds Q ⟨mp,e,os,rfl,h⟩
 unfold gr
 walk_at "q"
 refine bO _ (fun i ρ=>∃ (o3:Option Sl),(∀ o∈os.take i,(e,o)∈dS mp)/\ρ=[some (.sh (.dT (g7 mp))),some (.sh (.int e)),some (.sh (.list (os.map .int))),o3]) ⟨_,(fun p hp=>by simp at hp),rfl⟩ ?_ ?_
 ·rintro i x ρ hx ⟨o3,hi,rfl⟩ N hN
  obtain⟨o,rfl,hm,tk⟩:=int_at hx
  walk_at "q"
  have e1:=jD mp (e,o)
  unfold gv at e1
  rw[e1]
  by_cases z:(e,o)∈dS mp
  ·rw[decide_eq_true z]
   walk_at "q"
   exact hN _ ⟨_,lA tk hi z,rfl⟩
  ·rw[decide_eq_false z]
   walk_at "q"
   exact h false ⟨(fun y=>by cases y),fun y=>absurd (y o hm) z⟩
 ·rintro ρ ⟨o3,hi,rfl⟩
  rw[bS,tS] at hi
  walk_at "q"
  exact h true ⟨fun _=>hi,fun _=>rfl⟩
def eU:WS :=
 (b6 (jS (wB (av NM (ae 1) (ic qf (ae 0))))
 (iO (av dv (ae 0) (ae 1)))
 cO)
 (iO (wC (.int 0))))
def aL:gy:=fun ds Q=>∃ (ns:List Int) (k:Int),ds=[.list (ns.map .int),.int k]/\0<=k/\Q .sh (.int (ns.getD k.toNat 0))
theorem kO (ds Q) (h:aL ds Q):ds.length=["_law_script", "_law_k"].length:=by obtain⟨_,_,rfl,_⟩:=h;rfl
theorem nM:∀ ds Q,aL ds Q->eU { nx:=fun _=>Q .sh .non,rt:=Q } (aG 2 ds):=by
 rintro ds Q ⟨ns,k,rfl,hk,h⟩
 unfold eU
 walk_at "q"
 refine R.D (fun hl=>?_) fun hl=>?_
 ·walk_at "q"
  have hn:k.toNat<ns.length:=by lia
  refine⟨.int ns[k.toNat],?_,?_⟩
  ·have:=L9 (xs:=ns.map D.int) (j:=k.toNat) (v:=.int ns[k.toNat]) (by simp[hn])
   rwa[B9 hk] at this
  ·show Q .sh _;simpa[List.getD,hn] using h
 ·walk_at "q"
  have:ns.getD k.toNat 0=0:=by
   have:ns.length<=k.toNat:=by lia
   simp[List.getD,tP this]
  rwa[this] at h
def gA:WS :=
 (b6 (eK 1 (wC (.str "abcdefghijklmnopqrstuvwxyz")))
 (b6 (eK 2 (av kD (av dv (ae 1) (av iN (av ng (ae 0) (wC (.int 6))) (wC (.int 26)))) (av CZ (av dv (ae 1) (av iN (av ng (ae 0) (wC (.int 156))) (wC (.int 26)))) (av iN (av ng (ae 0) (wC (.int 4056))) (wC (.int 5))))))
 (fI 2 (iO (NW (av dv (sT (ak (sT (ak (ae 2) (ak (av kD (ae 2) (wC (.str "a"))) (ak (wC (.str "*")) b4)))) (ak (sT (ak (wC (.str "*")) (ak (ae 2) (ak (av kD (wC (.str "b")) (NW (ae 2) (uI (wC (.int 1))) pM)) b4)))) b4))) (av iN (ae 0) (wC (.int 2)))) pM (uI (av kD (wC (.int 1)) (av iN (av ng (ae 0) (wC (.int 2))) (wC (.int 3))))))))))
def bU:gy:=fun ds Q=>∃ c:Int,ds=[.int c]/\∀ names:List Str,1<=names.length->names.length<=3->(∀ n∈names,yT n)->Q (.ow true) (.list (names.map .str))
theorem nR (ds Q) (h:bU ds Q):ds.length=["_law_cell"].length:=by obtain⟨_,rfl,_⟩:=h;rfl
theorem Br{x:Str}(h:lets x)(n:Int):lets (og n x):=fun c hc=>by
 unfold og sg at hc
 rw[List.toList_toArray] at hc
 obtain⟨y,hy,hc⟩:=List.mem_flatten.mp hc
 rw[List.eq_of_mem_replicate hy] at hc
 exact h c hc
theorem tV:∀ ds Q,bU ds Q->gA { nx:=fun _=>Q .sh .non,rt:=Q } (aG 3 ds):=by
 rintro ds Q ⟨c,rfl,h⟩
 unfold gA
 walk_at "q"
 obtain⟨c1,e1,l1⟩:=yE (c / 6)
 obtain⟨c2,e2,l2⟩:=yE (c / 156)
 have h5:=dR (c / 4056) (show(0:Int)<5 by decide)
 generalize c / 4056 % 5=k at *
 refine⟨c1,e1,c2,e2,?_⟩
 have hl:(⟨#[c1]⟩++og k ⟨#[c2]⟩:Str).length=1+k.toNat:=by rw[cR,qK,bc,bc];lia
 have hb:lets (⟨#[c1]⟩++og k ⟨#[c2]⟩:Str):=qF (lB l1) (Br (lB l2) k)
 have hr:(og k ⟨#[c2]⟩).length=k.toNat:=by rw[qK,bc];lia
 have ha:("a" : Str)=⟨#[97]⟩:=by decide +kernel
 have T8:("b" : Str)=⟨#[98]⟩:=by decide +kernel
 rw[hr,ha,T8,bc,bc,bc,bc]
 generalize (⟨#[c1]⟩++og k ⟨#[c2]⟩:Str)=base at *
 have hc:=wX base (some 1) none
 have d1:yT base:=.inr ⟨by lia,by lia,hb⟩
 have d2:yT (base ++ ⟨#[97]⟩):=.inr ⟨by rw[cR,bc];lia,by rw[cR,bc];lia,qF hb (lB rfl)⟩
 have d3:yT (⟨#[98]⟩++rq base (some 1) none):=.inr ⟨by rw[cR,bc];lia,by rw[cR,bc];lia,qF (lB rfl) (CJ hb _ _)⟩
 generalize base ++ ⟨#[97]⟩=w2 at *
 generalize ⟨#[98]⟩++rq base (some 1) none=w3 at *
 have h3:=dR (c / 2) (show(0:Int)<3 by decide)
 refine⟨⟨h5.1,by lia,by lia⟩,by lia,by lia,by lia,?_⟩
 have fin:∀ ns:List Str,ns.length=3->(∀ n∈ns,yT n)->Q (.ow true) (.list (jI (ns.map .str) none (some (1+c / 2 % 3)))):=fun ns e hd=>by
  rw[CP]
  have hc:=H_ (l:=ns) (a:=0) (b:=1+c / 2 % 3) (by lia) (by lia) (by lia)
  have e2:jI ns none (some (1+c / 2 % 3))=jI ns (some 0) (some (1+c / 2 % 3)):=by unfold jI;rw[wg (ua 0) (by lia)];rfl
  rw[e2]
  exact h _ hc.1 (by lia) fun n hn=>hd n (hc.2.2 n hn)
 rcases (show c % 2=0\/c % 2=1 by lia) with e|e
 ·rw[e]
  refine⟨_,rfl,?_⟩
  walk_at "q"
  refine .inl (fin [base,w2, "*"] rfl fun n hn=>?_)
  simp only[dr,B4,or_false] at hn
  rcases hn with rfl|rfl|rfl
  ·exact d1
  ·exact d2
  ·exact .inl rfl
 ·rw[e]
  refine⟨_,rfl,?_⟩
  walk_at "q"
  refine .inl (fin ["*",base,w3] rfl fun n hn=>?_)
  simp only[dr,B4,or_false] at hn
  rcases hn with rfl|rfl|rfl
  ·exact .inl rfl
  ·exact d1
  ·exact d3
def eN:WS :=
 (b6 (eK 3 jX)
 (b6 (fI 0 (oa (d_ (NW (ae 0) (uI (wC (.int 3))) (uI (wC (.int 27))))) (gN 4)
 (uF (xB 3) (i7 (ak (av iN (ae 4) (ae 1)) (ak (av dv (ae 2) (av iN (av ng (av ng (ae 4) (ae 1)) (ae 1)) (ic qf (ae 2)))) (ak (av iN (av ng (ae 4) (ae 1)) (ae 1)) b4)))) (wC (.bl true)))))
 (yO [.inr 1,.inl (ic pG (ic uC (ae 3)))])))
def FR(many:Int)(names:List Str)(t:aC):Prop:=Sw many t/\t.2.1∈names
theorem ue{l:List aC}(hl:l.length<=63){m:Md}{Q:Md->D->Prop}(k:∀ l2:List aC,(∀ s,s∈l2↔s∈l)->l2.length=l.length->Q (.ow true) (.list (l2.map eB))):pG m (.list (l.map eB)) Q:=by
 have go:∀ ms:List (List Key),ms.Perm (l.map qA)->Q (.ow true) (.list (ms.map kR)):=fun ms pm=>by
  obtain⟨l2,rfl,_⟩:=uy (P:=fun _=>True) (ks:=ms) fun k hk=>by
   obtain⟨p,hp,e⟩:=bI.mp (pm.mem_iff.mp hk)
   exact⟨p,e.symm,trivial⟩
  have e:(l2.map qA).map kR=l2.map eB:=by rw[eP];rfl
  have mk:∀ (xs:List aC) (s:aC),qA s∈xs.map qA↔s∈xs:=fun xs s=>by
   rw[bI]
   exact⟨fun⟨t,ht,e⟩=>Dh e ▸ ht,fun h=>⟨s,h,rfl⟩⟩
  rw[e]
  exact k l2 (fun s=>by rw[<- mk l2,<- mk l];exact pm.mem_iff) (by have:=pm.length_eq;simpa using this)
 first
 |exact⟨l.map qA,[false,true],by rw[eP];rfl,by rw[bS];exact hl,(fun k hk=>by obtain⟨p,hp,rfl⟩:=bI.mp hk;rfl),fun ms pm _=>go ms pm⟩
 |exact⟨l.map qA,[false,true],by rw[eP];rfl,(fun k hk=>by obtain⟨p,hp,rfl⟩:=bI.mp hk;rfl),fun ms pm _=>go ms pm⟩
theorem BG.hD'{P:aC->Prop}{kvs:Kn}(h:BG P kvs):∃ l:List aC,(kvs.map fun kv=>D.tup (kv.1.map kS))=l.map eB/\(∀ s∈l,P s)/\l.length=kvs.length:=by
 obtain⟨l,e,hl⟩:=uy (P:=P) (ks:=kvs.map (·.1)) fun k hk=>by
  obtain⟨p,hp,rfl⟩:=bI.mp hk
  exact h.1 p hp
 refine⟨l,?_,hl,by have:=congrArg List.length e;simpa using this.symm⟩
 have e2:=congrArg (List.map kR) e
 rw[eP,eP] at e2
 exact e2
theorem Kp(ns:List Int):(jI ns (some 3) (some 27)).length<=24:=by
 unfold jI
 rw[qS]
 have:HT.bP ns.length ns.length (some 27)-HT.bP ns.length 0 (some 3)<=24:=by
  simp only[HT.bP]
  rw[if_neg (by lia),if_neg (by lia)]
  lia
 lia
def a_:gy:=fun ds Q=>∃ (ns:List Int) (many:Int) (names:List Str),ds=[.list (ns.map .int),.int many,.list (names.map .str)]/\ns.length<=63/\(1<=many/\many<=6)/\1<=names.length/\(∀ n∈names,yT n) /\
 ∀ l:List aC,(∀ s∈l,FR many names s)->l.length<=24->Q (.ow true) (mD many l)
theorem j_ (ds Q) (h:a_ ds Q):ds.length=["_law_script", "_law_many", "_law_deeds_here"].length:=by obtain⟨_,_,_,rfl,_⟩:=h;rfl
theorem oM:∀ ds Q,a_ ds Q->eN { nx:=fun _=>Q .sh .non,rt:=Q } (aG 5 ds):=by
 rintro ds Q ⟨ns,many,names,rfl,vw,hm,n1,hd,h⟩
 unfold eN
 walk_at "q"
 refine .inl ⟨m5 ns,?_⟩
 rw[CN]
 have hc:=Kp ns
 generalize jI ns (some 3) (some 27)=cells at *
 refine bO _ (fun i ρ=>∃ (kvs:Kn) (o4:Option Sl),BG (FR many names) kvs/\kvs.length<=i/\ρ=[some (.sh (.list (ns.map .int))),some (.sh (.int many)),some (.sh (.list (names.map .str))),some (.ow true (.dT kvs)),o4]) ⟨[],_,BG.nil,fE _,rfl⟩ ?_ ?_
 ·rintro i x ρ hx ⟨kvs,o4,hk,hz,rfl⟩ N hN
  have hi:i<cells.length:=by have:=(iS.mp hx).1;simpa using this
  obtain⟨c,rfl,_,_⟩:=int_at hx
  have a1:=dR c (show 0<many by lia)
  have a3:=dR (c / many) (show 0<many by lia)
  obtain⟨n,hn,e⟩:=name_mod (c / many / many) n1
  walk_at "q"
  refine⟨by lia,by lia,by lia,by lia,.str n,e,?_⟩
  walk_at "q"
  refine⟨by lia,by lia,by lia,hN _ ⟨_,_,hk.put (s:=(c % many,n,c / many % many)) ⟨⟨a1.1,a1.2,hd n hn,a3.1,a3.2⟩,hn⟩,gE (rB kvs _ _) (by lia),rfl⟩⟩
 ·rintro ρ ⟨kvs,o4,hk,hz,rfl⟩
  rw[bS] at hz
  obtain⟨l,e,hs,hl⟩:=hk.hD'
  walk_at "q"
  refine(show pG (.ow true) (.list (kvs.map fun kv=>.tup (kv.1.map kS))) (fun m x=>Q (tG [(.sh,.int many),(m,x)]) (.tup [.int many,x])) from ?_)
  rw[e]
  exact ue (by lia) fun l2 mm sP=>h l2 (fun s qh=>hs s ((mm s).mp qh)) (by lia)
def di:WS :=
 (yO [.inr 3,.inl (ic pG (ae 4))])
def iw:WS :=
 (b6 (jS (RK (wB (av sR (av iN (ae 2) (wC (.int 3))) (wC (.int 2)))) (wB (av A7 (ae 4) (sT b4))))
 (HB (xB 4) (av iN (av ng (ae 2) (wC (.int 3))) (ic qf (ae 4))))
 cO)
 di)
def ie:WS :=
 (b6 (jS (wB (av sR (av iN (ae 2) (wC (.int 3))) (wC (.int 1))))
 (eK 4 (iC (iy (ae 4)) (gT 3 (bu (gN 0) (bu (gN 1) (bu (gN 2) jH)))) xA (i7 (ak (av iN (av IL (ae 3) (ae 0)) (ae 3)) (ak (ae 1) (ak (av iN (av IL (ae 3) (ae 2)) (ae 3)) b4)))) 3 [3]))
 cO)
 iw)
def gm:WS :=
 (b6 (eK 3 (av dv (ae 0) (wC (.int 0))))
 (b6 (eK 4 (ic uC (av dv (ae 0) (wC (.int 1)))))
 (b6 (jS (wB (av sR (av iN (ae 2) (wC (.int 3))) (wC (.int 0))))
 (oa (il (av iN (av ng (ae 2) (wC (.int 3))) (wC (.int 6)))) (gN 5)
 (b6 (eK 6 (av ng (av ng (ae 2) (wC (.int 18))) (av kD (av NJ (ae 5) (ae 5)) (wC (.int 1)))))
 (b6 (eK 7 (i7 (ak (av iN (ae 6) (ae 3)) (ak (av dv (ae 1) (av iN (av ng (av ng (ae 6) (ae 3)) (ae 3)) (ic qf (ae 1)))) (ak (av iN (av ng (ae 6) (ae 3)) (ae 3)) b4)))))
 (jS (wB (av (Pm true) (ae 7) (ae 4)))
 (fI 7 (Jn (xB 4) (ae 7)))
 cO))))
 cO)
 ie)))
def tr(many a:Int):Int:=(many-a) % many
theorem yx{many:Int}(h:1<=many)(a:Int):0<=tr many a/\tr many a<many:=dR (many-a) (show 0<many by lia)
theorem Im{many a:Int}(h0:0<=a)(h1:a<many):tr many a=if a=0 then 0 else many-a:=by
 unfold tr
 split
 ·rename_i e
  rw[e,Int.sub_zero,Int.emod_self]
 ·exact Int.emod_eq_of_lt (by lia) (by lia)
theorem Jp{many a b:Int}(a0:0<=a)(a1:a<many)(b0:0<=b)(b1:b<many)(e:tr many a=tr many b):a=b:=by
 rw[Im a0 a1,Im b0 b1] at e
 split at e<;>split at e<;>lia
def FT(many:Int)(s:aC):aC:=(tr many s.1,s.2.1,tr many s.2.2)
def b_:gy:=fun ds Q=>∃ (many:Int) (l:List aC) (names:List Str) (c:Int),ds=[mD many l,.list (names.map .str),.int c]/\(1<=many/\many<=6)/\1<=names.length/\(∀ n∈names,yT n)/\(∀ s∈l,FR many names s)/\l.length<=24 /\
 ∀ l2:List aC,(∀ s∈l2,FR many names s)->l2.length<=30->(c % 3=0->∀ s∈l,s∈l2)->(c % 3=1->∀ s,s∈l2↔∃ t∈l,s=FT many t)->Q (.ow true) (mD many l2)
theorem nJ (ds Q) (h:b_ ds Q):ds.length=["_law_m", "_law_deeds_here", "_law_cell"].length:=by obtain⟨_,_,_,_,rfl,_⟩:=h;rfl
theorem dq{Q:Md->D->Prop}{many c:Int}{l l2:List aC}{names:List Str}{o5 o6 o7:Option Sl}(hl:l2.length<=30)(h:∀ l3:List aC,(∀ s,s∈l3↔s∈l2)->l3.length<=30->Q (.ow true) (mD many l3)) :
  di { nx:=fun _=>Q .sh .non,rt:=Q } [some (.sh (mD many l)),some (.sh (.list (names.map .str))),some (.sh (.int c)),some (.sh (.int many)),some (.ow true (.list (l2.map eB))),o5,o6,o7]:=by
 unfold di
 walk_at "q"
 refine(show pG (.ow true) (.list (l2.map eB)) (fun m x=>Q (tG [(.sh,.int many),(m,x)]) (.tup [.int many,x])) from ?_)
 exact ue (by lia) fun l3 mm DU=>h l3 mm (by lia)
theorem BJ(l:List aC):hX (.list (l.map eB)) (.list [])=decide (l=[]):=by
 rw[sF,qR _ _ (show D.nb (.list (l.map eB))=true from Bo l) rfl,decide_eq_true_iff]
 cases l<;>simp
theorem su:∀ ds Q,b_ ds Q->gm { nx:=fun _=>Q .sh .non,rt:=Q } (aG 8 ds):=by
 rintro ds Q ⟨many,l,names,c,rfl,hm,n1,hd,hs,hl,h⟩
 have hc:=dR c (show(0:Int)<3 by decide)
 have bp:eW many l:=fun s m=>(hs s m).1
 obtain⟨w5,e5⟩:∃ w5,w5=di:=⟨_,rfl⟩
 unfold gm ie iw
 rw[<- e5,show aG 8 [mD many l,.list (names.map .str),.int c]=[some (.sh (.tup [.int many,.list (l.map eB)])),some (.sh (.list (names.map .str))),some (.sh (.int c)),none,none,none,none,none] from rfl]
 walk_at "q"
 refine .inl ⟨jq _,?_⟩
 rcases (show c % 3=0\/c % 3=1\/c % 3=2 by lia) with e|e|e
 ·refine R.T (decide_eq_true (by lia)) ?_
  walk_at "q"
  have h6:=dR (c / 3) (show(0:Int)<6 by decide)
  generalize c / 3 % 6=k at *
  refine⟨by lia,by lia,?_⟩
  refine bO _ (fun i ρ=>∃ (l2:List aC) (o5 o6 o7:Option Sl),(∀ s∈l2,FR many names s)/\(∀ s∈l,s∈l2)/\l2.length<=24+i/\ρ=[some (.sh (.tup [.int many,.list (l.map eB)])),some (.sh (.list (names.map .str))),some (.sh (.int c)),some (.sh (.int many)),some (.ow true (.list (l2.map eB))),o5,o6,o7]) ⟨l,_,_,_,hs,(fun s m=>m),by lia,rfl⟩ ?_ ?_
  ·rintro i x ρ hx ⟨l2,o5,o6,o7,h2,sub,sP,rfl⟩ N hN
   obtain⟨hi,rfl⟩:=jJ hx
   have sq:0<=(0+(i:Nat):Int)*(0+(i:Nat))/\(0+(i:Nat):Int)*(0+(i:Nat))<=63*63:=⟨Int.mul_nonneg (by lia) (by lia),Int.mul_le_mul (by lia) (by lia) (by lia) (by lia)⟩
   walk_at "q"
   refine⟨tW (by lia) (by lia),by lia,?_⟩
   generalize c / 18 / ((0+(i:Nat):Int)*(0+(i:Nat))+1)=number
   have a1:=dR number (show 0<many by lia)
   have a3:=dR (number / many) (show 0<many by lia)
   obtain⟨n,hn,en⟩:=name_mod (number / many / many) n1
   refine⟨by lia,by lia,by lia,by lia,.str n,en,?_⟩
   walk_at "q"
   have ok:FR many names (number % many,n,number / many % many):=⟨⟨a1.1,a1.2,hd n hn,a3.1,a3.2⟩,hn⟩
   refine⟨by lia,by lia,Ei 11 ok.1,Az 10 (fun s m=>(h2 s m).1),R.B (fun z=>?_) fun z=>?_⟩
   ·walk_at "q"
    refine⟨by lia,hN _ ⟨l2++[(number % many,n,number / many % many)],_,_,_,fun s m=>?_,fun s m=>kf _ (sub s m),by simp;lia,by rw[kG];rfl⟩⟩
    rcases dy.mp m with m|m
    ·exact h2 s m
    ·rw[kg.mp m];exact ok
   ·walk_at "q"
    exact hN _ ⟨l2,_,_,_,h2,sub,by lia,rfl⟩
  ·rintro ρ ⟨l2,o5,o6,o7,h2,sub,sP,rfl⟩
   rw[jh] at sP
   walk_at "q"
   refine R.F (decide_eq_false (by lia)) ?_
   walk_at "q"
   refine R.F (decide_eq_false (by lia)) ?_
   walk_at "q"
   rw[e5]
   exact dq (by lia) fun l3 mm DU=>h l3 (fun s m=>h2 s ((mm s).mp m)) DU (fun _ s m=>(mm s).mpr (sub s m)) fun z=>by lia
 ·refine R.F (decide_eq_false (by lia)) ?_
  walk_at "q"
  refine R.T (decide_eq_true (by lia)) ?_
  walk_at "q"
  refine cN (fun _=>true) (fun x=>match x with
   |.tup [.int u,d,.int v]=>.tup [.int (tr many u),d,.int (tr many v)]
   |x=>x) (fun ρ=>∃ o0 o1 o2,ρ=[o0,o1,o2,some (.sh (.int many))]) _ _ _ ⟨_,_,_,rfl⟩ ?_ ?_
  ·rintro y hy ρ ⟨o0,o1,o2,rfl⟩ M1 M2 m1 m2
   obtain⟨⟨a,d,b⟩,hy2,rfl⟩:=bI.mp hy
   rw[show eB (a,d,b)=.tup [.int a,.str d,.int b] from rfl] at m2 ⊢
   walk_at "q"
   exact⟨by lia,by lia,.inl rfl,m2 _ ⟨_,_,_,rfl⟩ rfl⟩
  rw[show((l.map eB).filter fun _=>true).map (fun x=>match x with
   |.tup [.int u,d,.int v]=>.tup [.int (tr many u),d,.int (tr many v)]
   |x=>x)=(l.map (FT many)).map eB by rw[Lc.mpr fun _ _=>rfl,eP,eP];rfl]
  refine R.F (decide_eq_false (by lia)) ?_
  walk_at "q"
  rw[e5]
  have tm:∀ s,s∈l.map (FT many)↔∃ t∈l,s=FT many t:=fun s=>by
   rw[bI]
   exact⟨fun⟨t,ht,z⟩=>⟨t,ht,z.symm⟩,fun⟨t,ht,z⟩=>⟨t,ht,z.symm⟩⟩
  refine dq (by rw[bS];lia) fun l3 mm DU=>h l3 (fun s m=>?_) DU (fun z=>by lia) fun _ s=>(mm s).trans (tm s)
  obtain⟨t,ht,rfl⟩:=(tm s).mp ((mm s).mp m)
  have i1:=yx hm.1 t.1
  have i2:=yx hm.1 t.2.2
  exact⟨⟨i1.1,i1.2,(hs t ht).1.2.2.1,i2.1,i2.2⟩,(hs t ht).2⟩
 ·refine R.F (decide_eq_false (by lia)) ?_
  walk_at "q"
  refine R.F (decide_eq_false (by lia)) ?_
  walk_at "q"
  refine R.T (decide_eq_true (by lia)) ?_
  walk_at "q"
  refine⟨Az 10 bp,rfl,?_⟩
  rw[BJ]
  by_cases z:l=[]
  ·rw[decide_eq_true z]
   walk_at "q"
   rw[e5]
   exact dq (by lia) fun l3 mm DU=>h l3 (fun s m=>hs s ((mm s).mp m)) DU (fun z=>by lia) fun z=>by lia
  ·rw[decide_eq_false z]
   walk_at "q"
   have lp:0<l.length:=List.length_pos_iff.mpr z
   have hj:=dR (c / 3) (show(0:Int)<l.length by lia)
   generalize c / 3 % (l.length:Int)=j at *
   have FL:j.toNat<l.length:=by lia
   refine⟨by lia,eB l[j.toNat],hj.1,by rw[mr,mG FL];rfl,rfl,?_⟩
   rw[e5,show(l.map eB).eraseIdx j.toNat=(l.eraseIdx j.toNat).map eB by rw[W9,W9,kG,LD,LG]]
   exact dq (gE (List.length_eraseIdx_le _ _) (by lia)) fun l3 mm DU=>h l3 (fun s m=>hs s (List.mem_of_mem_eraseIdx ((mm s).mp m))) DU (fun z=>by lia) fun z=>by lia
def eX:WS :=
 (b6 (eK 2 jX)
 (b6 (fI 0 (oa (d_ (ae 0)) (gT 2 (bu (gN 3) (bu (gN 4) jH)))
 (fI 1 (oa (d_ (ae 1)) (gT 2 (bu (gN 5) (bu (gN 6) jH)))
 (jS (wB (av sR (ae 4) (ae 5)))
 (uF (xB 2) (i7 (ak (ae 3) (ak (ae 6) b4))) (wC (.bl true)))
 cO)))))
 (iO (ic uC (ae 2)))))
def bj:gy:=fun ds Q=>∃ (many:Int) (xs ys:List P2),ds=[.list (xs.map kz),.list (ys.map kz)]/\many<=12/\(∀ x∈xs,eT many x)/\(∀ x∈ys,eT many x) /\
 ∀ zs:List P2,zs.length<=144->(∀ z∈zs,eT many z)->(∀ z,z∈zs↔∃ q,(z.1,q)∈xs/\(q,z.2)∈ys)->Q (.ow true) (.list (zs.map kz))
theorem kJ (ds Q) (h:bj ds Q):ds.length=["_law_one", "_law_other_here"].length:=by obtain⟨_,_,_,rfl,_⟩:=h;rfl
theorem oJ:∀ ds Q,bj ds Q->eX { nx:=fun _=>Q .sh .non,rt:=Q } (aG 7 ds):=by
 rintro ds Q ⟨many,xs,ys,rfl,hm,hx,hy,h⟩
 have len:∀ ks:List P2,ks.Nodup->(∀ x∈ks,eT many x)->ks.length<=144:=fun ks nd hi=>by
  have:=pairs_len nd hi
  have:many.toNat*many.toNat<=12*12:=B6 (by lia) (by lia)
  lia
 unfold eX
 walk_at "q"
 refine bO _ (fun i ρ=>∃ (ks:List P2) (o3 o4 o5 o6:Option Sl),ks.Nodup/\(∀ z∈ks,eT many z)/\(∀ z,z∈ks↔∃ q,(z.1,q)∈xs.take i/\(q,z.2)∈ys)/\ρ=[some (.sh (.list (xs.map kz))),some (.sh (.list (ys.map kz))),some (.ow true (.dT (px ks))),o3,o4,o5,o6]) ⟨[],_,_,_,_,lh,(fun z hz=>nomatch hz),(fun z=>⟨(fun y=>nomatch y),fun⟨q,y,_⟩=>by simp at y⟩),rfl⟩ ?_ ?_
 ·rintro i x ρ YW ⟨ks,o3,o4,o5,o6,nd,hi,mem,rfl⟩ N hN
  obtain⟨p,q,rfl,hp,tk⟩:=za YW
  walk_at "q"
  refine bO _ (fun j ρ=>∃ (ks:List P2) (o5 o6:Option Sl),ks.Nodup/\(∀ z∈ks,eT many z)/\(∀ z,z∈ks↔(∃ q,(z.1,q)∈xs.take i/\(q,z.2)∈ys)\/(z.1=p/\(q,z.2)∈ys.take j))/\ρ=[some (.sh (.list (xs.map kz))),some (.sh (.list (ys.map kz))),some (.ow true (.dT (px ks))),some (.sh (.int p)),some (.sh (.int q)),o5,o6]) ⟨ks,_,_,nd,hi,(fun z=>(mem z).trans ⟨.inl,fun y=>y.elim id fun y=>by simp at y⟩),rfl⟩ ?_ ?_
  ·rintro j x ρ Sr ⟨ks,o5,o6,nd,hi,mem,rfl⟩ N hN
   obtain⟨r,s,rfl,hr,Fu⟩:=za Sr
   have hl:=len ks nd hi
   walk_at "q"
   refine R.D (fun e=>?_) fun e=>?_
   ·subst e
    walk_at "q"
    have e2:=vZ ks (p,s)
    unfold gv at e2
    rw[e2,rH]
    refine⟨by lia,hN _ ⟨_,_,_,o_ nd,fun z hz=>?_,fun z=>?_,rfl⟩⟩
    ·rcases qd.mp hz with hz|rfl
     ·exact hi z hz
     ·exact⟨(hx _ hp).1,(hy _ hr).2⟩
    ·rw[qd,mem,Fu,dy,kg,or_assoc]
     refine or_congr_right ⟨?_,?_⟩
     ·rintro(⟨y1,y2⟩|rfl)
      ·exact⟨y1,.inl y2⟩
      ·exact⟨rfl,.inr rfl⟩
     ·rintro⟨y1,y2|y2⟩
      ·exact .inl ⟨y1,y2⟩
      ·have y2:=congrArg Prod.snd y2
       simp only at y2
       exact .inr (by rw[<- y1,<- y2])
   ·walk_at "q"
    refine hN _ ⟨ks,_,_,nd,hi,fun z=>?_,rfl⟩
    rw[mem,Fu,dy,kg]
    exact or_congr_right (and_congr_right fun _=>⟨.inl,fun y=>y.elim id fun y=>absurd (congrArg Prod.fst y) e⟩)
  ·rintro ρ ⟨ks,o5,o6,nd,hi,mem,rfl⟩
   rw[bS,tS] at mem
   refine hN _ ⟨ks,_,_,_,_,nd,hi,fun z=>?_,rfl⟩
   rw[mem,tk]
   constructor
   ·rintro(⟨q2,y1,y2⟩|⟨y1,y2⟩)
    ·exact⟨q2,kf _ y1,y2⟩
    ·exact⟨q,fw _ (by rw[y1];exact kg.mpr rfl),y2⟩
   ·rintro⟨q2,y1,y2⟩
    rcases dy.mp y1 with y1|y1
    ·exact .inl ⟨q2,y1,y2⟩
    ·have y1:=kg.mp y1
     have e1:=congrArg Prod.fst y1
     have e2:=congrArg Prod.snd y1
     simp only at e1 e2
     subst e2
     exact .inr ⟨e1,y2⟩
 ·rintro ρ ⟨ks,o3,o4,o5,o6,nd,hi,mem,rfl⟩
  rw[bS,tS] at mem
  walk_at "q"
  have:=h ks (len ks nd hi) hi mem
  rw[<- Dw] at this
  exact this
def eG:WS :=
 (b6 (jS (wB (av NR (av dv (ae 0) (wC (.int 0))) (wC (.int 20))))
 pD
 cO)
 (b6 (jS (wB (av NR (ic qf (av dv (ae 0) (wC (.int 1)))) (wC (.int 80))))
 pD
 cO)
 (jS (wB (av NR (ic qf (iC (iy (aK cU (ak (ae 0) b4))) (gN 0) (wB (aK dH (ak (ae 0) b4))) (ae 0) 1 [])) (wC (.int 6))))
 pD
 cO)))
def bh:gy:=fun ds Q=>∃ (many:Int) (l:List aC) (pool:List Str),ds=[mD many l]/\many<=20/\l.length<=63/\pool.length<=6/\Kd pool l/\Q .sh .non
theorem kY (ds Q) (h:bh ds Q):ds.length=["m"].length:=by obtain⟨_,_,_,rfl,_⟩:=h;rfl
theorem oA:∀ ds Q,bh ds Q->eG { nx:=fun _=>Q .sh .non,rt:=Q } (aG 1 ds):=by
 rintro ds Q ⟨many,steps,pool,rfl,hm,hz,hp,hk,h⟩
 unfold eG mD
 walk_at "q"
 refine R.D (fun a=>absurd a (by lia)) fun a=>?_
 walk_at "q"
 refine R.D (fun a=>absurd a (by lia)) fun a=>?_
 walk_at "q"
 refine⟨many,steps,rfl,hz,fun names nd mm=>?_⟩
 walk_at "q"
 refine cN (fun d=>match d with
  |.str x=>decide (1<=x.length/\x.length<=6) && (sg x).all isLet
  |_=>false) (fun d=>d) (fun ρ=>∃ o,ρ=[o]) _ _ _ ⟨_,rfl⟩ ?_ ?_
 ·rintro x hx ρ ⟨o,rfl⟩ N1 N2 n1 n2
  obtain⟨n,hn,rfl⟩:=bI.mp hx
  walk_at "q"
  refine⟨_,rfl,?_⟩
  walk_at "q"
  cases e:(decide (1<=n.length/\n.length<=6) && (sg n).all isLet) with
  |true =>
   rw[if_pos rfl]
   exact⟨.inl rfl,n2 _ ⟨_,rfl⟩ e⟩
  |false =>
   rw[if_neg hU]
   exact n1 _ ⟨_,rfl⟩ e
 ·have e1:(names.map D.str).filter (fun d=>match d with
    |.str x=>decide (1<=x.length/\x.length<=6) && (sg x).all isLet
    |_=>false)=(names.filter fun x=>decide (1<=x.length/\x.length<=6) && (sg x).all isLet).map D.str:=by
   rw[List.filter_map];rfl
  rw[e1,bS,bS]
  have hl:(names.filter fun x=>decide (1<=x.length/\x.length<=6) && (sg x).all isLet).length<=pool.length:=TS.dN (nd.filter _) fun x hx=>by
   obtain⟨h1,h2⟩:=y8.mp hx
   obtain⟨s,fA,e⟩:=bI.mp ((mm x).mp h1)
   have h3:=hk s fA
   rw[e] at h3
   rcases h3 with h3|h3
   ·subst h3;exact absurd h2 (by decide +kernel)
   ·exact h3
  refine R.D (fun c=>absurd c (by lia)) fun c=>?_
  walk_at "q"
  exact h
def eV:WS :=
 (b6 (eK 2 (iC (il (ic qf (ae 1))) (gN 0) xA (aK e_ (ak (ae 1) (ak (ae 2) (ak (ae 0) b4)))) 1 [0,1]))
 (b6 (eK 3 (sT b4))
 (b6 (fI 2 (oa (d_ (ic zz (ae 2))) (gN 4)
 (jS (wB (av (Pm true) (ae 4) (ae 3)))
 (fI 4 (Jn (xB 3) (ae 4)))
 cO)))
 (iO (iC (iy (ae 2)) (gN 0) xA (vO (ae 1) (ae 0)) 1 [3])))))
def aU:gy:=fun ds Q=>∃ (many:Int) (steps:List aC) (cq:List Int),ds=[wm many steps,.list (cq.map .int)]/\(0<=many/\many<=63)/\cq.length=many.toNat/\eW many steps/\steps.length<=63/\∀ r,RB many steps cq r->Q (.ow true) (.list (r.map .int))
theorem kj (ds Q) (h:aU ds Q):ds.length=["exits", "ranks"].length:=by obtain⟨_,_,_,rfl,_⟩:=h;rfl
theorem n8:∀ ds Q,aU ds Q->eV { nx:=fun _=>Q .sh .non,rt:=Q } (aG 5 ds):=by
 rintro ds Q ⟨many,steps,cq,rfl,hm,hr,bp,hl,h⟩
 unfold eV wm
 walk_at "q"
 refine⟨by lia,by lia,?_⟩
 refine lJ (fun n out=>∃ l:List Ky,out=l.map g0/\l.length=n/\∀ (i:Nat) k,l[i]? = some k->PY steps cq i k) (fun ρ=>∃ o,ρ=[o,some (.sh (.list (pj many steps))),some (.sh (.list (cq.map .int)))]) _ 0 [] _ _ ⟨_,rfl⟩ ⟨[],rfl,rfl,fun i k hk=>by simp at hk⟩ ?_ ?_
 ·rintro j y hy ρ ⟨o,rfl⟩ out ⟨l,rfl,Vt,hk⟩ N1 N2 MQ
  have hj:=(jJ hy).1
  obtain⟨_,rfl⟩:=jJ hy
  walk_at "q"
  refine⟨many,steps,cq,0+(j:Nat),rfl,by lia,hr,bp,hl,fun k U6=>?_⟩
  walk_at "q"
  refine⟨.inr rfl,MQ _ _ ⟨_,rfl⟩ ⟨l++[k],by simp,by simp[Vt],fun i k' kb=>?_⟩⟩
  rcases zk i l.length with hi|hi
  ·rw[KP hi] at kb
   exact hk i k' kb
  ·rw[D1 hi] at kb
   have AZ:i-l.length=0:=by
    rcases Nat.eq_zero_or_pos (i-l.length) with z|z
    ·exact z
    ·rw[tP (by simp;lia)] at kb;cases kb
   rw[AZ] at kb
   cases kb
   have:((i:Nat):Int)=0+(j:Nat):=by lia
   rw[this]
   exact U6
 rintro out ⟨l,e,Vt,hk⟩
 simp only[List.nil_append] at e
 subst e
 rw[jh,D9] at Vt
 have FU:∀ k∈l,sD k:=fun k qE=>by
  obtain⟨i,hi⟩:=K0.mp qE
  exact(hk i k hi).ok bp
 refine⟨by rw[bS];lia,fun d hd=>?_,fun ms pm pw=>?_⟩
 ·obtain⟨k,qE,rfl⟩:=bI.mp hd
  exact⟨BK (FU k qE) 9,(FU k qE).tI⟩
 obtain⟨l2,rfl,sP⟩:=Vo (f:=g0) (P:=fun k=>k∈l) (ks:=ms) fun d hd=>by
  obtain⟨k,qE,e⟩:=bI.mp (pm.mem_iff.mp hd)
  exact⟨k,e.symm,qE⟩
 have back:∀ k∈l,k∈l2:=fun k qE=>by
  obtain⟨j,hj,e⟩:=bI.mp (pm.mem_iff.mpr (bI.mpr ⟨k,qE,rfl⟩))
  rw[<- yp e];exact hj
 have ka':l2.length=l.length:=by have:=pm.length_eq;simpa using this
 rw[pE] at pw
 have pw:l2.Pairwise fun a b=>tJ b a=false:=pw
 refine bO _ (fun i ρ=>∃ (diff:List Ky) (fl:Bool) (o4:Option Sl),diff.Pairwise (fun a b=>tJ a b=true)/\(∀ k,k∈diff↔k∈l2.take i)/\diff.length<=i/\ρ=[some (.sh (.list (pj many steps))),some (.sh (.list (cq.map .int))),some (.sh (.list (l.map g0))),some (.ow fl (.list (diff.map g0))),o4]) ⟨[],true,none,.nil,by simp,by simp,rfl⟩ ?_ ?_
 ·rintro i x ρ hx ⟨diff,fl,o4,up,mem,dl,rfl⟩ N hN
  obtain⟨hi,hx'⟩:=iS.mp hx
  have iF:i<l2.length:=by simpa using hi
  have hxe:x=g0 l2[i]:=by rw[<- hx'];simp
  subst hxe
  have qE:l2[i]∈l:=sP _ (AI iF)
  have tk:l2.take (i+1)=l2.take i++[l2[i]]:=by rw[D3,mG iF];rfl
  have Sy:∀ k∈diff,sD k:=fun k P4=>FU k (sP k (Qq ((mem k).mp P4)))
  generalize ek:l2[i]=k at *
  walk_at "q"
  refine⟨BK (FU k qE) 9,Ep Sy 8,?_⟩
  rw[JR]
  by_cases hd:k∈diff
  ·refine R.F (by simp[hd]) ?_
   walk_at "q"
   refine hN _ ⟨diff,fl,_,up,fun k'=>?_,by lia,rfl⟩
   rw[mem,tk,dy,kg]
   exact⟨.inl,fun z=>z.elim id fun e=>by rw[e];exact(mem k).mp hd⟩
  ·refine R.T (by simp[hd]) ?_
   walk_at "q"
   refine⟨by lia,?_⟩
   refine hN _ ⟨diff++[k],fl && (g0 k).flat,some (.sh (g0 k)),?_,fun k'=>?_,by simp;lia,by simp⟩
   ·refine List.pairwise_append.mpr ⟨up,by simp,fun a ha b hb=>?_⟩
    rw[kg.mp hb]
    cases h3:tJ a k with
    |true=>rfl
    |false =>
     have h4:tJ k a=false:=by
      obtain⟨j,hj⟩:=K0.mp ((mem a).mp ha)
      obtain⟨E3,FL⟩:=iS.mp hj
      have UQ:j<i:=by rw[qS] at E3;lia
      have:=y6.mp pw j i (by lia) iF UQ
      rw[ek] at this
      rw[List.getElem_take] at FL
      rwa[FL] at this
     exact absurd (Gr (Sy a ha) (FU k qE) h3 h4) fun e=>hd (by rw[<- e];exact ha)
   ·rw[dy,kg,mem,tk,dy,kg]
 ·rintro ρ ⟨diff,fl,o4,up,mem,dl,rfl⟩
  rw[bS,tS] at mem
  have md:∀ k,k∈diff↔k∈l:=fun k=>(mem k).trans ⟨sP k,back k⟩
  have Sy:∀ k∈diff,sD k:=fun k P4=>FU k ((md k).mp P4)
  walk_at "q"
  refine lJ (fun n out=>∃ r:List Int,out=r.map .int/\r.length=n/\∀ (i:Nat) x,r[i]? = some x->0<=x/\diff[x.toNat]? = l[i]?) (fun ρ=>∃ o,ρ=[o,some (.sh (.list (diff.map g0)))]) _ 0 [] _ _ ⟨_,rfl⟩ ⟨[],rfl,rfl,fun i k hk=>by simp at hk⟩ ?_ ?_
  ·rintro j y hy ρ ⟨o,rfl⟩ out ⟨r,rfl,Vu,E2⟩ N1 N2 MQ
   obtain⟨hj,hy'⟩:=iS.mp hy
   have xo:j<l.length:=by simpa using hj
   have hye:y=g0 l[j]:=by rw[<- hy'];simp
   subst hye
   have qE:l[j]∈l:=AI xo
   have hlj:l[j]? = some l[j]:=mG xo
   generalize l[j]=k at *
   have P4:=(md k).mpr qE
   have xt:=List.idxOf_lt_length_of_mem P4
   walk_at "q"
   refine⟨Ep Sy 8,BK (FU k qE) 9,diff.idxOf k,⟨g0 k,?_,by rw[xm];exact decide_eq_true rfl⟩,fun i z hi hz=>?_,.inl rfl,MQ _ _ ⟨_,rfl⟩ ⟨r++[((diff.idxOf k:Nat):Int)],by simp,by simp[Vu],fun i x hx=>?_⟩⟩
   ·rw[mr,mG xt,List.getElem_idxOf xt];rfl
   ·rw[mr,mG (by lia)] at hz
    cases hz
    rw[xm]
    refine decide_eq_false fun e=>?_
    have:=List.not_of_lt_findIdx (p:=(· == k)) (xs:=diff) hi
    rw[show diff[i]=k from e] at this
    simp at this
   ·rcases zk i r.length with hi|hi
    ·rw[KP hi] at hx
     exact E2 i x hx
    ·rw[D1 hi] at hx
     have AZ:i-r.length=0:=by
      rcases Nat.eq_zero_or_pos (i-r.length) with z|z
      ·exact z
      ·rw[tP (by simp;lia)] at hx;cases hx
     rw[AZ] at hx
     cases hx
     have:i=j:=by lia
     subst this
     refine⟨by lia,?_⟩
     rw[hlj,G0,mG xt,List.getElem_idxOf xt]
  rintro out ⟨r,e,Vu,E2⟩
  simp only[List.nil_append] at e
  subst e
  rw[bS,D9] at Vu
  refine h r ⟨fun s=>l.getD s.toNat (0,[]),diff,by lia,fun s a b=>?_,up,fun k=>?_,fun s a b=>?_⟩
  ·have hs:s.toNat<l.length:=by lia
   have:=hk s.toNat l[s.toNat] (mG hs)
   rw[B9 a] at this
   simpa[List.getD,hs] using this
  ·rw[md]
   constructor
   ·intro qE
    obtain⟨i,hi,rfl⟩:=Qp.mp qE
    exact⟨(i:Nat),by lia,by simp[List.getD,hi]⟩
   ·rintro⟨s,hs,rfl⟩
    have hs:s.toNat<l.length:=by lia
    simp[List.getD,hs]
  ·have hs:s.toNat<r.length:=by lia
   have fA:s.toNat<l.length:=by lia
   have:=E2 s.toNat r[s.toNat] (mG hs)
   simpa[rk,List.getD,hs,fA] using this
def fJ:WS :=
 (fI 1 (oa (d_ (ae 1)) (gN 2)
 (b6 (kW (aK aD (ak (ae 0) (ak (av dv (ae 2) (wC (.int 0))) b4))))
 (kW (aK aD (ak (ae 0) (ak (av dv (ae 2) (wC (.int 1))) b4)))))))
def bD:gy:=fun ds Q=>∃ (many:Int) (l:List aC) (ps:List P2),ds=[mD many l,.list (ps.map kz)]/\(∀ p∈ps,eT many p)/\Q .sh .non
theorem lL (ds Q) (h:bD ds Q):ds.length=["m", "pairs"].length:=by obtain⟨_,_,_,rfl,_⟩:=h;rfl
theorem pY:∀ ds Q,bD ds Q->fJ { nx:=fun _=>Q .sh .non,rt:=Q } (aG 3 ds):=by
 rintro ds Q ⟨many,l,ps,rfl,hi,h⟩
 unfold fJ mD
 walk_at "q"
 refine bO _ (fun i ρ=>∃ o:Option Sl,ρ=[some (.sh (.tup [.int many,.list (l.map eB)])),some (.sh (.list (ps.map kz))),o]) ⟨_,rfl⟩ ?_ ?_
 ·rintro i x ρ hx ⟨o,rfl⟩ N hN
  obtain⟨p,q,rfl,hm,tk⟩:=za hx
  have ip:=hi _ hm
  walk_at "q"
  refine⟨many,l,p,rfl,ip.1.1,ip.1.2,?_⟩
  walk_at "q"
  refine⟨many,l,q,rfl,ip.2.1,ip.2.2,?_⟩
  walk_at "q"
  exact hN _ ⟨_,rfl⟩
 ·rintro ρ ⟨o,rfl⟩
  exact h
def dM:WS :=
 (b6 (eK 2 jX)
 (b6 (fI 1 (oa (d_ (ae 1)) (gN 3)
 (uF (xB 2) (ae 3) (wC (.bl true)))))
 (b6 (eK 4 (aK aX (ak (ae 0) b4)))
 (b6 (eK 5 (aK cB (ak (ae 0) b4)))
 (b6 (fI 5 (fI 4 (fI 2 (Gh (ae 2) (gT 2 (bu (gN 6) (bu (gN 7) jH)))
 (fI 4 (oa (d_ (av dv (ae 4) (ae 6))) (gT 2 (bu (gN 8) (bu (gN 9) jH)))
 (fI 8 (fI 7 (fI 9 (jS (sv (wB (ic U9 (iC (iy (Pw (ae 5) (i7 (ak (ae 7) (ak (ae 8) b4))) (U7 (sT b4)))) (gN 0) xA (av (vT false) (i7 (ak (ae 1) (ak (ae 0) b4))) (ae 2)) 1 [9,2]))))
 (iO (wC (.bl false)))
 cO))))))))))
 (iO (wC (.bl true))))))))
def aV:gy:=fun ds Q=>∃ (many:Int) (l:List aC) (ps:List P2),ds=[mD many l,.list (ps.map kz)]/\(0<=many/\many<=63)/\eW many l/\l.length<=63/\ps.length<=10000/\(∀ p∈ps,eT many p)/\∀ b,(b=true↔SM l ps)->Q .sh (.bl b)
theorem jw (ds Q) (h:aV ds Q):ds.length=["m", "pairs"].length:=by obtain⟨_,_,_,rfl,_⟩:=h;rfl
theorem lX:∀ ds Q,aV ds Q->dM { nx:=fun _=>Q .sh .non,rt:=Q } (aG 10 ds):=by
 rintro ds Q ⟨many,l,ps,rfl,hm,bp,hl,Z2,hr,h⟩
 unfold dM mD
 walk_at "q"
 refine bO _ (fun i ρ=>∃ (ks:List P2) (o3:Option Sl),FP (ps.take i) ks/\ρ=[some (.sh (.tup [.int many,.list (l.map eB)])),some (.sh (.list (ps.map kz))),some (.ow true (.dT (px ks))),o3,none,none,none,none,none,none]) ⟨[],_,FP.nil,rfl⟩ ?_ ?_
 ·rintro i x ρ hx ⟨ks,o3,hd,rfl⟩ N hN
  obtain⟨p,q,rfl,hm,tk⟩:=za hx
  have R5:=hd.len
  rw[qS] at R5
  walk_at "q"
  refine⟨by rw[rH];lia,?_⟩
  have e:=vZ ks (p,q)
  unfold gv at e
  rw[e]
  exact hN _ ⟨_,_,by rw[tk];exact hd.put (p,q),rfl⟩
 rintro ρ ⟨ks,o3,hd,rfl⟩
 rw[bS,tS] at hd
 walk_at "q"
 refine⟨many,l,rfl,hm,bp,by lia,?_⟩
 walk_at "q"
 refine⟨many,l,rfl,by lia,fun kvs hw=>?_⟩
 walk_at "q"
 refine bO _ (fun i ρ=>∃ (o6 o7 o8 o9:Option Sl),(∀ p∈ks.take i,BI l ks p.1 p.2)/\ρ=[some (.sh (.tup [.int many,.list (l.map eB)])),some (.sh (.list (ps.map kz))),some (.sh (.dT (px ks))),o3,some (.sh (wm many l)),some (.sh (.dT kvs)),o6,o7,o8,o9]) ⟨_,_,_,_,(fun p hp=>by simp at hp),rfl⟩ ?_ ?_
 ·rintro i x ρ hx ⟨o6,o7,o8,o9,hi,rfl⟩ N hN
  rw[Dw] at hx
  obtain⟨p,q,rfl,M0,tk⟩:=za hx
  have Z3:=hr _ ((hd.mem _).mp M0)
  walk_at "q"
  refine⟨_,Hg l Z3.1.1 Z3.1.2,?_⟩
  walk_at "q"
  refine bO _ (fun j ρ=>∃ (o8 o9:Option Sl),(∀ t∈(nE l p).take j,∃ o,(q,t.1,o)∈l/\(t.2,o)∈ks)/\ρ=[some (.sh (.tup [.int many,.list (l.map eB)])),some (.sh (.list (ps.map kz))),some (.sh (.dT (px ks))),o3,some (.sh (wm many l)),some (.sh (.dT kvs)),some (.sh (.int p)),some (.sh (.int q)),o8,o9]) ⟨_,_,(fun p hp=>by simp at hp),rfl⟩ ?_ ?_
  ·rintro j x ρ hx ⟨o8,o9,hj,rfl⟩ N hN
   obtain⟨d,e,rfl,oD,Fu⟩:=Ja hx
   walk_at "q"
   refine BZ hw ?_
   walk_at "q"
   refine cN (fun _=>true) (ZZ fun o=>.bl (decide ((e,o)∈ks))) (fun ρ=>∃ o,ρ=[o,some (.sh (.int e)),some (.sh (.dT (px ks)))]) _ _ _ ⟨_,rfl⟩ ?_ ?_
   ·rintro x hx ρ ⟨o,rfl⟩ N1 N2 n1 n2
    obtain⟨c,hc,rfl⟩:=bI.mp hx
    walk_at "q"
    have e1:=Cu ks (e,c)
    unfold gv at e1
    rw[e1]
    exact⟨.inl rfl,n2 _ ⟨_,rfl⟩ rfl⟩
   rw[Fi]
   refine⟨(cC l q d).map fun o=>decide ((e,o)∈ks),by rw[eP];rfl,?_⟩
   refine R.B (fun hb=>?_) fun hb=>?_
   ·walk_at "q"
    have hb:((cC l q d).map fun o=>decide ((e,o)∈ks)).any (fun b=>b)=false:=by simpa using hb
    refine h false ⟨(fun z=>by cases z),fun z=>?_⟩
    have z:SM l ps:=z
    obtain⟨o,ho,m⟩:=z _ ((hd.mem _).mp M0) d e (rM.mp oD)
    have:((cC l q d).map fun o=>decide ((e,o)∈ks)).any (fun b=>b)=true:=D5.mpr ⟨_,bI.mpr ⟨o,lr.mpr ho,rfl⟩,decide_eq_true ((hd.mem _).mpr m)⟩
    rw[hb] at this
    exact this
   ·walk_at "q"
    have hb:((cC l q d).map fun o=>decide ((e,o)∈ks)).any (fun b=>b)=true:=by simpa using hb
    rw[List.any_map] at hb
    obtain⟨o,ho,z⟩:=D5.mp hb
    exact hN _ ⟨_,_,lA Fu hj ⟨o,lr.mp ho,of_decide_eq_true z⟩,rfl⟩
  ·rintro ρ ⟨o8,o9,hj,rfl⟩
   rw[bS,tS] at hj
   exact hN _ ⟨_,_,_,_,lA tk hi fun d e he=>hj (d,e) (rM.mpr he),rfl⟩
 ·rintro ρ ⟨o6,o7,o8,o9,hi,rfl⟩
  rw[bS,rH,tS] at hi
  walk_at "q"
  exact h true ⟨fun _ p hp=>(BI.congr hd.mem).mp (hi p ((hd.mem p).mpr hp)),fun _=>rfl⟩
def fL:WS :=
 (b6 (fI 0 (oa (d_ (av dv (ae 0) (ae 3))) (gT 2 (bu (gN 5) (bu (gN 6) jH)))
 (fI 5 (fI 4 (jS (wB (aK bW (ak (ae 2) (ak (ae 6) (ak (Pw (ae 1) (i7 (ak (ae 4) (ak (ae 5) b4))) (sT b4)) b4)))))
 (yO [.inr 5,.inr 6])
 cO)))))
 (iO (wC .non)))
def bB:gy:=fun ds Q=>∃ (many:Int) (l:List aC) (kvs:Kn) (mp:Mp) (p q:Int),ds=[wm many l,.dT kvs,.dT (g7 mp),.int p,.int q]/\xC l kvs/\eT many (p,q)/\(∀ d e,BM l (dS mp) (p,q)->Q .sh (.tup [.str d,.int e]))/\(¬ BM l (dS mp) (p,q)->Q .sh .non)
theorem mJ (ds Q) (h:bB ds Q):ds.length=["exits", "ways", "missed", "p", "q"].length:=by obtain⟨_,_,_,_,_,_,rfl,_⟩:=h;rfl
theorem Ab{l:List aC}{kvs:Kn}(h:xC l kvs){s:Int}{d:Str}{n:Md}{Q:Md->D->Prop}(q:∀ m,Q m (.list ((cC l s d).map .int))):BE (dz kvs [.inl s,.inr d]) .sh n (.list []) Q:=by
 rw[h s d]
 by_cases z:cC l s d=[]
 ·rw[if_pos z];have:=q n;rw[z] at this;exact this
 ·rw[if_neg z];exact q .sh
theorem rF:∀ ds Q,bB ds Q->fL { nx:=fun _=>Q .sh .non,rt:=Q } (aG 7 ds):=by
 rintro ds Q ⟨many,l,kvs,mp,p,q,rfl,hw,hp,h1,h2⟩
 unfold fL
 walk_at "q"
 refine⟨_,Hg l hp.1.1 hp.1.2,?_⟩
 walk_at "q"
 refine bO _ (fun j ρ=>∃ (o5 o6:Option Sl),(∀ t∈(nE l p).take j,¬ ∀ o,(q,t.1,o)∈l->(t.2,o)∈dS mp)/\ρ=[some (.sh (wm many l)),some (.sh (.dT kvs)),some (.sh (.dT (g7 mp))),some (.sh (.int p)),some (.sh (.int q)),o5,o6]) ⟨_,_,(fun p hp=>by simp at hp),rfl⟩ ?_ ?_
 ·rintro j x ρ hx ⟨o5,o6,hj,rfl⟩ N hN
  obtain⟨d,e,rfl,oD,Fu⟩:=Ja hx
  walk_at "q"
  refine Ab hw fun m=>?_
  refine⟨mp,e,cC l q d,rfl,fun b hb=>?_⟩
  walk_at "q"
  have hb:b=true↔∀ o,(q,d,o)∈l->(e,o)∈dS mp:=hb.trans ⟨fun z o ho=>z o (lr.mpr ho),fun z o ho=>z o (lr.mp ho)⟩
  refine R.B (fun z=>?_) fun z=>?_
  ·walk_at "q"
   exact h1 d e ⟨d,e,rM.mp oD,hb.mp z⟩
  ·walk_at "q"
   exact hN _ ⟨_,_,lA Fu hj (fun y=>by rw[hb.mpr y] at z;exact nomatch z),rfl⟩
 ·rintro ρ ⟨o5,o6,hj,rfl⟩
  rw[bS,tS] at hj
  walk_at "q"
  exact h2 fun⟨d,e,he,ho⟩=>hj (d,e) (rM.mpr he) ho
def gk:WS :=
 (b6 (kW (aK aD (ak (ae 0) (ak (ae 1) b4))))
 (kW (aK aD (ak (ae 0) (ak (ae 2) b4)))))
def aW:gy:=fun ds Q=>∃ (many:Int) (l:List aC) (p q:Int),ds=[mD many l,.int p,.int q]/\eT many (p,q)/\Q .sh .non
theorem nP (ds Q) (h:aW ds Q):ds.length=["m", "p", "q"].length:=by obtain⟨_,_,_,_,rfl,_⟩:=h;rfl
theorem ux:∀ ds Q,aW ds Q->gk { nx:=fun _=>Q .sh .non,rt:=Q } (aG 3 ds):=by
 rintro ds Q ⟨many,l,p,q,rfl,hp,h⟩
 unfold gk
 walk_at "q"
 refine⟨many,l,p,rfl,hp.1.1,hp.1.2,?_⟩
 walk_at "q"
 refine⟨many,l,q,rfl,hp.2.1,hp.2.2,?_⟩
 walk_at "q"
 exact h
def qC:WS :=
 (b6 (eK 2 (av dv (ae 0) (wC (.int 0))))
 (b6 (eK 3 (iC (iy (av dv (ae 1) (wC (.int 1)))) (gN 0) xA (i7 (ak (av kD (av dv (ae 0) (wC (.int 0))) (ae 1)) (ak (av dv (ae 0) (wC (.int 1))) (ak (av kD (av dv (ae 0) (wC (.int 2))) (ae 1)) b4)))) 1 [2]))
 (b6 (eK 4 (i7 (ak (av kD (ae 2) (av dv (ae 1) (wC (.int 0)))) (ak (av kD (av dv (ae 0) (wC (.int 1))) (ae 3)) b4))))
 (b6 (kW (aK bh (ak (ae 4) b4)))
 (nW 4)))))
def eY:gy:=fun ds Q=>∃ (a b:Int) (l1 l2:List aC) (pool:List Str),ds=[mD a l1,mD b l2]/\a+b<=20/\l1.length+l2.length<=63/\pool.length<=6/\Kd pool l1/\Kd pool l2/\Q (.ow true) (mD (a+b) (jn a l1 l2))
theorem xN (ds Q) (h:eY ds Q):ds.length=["one", "other"].length:=by obtain⟨_,_,_,_,_,rfl,_⟩:=h;rfl
theorem xu{l:List aC}{a:Int}{Q:List D->Prop}{p:Nat}(h:Q ((l.map (Z1 a)).map eB))(ρ:Env)(hp:ρ[p+1]? = some (some (.sh (.int a)))) :
  iB (gN 0) xA (i7 (ak (av kD (av dv (ae 0) (wC (.int 0))) (ae (p+1))) (ak (av dv (ae 0) (wC (.int 1))) (ak (av kD (av dv (ae 0) (wC (.int 2))) (ae (p+1))) b4)))) (l.map eB) ρ Q:=by
 refine cN (fun _=>true) (fun x=>match x with
  |.tup [.int u,d,.int v]=>.tup [.int (u+a),d,.int (v+a)]
  |x=>x) (fun aT=>aT.tail=ρ.tail/\aT.length=ρ.length) _ _ _ ⟨rfl,rfl⟩ ?_ ?_
 ·rintro x hx aT ⟨e,el⟩ N1 N2 n1 n2
  obtain⟨⟨u,b,c⟩,hs,rfl⟩:=bI.mp hx
  cases aT with
  |nil=>cases ρ with
   |nil=>simp at hp
   |cons=>simp at el
  |cons o aT =>
   cases ρ with
   |nil=>simp at hp
   |cons o2 ρ =>
    simp only[List.tail_cons] at e
    subst e
    simp only[List.getElem?_cons_succ] at hp
    unfold eB
    walk_at "q"
    rw[hp]
    walk_at "q"
    rw[hp]
    walk_at "q"
    exact⟨.inl rfl,n2 _ ⟨rfl,rfl⟩ rfl⟩
 ·rw[uz,eP]
  rw[eP] at h
  exact h
theorem Ca:∀ ds Q,eY ds Q->qC { nx:=fun _=>Q .sh .non,rt:=Q } (aG 5 ds):=by
 rintro ds Q ⟨a,b,l1,l2,pool,rfl,wa,hl,hp,k1,k2,h⟩
 unfold qC mD
 walk_at "q"
 refine xu (p:=0) ?_ _ rfl
 refine⟨by simp;lia,.inl ⟨jq _,jq _,?_⟩⟩
 rw[<- kG]
 refine⟨a+b,jn a l1 l2,pool,rfl,wa,by simp[jn];lia,hp,fun s hs=>?_,?_⟩
 ·rcases dy.mp hs with hs|hs
  ·exact k1 s hs
  ·obtain⟨u,hu,rfl⟩:=bI.mp hs
   exact k2 u hu
 walk_at "q"
 exact h
def iJ:WS :=
 (b6 (eK 1 (aK aX (ak (ae 0) b4)))
 (b6 (eK 2 (sT (ak (av Ck (sT (ak (wC (.int 0)) b4)) (av dv (ae 0) (wC (.int 0)))) b4)))
 (b6 (eK 3 (aK aU (ak (ae 1) (ak (av dv (ae 2) (wC (.int 0))) b4))))
 (b6 (zK (wB (av A7 (ae 3) (av dv (ae 2) (ic NS (wC (.int 1))))))
 (zx 2 3 (aK aU (ak (ae 1) (ak (ae 3) b4)))))
 (nW 2)))))
def Z4(rs:List (List Int)):D:=.list (rs.map AA)
def cJ:gy:=fun ds Q=>∃ (many:Int) (steps:List aC),ds=[mD many steps]/\(1<=many/\many<=63)/\eW many steps/\steps.length<=63/\∀ rest,Chain many steps (zeros many) rest->rest.length<=10000->Q (.ow true) (Z4 (zeros many :: rest))
theorem qe (ds Q) (h:cJ ds Q):ds.length=["m"].length:=by obtain⟨_,_,rfl,_⟩:=h;rfl
theorem Ba(cur:List Int)(pre:List (List Int)):ft ((cur :: pre).map AA) (-1)=some (AA (jG cur pre)):=by
 have e:(cur :: pre).map AA=((cur :: pre).dropLast.map AA)++[AA (jG cur pre)]:=by
  conv=>lhs;rw[<- List.dropLast_concat_getLast (show cur :: pre≠[] by simp)]
  rw[kG]
  rfl
 rw[e]
 exact dl' _ _
theorem xX(cur ml:List Int)(pre:List (List Int)):jG cur (pre++[ml])=ml:=by
 unfold jG
 rw[List.getLast_cons (by simp),List.getLast_concat]
theorem vG:∀ ds Q,cJ ds Q->iJ { nx:=fun _=>Q .sh .non,rt:=Q } (aG 4 ds):=by
 rintro ds Q ⟨many,steps,rfl,hm,bp,hl,h⟩
 unfold iJ
 have hmm:many*many<=10000:=by
  have:=Int.mul_le_mul hm.2 hm.2 (by lia) (by lia)
  lia
 have e0:aG 4 [mD many steps]=[some (.sh (mD many steps)),none,none,none]:=rfl
 rw[e0]
 walk_at "q"
 refine⟨many,steps,rfl,by lia,bp,hl,?_⟩
 unfold wm
 walk_at "q"
 unfold mD
 walk_at "q"
 refine⟨by lia,?_⟩
 rw[z7]
 refine⟨many,steps,zeros many,rfl,by lia,by simp[zeros],bp,hl,fun r hr=>?_⟩
 walk_at "q"
 refine⟨fun ρ=>∃ (pre:List (List Int)) (cur ml:List Int),xU many cur/\RB many steps cur ml/\(∀ rest,Chain many steps cur rest->Chain many steps (zeros many) (pre++rest))/\jG (zeros many) pre=cur/\(pre.length:Int)<=cur.sum/\cur.sum<=many*many /\
   ρ=[some (.sh (.tup [.int many,.list (steps.map eB)])),some (.ow true (.list (pj many steps))),some (.ow true (.list ((zeros many :: pre).map AA))),some (.ow true (.list (ml.map .int)))],
  fun ρ=>match ρ with
   |[_,_,some (.ow _ (.list rs)),_]=>20000-rs.length
   |_=>0,⟨[],zeros many,r,uY hm.1,hr,fun rest hc=>hc,rfl,?_,?_,rfl⟩,?_⟩
 ·simp[zeros]
 ·have:0<=many*many:=Int.mul_nonneg (by lia) (by lia)
  simp[zeros];lia
 rintro ρ ⟨pre,cur,ml,hd,hb,hc,hla,hp,hs,rfl⟩
 walk_at "q"
 refine⟨_,Ba _ _,?_⟩
 rw[hla]
 unfold AA
 walk_at "q"
 refine⟨yK _ _,yK _ _,?_⟩
 rw[K_]
 by_cases e:ml=cur
 ·rw[if_neg (by simp[e])]
  rw[e] at hb
  have:=hc [] hb
  rw[qV] at this
  exact h pre this (by lia)
 ·rw[if_pos (by simp[e])]
  have hK':=hb.sum bp hd (by lia) e
  refine⟨m5 _,by lia,?_⟩
  refine⟨many,steps,ml,rfl,by lia,(hb.BV bp).1,bp,hl,fun r2 Sz=>?_⟩
  walk_at "q"
  refine⟨⟨pre++[ml],ml,r2,hb.BV bp,Sz,fun rest wq=>?_,xX _ _ _,by simp;lia,hK'.2,by simp[AA]⟩,?_⟩
  ·have:=hc (ml :: rest) ⟨hb,e,wq⟩
   simpa using this
  ·simp
   lia
def iG:WS :=
 (b6 (eK 4 jX)
 (b6 (oa (il (ic qf (ae 0))) (gN 5)
 (oa (il (ic qf (ae 0))) (gN 6)
 (fI 6 (fI 5 (jS (wB (av (vT true) (i7 (ak (ae 5) (ak (ae 6) b4))) (ae 2)))
 (b6 (eK 7 (aK bB (ak (ae 0) (ak (ae 1) (ak (ae 2) (ak (ae 5) (ak (ae 6) b4)))))))
 (jS (wB (av Gw (ae 7) (wC .non)))
 (fI 3 (uF (xB 4) (i7 (ak (ae 5) (ak (ae 6) b4))) (i7 (ak (ae 3) (ak (av dv (ae 7) (wC (.int 0))) (ak (av dv (ae 7) (wC (.int 1))) b4))))))
 cO))
 cO)))))
 (nW 4)))
def bR:gy:=fun ds Q=>∃ (many:Int) (l:List aC) (kvs:Kn) (mp:Mp) (n:Nat),ds=[wm many l,.dT kvs,.dT (g7 mp),.int n]/\(0<=many/\many<=12)/\xC l kvs/\∀ fm,PZ many l mp (uQ n) fm->Q (.ow true) (.dT (g7 fm))
theorem qN (ds Q) (h:bR ds Q):ds.length=["exits", "ways", "missed", "turn"].length:=by obtain⟨_,_,_,_,_,rfl,_⟩:=h;rfl
structure AB(many:Int)(l:List aC)(mp:Mp)(g:D->Prop)(V:P2->Prop)(fm:Mp):Prop where
 nd:(dS fm).Nodup
 pz:∀ x∈fm,eT many x.1/\x.1∉dS mp/\BM l (dS mp) x.1/\g x.2
 SD:∀ x∈dS fm,V x
 all:∀ p,eT many p->V p->p∉dS mp->BM l (dS mp) p->p∈dS fm
theorem AB.skip{many:Int}{l:List aC}{mp:Mp}{g:D->Prop}{V W:P2->Prop}{fm:Mp}(h:AB many l mp g V fm)(hV:∀ x,V x->W x)(hn:∀ p,eT many p->W p->¬ V p->p∉dS mp->¬ BM l (dS mp) p):AB many l mp g W fm:=⟨h.nd,h.pz,fun x hx=>hV x (h.SD x hx),fun p hp hw z ms=>by
 by_cases v:V p
 ·exact h.all p hp v z ms
 ·exact absurd ms (hn p hp hw v z)⟩
theorem AB.put{many:Int}{l:List aC}{mp:Mp}{g:D->Prop}{V W:P2->Prop}{fm:Mp}(h:AB many l mp g V fm)(hV:∀ x,V x->W x){x:P2}{d:D}(hn:∀ p,eT many p->W p->¬ V p->p=x)(hx:eT many x)(hm:x∉dS mp)(ms:BM l (dS mp) x)(gd:g d)(nv:¬ V x)(hw:W x):AB many l mp g W (fm++[(x,d)]):=by
 have e:dS (fm++[(x,d)])=dS fm++[x]:=by simp[dS]
 refine⟨?_,fun y hy=>?_,fun y hy=>?_,fun p hp w z ms=>?_⟩
 ·rw[e]
  exact g9.mpr ⟨h.nd,by simp,fun a ha b hb e=>nv (by rw[<- kg.mp hb,<- e];exact h.SD a ha)⟩
 ·rcases dy.mp hy with hy|hy
  ·exact h.pz y hy
  ·rw[kg.mp hy];exact⟨hx,hm,ms,gd⟩
 ·rw[e] at hy
  rcases dy.mp hy with hy|hy
  ·exact hV y (h.SD y hy)
  ·rw[kg.mp hy];exact hw
 ·rw[e,dy,kg]
  by_cases v:V p
  ·exact .inl (h.all p hp v z ms)
  ·exact .inr (hn p hp w v)
theorem AB.len{many:Int}{l:List aC}{mp:Mp}{g:D->Prop}{V:P2->Prop}{fm:Mp}(h:AB many l mp g V fm)(hm:many<=12):fm.length<=144:=by
 have:=pairs_len (many:=many) h.nd fun x hx=>by
  obtain⟨y,hy,rfl⟩:=bI.mp hx
  exact(h.pz y hy).1
 rw[dS,bS] at this
 have:many.toNat*many.toNat<=12*12:=B6 (by lia) (by lia)
 lia
theorem uU:∀ ds Q,bR ds Q->iG { nx:=fun _=>Q .sh .non,rt:=Q } (aG 8 ds):=by
 rintro ds Q ⟨many,l,kvs,mp,n,rfl,hm,hw,h⟩
 unfold iG wm
 walk_at "q"
 rw[lR]
 refine⟨by lia,by lia,?_⟩
 refine bO _ (fun i ρ=>∃ (fm:Mp) (o5 o6 o7:Option Sl),AB many l mp (uQ n) (fun x=>x.1<i) fm/\ρ=[some (.sh (.list (pj many l))),some (.sh (.dT kvs)),some (.sh (.dT (g7 mp))),some (.sh (.int n)),some (.ow true (.dT (g7 fm))),o5,o6,o7]) ⟨[],_,_,_,⟨lh,(fun x hx=>nomatch hx),(fun x hx=>nomatch hx),fun p hp v=>?_⟩,rfl⟩ ?_ ?_
 ·have:=hp.1.1
  lia
 ·rintro i x ρ hx ⟨fm,o5,o6,o7,hf,rfl⟩ N hN
  obtain⟨hi,rfl⟩:=jJ hx
  walk_at "q"
  rw[lR]
  refine⟨by lia,by lia,?_⟩
  refine bO _ (fun j ρ=>∃ (fm:Mp) (o6 o7:Option Sl),AB many l mp (uQ n) (fun x=>x.1<i\/(x.1=i/\x.2<j)) fm/\ρ=[some (.sh (.list (pj many l))),some (.sh (.dT kvs)),some (.sh (.dT (g7 mp))),some (.sh (.int n)),some (.ow true (.dT (g7 fm))),some (.sh (.int (0+(i:Nat)))),o6,o7]) ⟨fm,_,_,hf.skip (fun x h=>.inl h) (fun p hp w v=>?_),rfl⟩ ?_ ?_
  ·have:=hp.2.1
   lia
  ·rintro j x ρ hx ⟨fm,o6,o7,hf,rfl⟩ N hN
   obtain⟨hj,rfl⟩:=jJ hx
   have hfl:=hf.len hm.2
   have hp:eT many (0+(i:Nat),0+(j:Nat)):=⟨⟨(by lia : (0:Int)<=0+(i:Nat)),(by lia : (0:Int)+(i:Nat)<many)⟩,(by lia : (0:Int)<=0+(j:Nat)),(by lia : (0:Int)+(j:Nat)<many)⟩
   have only:∀ p:P2,(p.1<i\/(p.1=i/\p.2<((j+1:Nat):Int)))->¬ (p.1<i\/(p.1=i/\p.2<j))->p=((0+(i:Nat):Int),(0+(j:Nat):Int)):=fun p w v=>by
    obtain⟨a,b⟩:=p
    simp only at w v
    rw[show a=0+(i:Nat) by lia,show b=0+(j:Nat) by lia]
   have up:∀ x:P2,(x.1<i\/(x.1=i/\x.2<j))->(x.1<i\/(x.1=i/\x.2<((j+1:Nat):Int))):=fun x h=>by lia
   generalize hx0:(0+(i:Nat):Int)=p at *
   generalize hy0:(0+(j:Nat):Int)=q at *
   walk_at "q"
   have e1:=jD mp (p,q)
   unfold gv at e1
   rw[e1]
   by_cases z:(p,q)∈dS mp
   ·rw[decide_eq_true z]
    walk_at "q"
    exact hN _ ⟨fm,_,_,hf.skip up fun x _ w v y=>absurd (only x w v ▸ z) y,rfl⟩
   ·rw[decide_eq_false z]
    walk_at "q"
    refine⟨many,l,kvs,mp,p,q,rfl,hw,hp,fun d e ms=>?_,fun ms=>?_⟩
    ·walk_at "q"
     have e2:=G6 (mp:=fm) (x:=(p,q)) (.tup [.int n,.str d,.int e]) fun y=>by have:=hf.SD _ y;simp only at this;lia
     unfold gv at e2
     rw[l_,e2]
     exact⟨by lia,hN _ ⟨_,_,_,hf.put up (fun x _ w v=>only x w v) hp z ms ⟨d,e,rfl⟩ (fun y=>by simp only at y;lia) (by simp only;lia),rfl⟩⟩
    ·walk_at "q"
     exact hN _ ⟨fm,_,_,hf.skip up fun x _ w v y=>only x w v ▸ ms,rfl⟩
  ·rintro ρ ⟨fm,o6,o7,hf,rfl⟩
   rw[jh] at hf
   exact hN _ ⟨fm,_,_,_,hf.skip (fun x h=>by lia) (fun p hp w v=>by have:=hp.2.2;lia),rfl⟩
 ·rintro ρ ⟨fm,o5,o6,o7,hf,rfl⟩
  rw[jh] at hf
  walk_at "q"
  exact h fm ⟨hf.nd,hf.pz,fun p hp=>hf.all p hp (by have:=hp.1.2;lia)⟩
def gG:WS :=
 (b6 (kW (aK bD (ak (ae 0) (ak (ae 1) b4))))
 (iO (aK aV (ak (ae 0) (ak (ae 1) b4)))))
def bz:gy:=fun ds Q=>∃ (many:Int) (l:List aC) (ps:List P2),ds=[mD many l,.list (ps.map kz)]/\DT many l/\ps.length<=10000/\(∀ p∈ps,eT many p)/\∀ b,(b=true↔SM l ps)->Q .sh (.bl b)
theorem nH (ds Q) (h:bz ds Q):ds.length=["m", "pairs"].length:=by obtain⟨_,_,_,rfl,_⟩:=h;rfl
theorem sO:∀ ds Q,bz ds Q->gG { nx:=fun _=>Q .sh .non,rt:=Q } (aG 2 ds):=by
 rintro ds Q ⟨many,l,ps,rfl,⟨hm,bp,hl⟩,Z2,hi,h1⟩
 unfold gG
 rw[show aG 2 [mD many l,.list (ps.map kz)]=[some (.sh (mD many l)),some (.sh (.list (ps.map kz)))] from rfl]
 walk_at "q"
 refine⟨many,l,ps,rfl,hi,?_⟩
 walk_at "q"
 refine⟨many,l,ps,rfl,by lia,bp,by lia,Z2,hi,fun b hb=>?_⟩
 walk_at "q"
 exact h1 b hb
def ju:WS :=
 (iO (Sj (aK cJ (ak (ae 0) b4)) (ic NS (wC (.int 1)))))
def cY:gy:=fun ds Q=>∃ (many:Int) (steps:List aC),ds=[mD many steps]/\(1<=many/\many<=63)/\eW many steps/\steps.length<=63/\∀ k,Kinds many steps k->Q (.ow true) (.list (k.map .int))
theorem uc (ds Q) (h:cY ds Q):ds.length=["m"].length:=by obtain⟨_,_,rfl,_⟩:=h;rfl
theorem xx:∀ ds Q,cY ds Q->ju { nx:=fun _=>Q .sh .non,rt:=Q } (aG 1 ds):=by
 rintro ds Q ⟨many,steps,rfl,hm,bp,hl,h⟩
 unfold ju
 rw[show aG 1 [mD many steps]=[some (.sh (mD many steps))] from rfl]
 walk_at "q"
 refine⟨many,steps,rfl,hm,bp,hl,fun rest hc hr=>?_⟩
 unfold Z4
 walk_at "q"
 refine⟨_,Ba _ _,?_⟩
 unfold AA
 walk_at "q"
 exact h _ ⟨rest,hc,rfl⟩
def iD:WS :=
 (b6 (eK 1 (aK aX (ak (ae 0) b4)))
 (b6 (eK 2 (aK cB (ak (ae 0) b4)))
 (b6 (eK 3 jX)
 (b6 (eK 4 (wC (.int 1)))
 (b6 (eK 5 (aK bR (ak (ae 1) (ak (ae 2) (ak (ae 3) (ak (ae 4) b4))))))
 (b6 (zK (Fv 5)
 (b6 (Fy 3 5)
 (b6 (eK 4 (av kD (ae 4) (wC (.int 1))))
 (eK 5 (aK bR (ak (ae 1) (ak (ae 2) (ak (ae 3) (ak (ae 4) b4)))))))))
 (nW 3)))))))
def bw:gy:=fun ds Q=>∃ (many:Int) (l:List aC),ds=[mD many l]/\(0<=many/\many<=12)/\eW many l/\l.length<=63/\∀ mp,All many l uQ mp->Q (.ow true) (.dT (g7 mp))
theorem pZ (ds Q) (h:bw ds Q):ds.length=["m"].length:=by obtain⟨_,_,rfl,_⟩:=h;rfl
theorem uw:∀ (fm:Mp),(∀ x∈fm,∃ n,uQ n x.2)->cp ((g7 fm).map (·.2))=true
 |[],_=>rfl
 |x :: fm,h=>by
  obtain⟨n,s,e,z⟩:=h x b5
  have:=uw fm fun y hy=>h y (b9 _ hy)
  simp only[g7,fe,cp] at this ⊢
  rw[z,this]
  rfl
theorem vg:∀ ds Q,bw ds Q->iD { nx:=fun _=>Q .sh .non,rt:=Q } (aG 6 ds):=by
 rintro ds Q ⟨many,l,rfl,hm,bp,hl,h⟩
 unfold iD
 walk_at "q"
 refine⟨many,l,rfl,by lia,bp,by lia,?_⟩
 walk_at "q"
 refine⟨many,l,rfl,by lia,fun kvs hw=>?_⟩
 walk_at "q"
 refine⟨many,l,kvs,[],1,rfl,hm,hw,fun fm hf=>?_⟩
 walk_at "q"
 refine⟨fun ρ=>∃ (n:Nat) (mp fm:Mp),qB many l uQ n mp/\PZ many l mp (uQ (n+1)) fm/\ρ=[some (.sh (mD many l)),some (.ow true (wm many l)),some (.ow true (.dT kvs)),some (.ow true (.dT (g7 mp))),some (.sh (.int ((n+1:Nat):Int))),some (.ow true (.dT (g7 fm)))],
  fun ρ=>match ρ with
   |[_,_,_,some (.ow _ (.dT kv)),_,_]=>144-kv.length
   |_=>0,⟨0,[],fm,qB.nil,hf,rfl⟩,?_⟩
 rintro ρ ⟨n,mp,fm,hr,hf,rfl⟩
 walk_at "q"
 cases fm with
 |nil =>
  rw[show(!(g7 ([]:Mp)).isEmpty)=false from rfl]
  walk_at "q"
  exact h mp (hr.end bp hf)
 |cons x fm =>
  rw[show(!(g7 (x :: fm)).isEmpty)=true from rfl]
  walk_at "q"
  have Sz:=hr.next bp hf
  have sP:=Sz.len hm.2
  rw[kF,pS] at sP
  refine⟨fun p hp=>?_,uw _ fun y hy=>⟨_,(hf.pz y hy).2.2.2⟩,by rw[l_,l_,pS];lia,?_⟩
  ·obtain⟨y,hy,rfl⟩:=bI.mp hp
   obtain⟨⟨⟨a0,a1⟩,b0,b1⟩,nm,_⟩:=hf.pz y hy
   refine⟨fun z=>nm ?_,y.1.1.toNat,y.1.2.toNat,by lia,by lia,?_⟩
   ·rw[qp] at z
    exact jr.mp z
   ·show gv y.1=_
    unfold gv
    rw[B9 a0,B9 b0]
  ·refine⟨many,l,kvs,mp++x :: fm,n+2,by rw[show g7 (mp++x :: fm)=g7 mp++g7 (x :: fm) from kG];rfl,hm,hw,fun fm2 hf2=>?_⟩
   walk_at "q"
   refine⟨⟨n+1,mp++x :: fm,fm2,Sz,hf2,?_⟩,?_⟩
   ·rw[show g7 (mp++x :: fm)=g7 mp++g7 (x :: fm) from kG]
    rfl
   ·rw[kF,l_,l_,pS]
    lia
def vo:WS :=
 (b6 (kW (aK aD (ak (ae 0) (ak (ae 1) b4))))
 (b6 (kW (aK aD (ak (ae 0) (ak (ae 2) b4))))
 (b6 (eK 3 (aK cY (ak (ae 0) b4)))
 (iO (av sR (av dv (ae 3) (ae 1)) (av dv (ae 3) (ae 2)))))))
def dF:gy:=fun ds Q=>∃ (many:Int) (l:List aC) (p q:Int),ds=[mD many l,.int p,.int q]/\(1<=many/\many<=63)/\eW many l/\l.length<=63/\eT many (p,q)/\∀ k,Kinds many l k->Q .sh (.bl (decide (rk k p=rk k q)))
theorem Ao (ds Q) (h:dF ds Q):ds.length=["m", "p", "q"].length:=by obtain⟨_,_,_,_,rfl,_⟩:=h;rfl
theorem GQ:∀ ds Q,dF ds Q->vo { nx:=fun _=>Q .sh .non,rt:=Q } (aG 4 ds):=by
 rintro ds Q ⟨many,l,p,q,rfl,hm,bp,hl,hx,h⟩
 unfold vo
 rw[show aG 4 [mD many l,.int p,.int q]=[some (.sh (mD many l)),some (.sh (.int p)),some (.sh (.int q)),none] from rfl]
 walk_at "q"
 refine⟨many,l,p,rfl,hx.1.1,hx.1.2,?_⟩
 walk_at "q"
 refine⟨many,l,q,rfl,hx.2.1,hx.2.2,?_⟩
 walk_at "q"
 refine⟨many,l,rfl,hm,bp,hl,fun k hk=>?_⟩
 walk_at "q"
 refine⟨_,Dr hk.rb.len hx.1.1 hx.1.2,?_⟩
 walk_at "q"
 refine⟨_,Dr hk.rb.len hx.2.1 hx.2.2,?_⟩
 walk_at "q"
 exact h k hk
def iM:WS :=
 (b6 (kW (aK aW (ak (ae 0) (ak (ae 1) (ak (ae 2) b4)))))
 (b6 (eK 3 (aK bw (ak (ae 0) b4)))
 (fI 2 (fI 1 (iO (UA (wB (av (vT false) (i7 (ak (ae 1) (ak (ae 2) b4))) (ae 3))) (av dv (av dv (ae 3) (i7 (ak (ae 1) (ak (ae 2) b4)))) (wC (.int 0))) (wC .non)))))))
def cH:gy:=fun ds Q=>∃ (many:Int) (l:List aC) (p q:Int),ds=[mD many l,.int p,.int q]/\DT many l/\eT many (p,q)/\∀ d,(d.E7=true↔Can l (p,q))->Q .sh d
theorem qH (ds Q) (h:cH ds Q):ds.length=["m", "p", "q"].length:=by obtain⟨_,_,_,_,rfl,_⟩:=h;rfl
theorem uH:∀ ds Q,cH ds Q->iM { nx:=fun _=>Q .sh .non,rt:=Q } (aG 4 ds):=by
 rintro ds Q ⟨many,l,p,q,rfl,⟨hm,bp,hl⟩,a,h1⟩
 unfold iM
 walk_at "q"
 refine⟨many,l,p,q,rfl,a,?_⟩
 walk_at "q"
 refine⟨many,l,rfl,by lia,bp,by lia,fun mp ha=>?_⟩
 walk_at "q"
 have e1:=jD mp (p,q)
 unfold gv at e1
 rw[e1]
 by_cases z:(p,q)∈dS mp
 ·rw[decide_eq_true z]
  walk_at "q"
  obtain⟨d,e,hd⟩:=yw z
  obtain⟨_,k,hk,s,x,rfl⟩:=ha.pz _ hd
  refine⟨_,_,rfl,e,?_⟩
  walk_at "q"
  exact h1 _ ⟨(fun y=>nomatch y),fun y=>absurd hk.1 (y k)⟩
 ·rw[decide_eq_false z]
  walk_at "q"
  exact h1 _ ⟨fun _=>ha.all _ a z,fun _=>rfl⟩
def gn:WS :=
 (b6 (kW (aK aW (ak (ae 0) (ak (ae 1) (ak (ae 2) b4)))))
 (b6 (eK 3 (aK bw (ak (ae 0) b4)))
 (b6 (fI 2 (fI 1 (jS (wB (av (vT false) (i7 (ak (ae 1) (ak (ae 2) b4))) (ae 3)))
 (iO (wC .non))
 cO)))
 (b6 (eK 4 (sT b4))
 (b6 (oa (il (av dv (ae 0) (wC (.int 0)))) (gN 5)
 (fI 5 (Va (xB 4) (iC (il (av dv (ae 0) (wC (.int 0)))) (gN 0) (wB (av (vT true) (i7 (ak (ae 1) (ak (ae 0) b4))) (ae 2))) (i7 (ak (ae 1) (ak (ae 0) b4))) 1 [5,3]))))
 (nW 4))))))
def bx:gy:=fun ds Q=>∃ (many:Int) (l:List aC) (p q:Int),ds=[mD many l,.int p,.int q]/\DT many l/\eT many (p,q)/\(¬ Can l (p,q)->Q .sh .non)/\∀ ps,Can l (p,q)->OW many l ps->Q (.ow true) (.list (ps.map kz))
theorem oR (ds Q) (h:bx ds Q):ds.length=["m", "p", "q"].length:=by obtain⟨_,_,_,_,rfl,_⟩:=h;rfl
def SF(a:Int)(ks:List P2):D->Bool
 |.int b=>decide ((a,b)∉ks)
 |_=>false
def Z5(a:Int):D->D
 |.int b=>kz (a,b)
 |_=>.non
theorem HW(a:Int)(ks:List P2)(n:Nat):((lH 0 n).filter (SF a ks)).map (Z5 a)=(((cP n).filter fun b=>decide ((a,b)∉ks)).map fun b=>((a,b):P2)).map kz:=by
 have e:lH 0 n=(cP n).map D.int:=by
  unfold lH cP
  rw[eP]
  refine B1 fun i _=>?_
  show D.int (0+(i:Nat))=_
  rw[Int.zero_add]
  rfl
 rw[e,List.filter_map,eP,eP]
 rfl
theorem ud:∀ ds Q,bx ds Q->gn { nx:=fun _=>Q .sh .non,rt:=Q } (aG 6 ds):=by
 rintro ds Q ⟨many,l,p,q,rfl,⟨hm,bp,hl⟩,a,h1,h2⟩
 unfold gn
 rw[show aG 6 [mD many l,.int p,.int q]=[some (.sh (mD many l)),some (.sh (.int p)),some (.sh (.int q)),none,none,none] from rfl]
 walk_at "q"
 refine⟨many,l,p,q,rfl,a,?_⟩
 walk_at "q"
 refine⟨many,l,rfl,by lia,bp,by lia,fun mp ha=>?_⟩
 walk_at "q"
 have can:∀ x,eT many x->(x∉dS mp↔Can l x):=fun x hx=>⟨ha.all x hx,fun c z=>by
  obtain⟨d,_,hd⟩:=yw z
  obtain⟨_,k,hk,_⟩:=ha.pz _ hd
  exact c k hk.1⟩
 have e1:=jD mp (p,q)
 unfold gv at e1
 rw[e1]
 by_cases z:(p,q)∈dS mp
 ·rw[decide_eq_true z]
  walk_at "q"
  exact h1 fun c=>(can _ a).mpr c z
 ·rw[decide_eq_false z]
  walk_at "q"
  unfold mD
  walk_at "q"
  refine⟨by lia,by lia,?_⟩
  refine bO _ (fun i ρ=>∃ (ps:List P2) (o5:Option Sl),(∀ x,x∈ps↔(eT many x/\x∉dS mp)/\x.1<i)/\ps.length<=12*i/\ρ=[some (.sh (.tup [.int many,.list (l.map eB)])),some (.sh (.int p)),some (.sh (.int q)),some (.ow true (.dT (g7 mp))),some (.ow true (.list (ps.map kz))),o5]) ⟨[],_,fun x=>⟨(fun z=>nomatch z),fun z=>?_⟩,by simp,rfl⟩ ?_ ?_
  ·have:=z.1.1.1.1
   have:=z.2
   lia
  ·rintro i x ρ hx ⟨ps,o5,mem,pl,rfl⟩ N hN
   obtain⟨hi,rfl⟩:=jJ hx
   walk_at "q"
   refine⟨by lia,by lia,?_⟩
   refine cN (SF (0+(i:Nat)) (dS mp)) (Z5 (0+(i:Nat))) (fun ρ=>∃ o,ρ=[o,some (.sh (.int (0+(i:Nat)))),some (.sh (.dT (g7 mp)))]) _ _ _ ⟨_,rfl⟩ ?_ ?_
   ·rintro x hx ρ ⟨o,rfl⟩ N1 N2 n1 n2
    obtain⟨j,hj,rfl⟩:=bI.mp hx
    walk_at "q"
    have e1:=jD mp (0+(i:Nat),0+(j:Nat))
    unfold gv at e1
    rw[e1]
    by_cases y:((0+(i:Nat):Int),(0+(j:Nat):Int))∈dS mp
    ·rw[decide_eq_true y]
     exact n1 _ ⟨_,rfl⟩ (by simp only[SF];rw[decide_eq_false (fun z=>z y)])
    ·rw[decide_eq_false y]
     exact⟨.inl rfl,n2 _ ⟨_,rfl⟩ (by simp only[SF];rw[decide_eq_true y])⟩
   rw[HW]
   have lb:(((cP many.toNat).filter fun b=>decide ((((0+(i:Nat):Int),b):P2)∉dS mp)).map fun b=>(((0+(i:Nat):Int),b):P2)).length<=12:=by
    rw[bS]
    exact gE (SW _ _) (by rw[gO];lia)
   refine⟨ql _,by rw[bS];lia,hN _ ⟨_,_,fun x=>?_,?_,by rw[<- kG]⟩⟩
   ·rw[dy,mem]
    constructor
    ·rintro(⟨y,y2⟩|y)
     ·exact⟨y,by lia⟩
     ·obtain⟨b,hb,rfl⟩:=bI.mp y
      obtain⟨hb,nb⟩:=y8.mp hb
      have hb:=cQ.mp hb
      exact⟨⟨⟨⟨(by lia : (0:Int)<=0+(i:Nat)),(by lia : (0:Int)+(i:Nat)<many)⟩,hb.1,(by lia : b<many)⟩,of_decide_eq_true nb⟩,(by lia : (0:Int)+(i:Nat)<((i+1:Nat):Int))⟩
    ·rintro⟨⟨y,ny⟩,y2⟩
     by_cases e:x.1<i
     ·exact .inl ⟨⟨y,ny⟩,e⟩
     ·have ex:(0+(i:Nat):Int)=x.1:=by lia
      rw[ex]
      exact .inr (bI.mpr ⟨x.2,y8.mpr ⟨cQ.mpr ⟨y.2.1,by have:=y.2.2;lia⟩,decide_eq_true ny⟩,rfl⟩)
   ·rw[kF]
    lia
  ·rintro ρ ⟨ps,o5,mem,pl,rfl⟩
   rw[jh] at mem pl
   walk_at "q"
   refine h2 ps ((can _ a).mp z) ⟨fun x=>(mem x).trans ⟨fun y=>⟨y.1.1,(can _ y.1.1).mp y.1.2⟩,fun y=>⟨⟨y.1,(can _ y.1).mpr y.2⟩,by have:=y.1.1.2;lia⟩⟩,by lia⟩
def Hi:WS :=
 (iO (av IU (aK cH (ak (ae 0) (ak (ae 1) (ak (ae 2) b4)))) (wC .non)))
def fY:gy:=fun ds Q=>∃ (many:Int) (l:List aC) (p q:Int),ds=[mD many l,.int p,.int q]/\DT many l/\eT many (p,q)/\∀ b,(b=true↔Can l (p,q))->Q .sh (.bl b)
theorem Ho (ds Q) (h:fY ds Q):ds.length=["m", "p", "q"].length:=by obtain⟨_,_,_,_,rfl,_⟩:=h;rfl
theorem K3:∀ ds Q,fY ds Q->Hi { nx:=fun _=>Q .sh .non,rt:=Q } (aG 3 ds):=by
 rintro ds Q ⟨many,l,p,q,rfl,hs,a,h1⟩
 unfold Hi
 walk_at "q"
 refine⟨many,l,p,q,rfl,hs,a,fun d hd=>?_⟩
 walk_at "q"
 exact h1 _ hd
def cM:WS :=
 (b6 (jS (A6 (sv (wB (aK fY (ak (ae 0) (ak (ae 1) (ak (ae 3) b4)))))) (sv (wB (aK bz (ak (ae 0) (ak (av kD (ae 4) (ae 5)) b4))))))
 (iO (wC (.bl false)))
 cO)
 (iO (aK bz (ak (ae 0) (ak (aK bj (ak (ae 4) (ak (ae 5) b4))) b4)))))
def fO:WS :=
 (b6 (eK 4 (aK bx (ak (ae 0) (ak (ae 1) (ak (ae 2) b4)))))
 (b6 (eK 5 (aK bx (ak (ae 0) (ak (ae 2) (ak (ae 3) b4)))))
 (b6 (jS (RK (wB (aK dF (ak (ae 0) (ak (ae 1) (ak (ae 2) b4))))) (A6 (wB (av IU (ae 4) (wC .non))) (sv (wB (aK fY (ak (ae 0) (ak (ae 2) (ak (ae 1) b4))))))))
 (iO (wC (.bl false)))
 cO)
 (b6 (jS (A6 (wB (av IU (ae 4) (wC .non))) (wB (av IU (ae 5) (wC .non))))
 (iO (wC (.bl true)))
 cO)
 cM))))
def bJ:gy:=fun ds Q=>∃ (many:Int) (l:List aC) (p q r:Int),ds=[mD many l,.int p,.int q,.int r]/\DT many l/\eT many (p,q)/\eT many (q,r)/\Q .sh (.bl true)
theorem mK (ds Q) (h:bJ ds Q):ds.length=["_law_whole", "_law_p", "_law_q", "_law_r"].length:=by obtain⟨_,_,_,_,_,rfl,_⟩:=h;rfl
theorem rn:∀ ds Q,bJ ds Q->fO { nx:=fun _=>Q .sh .non,rt:=Q } (aG 6 ds):=by
 rintro ds Q ⟨many,l,p,q,r,rfl,hs,h1,h2,h⟩
 have hm:=hs.1
 have bp:=hs.2.1
 have hl:=hs.2.2
 obtain⟨w4,e4⟩:∃ w4,w4=cM:=⟨_,rfl⟩
 unfold fO
 rw[<- e4,show aG 6 [mD many l,.int p,.int q,.int r]=[some (.sh (mD many l)),some (.sh (.int p)),some (.sh (.int q)),some (.sh (.int r)),none,none] from rfl]
 walk_at "q"
 have al:∀ (F:Md->D->Prop),(∀ b,(b=true->Can l (p,q)/\Can l (q,p))->F .sh (.bl b))->dF [mD many l,.int p,.int q] F:=fun F hF=>⟨many,l,p,q,rfl,by lia,bp,by lia,h1,fun k hk=>hF _ fun e=>⟨hk.can bp h1 (of_decide_eq_true e),hk.can bp ⟨h1.2,h1.1⟩ (of_decide_eq_true e).symm⟩⟩
 refine⟨many,l,p,q,rfl,hs,h1,fun c1=>?_,fun xs c1 ox=>?_⟩
 ·walk_at "q"
  refine⟨many,l,q,r,rfl,hs,h2,fun c2=>?_,fun ys c2 oy=>?_⟩
  ·walk_at "q"
   refine al _ fun b hb=>?_
   cases b with
   |true=>exact absurd (hb rfl).1 c1
   |false =>
    walk_at "q"
    exact h
  ·walk_at "q"
   refine al _ fun b hb=>?_
   cases b with
   |true=>exact absurd (hb rfl).1 c1
   |false =>
    walk_at "q"
    exact h
 ·walk_at "q"
  refine⟨many,l,q,r,rfl,hs,h2,fun c2=>?_,fun ys c2 oy=>?_⟩
  ·walk_at "q"
   refine al _ fun b hb=>?_
   cases b with
   |true =>
    walk_at "q"
    refine⟨many,l,q,p,rfl,hs,⟨h1.2,h1.1⟩,fun b2 P5=>?_⟩
    rw[P5.mpr (hb rfl).2]
    walk_at "q"
    exact h
   |false =>
    walk_at "q"
    exact h
  ·walk_at "q"
   have fin:cM { nx:=fun _=>Q .sh .non,rt:=Q } [some (.sh (mD many l)),some (.sh (.int p)),some (.sh (.int q)),some (.sh (.int r)),some (.ow true (.list (xs.map kz))),some (.ow true (.list (ys.map kz)))]:=by
    unfold cM
    walk_at "q"
    refine⟨many,l,p,r,rfl,hs,⟨h1.1,h2.2⟩,fun b hb=>?_⟩
    rw[hb.mpr (c1.trans c2)]
    walk_at "q"
    have lx:=ox.len
    have ly:=oy.len
    refine⟨by lia,.inl ⟨ql _,ql _,?_⟩⟩
    rw[<- kG]
    refine⟨many,l,_,rfl,hs,by simp;lia,fun z hz=>?_,fun b hb=>?_⟩
    ·exact(dy.mp hz).elim (fun y=>((ox.mem z).mp y).1) fun y=>((oy.mem z).mp y).1
    rw[hb.mpr (ox.two oy bp)]
    walk_at "q"
    refine⟨many,xs,ys,rfl,by lia,fun z hz=>((ox.mem z).mp hz).1,fun z hz=>((oy.mem z).mp hz).1,fun zs zl zi zm=>?_⟩
    walk_at "q"
    refine⟨many,l,zs,rfl,hs,by lia,zi,fun b hb=>?_⟩
    rw[hb.mpr (ox.chain oy bp zm)]
    exact h
   refine al _ fun b hb=>?_
   cases b with
   |true =>
    walk_at "q"
    refine⟨many,l,q,p,rfl,hs,⟨h1.2,h1.1⟩,fun b2 P5=>?_⟩
    rw[P5.mpr (hb rfl).2]
    walk_at "q"
    rw[e4]
    exact fin
   |false =>
    walk_at "q"
    rw[e4]
    exact fin
def vR:WS :=
 (b6 (oa (De (i7 (ak (i7 (ak (av dv (ae 10) (wC (.int 0))) (ak (av dv (ae 10) (wC (.int 3))) (ak (av dv (ae 10) (wC (.int 2))) b4)))) (ak (i7 (ak (av dv (ae 10) (wC (.int 1))) (ak (av dv (ae 10) (wC (.int 0))) (ak (av dv (ae 10) (wC (.int 3))) b4)))) (ak (i7 (ak (av dv (ae 10) (wC (.int 2))) (ak (av dv (ae 10) (wC (.int 1))) (ak (av dv (ae 10) (wC (.int 0))) b4)))) b4))))) (gT 3 (bu (gN 11) (bu (gN 12) (bu (gN 13) jH))))
 (jS (sv (wB (aK bJ (ak (ae 7) (ak (ae 11) (ak (ae 12) (ak (ae 13) b4)))))))
 (iO (wC (.bl false)))
 cO))
 (iO (wC (.bl true))))
def lu:WS :=
 (b6 (eK 10 (sT (ak (av iN (ae 2) (ae 1)) (ak (av kD (ae 1) (av iN (av ng (ae 2) (wC (.int 7))) (ae 1))) (ak (av iN (av ng (ae 2) (wC (.int 49))) (av NJ (wC (.int 2)) (ae 1))) (ak (av kD (ae 1) (av iN (ae 2) (ae 1))) b4))))))
 vR)
def pR:WS :=
 (b6 (jS (wB (av sR (av iN (ae 5) (wC (.int 3))) (wC (.int 1))))
 (b6 (eK 9 (av kD (ae 1) (av iN (av IL (ae 1) (ae 8)) (ae 1))))
 (jS (A6 (sv (wB (aK dF (ak (ae 7) (ak (ae 8) (ak (ae 9) b4)))))) (A6 (sv (wB (aK fY (ak (ae 7) (ak (ae 8) (ak (ae 9) b4)))))) (sv (wB (aK fY (ak (ae 7) (ak (ae 9) (ak (ae 8) b4))))))))
 (iO (wC (.bl false)))
 cO))
 cO)
 lu)
def qI:WS :=
 (b6 (jS (wB (av sR (av iN (ae 5) (wC (.int 3))) (wC (.int 0))))
 (jS (A6 (sv (wB (aK fY (ak (ae 7) (ak (ae 8) (ak (av kD (ae 1) (ae 8)) b4)))))) (sv (wB (aK fY (ak (ae 7) (ak (wC (.int 0)) (ak (ae 1) b4)))))))
 (iO (wC (.bl false)))
 cO)
 cO)
 pR)
def rA:WS :=
 (b6 (eK 5 (aK aL (ak (ae 0) (ak (wC (.int 2)) b4))))
 (b6 (eK 6 (aK b_ (ak (ae 4) (ak (ae 3) (ak (ae 5) b4)))))
 (b6 (eK 7 (aK eY (ak (ae 4) (ak (ae 6) b4))))
 (b6 (eK 8 (av iN (av ng (ae 2) (wC (.int 11))) (ae 1)))
 qI))))
def FJ:WS :=
 (b6 (eK 1 (av kD (wC (.int 1)) (av iN (aK aL (ak (ae 0) (ak (wC (.int 0)) b4))) (wC (.int 6)))))
 (b6 (eK 2 (aK aL (ak (ae 0) (ak (wC (.int 1)) b4))))
 (b6 (eK 3 (aK bU (ak (ae 2) b4)))
 (b6 (eK 4 (aK a_ (ak (ae 0) (ak (ae 1) (ak (ae 3) b4)))))
 rA))))
abbrev Kx:gy:=Zg
theorem FN (ds Q) (h:Kx ds Q):ds.length=["_law_script"].length:=by obtain⟨_,rfl,_⟩:=h;rfl
theorem Ej{many:Int}{l1 l2:List aC}(h2:eW many l2){a e:Int}{d:Str}(ha:a<many)(h:(a,d,e)∈jn many l1 l2):(a,d,e)∈l1:=by
 rcases dy.mp h with h|h
 ·exact h
 ·obtain⟨t,ht,z⟩:=bI.mp h
  have:=(h2 t ht).1
  have z1:t.1+many=a:=congrArg Prod.fst z
  lia
theorem Ku{many:Int}{l1 l2:List aC}(h1:eW many l1){a e:Int}{d:Str}(ha:0<=a)(h:(many+a,d,e)∈jn many l1 l2):∃ b,e=many+b/\(a,d,b)∈l2:=by
 rcases dy.mp h with h|h
 ·have:=(h1 _ h).2.1
  simp only at this
  lia
 ·obtain⟨t,ht,z⟩:=bI.mp h
  have z1:t.1+many=many+a:=congrArg Prod.fst z
  have z2:t.2.1=d:=congrArg (fun x=>x.2.1) z
  have z3:t.2.2+many=e:=congrArg (fun x=>x.2.2) z
  refine⟨t.2.2,by lia,?_⟩
  rw[show a=t.1 by lia,<- z2]
  exact ht
theorem DP{many:Int}{l1 l2:List aC}{a e:Int}{d:Str}(h:(a,d,e)∈l2):(many+a,d,many+e)∈jn many l1 l2:=by
 refine fw _ (bI.mpr ⟨_,h,?_⟩)
 show(a+many,d,e+many)=_
 rw[Int.add_comm a,Int.add_comm e]
theorem Jz{many:Int}{l1 l2:List aC}(h1:eW many l1)(h2:eW many l2):eW (many+many) (jn many l1 l2):=fun s hs=>by
 rcases dy.mp hs with hs|hs
 ·obtain⟨a,b,c,d,e⟩:=h1 s hs
  exact⟨a,by lia,c,d,by lia⟩
 ·obtain⟨t,ht,rfl⟩:=bI.mp hs
  obtain⟨a,b,c,d,e⟩:=h2 t ht
  exact⟨(by lia : 0<=t.1+many),(by lia : t.1+many<many+many),c,(by lia : 0<=t.2.2+many),(by lia : t.2.2+many<many+many)⟩
theorem w6{many:Int}{l1 l2:List aC}(h1:eW many l1)(h2:eW many l2)(sub:∀ s∈l1,s∈l2){a:Int}(a1:a<many):Can (jn many l1 l2) (a,many+a):=by
 refine Bg (S:=fun x=>x.1<many/\x.2=many+x.1) (fun x hx d e he=>?_) ⟨a1,rfl⟩
 have hl:=Ej h2 hx.1 he
 refine⟨many+e,?_,(h1 _ hl).2.2.2.2,rfl⟩
 rw[hx.2]
 exact DP (sub _ hl)
theorem BL{many:Int}{l1 l2:List aC}(hm:1<=many)(h1:eW many l1)(h2:eW many l2)(tt:∀ s,s∈l2↔∃ t∈l1,s=FT many t){k:List Int}(hk:Kinds (many+many) (jn many l1 l2) k){a:Int}(a0:0<=a)(a1:a<many):rk k a=rk k (many+tr many a):=by
 have mp:∀ x:P2,x∈((cP many.toNat).map fun a=>((a,many+tr many a):P2))↔(0<=x.1/\x.1<many)/\x.2=many+tr many x.1:=fun x=>by
  rw[bI]
  constructor
  ·rintro⟨b,hb,rfl⟩
   have:=cQ.mp hb
   exact⟨⟨this.1,(by lia : b<many)⟩,rfl⟩
  ·rintro⟨hb,e⟩
   exact⟨x.1,cQ.mpr ⟨hb.1,by lia⟩,by rw[<- e]⟩
 refine hk.same (Jz h1 h2) (ps:=(cP many.toNat).map fun a=>((a,many+tr many a):P2)) (fun x hx=>?_) (fun x hx=>⟨fun d e he=>?_,fun d o ho=>?_⟩) (a,many+tr many a) ((mp _).mpr ⟨⟨a0,a1⟩,rfl⟩)
 ·obtain⟨hb,e⟩:=(mp x).mp hx
  have:=yx hm x.1
  exact⟨⟨hb.1,by lia⟩,by lia,by lia⟩
 ·obtain⟨hb,e2⟩:=(mp x).mp hx
  have hl:=Ej h2 hb.2 he
  refine⟨many+tr many e,?_,(mp _).mpr ⟨(h1 _ hl).2.2.2,rfl⟩⟩
  rw[e2]
  exact DP ((tt _).mpr ⟨_,hl,rfl⟩)
 ·obtain⟨hb,e2⟩:=(mp x).mp hx
  rw[e2] at ho
  obtain⟨b,rfl,P5⟩:=Ku h1 (yx hm x.1).1 ho
  obtain⟨t,ht,z⟩:=(tt _).mp P5
  have z1:tr many x.1=tr many t.1:=congrArg Prod.fst z
  have z2:d=t.2.1:=congrArg (fun x=>x.2.1) z
  have z3:b=tr many t.2.2:=congrArg (fun x=>x.2.2) z
  have ok:=h1 t ht
  have e3:=Jp hb.1 hb.2 ok.1 ok.2.1 z1
  refine⟨t.2.2,kf _ ?_,(mp _).mpr ⟨ok.2.2.2,by rw[z3]⟩⟩
  rw[e3,z2]
  exact ht
theorem wA{Q:Md->D->Prop}{ns:List Int}{many far c near:Int}{names:List Str}{l1 l2:List aC}{o9:Option Sl}(hm:1<=many/\many<=6)(hs:DT (many+many) (jn many l1 l2))(h:∀ m,Q m (.bl true)) :
  lu { nx:=fun _=>Q .sh .non,rt:=Q } [some (.sh (.list (ns.map .int))),some (.sh (.int many)),some (.sh (.int far)),some (.ow true (.list (names.map .str))),some (.ow true (.tup [.int many,.list (l1.map eB)])),some (.sh (.int c)),some (.ow true (.tup [.int many,.list (l2.map eB)])),some (.ow true (.tup [.int (many+many),.list ((jn many l1 l2).map eB)])),some (.sh (.int near)),o9,none,none,none,none]:=by
 unfold lu vR
 have b1:=dR far (show 0<many by lia)
 have b2:=dR (far / 7) (show 0<many by lia)
 have b3:=dR (far / 49) (show 0<2*many by lia)
 walk_at "q"
 refine⟨by lia,by lia,tW (by lia) (by lia),by lia,by lia,_,rfl,?_⟩
 walk_at "q"
 refine⟨_,rfl,?_⟩
 walk_at "q"
 have i0:0<=far % many/\far % many<many+many:=by lia
 have i1:0<=many+far / 7 % many/\many+far / 7 % many<many+many:=by lia
 have i2:0<=far / 49 % (2*many)/\far / 49 % (2*many)<many+many:=by lia
 have i3:0<=many+far % many/\many+far % many<many+many:=by lia
 generalize far / 49 % (2*many)=x2 at *
 generalize many+far / 7 % many=x1 at *
 generalize many+far % many=x3 at *
 generalize far % many=x0 at *
 refine bO _ (fun i ρ=>∃ (SG SJ SK:Option Sl),ρ=[some (.sh (.list (ns.map .int))),some (.sh (.int many)),some (.sh (.int far)),some (.ow true (.list (names.map .str))),some (.ow true (.tup [.int many,.list (l1.map eB)])),some (.sh (.int c)),some (.ow true (.tup [.int many,.list (l2.map eB)])),some (.ow true (.tup [.int (many+many),.list ((jn many l1 l2).map eB)])),some (.sh (.int near)),o9,some (.ow true (.list [.int x0,.int x1,.int x2,.int x3])),SG,SJ,SK]) ⟨_,_,_,rfl⟩ ?_ ?_
 ·rintro i x ρ hx ⟨SG,SJ,SK,rfl⟩ N hN
  obtain⟨p,q,r,rfl,hp,hq,hr⟩:∃ p q r:Int,x=.tup [.int p,.int q,.int r]/\(0<=p/\p<many+many)/\(0<=q/\q<many+many)/\(0<=r/\r<many+many):=by
   have:=mn hx
   simp only[dr,B4,or_false] at this
   rcases this with e|e|e
   ·exact⟨_,_,_,e,i0,i3,i2⟩
   ·exact⟨_,_,_,e,i1,i0,i3⟩
   ·exact⟨_,_,_,e,i2,i1,i0⟩
  walk_at "q"
  refine⟨many+many,jn many l1 l2,p,q,r,rfl,hs,⟨hp,hq⟩,⟨hq,hr⟩,?_⟩
  walk_at "q"
  exact hN _ ⟨_,_,_,rfl⟩
 ·rintro ρ ⟨SG,SJ,SK,rfl⟩
  walk_at "q"
  exact h _
theorem Bh{Q:Md->D->Prop}{ns:List Int}{many far c near:Int}{names:List Str}{l1 l2:List aC}(hm:1<=many/\many<=6)(hs:DT (many+many) (jn many l1 l2))(h1:eW many l1)(h2:eW many l2)(hn:0<=near/\near<many)(t1:c % 3=1->∀ s,s∈l2↔∃ t∈l1,s=FT many t)(h:∀ m,Q m (.bl true)) :
  pR { nx:=fun _=>Q .sh .non,rt:=Q } [some (.sh (.list (ns.map .int))),some (.sh (.int many)),some (.sh (.int far)),some (.ow true (.list (names.map .str))),some (.ow true (.tup [.int many,.list (l1.map eB)])),some (.sh (.int c)),some (.ow true (.tup [.int many,.list (l2.map eB)])),some (.ow true (.tup [.int (many+many),.list ((jn many l1 l2).map eB)])),some (.sh (.int near)),none,none,none,none,none]:=by
 obtain⟨w10,SN⟩:∃ w,w=lu:=⟨_,rfl⟩
 unfold pR
 rw[<- SN]
 walk_at "q"
 refine R.D (fun e=>?_) fun e=>?_
 ·have ti:=yx hm.1 near
  have hp:eT (many+many) (near,many+tr many near):=⟨⟨hn.1,(by lia : near<many+many)⟩,(by lia : 0<=many+tr many near),(by lia : many+tr many near<many+many)⟩
  walk_at "q"
  refine⟨by lia,?_⟩
  rw[show(many-near) % many=tr many near from rfl]
  refine⟨many+many,jn many l1 l2,near,many+tr many near,rfl,by lia,hs.2.1,by have:=hs.2.2;lia,hp,fun k hk=>?_⟩
  have ke:=BL hm.1 h1 h2 (t1 e) hk hn.1 hn.2
  rw[decide_eq_true ke]
  walk_at "q"
  refine⟨many+many,jn many l1 l2,near,many+tr many near,rfl,hs,hp,fun b hb=>?_⟩
  rw[hb.mpr (hk.can hs.2.1 hp ke)]
  walk_at "q"
  refine⟨many+many,jn many l1 l2,many+tr many near,near,rfl,hs,⟨hp.2,hp.1⟩,fun b hb=>?_⟩
  rw[hb.mpr (hk.can hs.2.1 ⟨hp.2,hp.1⟩ ke.symm)]
  walk_at "q"
  rw[SN]
  exact wA hm hs h
 ·walk_at "q"
  rw[SN]
  exact wA hm hs h
theorem Hk{Q:Md->D->Prop}{ns:List Int}{many far c near:Int}{names:List Str}{l1 l2:List aC}(hm:1<=many/\many<=6)(hs:DT (many+many) (jn many l1 l2))(h1:eW many l1)(h2:eW many l2)(hn:0<=near/\near<many)(t0:c % 3=0->∀ s∈l1,s∈l2)(t1:c % 3=1->∀ s,s∈l2↔∃ t∈l1,s=FT many t)(h:∀ m,Q m (.bl true)) :
  qI { nx:=fun _=>Q .sh .non,rt:=Q } [some (.sh (.list (ns.map .int))),some (.sh (.int many)),some (.sh (.int far)),some (.ow true (.list (names.map .str))),some (.ow true (.tup [.int many,.list (l1.map eB)])),some (.sh (.int c)),some (.ow true (.tup [.int many,.list (l2.map eB)])),some (.ow true (.tup [.int (many+many),.list ((jn many l1 l2).map eB)])),some (.sh (.int near)),none,none,none,none,none]:=by
 obtain⟨w9,e9⟩:∃ w,w=pR:=⟨_,rfl⟩
 unfold qI
 rw[<- e9]
 walk_at "q"
 refine R.D (fun e=>?_) fun e=>?_
 ·walk_at "q"
  refine⟨many+many,jn many l1 l2,near,many+near,rfl,hs,⟨⟨hn.1,(by lia : near<many+many)⟩,(by lia : 0<=many+near),(by lia : many+near<many+many)⟩,fun b hb=>?_⟩
  rw[hb.mpr (w6 h1 h2 (t0 e) hn.2)]
  walk_at "q"
  refine⟨many+many,jn many l1 l2,0,many,rfl,hs,⟨⟨ua 0,(by lia : 0<many+many)⟩,(by lia : 0<=many),(by lia : many<many+many)⟩,fun b hb=>?_⟩
  have cm:=w6 h1 h2 (t0 e) (a:=0) (by lia)
  rw[Int.add_zero] at cm
  rw[hb.mpr cm]
  walk_at "q"
  rw[e9]
  exact Bh hm hs h1 h2 hn t1 h
 ·walk_at "q"
  rw[e9]
  exact Bh hm hs h1 h2 hn t1 h
theorem Hz{Q:Md->D->Prop}{ns:List Int}{many far:Int}{names:List Str}{l1:List aC}(hm:1<=many/\many<=6)(n1:1<=names.length)(n3:names.length<=3)(hd:∀ n∈names,yT n)(hs:∀ s∈l1,FR many names s)(hl:l1.length<=24)(h:∀ m,Q m (.bl true)) :
  rA { nx:=fun _=>Q .sh .non,rt:=Q } [some (.sh (.list (ns.map .int))),some (.sh (.int many)),some (.sh (.int far)),some (.ow true (.list (names.map .str))),some (.ow true (.tup [.int many,.list (l1.map eB)])),none,none,none,none,none,none,none,none,none]:=by
 obtain⟨w8,e8⟩:∃ w,w=qI:=⟨_,rfl⟩
 unfold rA
 rw[<- e8]
 walk_at "q"
 refine⟨ns,2,rfl,by decide,?_⟩
 generalize ns.getD _ 0=c
 walk_at "q"
 refine⟨many,l1,names,c,rfl,hm,n1,hd,hs,hl,fun l2 qh sP t0 t1=>?_⟩
 unfold mD
 walk_at "q"
 refine⟨many,many,l1,l2,names,rfl,by lia,by lia,by lia,fun s m=>.inr (hs s m).2,fun s m=>.inr (qh s m).2,?_⟩
 unfold mD
 walk_at "q"
 refine⟨by lia,?_⟩
 have h1:eW many l1:=fun s m=>(hs s m).1
 have h2:eW many l2:=fun s m=>(qh s m).1
 rw[e8]
 exact Hk hm ⟨⟨by lia,by lia⟩,Jz h1 h2,by simp[jn];lia⟩ h1 h2 (dR (far / 11) (show 0<many by lia)) t0 t1 h
theorem Lb:∀ ds Q,Kx ds Q->FJ { nx:=fun _=>Q .sh .non,rt:=Q } (aG 14 ds):=by
 rintro ds Q ⟨ns,rfl,hn,h⟩
 obtain⟨w4,e4⟩:∃ w,w=rA:=⟨_,rfl⟩
 unfold FJ
 rw[<- e4]
 walk_at "q"
 refine⟨ns,0,rfl,by decide,?_⟩
 generalize ns.getD _ 0=cell
 have b1:=dR cell (show(0:Int)<6 by decide)
 obtain⟨many,em,hm⟩:∃ many:Int,many=1+cell % 6/\1<=many/\many<=6:=⟨_,rfl,by lia,by lia⟩
 walk_at "q"
 rw[<- em]
 refine⟨ns,1,rfl,by decide,?_⟩
 generalize ns.getD _ 0=far
 walk_at "q"
 refine⟨far,rfl,fun names n1 n3 hd=>?_⟩
 walk_at "q"
 refine⟨ns,many,names,rfl,hn,hm,n1,hd,fun l hs hl=>?_⟩
 unfold mD
 walk_at "q"
 rw[e4]
 exact Hz hm n1 n3 hd hs hl h
def top(i:Nat):Stmt:=PySem.Challenge.pw_kinlook_k57_whole_can_is_an_order.main.body.getD i (.Pass ⟨0,0,0,0⟩)
abbrev dI:Stmt:=top 3
abbrev pA:List Str:=["thing"]
abbrev aY:Stmt:=top 12
abbrev gj:List Str:=["m"]
abbrev bY:Stmt:=top 13
abbrev oF:List Str:=["m", "state"]
abbrev fu:Stmt:=top 14
abbrev ym:List Str:=["m", "ways", "start", "deed", "end"]
abbrev cV:Stmt:=top 15
abbrev lD:List Str:=["m", "exits", "start", "deed", "end"]
abbrev cT:Stmt:=top 16
abbrev lU:List Str:=["m"]
abbrev fG:Stmt:=top 17
abbrev tH:List Str:=["one", "other", "shift", "moved", "m"]
abbrev fU:Stmt:=top 19
abbrev sZ:List Str:=["exits", "ranks", "state"]
abbrev aO:Stmt:=top 20
abbrev dX:List Str:=["exits", "ranks", "keys", "different", "key"]
abbrev dg:Stmt:=top 21
abbrev t_:List Str:=["m", "exits", "rounds", "ranks"]
abbrev dG:Stmt:=top 22
abbrev vA:List Str:=["m"]
abbrev jF:Stmt:=top 23
abbrev Cp:List Str:=["m", "p", "q", "kinds"]
abbrev b7:Stmt:=top 25
abbrev oG:List Str:=["m", "pairs", "pair"]
abbrev aR:Stmt:=top 26
abbrev fW:List Str:=["m", "pairs", "listed", "pair", "exits", "ways", "p", "q", "deed", "end"]
abbrev cI:Stmt:=top 28
abbrev rJ:List Str:=["missed", "end", "others", "other"]
abbrev cg:Stmt:=top 29
abbrev n_:List Str:=["exits", "ways", "missed", "p", "q", "deed", "end"]
abbrev dh:Stmt:=top 30
abbrev rO:List Str:=["exits", "ways", "missed", "turn", "found", "p", "q", "step"]
abbrev cW:Stmt:=top 31
abbrev tK:List Str:=["m", "exits", "ways", "missed", "turn", "found"]
abbrev cF:Stmt:=top 32
abbrev qQ:List Str:=["m", "p", "q"]
abbrev cX:Stmt:=top 33
abbrev tY:List Str:=["m", "p", "q", "missed"]
abbrev xR:Stmt:=top 34
abbrev IV:List Str:=["m", "p", "q"]
abbrev cz:Stmt:=top 35
abbrev pQ:List Str:=["m", "pairs"]
abbrev bK:Stmt:=top 36
abbrev jc:List Str:=["m", "p", "q", "missed", "pairs", "a"]
abbrev bA:Stmt:=top 38
abbrev nF:List Str:=["_law_script", "_law_k"]
abbrev cD:Stmt:=top 39
abbrev rK:List Str:=["_law_cell", "_law_letters", "_law_base"]
abbrev bH:Stmt:=top 40
abbrev m_:List Str:=["_law_script", "_law_many", "_law_deeds_here", "_law_known", "_law_cell"]
abbrev bQ:Stmt:=top 41
abbrev iT:List Str:=["_law_m", "_law_deeds_here", "_law_cell", "_law_many", "_law_steps", "_law_k", "_law_number", "_law_step"]
abbrev bC:Stmt:=top 42
abbrev nj:List Str:=["_law_one", "_law_other_here", "_law_found", "_law_p", "_law_q", "_law_r", "_law_s"]
abbrev b8:Stmt:=top 43
abbrev oH:List Str:=["_law_whole", "_law_p", "_law_q", "_law_r", "_law_one", "_law_two"]
abbrev pW:Stmt:=top 44
abbrev HJ:List Str:=["_law_script", "_law_many", "_law_far", "_law_deeds_here", "_law_m", "_law_cell", "_law_other_here", "_law_whole", "_law_near", "_law_turned", "_law_some", "_law_p", "_law_q", "_law_r"]
structure Txt(K:PySem.W.Frag)(mg:Str->Option Value):Prop where
 P6:mg "all" = none
 P7:mg "any" = none
 P8:mg "isinstance" = none
 tN:mg "len" = none
 FV:mg "list" = none
 y3:mg "range" = none
 KG:mg "set" = none
 BO:mg "sorted" = none
 P9:mg "str" = none
 Qb:Um mg "LETTERS" "abcdefghijklmnopqrstuvwxyz"
 Qj:IC mg "MOST_LETTERS" 6
 Qk:IC mg "MOST_STATES" 20
 Ql:IC mg "MOST_STEPS" 80
 Qm:IC mg "MOST_OPEN_DEEDS" 6
section
variable {P:Program}{w:World}{K:PySem.W.Frag}{mg:Str->Option Value}{base:Heap}
theorem oU:hG pA ["thing"] (cf dI):=⟨rfl,rfl,rfl,by decide +kernel,rfl,by decide +kernel,by decide +kernel⟩
theorem xM {f:Addr} {fd:FuncData} (F:fT K "is_open" "is_open" dI f fd) (T:Txt K mg)  : fz P w K mg base fF 1 f fd ["thing"] (ao K dH) :=
 iP.ok (t:=lQ) F oU uT (fun dk A outer s H E hr =>
  have nd:=oU.nd
  have hu:=hr.units
  (aj (dB (DE (uO (fC (dY (Li T.P8 (qv 0) (Kh T.P9 Jf)))) (pF (fC (wH Be Be Gu Gu aB (cu bF iu rfl T.tN g8 (qv 0)) (RH T.Qj))))))
   (aq (aZ rX))
   aM)
   (aq (aZ (cu eM' Jl rfl T.P6 HR (mQ (tn:=["sign"]) (cn:=[]) (ix:=[]) rfl (wF (Ie (qv 0))) (cL.of (sc:=cf dI) (N:=pA) rfl rfl (by decide +kernel)) (fun _ _ _ _=>(aA (i:=0) (show(["sign"]:List Str).Nodup by decide +kernel) rfl (Or.inl rfl) (.inr rfl))) (fun _ _ _ _=>fV) (fun _ _ _ _=>(BP (kA (K:=K) hu) vq (qv 0) (fd' T.Qb) (by rfl))))))))) Ag
theorem g_:hG oF ["m", "state"] (cf bY):=⟨rfl,rfl,rfl,by decide +kernel,rfl,by decide +kernel,by decide +kernel⟩
theorem oO {f:Addr} {fd:FuncData} (F:fT K "check_state" "check_state" bY f fd) (T:Txt K mg)  : fz P w K mg base fF 1 f fd ["m", "state"] (ao K aD) :=
 iP.ok (t:=fM) F g_ mX (fun dk A outer s H E hr =>
  have nd:=g_.nd
  have hu:=hr.units
  (aq (dB (fC (wH Be DN Gu Jd aB (qv 1) (eJ hu (qv 0) aB)))
   iY
   aM))) qg
theorem pK:hG ym ["m"] (cf fu):=⟨rfl,rfl,rfl,by decide +kernel,rfl,by decide +kernel,by decide +kernel⟩
theorem xj {f:Addr} {fd:FuncData} (F:fT K "ways_of" "ways_of" fu f fd) (T:Txt K mg)  : fz P w K mg base fF 1 f fd ["m"] (ao K cB) :=
 iP.ok (t:=mj) F pK uL (fun dk A outer s H E hr =>
  have nd:=pK.nd
  have hu:=hr.units
  (aj (aF (i:=1) nd rfl (Or.inl rfl) jC)
   (aj (aJ 0 (dD PassesOwn.never rfl (dU (eJ hu (qv 0) aB)) (ig rfl (aH (aA (i:=2) nd rfl (Or.inl rfl)) (aH (aA (i:=3) nd rfl (Or.inl rfl)) (aH (aA (i:=4) nd rfl (Or.inl rfl)) eO))))
   (aq (aJ 4 (aJ 3 (aJ 2 (Le hu (pv 1) (dw (aa (qv 2) (aa (qv 3) au))) (qv 4))))))))
   (aq (iK (pv 1)))))) Bf
theorem lC:hG lD ["m"] (cf cV):=⟨rfl,rfl,rfl,by decide +kernel,rfl,by decide +kernel,by decide +kernel⟩
theorem vh {f:Addr} {fd:FuncData} (F:fT K "exits_of" "exits_of" cV f fd) (T:Txt K mg)  : fz P w K mg base fF 1 f fd ["m"] (ao K aX) :=
 iP.ok (t:=jK) F lC sH (fun dk A outer s H E hr =>
  have nd:=lC.nd
  have hu:=hr.units
  (aj (gR (i:=1) (tn:=["state"]) (cn:=[]) (ix:=[]) nd rfl (Or.inl rfl) rfl (wF (iI T.y3 (eJ hu (qv 0) aB))) (cL.of (sc:=cf cV) (N:=lD) rfl rfl (by decide +kernel)) (fun _ _ _ _=>(aA (i:=0) (show(["state"]:List Str).Nodup by decide +kernel) rfl (Or.inl rfl) (.inr rfl))) (fun _ _ _ _=>fV) (fun _ _ _ _=>(jE au)))
   (aj (aJ 0 (dD PassesOwn.never rfl (dU (eJ hu (qv 0) aB)) (ig rfl (aH (aA (i:=2) nd rfl (Or.inl rfl)) (aH (aA (i:=3) nd rfl (Or.inl rfl)) (aH (aA (i:=4) nd rfl (Or.inl rfl)) eO))))
   (aq (aJ 4 (aJ 3 (Ad (K5 hu (fQ (pv 1)) (qv 2)) (dw (aa (qv 3) (aa (qv 4) au)))))))))
   (aq (iK (pv 1)))))) xH
theorem lY:hG lU ["m"] (cf cT):=⟨rfl,rfl,rfl,by decide +kernel,rfl,by decide +kernel,by decide +kernel⟩
theorem vC {f:Addr} {fd:FuncData} (F:fT K "deeds_of" "deeds_of" cT f fd) (T:Txt K mg)  : fz P w K mg base fF 1 f fd ["m"] (ao K cU) :=
 iP.ok (t:=jz) F lY tD (fun dk A outer s H E hr =>
  have nd:=lY.nd
  have hu:=hr.units
  (aq (aZ (xJ rfl T.BO rfl T.KG (mQ (tn:=["step"]) (cn:=[]) (ix:=[]) rfl (iQ (eJ hu (qv 0) aB)) (cL.of (sc:=cf cT) (N:=lU) rfl rfl (by decide +kernel)) (fun _ _ _ _=>(aA (i:=0) (show(["step"]:List Str).Nodup by decide +kernel) rfl (Or.inl rfl) (.inr rfl))) (fun _ _ _ _=>fV) (fun _ _ _ _=>(eJ hu (qv 0) aB))))))) xP
theorem uf:hG sZ ["exits", "ranks", "state"] (cf fU):=⟨rfl,rfl,rfl,by decide +kernel,rfl,by decide +kernel,by decide +kernel⟩
theorem yX {f:Addr} {fd:FuncData} (F:fT K "key_of" "key_of" fU f fd) (T:Txt K mg)  : fz P w K mg base fF 1 f fd ["exits", "ranks", "state"] (ao K e_) :=
 iP.ok (t:=pP) F uf xW (fun dk A outer s H E hr =>
  have nd:=uf.nd
  have hu:=hr.units
  (aq (aZ (dw (aa (eJ hu (qv 1) (qv 2)) (aa (yf hu rfl T.BO rfl T.KG (mQ (tn:=["deed", "end"]) (cn:=["ranks"]) (ix:=[1]) rfl (iQ (eJ hu (qv 0) (qv 2))) (cL.of (sc:=cf fU) (N:=sZ) rfl rfl (by decide +kernel)) (fun _ _ _ _=>(ig rfl (aH (aA (i:=0) (show(["deed", "end", "ranks"]:List Str).Nodup by decide +kernel) rfl (Or.inl rfl) (.inr rfl)) (aH (aA (i:=1) (show(["deed", "end", "ranks"]:List Str).Nodup by decide +kernel) rfl (Or.inl rfl) (.inr rfl)) eO)))) (fun _ _ _ _=>fV) (fun _ _ _ _=>(dw (aa (qv 0) (aa (eJ hu (qv 2) (qv 1)) au)))))) au)))))) Cj
theorem jo:hG rJ ["missed", "end", "others"] (cf cI):=⟨rfl,rfl,rfl,by decide +kernel,rfl,by decide +kernel,by decide +kernel⟩
theorem qY {f:Addr} {fd:FuncData} (F:fT K "all_missed" "all_missed" cI f fd) (T:Txt K mg)  : fz P w K mg base fF 1 f fd ["missed", "end", "others"] (ao K bW) :=
 iP.ok (t:=gr) F jo oE (fun dk A outer s H E hr =>
  have nd:=jo.nd
  have hu:=hr.units
  (aj (aJ 2 (dD PassesOwn.never rfl (dU (qv 2)) (aA (i:=3) nd rfl (Or.inl rfl))
   (aq (aJ 3 (aJ 1 (dB (bN (zW (K:=K) hu) vq (dw (aa (qv 1) (aa (qv 3) au))) (qv 0) (by rfl))
   (aq (aZ rX))
   aM))))))
   (aq (aZ rX)))) rR
theorem gC:hG nF ["_law_script", "_law_k"] (cf bA):=⟨rfl,rfl,rfl,by decide +kernel,rfl,by decide +kernel,by decide +kernel⟩
theorem m9 {f:Addr} {fd:FuncData} (F:fT K "_law_cell_at" "_law_cell_at" bA f fd) (T:Txt K mg)  : fz P w K mg base fF 1 f fd ["_law_script", "_law_k"] (ao K aL) :=
 iP.ok (t:=eU) F gC kO (fun dk A outer s H E hr =>
  have nd:=gC.nd
  have hu:=hr.units
  (aj (dB (bN DN Jd (qv 1) (cu bF iu rfl T.tN g8 (qv 0)) (nX _))
   (aq (aZ (eJ hu (qv 0) (qv 1))))
   aM)
   (aq (aZ aB)))) nM
theorem iU:hG rK ["_law_cell"] (cf cD):=⟨rfl,rfl,rfl,by decide +kernel,rfl,by decide +kernel,by decide +kernel⟩
theorem qu {f:Addr} {fd:FuncData} (F:fT K "_law_deeds" "_law_deeds" cD f fd) (T:Txt K mg)  : fz P w K mg base fF 1 f fd ["_law_cell"] (ao K bU) :=
 iP.ok (t:=gA) F iU nR (fun dk A outer s H E hr =>
  have nd:=iU.nd
  have hu:=hr.units
  (aj (aF (i:=1) nd rfl (Or.inl rfl) zf)
   (aj (aF (i:=2) nd rfl (Or.inl rfl) (gY (eJ hu (qv 1) (cZ (gF (qv 0) aB) aB)) (JD (eJ hu (qv 1) (cZ (gF (qv 0) aB) aB)) (cZ (gF (qv 0) aB) aB))))
   (aq (aJ 2 (aZ (vp (eJ hu (jE (aa (jE (aa (qv 2) (aa (gY (qv 2) zf) (aa zf au)))) (aa (jE (aa zf (aa (qv 2) (aa (gY zf (vp (qv 2) (pO aB) A_)) au)))) au))) (cZ (qv 0) aB)) A_ (pO (gY aB (cZ (gF (qv 0) aB) aB)))))))))) tV
theorem fZ:hG m_ ["_law_script", "_law_many", "_law_deeds_here"] (cf bH):=⟨rfl,rfl,rfl,by decide +kernel,rfl,by decide +kernel,by decide +kernel⟩
theorem lG {f:Addr} {fd:FuncData} (F:fT K "_law_machine" "_law_machine" bH f fd) (T:Txt K mg)  : fz P w K mg base fF 1 f fd ["_law_script", "_law_many", "_law_deeds_here"] (ao K a_) :=
 iP.ok (t:=eN) F fZ j_ (fun dk A outer s H E hr =>
  have nd:=fZ.nd
  have hu:=hr.units
  (aj (aF (i:=3) nd rfl (Or.inl rfl) jC)
   (aj (aJ 0 (dD PassesOwn.never rfl (dU (vp (qv 0) (pO aB) (pO aB))) (aA (i:=4) nd rfl (Or.inl rfl))
   (aq (qZ hu (fQ (pv 3)) (dw (aa (cZ (qv 4) (qv 1)) (aa (eJ hu (qv 2) (cZ (gF (gF (qv 4) (qv 1)) (qv 1)) (cu bF iu rfl T.tN g8 (qv 2)))) (aa (cZ (gF (qv 4) (qv 1)) (qv 1)) au)))) rX))))
   (aq (uK (R0 (pv 1) (Zf (cu DR wz rfl T.BO gq (pU jA vd rfl T.FV uR (qv 3))) zj))))))) oM
theorem jb:hG iT ["_law_m", "_law_deeds_here", "_law_cell"] (cf bQ):=⟨rfl,rfl,rfl,by decide +kernel,rfl,by decide +kernel,by decide +kernel⟩
theorem qL {f:Addr} {fd:FuncData} (F:fT K "_law_other" "_law_other" bQ f fd) (T:Txt K mg)  : fz P w K mg base fF 1 f fd ["_law_m", "_law_deeds_here", "_law_cell"] (ao K b_) :=
 iP.ok (t:=gm) F jb nJ (fun dk A outer s H E hr =>
  have nd:=jb.nd
  have hu:=hr.units
  (aj (aF (i:=3) nd rfl (Or.inr rfl) (eJ hu (qv 0) aB))
   (aj (aF (i:=4) nd rfl (Or.inl rfl) (pU jA vd rfl T.FV uR (eJ hu (qv 0) aB)))
   (aj (dB (bN (EZ (K:=K) hu) u_ (cZ (qv 2) aB) aB (nX _))
   (aq (dD PassesOwn.never rfl (iI T.y3 (cZ (gF (qv 2) aB) aB)) (aA (i:=5) nd rfl (Or.inl rfl))
   (aj (aF (i:=6) nd rfl (Or.inl rfl) (gF (gF (qv 2) aB) (gY (Jx (qv 5) (qv 5)) aB)))
   (aj (aF (i:=7) nd rfl (Or.inl rfl) (dw (aa (cZ (qv 6) (qv 3)) (aa (eJ hu (qv 1) (cZ (gF (gF (qv 6) (qv 3)) (qv 3)) (cu bF iu rfl T.tN g8 (qv 1)))) (aa (cZ (gF (qv 6) (qv 3)) (qv 3)) au)))))
   (aq (dB (bN (zE (K:=K) hu) En (qv 7) (qv 4) (by rfl))
   (aq (aJ 7 (Ad (fQ (pv 4)) (qv 7))))
   aM))))))
   aM)
   (aj (dB (bN (EZ (K:=K) hu) u_ (cZ (qv 2) aB) aB (nX _))
   (aq (gR (i:=4) (tn:=["_law_a", "_law_deed", "_law_b"]) (cn:=["_law_many"]) (ix:=[3]) nd rfl (Or.inl rfl) rfl (iQ (qv 4)) (cL.of (sc:=cf bQ) (N:=iT) rfl rfl (by decide +kernel)) (fun _ _ _ _=>(ig rfl (aH (aA (i:=0) (show(["_law_a", "_law_deed", "_law_b", "_law_many"]:List Str).Nodup by decide +kernel) rfl (Or.inl rfl) (.inr rfl)) (aH (aA (i:=1) (show(["_law_a", "_law_deed", "_law_b", "_law_many"]:List Str).Nodup by decide +kernel) rfl (Or.inl rfl) (.inr rfl)) (aH (aA (i:=2) (show(["_law_a", "_law_deed", "_law_b", "_law_many"]:List Str).Nodup by decide +kernel) rfl (Or.inl rfl) (.inr rfl)) eO))))) (fun _ _ _ _=>fV) (fun _ _ _ _=>(dw (aa (cZ (Fz (qv 3) (qv 0)) (qv 3)) (aa (qv 1) (aa (cZ (Fz (qv 3) (qv 2)) (qv 3)) au)))))))
   aM)
   (aj (dB (DE (Dz (bN (EZ (K:=K) hu) u_ (cZ (qv 2) aB) aB (nX _)) (Aq (bN (YH (K:=K) hu) Jt (qv 4) (jE au) (nX _)))))
   (aq (Ez (fQ (pv 4)) (cZ (gF (qv 2) aB) (cu bF iu rfl T.tN g8 (qv 4)))))
   aM)
   (aq (uK (R0 (pv 3) (Zf (cu DR wz rfl T.BO gq (qv 4)) zj)))))))))) su
theorem gJ:hG nj ["_law_one", "_law_other_here"] (cf bC):=⟨rfl,rfl,rfl,by decide +kernel,rfl,by decide +kernel,by decide +kernel⟩
theorem mV {f:Addr} {fd:FuncData} (F:fT K "_law_chained" "_law_chained" bC f fd) (T:Txt K mg)  : fz P w K mg base fF 1 f fd ["_law_one", "_law_other_here"] (ao K bj) :=
 iP.ok (t:=eX) F gJ kJ (fun dk A outer s H E hr =>
  have nd:=gJ.nd
  have hu:=hr.units
  (aj (aF (i:=2) nd rfl (Or.inl rfl) jC)
   (aj (aJ 0 (dD PassesOwn.never rfl (dU (qv 0)) (ig rfl (aH (aA (i:=3) nd rfl (Or.inl rfl)) (aH (aA (i:=4) nd rfl (Or.inl rfl)) eO)))
   (aq (aJ 1 (dD PassesOwn.never rfl (dU (qv 1)) (ig rfl (aH (aA (i:=5) nd rfl (Or.inl rfl)) (aH (aA (i:=6) nd rfl (Or.inl rfl)) eO)))
   (aq (dB (bN (EZ (K:=K) hu) u_ (qv 4) (qv 5) (nX _))
   (aq (qZ hu (fQ (pv 2)) (dw (aa (qv 3) (aa (qv 6) au))) rX))
   aM)))))))
   (aq (aZ (pU jA vd rfl T.FV uR (qv 2))))))) oJ
theorem gM:hG gj ["m"] (cf aY):=⟨rfl,rfl,rfl,by decide +kernel,rfl,by decide +kernel,by decide +kernel⟩
theorem mZ {f:Addr} {fd:FuncData} (F:fT K "check_bounds" "check_bounds" aY f fd) (T:Txt K mg) (hO':cy P w K mg base 1 "deeds_of" ["m"] (ao K cU)) (hQ':cy P w K mg base 1 "is_open" ["thing"] (ao K dH)):fz P w K mg base fF 2 f fd ["m"] (ao K bh) :=
 iP.ok (t:=eG) F gM kY (fun dk A outer s H E hr =>
  have nd:=gM.nd
  have hu:=hr.units
  (aj (dB (bN zQ Hf (eJ hu (qv 0) aB) (RH T.Qk) (nX _))
   iY
   aM)
   (aj (dB (bN zQ Hf (cu bF iu rfl T.tN g8 (eJ hu (qv 0) aB)) (RH T.Ql) (nX _))
   iY
   aM)
   (aq (dB (bN zQ Hf (cu bF iu rfl T.tN g8 (mQ (tn:=["deed"]) (cn:=[]) (ix:=[]) rfl (iQ (aN hO' (hr.mono (by decide)) (aa (qv 0) au))) (cL.of (sc:=cf aY) (N:=gj) rfl rfl (by decide +kernel)) (fun _ _ _ _=>(aA (i:=0) (show(["deed"]:List Str).Nodup by decide +kernel) rfl (Or.inl rfl) (.inr rfl))) (fun _ _ _ _=>(yP (dY (aN hQ' (hr.mono (by decide)) (aa (qv 0) au))))) (fun _ _ _ _=>(qv 0)))) (RH T.Qm) (nX _))
   iY
   aM))))) oA
theorem gw:hG dX ["exits", "ranks"] (cf aO):=⟨rfl,rfl,rfl,by decide +kernel,rfl,by decide +kernel,by decide +kernel⟩
theorem m8 {f:Addr} {fd:FuncData} (F:fT K "ranks_behind" "ranks_behind" aO f fd) (T:Txt K mg) (hR':cy P w K mg base 1 "key_of" ["exits", "ranks", "state"] (ao K e_)):fz P w K mg base fF 2 f fd ["exits", "ranks"] (ao K aU) :=
 iP.ok (t:=eV) F gw kj (fun dk A outer s H E hr =>
  have nd:=gw.nd
  have hu:=hr.units
  (aj (gR (i:=2) (tn:=["state"]) (cn:=["exits", "ranks"]) (ix:=[0,1]) nd rfl (Or.inl rfl) rfl (wF (iI T.y3 (cu bF iu rfl T.tN g8 (qv 1)))) (cL.of (sc:=cf aO) (N:=dX) rfl rfl (by decide +kernel)) (fun _ _ _ _=>(aA (i:=0) (show(["state", "exits", "ranks"]:List Str).Nodup by decide +kernel) rfl (Or.inl rfl) (.inr rfl))) (fun _ _ _ _=>fV) (fun _ _ _ _=>(aN hR' (hr.mono (by decide)) (aa (qv 1) (aa (qv 2) (aa (qv 0) au))))))
   (aj (aF (i:=3) nd rfl (Or.inr rfl) (jE au))
   (aj (aJ 2 (dD PassesOwn.never rfl (dU (cu (IK hu) Dq rfl T.BO gq (qv 2))) (aA (i:=4) nd rfl (Or.inl rfl))
   (aq (dB (bN (zE (K:=K) hu) En (qv 4) (qv 3) (by rfl))
   (aq (aJ 4 (Ad (fQ (pv 3)) (qv 4))))
   aM))))
   (aq (aZ (mQ (tn:=["key"]) (cn:=["different"]) (ix:=[3]) rfl (iQ (qv 2)) (cL.of (sc:=cf aO) (N:=dX) rfl rfl (by decide +kernel)) (fun _ _ _ _=>(aA (i:=0) (show(["key", "different"]:List Str).Nodup by decide +kernel) rfl (Or.inl rfl) (.inr rfl))) (fun _ _ _ _=>fV) (fun _ _ _ _=>(Ey hu (qv 1) (qv 0)))))))))) n8
theorem h_:hG oG ["m", "pairs"] (cf b7):=⟨rfl,rfl,rfl,by decide +kernel,rfl,by decide +kernel,by decide +kernel⟩
theorem nO {f:Addr} {fd:FuncData} (F:fT K "check_pairs" "check_pairs" b7 f fd) (T:Txt K mg) (DV:cy P w K mg base 1 "check_state" ["m", "state"] (ao K aD)):fz P w K mg base fF 2 f fd ["m", "pairs"] (ao K bD) :=
 iP.ok (t:=fJ) F h_ lL (fun dk A outer s H E hr =>
  have nd:=h_.nd
  have hu:=hr.units
  (aq (aJ 1 (dD PassesOwn.never rfl (dU (qv 1)) (aA (i:=2) nd rfl (Or.inl rfl))
   (aj (eF (aN DV (hr.mono (by decide)) (aa (qv 0) (aa (eJ hu (qv 2) aB) au))))
   (aq (eF (aN DV (hr.mono (by decide)) (aa (qv 0) (aa (eJ hu (qv 2) aB) au)))))))))) pY
theorem fX:hG fW ["m", "pairs"] (cf aR):=⟨rfl,rfl,rfl,by decide +kernel,rfl,by decide +kernel,by decide +kernel⟩
theorem kI {f:Addr} {fd:FuncData} (F:fT K "steps_matched" "steps_matched" aR f fd) (T:Txt K mg) (Qn:cy P w K mg base 1 "exits_of" ["m"] (ao K aX)) (Vv:cy P w K mg base 1 "ways_of" ["m"] (ao K cB)):fz P w K mg base fF 2 f fd ["m", "pairs"] (ao K aV) :=
 iP.ok (t:=dM) F fX jw (fun dk A outer s H E hr =>
  have nd:=fX.nd
  have hu:=hr.units
  (aj (aF (i:=2) nd rfl (Or.inr rfl) jC)
   (aj (aJ 1 (dD PassesOwn.never rfl (dU (qv 1)) (aA (i:=3) nd rfl (Or.inl rfl))
   (aq (qZ hu (fQ (pv 2)) (qv 3) rX))))
   (aj (aF (i:=4) nd rfl (Or.inl rfl) (aN Qn (hr.mono (by decide)) (aa (qv 0) au)))
   (aj (aF (i:=5) nd rfl (Or.inl rfl) (aN Vv (hr.mono (by decide)) (aa (qv 0) au)))
   (aj (aJ 5 (aJ 4 (aJ 2 (Fx PassesOwn.never rfl (qv 2) (ig rfl (aH (aA (i:=6) nd rfl (Or.inl rfl)) (aH (aA (i:=7) nd rfl (Or.inl rfl)) eO)))
   (aq (aJ 4 (dD PassesOwn.never rfl (dU (eJ hu (qv 4) (qv 6))) (ig rfl (aH (aA (i:=8) nd rfl (Or.inl rfl)) (aH (aA (i:=9) nd rfl (Or.inr rfl)) eO)))
   (aq (aJ 8 (aJ 7 (aJ 9 (dB (fC (dY (cu gK' HQ rfl T.P7 Ji (mQ (tn:=["other"]) (cn:=["end", "listed"]) (ix:=[9,2]) rfl (iQ (JT hu (qv 5) (dw (aa (qv 7) (aa (qv 8) au))) (gx' (jE au)))) (cL.of (sc:=cf aR) (N:=fW) rfl rfl (by decide +kernel)) (fun _ _ _ _=>(aA (i:=0) (show(["other", "end", "listed"]:List Str).Nodup by decide +kernel) rfl (Or.inl rfl) (.inr rfl))) (fun _ _ _ _=>fV) (fun _ _ _ _=>(BP (kA (K:=K) hu) vq (dw (aa (qv 1) (aa (qv 0) au))) (qv 2) (by rfl)))))))
   (aq (aZ rX))
   aM)))))))) (fun _ _=>trivial)))))
   (aq (aZ rX)))))))) lX
theorem iz:hG n_ ["exits", "ways", "missed", "p", "q"] (cf cg):=⟨rfl,rfl,rfl,by decide +kernel,rfl,by decide +kernel,by decide +kernel⟩
theorem ou {f:Addr} {fd:FuncData} (F:fT K "step_missed" "step_missed" cg f fd) (T:Txt K mg) (hT':cy P w K mg base 1 "all_missed" ["missed", "end", "others"] (ao K bW)):fz P w K mg base fF 2 f fd ["exits", "ways", "missed", "p", "q"] (ao K bB) :=
 iP.ok (t:=fL) F iz mJ (fun dk A outer s H E hr =>
  have nd:=iz.nd
  have hu:=hr.units
  (aj (aJ 0 (dD PassesOwn.never rfl (dU (eJ hu (qv 0) (qv 3))) (ig rfl (aH (aA (i:=5) nd rfl (Or.inl rfl)) (aH (aA (i:=6) nd rfl (Or.inl rfl)) eO)))
   (aq (aJ 5 (aJ 4 (dB (dY (aN hT' (hr.mono (by decide)) (aa (qv 2) (aa (qv 6) (aa (JT hu (qv 1) (dw (aa (qv 4) (aa (qv 5) au))) (jE au)) au)))))
   (aq (uK (R0 (pv 5) (R0 (pv 6) zj))))
   aM))))))
   (aq (aZ rW)))) rF
theorem iV:hG qQ ["m", "p", "q"] (cf cF):=⟨rfl,rfl,rfl,by decide +kernel,rfl,by decide +kernel,by decide +kernel⟩
theorem qt {f:Addr} {fd:FuncData} (F:fT K "check_both" "check_both" cF f fd) (T:Txt K mg) (DV:cy P w K mg base 1 "check_state" ["m", "state"] (ao K aD)):fz P w K mg base fF 2 f fd ["m", "p", "q"] (ao K aW) :=
 iP.ok (t:=gk) F iV nP (fun dk A outer s H E hr =>
  have nd:=iV.nd
  have hu:=hr.units
  (aj (eF (aN DV (hr.mono (by decide)) (aa (qv 0) (aa (qv 1) au))))
   (aq (eF (aN DV (hr.mono (by decide)) (aa (qv 0) (aa (qv 2) au))))))) ux
theorem sS:hG tH ["one", "other"] (cf fG):=⟨rfl,rfl,rfl,by decide +kernel,rfl,by decide +kernel,by decide +kernel⟩
theorem z_ {f:Addr} {fd:FuncData} (F:fT K "joined" "joined" fG f fd) (T:Txt K mg) (hU':cy P w K mg base 2 "check_bounds" ["m"] (ao K bh)):fz P w K mg base fF 3 f fd ["one", "other"] (ao K eY) :=
 iP.ok (t:=qC) F sS xN (fun dk A outer s H E hr =>
  have nd:=sS.nd
  have hu:=hr.units
  (aj (aF (i:=2) nd rfl (Or.inr rfl) (eJ hu (qv 0) aB))
   (aj (gR (i:=3) (tn:=["step"]) (cn:=["shift"]) (ix:=[2]) nd rfl (Or.inl rfl) rfl (iQ (eJ hu (qv 1) aB)) (cL.of (sc:=cf fG) (N:=tH) rfl rfl (by decide +kernel)) (fun _ _ _ _=>(aA (i:=0) (show(["step", "shift"]:List Str).Nodup by decide +kernel) rfl (Or.inl rfl) (.inr rfl))) (fun _ _ _ _=>fV) (fun _ _ _ _=>(dw (aa (gY (eJ hu (qv 0) aB) (qv 1)) (aa (eJ hu (qv 0) aB) (aa (gY (eJ hu (qv 0) aB) (qv 1)) au))))))
   (aj (aF (i:=4) nd rfl (Or.inl rfl) (dw (aa (gY (qv 2) (eJ hu (qv 1) aB)) (aa (gY (eJ hu (qv 0) aB) (qv 3)) au))))
   (aj (eF (aN hU' (hr.mono (by decide)) (aa (qv 4) au)))
   (aq (iK (pv 4)))))))) Ca
theorem jQ:hG t_ ["m"] (cf dg):=⟨rfl,rfl,rfl,by decide +kernel,rfl,by decide +kernel,by decide +kernel⟩
theorem uq {f:Addr} {fd:FuncData} (F:fT K "rounds_of" "rounds_of" dg f fd) (T:Txt K mg) (Qn:cy P w K mg base 1 "exits_of" ["m"] (ao K aX)) (Z6:cy P w K mg base 2 "ranks_behind" ["exits", "ranks"] (ao K aU)):fz P w K mg base fF 3 f fd ["m"] (ao K cJ) :=
 iP.ok (t:=iJ) F jQ qe (fun dk A outer s H E hr =>
  have nd:=jQ.nd
  have hu:=hr.units
  (aj (aF (i:=1) nd rfl (Or.inl rfl) (aN Qn (hr.mono (by decide)) (aa (qv 0) au)))
   (aj (aF (i:=2) nd rfl (Or.inl rfl) (jE (aa (Js (jE (aa aB au)) (eJ hu (qv 0) aB)) au)))
   (aj (aF (i:=3) nd rfl (Or.inl rfl) (aN Z6 (hr.mono (by decide)) (aa (qv 1) (aa (eJ hu (qv 2) aB) au))))
   (aj (wR PassesOwn.never (bN (YH (K:=K) hu) Jt (qv 3) (eJ hu (qv 2) (Ig aB)) (nX _))
   (BW nd rfl (Or.inl rfl) (pv 2) (pv 3) (aN Z6 (hr.mono (by decide)) (aa (qv 1) (aa (qv 3) au)))))
   (aq (iK (pv 2)))))))) vG
theorem jT:hG rO ["exits", "ways", "missed", "turn"] (cf dh):=⟨rfl,rfl,rfl,by decide +kernel,rfl,by decide +kernel,by decide +kernel⟩
theorem sE {f:Addr} {fd:FuncData} (F:fT K "missed_in" "missed_in" dh f fd) (T:Txt K mg) (hV':cy P w K mg base 2 "step_missed" ["exits", "ways", "missed", "p", "q"] (ao K bB)):fz P w K mg base fF 3 f fd ["exits", "ways", "missed", "turn"] (ao K bR) :=
 iP.ok (t:=iG) F jT qN (fun dk A outer s H E hr =>
  have nd:=jT.nd
  have hu:=hr.units
  (aj (aF (i:=4) nd rfl (Or.inl rfl) jC)
   (aj (dD PassesOwn.never rfl (iI T.y3 (cu bF iu rfl T.tN g8 (qv 0))) (aA (i:=5) nd rfl (Or.inl rfl))
   (aq (dD PassesOwn.never rfl (iI T.y3 (cu bF iu rfl T.tN g8 (qv 0))) (aA (i:=6) nd rfl (Or.inl rfl))
   (aq (aJ 6 (aJ 5 (dB (bN (zW (K:=K) hu) vq (dw (aa (qv 5) (aa (qv 6) au))) (qv 2) (by rfl))
   (aj (aF (i:=7) nd rfl (Or.inl rfl) (aN hV' (hr.mono (by decide)) (aa (qv 0) (aa (qv 1) (aa (qv 2) (aa (qv 5) (aa (qv 6) au)))))))
   (aq (dB (bN cz' Hc (qv 7) rW (nX _))
   (aq (aJ 3 (qZ hu (fQ (pv 4)) (dw (aa (qv 5) (aa (qv 6) au))) (dw (aa (qv 3) (aa (eJ hu (qv 7) aB) (aa (eJ hu (qv 7) aB) au)))))))
   aM)))
   aM)))))))
   (aq (iK (pv 4)))))) uU
theorem iZ:hG pQ ["m", "pairs"] (cf cz):=⟨rfl,rfl,rfl,by decide +kernel,rfl,by decide +kernel,by decide +kernel⟩
theorem qU {f:Addr} {fd:FuncData} (F:fT K "is_one_way" "is_one_way" cz f fd) (T:Txt K mg) (hW':cy P w K mg base 2 "check_pairs" ["m", "pairs"] (ao K bD)) (hX':cy P w K mg base 2 "steps_matched" ["m", "pairs"] (ao K aV)):fz P w K mg base fF 3 f fd ["m", "pairs"] (ao K bz) :=
 iP.ok (t:=gG) F iZ nH (fun dk A outer s H E hr =>
  have nd:=iZ.nd
  have hu:=hr.units
  (aj (eF (aN hW' (hr.mono (by decide)) (aa (qv 0) (aa (qv 1) au))))
   (aq (aZ (aN hX' (hr.mono (by decide)) (aa (qv 0) (aa (qv 1) au))))))) sO
theorem mC:hG vA ["m"] (cf dG):=⟨rfl,rfl,rfl,by decide +kernel,rfl,by decide +kernel,by decide +kernel⟩
theorem uW {f:Addr} {fd:FuncData} (F:fT K "kinds_of" "kinds_of" dG f fd) (T:Txt K mg) (hY':cy P w K mg base 3 "rounds_of" ["m"] (ao K cJ)):fz P w K mg base fF 4 f fd ["m"] (ao K cY) :=
 iP.ok (t:=ju) F mC uc (fun dk A outer s H E hr =>
  have nd:=mC.nd
  have hu:=hr.units
  (aq (aZ (KN (aN hY' (hr.mono (by decide)) (aa (qv 0) au)) (Ig aB))))) xx
theorem jV:hG tK ["m"] (cf cW):=⟨rfl,rfl,rfl,by decide +kernel,rfl,by decide +kernel,by decide +kernel⟩
theorem ur {f:Addr} {fd:FuncData} (F:fT K "misses_of" "misses_of" cW f fd) (T:Txt K mg) (Qn:cy P w K mg base 1 "exits_of" ["m"] (ao K aX)) (Vv:cy P w K mg base 1 "ways_of" ["m"] (ao K cB)) (Z7:cy P w K mg base 3 "missed_in" ["exits", "ways", "missed", "turn"] (ao K bR)):fz P w K mg base fF 4 f fd ["m"] (ao K bw) :=
 iP.ok (t:=iD) F jV pZ (fun dk A outer s H E hr =>
  have nd:=jV.nd
  have hu:=hr.units
  (aj (aF (i:=1) nd rfl (Or.inl rfl) (aN Qn (hr.mono (by decide)) (aa (qv 0) au)))
   (aj (aF (i:=2) nd rfl (Or.inl rfl) (aN Vv (hr.mono (by decide)) (aa (qv 0) au)))
   (aj (aF (i:=3) nd rfl (Or.inl rfl) jC)
   (aj (aF (i:=4) nd rfl (Or.inl rfl) aB)
   (aj (aF (i:=5) nd rfl (Or.inl rfl) (aN Z7 (hr.mono (by decide)) (aa (qv 1) (aa (qv 2) (aa (qv 3) (aa (qv 4) au))))))
   (aj (wR PassesOwn.never (G8 (pv 5))
   (aj (GZ (W_ (Nat.add_le_add_left (by decide:1<=64) _) hu) (pv 3) (pv 5))
   (aj (aF (i:=4) nd rfl (Or.inl rfl) (gY (qv 4) aB))
   (aq (aF (i:=5) nd rfl (Or.inl rfl) (aN Z7 (hr.mono (by decide)) (aa (qv 1) (aa (qv 2) (aa (qv 3) (aa (qv 4) au))))))))))
   (aq (iK (pv 3)))))))))) vg
theorem wL:hG Cp ["m", "p", "q"] (cf jF):=⟨rfl,rfl,rfl,by decide +kernel,rfl,by decide +kernel,by decide +kernel⟩
theorem Dl {f:Addr} {fd:FuncData} (F:fT K "alike" "alike" jF f fd) (T:Txt K mg) (DV:cy P w K mg base 1 "check_state" ["m", "state"] (ao K aD)) (hZ':cy P w K mg base 4 "kinds_of" ["m"] (ao K cY)):fz P w K mg base fF 5 f fd ["m", "p", "q"] (ao K dF) :=
 iP.ok (t:=vo) F wL Ao (fun dk A outer s H E hr =>
  have nd:=wL.nd
  have hu:=hr.units
  (aj (eF (aN DV (hr.mono (by decide)) (aa (qv 0) (aa (qv 1) au))))
   (aj (eF (aN DV (hr.mono (by decide)) (aa (qv 0) (aa (qv 2) au))))
   (aj (aF (i:=3) nd rfl (Or.inl rfl) (aN hZ' (hr.mono (by decide)) (aa (qv 0) au)))
   (aq (aZ (BP (EZ (K:=K) hu) u_ (eJ hu (qv 3) (qv 1)) (eJ hu (qv 3) (qv 2)) (nX _)))))))) GQ
theorem jM:hG tY ["m", "p", "q"] (cf cX):=⟨rfl,rfl,rfl,by decide +kernel,rfl,by decide +kernel,by decide +kernel⟩
theorem sG {f:Addr} {fd:FuncData} (F:fT K "missed_at" "missed_at" cX f fd) (T:Txt K mg) (Vw:cy P w K mg base 2 "check_both" ["m", "p", "q"] (ao K aW)) (Vx:cy P w K mg base 4 "misses_of" ["m"] (ao K bw)):fz P w K mg base fF 5 f fd ["m", "p", "q"] (ao K cH) :=
 iP.ok (t:=iM) F jM qH (fun dk A outer s H E hr =>
  have nd:=jM.nd
  have hu:=hr.units
  (aj (eF (aN Vw (hr.mono (by decide)) (aa (qv 0) (aa (qv 1) (aa (qv 2) au)))))
   (aj (aF (i:=3) nd rfl (Or.inl rfl) (aN Vx (hr.mono (by decide)) (aa (qv 0) au)))
   (aq (aJ 2 (aJ 1 (aZ (ff' (bN (kA (K:=K) hu) vq (dw (aa (qv 1) (aa (qv 2) au))) (qv 3) (by rfl)) (eJ hu (eJ hu (qv 3) (dw (aa (qv 1) (aa (qv 2) au)))) aB) rW)))))))) uH
theorem iW:hG jc ["m", "p", "q"] (cf bK):=⟨rfl,rfl,rfl,by decide +kernel,rfl,by decide +kernel,by decide +kernel⟩
theorem qT {f:Addr} {fd:FuncData} (F:fT K "one_way_of" "one_way_of" bK f fd) (T:Txt K mg) (Vw:cy P w K mg base 2 "check_both" ["m", "p", "q"] (ao K aW)) (Vx:cy P w K mg base 4 "misses_of" ["m"] (ao K bw)):fz P w K mg base fF 5 f fd ["m", "p", "q"] (ao K bx) :=
 iP.ok (t:=gn) F iW oR (fun dk A outer s H E hr =>
  have nd:=iW.nd
  have hu:=hr.units
  (aj (eF (aN Vw (hr.mono (by decide)) (aa (qv 0) (aa (qv 1) (aa (qv 2) au)))))
   (aj (aF (i:=3) nd rfl (Or.inr rfl) (aN Vx (hr.mono (by decide)) (aa (qv 0) au)))
   (aj (aJ 2 (aJ 1 (dB (bN (kA (K:=K) hu) vq (dw (aa (qv 1) (aa (qv 2) au))) (qv 3) (by rfl))
   (aq (aZ rW))
   aM)))
   (aj (aF (i:=4) nd rfl (Or.inl rfl) (jE au))
   (aj (dD PassesOwn.never rfl (iI T.y3 (eJ hu (qv 0) aB)) (aA (i:=5) nd rfl (Or.inr rfl))
   (aq (aJ 5 (Iz (fQ (pv 4)) (mQ (tn:=["b"]) (cn:=["a", "missed"]) (ix:=[5,3]) rfl (wF (iI T.y3 (eJ hu (qv 0) aB))) (cL.of (sc:=cf bK) (N:=jc) rfl rfl (by decide +kernel)) (fun _ _ _ _=>(aA (i:=0) (show(["b", "a", "missed"]:List Str).Nodup by decide +kernel) rfl (Or.inl rfl) (.inr rfl))) (fun _ _ _ _=>(yP (bN (zW (K:=K) hu) vq (dw (aa (qv 1) (aa (qv 0) au))) (qv 2) (by rfl)))) (fun _ _ _ _=>(dw (aa (qv 1) (aa (qv 0) au)))))))))
   (aq (iK (pv 4))))))))) ud
theorem Ef:hG IV ["m", "p", "q"] (cf xR):=⟨rfl,rfl,rfl,by decide +kernel,rfl,by decide +kernel,by decide +kernel⟩
theorem JZ {f:Addr} {fd:FuncData} (F:fT K "can" "can" xR f fd) (T:Txt K mg) (ia':cy P w K mg base 5 "missed_at" ["m", "p", "q"] (ao K cH)):fz P w K mg base fF 6 f fd ["m", "p", "q"] (ao K fY) :=
 iP.ok (t:=Hi) F Ef Ho (fun dk A outer s H E hr =>
  have nd:=Ef.nd
  have hu:=hr.units
  (aq (aZ (BP Q6 vQ (aN ia' (hr.mono (by decide)) (aa (qv 0) (aa (qv 1) (aa (qv 2) au)))) rW (nX _))))) K3
theorem ir:hG oH ["_law_whole", "_law_p", "_law_q", "_law_r"] (cf b8):=⟨rfl,rfl,rfl,by decide +kernel,rfl,by decide +kernel,by decide +kernel⟩
theorem n6 {f:Addr} {fd:FuncData} (F:fT K "_law_triple" "_law_triple" b8 f fd) (T:Txt K mg) (Z8:cy P w K mg base 5 "one_way_of" ["m", "p", "q"] (ao K bx)) (Vy:cy P w K mg base 5 "alike" ["m", "p", "q"] (ao K dF)) (FX:cy P w K mg base 6 "can" ["m", "p", "q"] (ao K fY)) (Z9:cy P w K mg base 3 "is_one_way" ["m", "pairs"] (ao K bz)) (ib':cy P w K mg base 1 "_law_chained" ["_law_one", "_law_other_here"] (ao K bj)):fz P w K mg base fF 7 f fd ["_law_whole", "_law_p", "_law_q", "_law_r"] (ao K bJ) :=
 iP.ok (t:=fO) F ir mK (fun dk A outer s H E hr =>
  have nd:=ir.nd
  have hu:=hr.units
  (aj (aF (i:=4) nd rfl (Or.inl rfl) (aN Z8 (hr.mono (by decide)) (aa (qv 0) (aa (qv 1) (aa (qv 2) au)))))
   (aj (aF (i:=5) nd rfl (Or.inl rfl) (aN Z8 (hr.mono (by decide)) (aa (qv 0) (aa (qv 2) (aa (qv 3) au)))))
   (aj (dB (DE (Dz (dY (aN Vy (hr.mono (by decide)) (aa (qv 0) (aa (qv 1) (aa (qv 2) au))))) (Aq (DE (uO (bN Q6 vQ (qv 4) rW (nX _)) (pF (fC (dY (aN FX (hr.mono (by decide)) (aa (qv 0) (aa (qv 2) (aa (qv 1) au))))))))))))
   (aq (aZ rX))
   aM)
   (aj (dB (DE (uO (bN Q6 vQ (qv 4) rW (nX _)) (pF (bN Q6 vQ (qv 5) rW (nX _)))))
   (aq (aZ rX))
   aM)
   (aj (dB (DE (uO (fC (dY (aN FX (hr.mono (by decide)) (aa (qv 0) (aa (qv 1) (aa (qv 3) au)))))) (pF (fC (dY (aN Z9 (hr.mono (by decide)) (aa (qv 0) (aa (gY (qv 4) (qv 5)) au))))))))
   (aq (aZ rX))
   aM)
   (aq (aZ (aN Z9 (hr.mono (by decide)) (aa (qv 0) (aa (aN ib' (hr.mono (by decide)) (aa (qv 4) (aa (qv 5) au))) au))))))))))) rn
theorem Dy:hG HJ ["_law_script"] (cf pW):=⟨rfl,rfl,rfl,by decide +kernel,rfl,by decide +kernel,by decide +kernel⟩
theorem ic' {f:Addr} {fd:FuncData} (F:fT K "law" "law" pW f fd) (T:Txt K mg) (Vz:cy P w K mg base 1 "_law_cell_at" ["_law_script", "_law_k"] (ao K aL)) (ie':cy P w K mg base 1 "_law_deeds" ["_law_cell"] (ao K bU)) (ig':cy P w K mg base 1 "_law_machine" ["_law_script", "_law_many", "_law_deeds_here"] (ao K a_)) (ih':cy P w K mg base 1 "_law_other" ["_law_m", "_law_deeds_here", "_law_cell"] (ao K b_)) (ii':cy P w K mg base 3 "joined" ["one", "other"] (ao K eY)) (FX:cy P w K mg base 6 "can" ["m", "p", "q"] (ao K fY)) (Vy:cy P w K mg base 5 "alike" ["m", "p", "q"] (ao K dF)) (ij':cy P w K mg base 7 "_law_triple" ["_law_whole", "_law_p", "_law_q", "_law_r"] (ao K bJ)):fz P w K mg base fF 8 f fd ["_law_script"] (ao K Kx) :=
 iP.ok (t:=FJ) F Dy FN (fun dk A outer s H E hr =>
  have nd:=Dy.nd
  have hu:=hr.units
  (aj (aF (i:=1) nd rfl (Or.inl rfl) (gY aB (cZ (aN Vz (hr.mono (by decide)) (aa (qv 0) (aa aB au))) aB)))
   (aj (aF (i:=2) nd rfl (Or.inl rfl) (aN Vz (hr.mono (by decide)) (aa (qv 0) (aa aB au))))
   (aj (aF (i:=3) nd rfl (Or.inl rfl) (aN ie' (hr.mono (by decide)) (aa (qv 2) au)))
   (aj (aF (i:=4) nd rfl (Or.inl rfl) (aN ig' (hr.mono (by decide)) (aa (qv 0) (aa (qv 1) (aa (qv 3) au)))))
   (aj (aF (i:=5) nd rfl (Or.inl rfl) (aN Vz (hr.mono (by decide)) (aa (qv 0) (aa aB au))))
   (aj (aF (i:=6) nd rfl (Or.inl rfl) (aN ih' (hr.mono (by decide)) (aa (qv 4) (aa (qv 3) (aa (qv 5) au)))))
   (aj (aF (i:=7) nd rfl (Or.inl rfl) (aN ii' (hr.mono (by decide)) (aa (qv 4) (aa (qv 6) au))))
   (aj (aF (i:=8) nd rfl (Or.inl rfl) (cZ (gF (qv 2) aB) (qv 1)))
   (aj (dB (bN (EZ (K:=K) hu) u_ (cZ (qv 5) aB) aB (nX _))
   (aq (dB (DE (uO (fC (dY (aN FX (hr.mono (by decide)) (aa (qv 7) (aa (qv 8) (aa (gY (qv 1) (qv 8)) au)))))) (pF (fC (dY (aN FX (hr.mono (by decide)) (aa (qv 7) (aa aB (aa (qv 1) au)))))))))
   (aq (aZ rX))
   aM))
   aM)
   (aj (dB (bN (EZ (K:=K) hu) u_ (cZ (qv 5) aB) aB (nX _))
   (aj (aF (i:=9) nd rfl (Or.inl rfl) (gY (qv 1) (cZ (Fz (qv 1) (qv 8)) (qv 1))))
   (aq (dB (DE (uO (fC (dY (aN Vy (hr.mono (by decide)) (aa (qv 7) (aa (qv 8) (aa (qv 9) au)))))) (uO (fC (dY (aN FX (hr.mono (by decide)) (aa (qv 7) (aa (qv 8) (aa (qv 9) au)))))) (pF (fC (dY (aN FX (hr.mono (by decide)) (aa (qv 7) (aa (qv 9) (aa (qv 8) au))))))))))
   (aq (aZ rX))
   aM)))
   aM)
   (aj (aF (i:=10) nd rfl (Or.inl rfl) (jE (aa (cZ (qv 2) (qv 1)) (aa (gY (qv 1) (cZ (gF (qv 2) aB) (qv 1))) (aa (cZ (gF (qv 2) aB) (Jx aB (qv 1))) (aa (gY (qv 1) (cZ (qv 2) (qv 1))) au))))))
   (aj (dD PassesOwn.never rfl (Ij (dw (aa (dw (aa (eJ hu (qv 10) aB) (aa (eJ hu (qv 10) aB) (aa (eJ hu (qv 10) aB) au)))) (aa (dw (aa (eJ hu (qv 10) aB) (aa (eJ hu (qv 10) aB) (aa (eJ hu (qv 10) aB) au)))) (aa (dw (aa (eJ hu (qv 10) aB) (aa (eJ hu (qv 10) aB) (aa (eJ hu (qv 10) aB) au)))) au))))) (ig rfl (aH (aA (i:=11) nd rfl (Or.inl rfl)) (aH (aA (i:=12) nd rfl (Or.inl rfl)) (aH (aA (i:=13) nd rfl (Or.inl rfl)) eO))))
   (aq (dB (fC (dY (aN ij' (hr.mono (by decide)) (aa (qv 7) (aa (qv 11) (aa (qv 12) (aa (qv 13) au)))))))
   (aq (aZ rX))
   aM)))
   (aq (aZ rX))))))))))))))) Lb
end
theorem BQ{us:List Value}(h:us.length=1):∃ a0,us=[a0]:=by
 cases us with
 |nil=>simp at h
 |cons a0 us =>
 cases us with
 |nil=>exact⟨_,rfl⟩
 |cons b us=>simp at h
theorem DZ{us:List Value}(h:us.length=2):∃ a0 a1,us=[a0,a1]:=by
 cases us with
 |nil=>simp at h
 |cons a0 us =>
 cases us with
 |nil=>simp at h
 |cons a1 us =>
 cases us with
 |nil=>exact⟨_,_,rfl⟩
 |cons b us=>simp at h
theorem BU{us:List Value}(h:us.length=3):∃ a0 a1 a2,us=[a0,a1,a2]:=by
 cases us with
 |nil=>simp at h
 |cons a0 us =>
 cases us with
 |nil=>simp at h
 |cons a1 us =>
 cases us with
 |nil=>simp at h
 |cons a2 us =>
 cases us with
 |nil=>exact⟨_,_,_,rfl⟩
 |cons b us=>simp at h
theorem Z_{us:List Value}(h:us.length=4):∃ a0 a1 a2 a3,us=[a0,a1,a2,a3]:=by
 cases us with
 |nil=>simp at h
 |cons a0 us =>
 cases us with
 |nil=>simp at h
 |cons a1 us =>
 cases us with
 |nil=>simp at h
 |cons a2 us =>
 cases us with
 |nil=>simp at h
 |cons a3 us =>
 cases us with
 |nil=>exact⟨_,_,_,_,rfl⟩
 |cons b us=>simp at h
theorem us5{us:List Value}(h:us.length=5):∃ a0 a1 a2 a3 a4,us=[a0,a1,a2,a3,a4]:=by
 cases us with
 |nil=>simp at h
 |cons a0 us =>
 cases us with
 |nil=>simp at h
 |cons a1 us =>
 cases us with
 |nil=>simp at h
 |cons a2 us =>
 cases us with
 |nil=>simp at h
 |cons a3 us =>
 cases us with
 |nil=>simp at h
 |cons a4 us =>
 cases us with
 |nil=>exact⟨_,_,_,_,_,rfl⟩
 |cons b us=>simp at h
theorem all_mk {l:PySem.W.OpenLaw} {w:World} {K:PySem.W.Frag} {h:Heap} {mg:Str->Option Value} {fa:Addr} (X:K.In h) (G:h.Ns mainGlobals mg) (hfa:mg "law" = some (.ref fa))
  (a0:PySem.W.nsIn K mainGlobals "is_open" = some (some (.ref f0))) (l0:K.lookup f0=some ⟨o0,d0,.func (PySem.W.fnOf "is_open" "is_open" (gx dI) (fS dI) (cf dI) .none v0 j0 p0 e0 r0 u0),t0⟩) (c0:PySem.W.codeIn K r0 "is_open" = true) (k0:PySem.W.keepIn K (.ref f0)=true)
  (a1:PySem.W.nsIn K mainGlobals "check_bounds" = some (some (.ref f1))) (l1:K.lookup f1=some ⟨o1,d1,.func (PySem.W.fnOf "check_bounds" "check_bounds" (gx aY) (fS aY) (cf aY) .none v1 j1 p1 e1 r1 u1),t1⟩) (c1:PySem.W.codeIn K r1 "check_bounds" = true) (k1:PySem.W.keepIn K (.ref f1)=true)
  (a2:PySem.W.nsIn K mainGlobals "check_state" = some (some (.ref f2))) (l2:K.lookup f2=some ⟨o2,d2,.func (PySem.W.fnOf "check_state" "check_state" (gx bY) (fS bY) (cf bY) .none v2 j2 p2 e2 r2 u2),t2⟩) (c2:PySem.W.codeIn K r2 "check_state" = true) (k2:PySem.W.keepIn K (.ref f2)=true)
  (a3:PySem.W.nsIn K mainGlobals "ways_of" = some (some (.ref f3))) (l3:K.lookup f3=some ⟨o3,d3,.func (PySem.W.fnOf "ways_of" "ways_of" (gx fu) (fS fu) (cf fu) .none v3 j3 p3 e3 r3 u3),t3⟩) (c3:PySem.W.codeIn K r3 "ways_of" = true) (k3:PySem.W.keepIn K (.ref f3)=true)
  (a4:PySem.W.nsIn K mainGlobals "exits_of" = some (some (.ref f4))) (l4:K.lookup f4=some ⟨o4,d4,.func (PySem.W.fnOf "exits_of" "exits_of" (gx cV) (fS cV) (cf cV) .none v4 j4 p4 e4 r4 u4),t4⟩) (c4:PySem.W.codeIn K r4 "exits_of" = true) (k4:PySem.W.keepIn K (.ref f4)=true)
  (a5:PySem.W.nsIn K mainGlobals "deeds_of" = some (some (.ref f5))) (l5:K.lookup f5=some ⟨o5,d5,.func (PySem.W.fnOf "deeds_of" "deeds_of" (gx cT) (fS cT) (cf cT) .none v5 j5 p5 e5 r5 u5),t5⟩) (c5:PySem.W.codeIn K r5 "deeds_of" = true) (k5:PySem.W.keepIn K (.ref f5)=true)
  (a6:PySem.W.nsIn K mainGlobals "joined" = some (some (.ref f6))) (l6:K.lookup f6=some ⟨o6,d6,.func (PySem.W.fnOf "joined" "joined" (gx fG) (fS fG) (cf fG) .none v6 j6 p6 e6 r6 u6),t6⟩) (c6:PySem.W.codeIn K r6 "joined" = true) (k6:PySem.W.keepIn K (.ref f6)=true)
  (a7:PySem.W.nsIn K mainGlobals "key_of" = some (some (.ref f7))) (l7:K.lookup f7=some ⟨o7,d7,.func (PySem.W.fnOf "key_of" "key_of" (gx fU) (fS fU) (cf fU) .none v7 j7 p7 e7 r7 u7),t7⟩) (c7:PySem.W.codeIn K r7 "key_of" = true) (k7:PySem.W.keepIn K (.ref f7)=true)
  (a8:PySem.W.nsIn K mainGlobals "ranks_behind" = some (some (.ref f8))) (l8:K.lookup f8=some ⟨o8,d8,.func (PySem.W.fnOf "ranks_behind" "ranks_behind" (gx aO) (fS aO) (cf aO) .none v8 j8 p8 e8 r8 u8),t8⟩) (c8:PySem.W.codeIn K r8 "ranks_behind" = true) (k8:PySem.W.keepIn K (.ref f8)=true)
  (a9:PySem.W.nsIn K mainGlobals "rounds_of" = some (some (.ref f9))) (l9:K.lookup f9=some ⟨o9,d9,.func (PySem.W.fnOf "rounds_of" "rounds_of" (gx dg) (fS dg) (cf dg) .none v9 j9 p9 e9 r9 u9),t9⟩) (c9:PySem.W.codeIn K r9 "rounds_of" = true) (k9:PySem.W.keepIn K (.ref f9)=true)
  (VA:PySem.W.nsIn K mainGlobals "kinds_of" = some (some (.ref f10))) (l10:K.lookup f10=some ⟨o10,d10,.func (PySem.W.fnOf "kinds_of" "kinds_of" (gx dG) (fS dG) (cf dG) .none v10 j10 p10 SN Uc u10),t10⟩) (VB:PySem.W.codeIn K Uc "kinds_of" = true) (VC:PySem.W.keepIn K (.ref f10)=true)
  (VD:PySem.W.nsIn K mainGlobals "alike" = some (some (.ref f11))) (VF:K.lookup f11=some ⟨SG,d11,.func (PySem.W.fnOf "alike" "alike" (gx jF) (fS jF) (cf jF) .none v11 j11 p11 e11 r11 u11),t11⟩) (VG:PySem.W.codeIn K r11 "alike" = true) (VH:PySem.W.keepIn K (.ref f11)=true)
  (VJ:PySem.W.nsIn K mainGlobals "check_pairs" = some (some (.ref f12))) (VL:K.lookup f12=some ⟨SJ,d12,.func (PySem.W.fnOf "check_pairs" "check_pairs" (gx b7) (fS b7) (cf b7) .none v12 j12 p12 e12 r12 u12),t12⟩) (VM:PySem.W.codeIn K r12 "check_pairs" = true) (VN:PySem.W.keepIn K (.ref f12)=true)
  (VP:PySem.W.nsIn K mainGlobals "steps_matched" = some (some (.ref f13))) (VQ:K.lookup f13=some ⟨SK,d13,.func (PySem.W.fnOf "steps_matched" "steps_matched" (gx aR) (fS aR) (cf aR) .none v13 j13 p13 e13 r13 u13),t13⟩) (VR:PySem.W.codeIn K r13 "steps_matched" = true) (VS:PySem.W.keepIn K (.ref f13)=true)
  (VW:PySem.W.nsIn K mainGlobals "all_missed" = some (some (.ref f14))) (VX:K.lookup f14=some ⟨o14,d14,.func (PySem.W.fnOf "all_missed" "all_missed" (gx cI) (fS cI) (cf cI) .none v14 j14 p14 e14 r14 u14),t14⟩) (VY:PySem.W.codeIn K r14 "all_missed" = true) (VZ:PySem.W.keepIn K (.ref f14)=true)
  (V0:PySem.W.nsIn K mainGlobals "step_missed" = some (some (.ref f15))) (V1:K.lookup f15=some ⟨o15,d15,.func (PySem.W.fnOf "step_missed" "step_missed" (gx cg) (fS cg) (cf cg) .none v15 j15 p15 e15 r15 u15),t15⟩) (V2:PySem.W.codeIn K r15 "step_missed" = true) (V3:PySem.W.keepIn K (.ref f15)=true)
  (V4:PySem.W.nsIn K mainGlobals "missed_in" = some (some (.ref f16))) (V5:K.lookup f16=some ⟨o16,d16,.func (PySem.W.fnOf "missed_in" "missed_in" (gx dh) (fS dh) (cf dh) .none v16 j16 p16 e16 r16 u16),t16⟩) (c16:PySem.W.codeIn K r16 "missed_in" = true) (V6:PySem.W.keepIn K (.ref f16)=true)
  (V7:PySem.W.nsIn K mainGlobals "misses_of" = some (some (.ref f17))) (V8:K.lookup f17=some ⟨o17,d17,.func (PySem.W.fnOf "misses_of" "misses_of" (gx cW) (fS cW) (cf cW) .none v17 j17 p17 e17 r17 u17),t17⟩) (V9:PySem.W.codeIn K r17 "misses_of" = true) (V_:PySem.W.keepIn K (.ref f17)=true)
  (Wa:PySem.W.nsIn K mainGlobals "check_both" = some (some (.ref f18))) (Wb:K.lookup f18=some ⟨o18,d18,.func (PySem.W.fnOf "check_both" "check_both" (gx cF) (fS cF) (cf cF) .none v18 j18 p18 e18 r18 u18),t18⟩) (Wc:PySem.W.codeIn K r18 "check_both" = true) (Wd:PySem.W.keepIn K (.ref f18)=true)
  (Wg:PySem.W.nsIn K mainGlobals "missed_at" = some (some (.ref f19))) (Wh:K.lookup f19=some ⟨o19,d19,.func (PySem.W.fnOf "missed_at" "missed_at" (gx cX) (fS cX) (cf cX) .none v19 j19 p19 e19 r19 u19),t19⟩) (Wi:PySem.W.codeIn K r19 "missed_at" = true) (Wj:PySem.W.keepIn K (.ref f19)=true)
  (Wk:PySem.W.nsIn K mainGlobals "can" = some (some (.ref f20))) (Wl:K.lookup f20=some ⟨o20,d20,.func (PySem.W.fnOf "can" "can" (gx xR) (fS xR) (cf xR) .none v20 j20 p20 e20 r20 u20),t20⟩) (Wm:PySem.W.codeIn K r20 "can" = true) (Wn:PySem.W.keepIn K (.ref f20)=true)
  (Wo:PySem.W.nsIn K mainGlobals "is_one_way" = some (some (.ref f21))) (Wq:K.lookup f21=some ⟨o21,d21,.func (PySem.W.fnOf "is_one_way" "is_one_way" (gx cz) (fS cz) (cf cz) .none v21 j21 p21 U_ r21 u21),t21⟩) (Wr:PySem.W.codeIn K r21 "is_one_way" = true) (Ws:PySem.W.keepIn K (.ref f21)=true)
  (Wt:PySem.W.nsIn K mainGlobals "one_way_of" = some (some (.ref f22))) (E5:K.lookup f22=some ⟨o22,d22,.func (PySem.W.fnOf "one_way_of" "one_way_of" (gx bK) (fS bK) (cf bK) .none v22 j22 p22 e22 r22 u22),t22⟩) (Wu:PySem.W.codeIn K r22 "one_way_of" = true) (Wv:PySem.W.keepIn K (.ref f22)=true)
  (Ww:PySem.W.nsIn K mainGlobals "_law_cell_at" = some (some (.ref f23))) (Wx:K.lookup f23=some ⟨o23,d23,.func (PySem.W.fnOf "_law_cell_at" "_law_cell_at" (gx bA) (fS bA) (cf bA) .none v23 j23 p23 e23 r23 u23),t23⟩) (Wy:PySem.W.codeIn K r23 "_law_cell_at" = true) (ML:PySem.W.keepIn K (.ref f23)=true)
  (Wz:PySem.W.nsIn K mainGlobals "_law_deeds" = some (some (.ref f24))) (WB:K.lookup f24=some ⟨o24,d24,.func (PySem.W.fnOf "_law_deeds" "_law_deeds" (gx cD) (fS cD) (cf cD) .none v24 j24 p24 e24 r24 u24),t24⟩) (WC:PySem.W.codeIn K r24 "_law_deeds" = true) (WD:PySem.W.keepIn K (.ref f24)=true)
  (WH:PySem.W.nsIn K mainGlobals "_law_machine" = some (some (.ref f25))) (WK:K.lookup f25=some ⟨o25,d25,.func (PySem.W.fnOf "_law_machine" "_law_machine" (gx bH) (fS bH) (cf bH) .none v25 j25 p25 e25 r25 u25),t25⟩) (WL:PySem.W.codeIn K r25 "_law_machine" = true) (WM:PySem.W.keepIn K (.ref f25)=true)
  (WN:PySem.W.nsIn K mainGlobals "_law_other" = some (some (.ref f26))) (WQ:K.lookup f26=some ⟨o26,d26,.func (PySem.W.fnOf "_law_other" "_law_other" (gx bQ) (fS bQ) (cf bQ) .none v26 j26 p26 e26 r26 u26),t26⟩) (WR:PySem.W.codeIn K r26 "_law_other" = true) (WU:PySem.W.keepIn K (.ref f26)=true)
  (WV:PySem.W.nsIn K mainGlobals "_law_chained" = some (some (.ref f27))) (WW:K.lookup f27=some ⟨o27,d27,.func (PySem.W.fnOf "_law_chained" "_law_chained" (gx bC) (fS bC) (cf bC) .none v27 j27 p27 e27 r27 u27),t27⟩) (WX:PySem.W.codeIn K r27 "_law_chained" = true) (WY:PySem.W.keepIn K (.ref f27)=true)
  (WZ:PySem.W.nsIn K mainGlobals "_law_triple" = some (some (.ref f28))) (W0:K.lookup f28=some ⟨o28,d28,.func (PySem.W.fnOf "_law_triple" "_law_triple" (gx b8) (fS b8) (cf b8) .none v28 j28 p28 e28 r28 u28),t28⟩) (W3:PySem.W.codeIn K r28 "_law_triple" = true) (W4:PySem.W.keepIn K (.ref f28)=true)
  (W5:PySem.W.nsIn K mainGlobals "law" = some (some (.ref f29))) (W6:K.lookup f29=some ⟨o29,d29,.func (PySem.W.fnOf "law" "law" (gx pW) (fS pW) (cf pW) .none v29 j29 p29 e29 r29 u29),t29⟩) (W7:PySem.W.codeIn K r29 "law" = true) (W8:PySem.W.keepIn K (.ref f29)=true)
  (P6:PySem.W.nsIn K mainGlobals "all" = some none)
  (P7:PySem.W.nsIn K mainGlobals "any" = some none)
  (P8:PySem.W.nsIn K mainGlobals "isinstance" = some none)
  (tN:PySem.W.nsIn K mainGlobals "len" = some none)
  (FV:PySem.W.nsIn K mainGlobals "list" = some none)
  (y3:PySem.W.nsIn K mainGlobals "range" = some none)
  (KG:PySem.W.nsIn K mainGlobals "set" = some none)
  (BO:PySem.W.nsIn K mainGlobals "sorted" = some none)
  (P9:PySem.W.nsIn K mainGlobals "str" = some none)
  {iL':Tok} (Qb:PySem.W.nsIn K mainGlobals "LETTERS" = some (some (.str "abcdefghijklmnopqrstuvwxyz" iL')))
  {iM':Tok} (Qj:PySem.W.nsIn K mainGlobals "MOST_LETTERS" = some (some (.int 6 iM')))
  {iN':Tok} (Qk:PySem.W.nsIn K mainGlobals "MOST_STATES" = some (some (.int 20 iN')))
  {iO':Tok} (Ql:PySem.W.nsIn K mainGlobals "MOST_STEPS" = some (some (.int 80 iO')))
  {iP':Tok} (Qm:PySem.W.nsIn K mainGlobals "MOST_OPEN_DEEDS" = some (some (.int 6 iP')))
  : ∃ fd:FuncData,(∀ (s:Shared) (v:Value),BindsTo s fd ⟨[v],[]⟩ [("_law_script",v)])/\∀ base:Heap,K.In base->base.Ns mainGlobals mg->fz l.prog w K mg base fF 8 fa fd ["_law_script"] (ao K Kx):=by
 have e:=hfa.symm.trans (PySem.W.mg_of X G W5)
 cases e
 have T:Txt K mg:=⟨PySem.W.mg_none_of X G P6,PySem.W.mg_none_of X G P7,PySem.W.mg_none_of X G P8,PySem.W.mg_none_of X G tN,PySem.W.mg_none_of X G FV,PySem.W.mg_none_of X G y3,PySem.W.mg_none_of X G KG,PySem.W.mg_none_of X G BO,PySem.W.mg_none_of X G P9,⟨_,PySem.W.mg_of X G Qb⟩,⟨_,PySem.W.mg_of X G Qj⟩,⟨_,PySem.W.mg_of X G Qk⟩,⟨_,PySem.W.mg_of X G Ql⟩,⟨_,PySem.W.mg_of X G Qm⟩⟩
 have F0:=iE (st:=dI) l0 c0 k0
 have F1:=iE (st:=aY) l1 c1 k1
 have F2:=iE (st:=bY) l2 c2 k2
 have F3:=iE (st:=fu) l3 c3 k3
 have F4:=iE (st:=cV) l4 c4 k4
 have F5:=iE (st:=cT) l5 c5 k5
 have F6:=iE (st:=fG) l6 c6 k6
 have F7:=iE (st:=fU) l7 c7 k7
 have F8:=iE (st:=aO) l8 c8 k8
 have F9:=iE (st:=dg) l9 c9 k9
 have F10:=iE (st:=dG) l10 VB VC
 have F11:=iE (st:=jF) VF VG VH
 have F12:=iE (st:=b7) VL VM VN
 have F13:=iE (st:=aR) VQ VR VS
 have F14:=iE (st:=cI) VX VY VZ
 have F15:=iE (st:=cg) V1 V2 V3
 have F16:=iE (st:=dh) V5 c16 V6
 have F17:=iE (st:=cW) V8 V9 V_
 have F18:=iE (st:=cF) Wb Wc Wd
 have F19:=iE (st:=cX) Wh Wi Wj
 have F20:=iE (st:=xR) Wl Wm Wn
 have F21:=iE (st:=cz) Wq Wr Ws
 have F22:=iE (st:=bK) E5 Wu Wv
 have F23:=iE (st:=bA) Wx Wy ML
 have F24:=iE (st:=cD) WB WC WD
 have F25:=iE (st:=bH) WK WL WM
 have F26:=iE (st:=bQ) WQ WR WU
 have F27:=iE (st:=bC) WW WX WY
 have F28:=iE (st:=b8) W0 W3 W4
 have F29:=iE (st:=pW) W6 W7 W8
 refine⟨PySem.W.fnOf "law" "law" (gx pW) (fS pW) (cf pW) .none v29 j29 p29 e29 r29 u29,fun s v=>.of_eq rfl,fun base _ _=>?_⟩
 have C0:cy l.prog w K mg base 1 "is_open" ["thing"] (ao K dH):=F0.i5 (PySem.W.mg_of X G a0) (xM F0 T ) fun _ _ _ _ _ _ us hl=>by obtain⟨_,rfl⟩:=BQ hl;rfl
 have C2:cy l.prog w K mg base 1 "check_state" ["m", "state"] (ao K aD):=F2.i5 (PySem.W.mg_of X G a2) (oO F2 T ) fun _ _ _ _ _ _ us hl=>by obtain⟨_,_,rfl⟩:=DZ hl;rfl
 have C3:cy l.prog w K mg base 1 "ways_of" ["m"] (ao K cB):=F3.i5 (PySem.W.mg_of X G a3) (xj F3 T ) fun _ _ _ _ _ _ us hl=>by obtain⟨_,rfl⟩:=BQ hl;rfl
 have C4:cy l.prog w K mg base 1 "exits_of" ["m"] (ao K aX):=F4.i5 (PySem.W.mg_of X G a4) (vh F4 T ) fun _ _ _ _ _ _ us hl=>by obtain⟨_,rfl⟩:=BQ hl;rfl
 have C5:cy l.prog w K mg base 1 "deeds_of" ["m"] (ao K cU):=F5.i5 (PySem.W.mg_of X G a5) (vC F5 T ) fun _ _ _ _ _ _ us hl=>by obtain⟨_,rfl⟩:=BQ hl;rfl
 have C7:cy l.prog w K mg base 1 "key_of" ["exits", "ranks", "state"] (ao K e_):=F7.i5 (PySem.W.mg_of X G a7) (yX F7 T ) fun _ _ _ _ _ _ us hl=>by obtain⟨_,_,_,rfl⟩:=BU hl;rfl
 have C14:cy l.prog w K mg base 1 "all_missed" ["missed", "end", "others"] (ao K bW):=F14.i5 (PySem.W.mg_of X G VW) (qY F14 T ) fun _ _ _ _ _ _ us hl=>by obtain⟨_,_,_,rfl⟩:=BU hl;rfl
 have C23:cy l.prog w K mg base 1 "_law_cell_at" ["_law_script", "_law_k"] (ao K aL):=F23.i5 (PySem.W.mg_of X G Ww) (m9 F23 T ) fun _ _ _ _ _ _ us hl=>by obtain⟨_,_,rfl⟩:=DZ hl;rfl
 have C24:cy l.prog w K mg base 1 "_law_deeds" ["_law_cell"] (ao K bU):=F24.i5 (PySem.W.mg_of X G Wz) (qu F24 T ) fun _ _ _ _ _ _ us hl=>by obtain⟨_,rfl⟩:=BQ hl;rfl
 have C25:cy l.prog w K mg base 1 "_law_machine" ["_law_script", "_law_many", "_law_deeds_here"] (ao K a_):=F25.i5 (PySem.W.mg_of X G WH) (lG F25 T ) fun _ _ _ _ _ _ us hl=>by obtain⟨_,_,_,rfl⟩:=BU hl;rfl
 have C26:cy l.prog w K mg base 1 "_law_other" ["_law_m", "_law_deeds_here", "_law_cell"] (ao K b_):=F26.i5 (PySem.W.mg_of X G WN) (qL F26 T ) fun _ _ _ _ _ _ us hl=>by obtain⟨_,_,_,rfl⟩:=BU hl;rfl
 have C27:cy l.prog w K mg base 1 "_law_chained" ["_law_one", "_law_other_here"] (ao K bj):=F27.i5 (PySem.W.mg_of X G WV) (mV F27 T ) fun _ _ _ _ _ _ us hl=>by obtain⟨_,_,rfl⟩:=DZ hl;rfl
 have C1:cy l.prog w K mg base 2 "check_bounds" ["m"] (ao K bh):=F1.i5 (PySem.W.mg_of X G a1) (mZ F1 T C5 C0) fun _ _ _ _ _ _ us hl=>by obtain⟨_,rfl⟩:=BQ hl;rfl
 have C8:cy l.prog w K mg base 2 "ranks_behind" ["exits", "ranks"] (ao K aU):=F8.i5 (PySem.W.mg_of X G a8) (m8 F8 T C7) fun _ _ _ _ _ _ us hl=>by obtain⟨_,_,rfl⟩:=DZ hl;rfl
 have C12:cy l.prog w K mg base 2 "check_pairs" ["m", "pairs"] (ao K bD):=F12.i5 (PySem.W.mg_of X G VJ) (nO F12 T C2) fun _ _ _ _ _ _ us hl=>by obtain⟨_,_,rfl⟩:=DZ hl;rfl
 have C13:cy l.prog w K mg base 2 "steps_matched" ["m", "pairs"] (ao K aV):=F13.i5 (PySem.W.mg_of X G VP) (kI F13 T C4 C3) fun _ _ _ _ _ _ us hl=>by obtain⟨_,_,rfl⟩:=DZ hl;rfl
 have C15:cy l.prog w K mg base 2 "step_missed" ["exits", "ways", "missed", "p", "q"] (ao K bB):=F15.i5 (PySem.W.mg_of X G V0) (ou F15 T C14) fun _ _ _ _ _ _ us hl=>by obtain⟨_,_,_,_,_,rfl⟩:=us5 hl;rfl
 have C18:cy l.prog w K mg base 2 "check_both" ["m", "p", "q"] (ao K aW):=F18.i5 (PySem.W.mg_of X G Wa) (qt F18 T C2) fun _ _ _ _ _ _ us hl=>by obtain⟨_,_,_,rfl⟩:=BU hl;rfl
 have C6:cy l.prog w K mg base 3 "joined" ["one", "other"] (ao K eY):=F6.i5 (PySem.W.mg_of X G a6) (z_ F6 T C1) fun _ _ _ _ _ _ us hl=>by obtain⟨_,_,rfl⟩:=DZ hl;rfl
 have C9:cy l.prog w K mg base 3 "rounds_of" ["m"] (ao K cJ):=F9.i5 (PySem.W.mg_of X G a9) (uq F9 T C4 C8) fun _ _ _ _ _ _ us hl=>by obtain⟨_,rfl⟩:=BQ hl;rfl
 have C16:cy l.prog w K mg base 3 "missed_in" ["exits", "ways", "missed", "turn"] (ao K bR):=F16.i5 (PySem.W.mg_of X G V4) (sE F16 T C15) fun _ _ _ _ _ _ us hl=>by obtain⟨_,_,_,_,rfl⟩:=Z_ hl;rfl
 have C21:cy l.prog w K mg base 3 "is_one_way" ["m", "pairs"] (ao K bz):=F21.i5 (PySem.W.mg_of X G Wo) (qU F21 T C12 C13) fun _ _ _ _ _ _ us hl=>by obtain⟨_,_,rfl⟩:=DZ hl;rfl
 have C10:cy l.prog w K mg base 4 "kinds_of" ["m"] (ao K cY):=F10.i5 (PySem.W.mg_of X G VA) (uW F10 T C9) fun _ _ _ _ _ _ us hl=>by obtain⟨_,rfl⟩:=BQ hl;rfl
 have C17:cy l.prog w K mg base 4 "misses_of" ["m"] (ao K bw):=F17.i5 (PySem.W.mg_of X G V7) (ur F17 T C4 C3 C16) fun _ _ _ _ _ _ us hl=>by obtain⟨_,rfl⟩:=BQ hl;rfl
 have C11:cy l.prog w K mg base 5 "alike" ["m", "p", "q"] (ao K dF):=F11.i5 (PySem.W.mg_of X G VD) (Dl F11 T C2 C10) fun _ _ _ _ _ _ us hl=>by obtain⟨_,_,_,rfl⟩:=BU hl;rfl
 have C19:cy l.prog w K mg base 5 "missed_at" ["m", "p", "q"] (ao K cH):=F19.i5 (PySem.W.mg_of X G Wg) (sG F19 T C18 C17) fun _ _ _ _ _ _ us hl=>by obtain⟨_,_,_,rfl⟩:=BU hl;rfl
 have C22:cy l.prog w K mg base 5 "one_way_of" ["m", "p", "q"] (ao K bx):=F22.i5 (PySem.W.mg_of X G Wt) (qT F22 T C18 C17) fun _ _ _ _ _ _ us hl=>by obtain⟨_,_,_,rfl⟩:=BU hl;rfl
 have C20:cy l.prog w K mg base 6 "can" ["m", "p", "q"] (ao K fY):=F20.i5 (PySem.W.mg_of X G Wk) (JZ F20 T C19) fun _ _ _ _ _ _ us hl=>by obtain⟨_,_,_,rfl⟩:=BU hl;rfl
 have C28:cy l.prog w K mg base 7 "_law_triple" ["_law_whole", "_law_p", "_law_q", "_law_r"] (ao K bJ):=F28.i5 (PySem.W.mg_of X G WZ) (n6 F28 T C22 C11 C20 C21 C27) fun _ _ _ _ _ _ us hl=>by obtain⟨_,_,_,_,rfl⟩:=Z_ hl;rfl
 exact ic' F29 T C23 C24 C25 C26 C6 C20 C11 C28
theorem walk{l:PySem.W.OpenLaw}{q:Program}{loose:List Str}{XP:(Str->Option Value)->Heap->Prop}{YP:World->Heap->Prop}{d:DefRec}{K:Params->PySem.W.Frag}(hn:l.most=some 63)(MD:d.params.defaults=[])
  (hY:∀ (w:World) (h:Heap),YP w h->(K w.params).In h)
  (F:∀ (w:World) (mg:Str->Option Value) (fa:Addr) (h:Heap),(K w.params).In h->h.Ns mainGlobals mg->mg d.name=some (.ref fa) ->
   ∃ fd:FuncData,(∀ (s:Shared) (u:Value),BindsTo s fd ⟨[u],[]⟩ [("_law_script",u)])/\∀ base:Heap,(K w.params).In base->base.Ns mainGlobals mg->fz l.prog w (K w.params) mg base fF 8 fa fd ["_law_script"] (ao (K w.params) Kx)) :
  PySem.W.WalkO q loose XP YP l.row.toRowW d [] (fun f vs=>PySem.call f vs) :=
 L2.ek' (n:=63) (k:=8) (x := "_law_script") (CX:=fun _=>fF) (sp:=fun w=>ao (K w.params) Kx) hn (by decide) MD ⟨rfl,by decide,by decide⟩ hY F (fun w H a ns hl hO hS=>Bv hl hS) fun _ _ _ _ _ z=>z
end L2.Q.Vn
open PySem PySem.W PyProof.Rows
namespace PySem.W.Fast
def tw2806954304408135829:=0
def tw6973852578971607961:=0
def tw13768213479356599123:=0
def tw16629285576661385200:=0
def tw13156086100000346951:=0
def tw17118611946413073102:=0
def tw13477620704398295929:=0
def tw17964984860562059313:=0
def tw9067429714410820475:=0
def tw2222346708432835678:=0
def tw2123997952432637012:=0
def tw3251962974238801450:=0
def tw5464815216015609774:=0
def tw2579770203874131783:=0
def tw9332620129073817339:=0
def tw1599389646548911183:=0
def tw11320730151057341701:=0
def tw1655905377204206894:=0
def tw3608031709174168337:=0
def tw4812714530554451965:=0
end PySem.W.Fast
set_option maxRecDepth 100000 in
set_option maxHeartbeats 0 in
theorem PySem.Challenge.cw_kinlook_k57_whole_can_is_an_order_holds : PySem.Challenge.rw_kinlook_k57_whole_can_is_an_order.Holds := by
 w_on;o_law;k_head;(case hw=>w_witness2)
 k_fill
 refine L2.Q.Vn.walk (l:=PySem.Challenge.rw_kinlook_k57_whole_can_is_an_order) rfl rfl (fun w h Y=>PySem.W.kIn_of Y) ?F
 case F =>
  intro w mg fa h KX G MG
  refine' L2.Q.Vn.all_mk KX G MG ?a0 ?l0 ?c0 ?k0 ?a1 ?l1 ?c1 ?k1 ?a2 ?l2 ?c2 ?k2 ?a3 ?l3 ?c3 ?k3 ?a4 ?l4 ?c4 ?k4 ?a5 ?l5 ?c5 ?k5 ?a6 ?l6 ?c6 ?k6 ?a7 ?l7 ?c7 ?k7 ?a8 ?l8 ?c8 ?k8 ?a9 ?l9 ?c9 ?k9 ?VA ?l10 ?VB ?VC ?VD ?VF ?VG ?VH ?VJ ?VL ?VM ?VN ?VP ?VQ ?VR ?VS ?VW ?VX ?VY ?VZ ?V0 ?V1 ?V2 ?V3 ?V4 ?V5 ?c16 ?V6 ?V7 ?V8 ?V9 ?V_ ?Wa ?Wb ?Wc ?Wd ?Wg ?Wh ?Wi ?Wj ?Wk ?Wl ?Wm ?Wn ?Wo ?Wq ?Wr ?Ws ?Wt ?E5 ?Wu ?Wv ?Ww ?Wx ?Wy ?ML ?Wz ?WB ?WC ?WD ?WH ?WK ?WL ?WM ?WN ?WQ ?WR ?WU ?WV ?WW ?WX ?WY ?WZ ?W0 ?W3 ?W4 ?W5 ?W6 ?W7 ?W8 ?P6 ?P7 ?P8 ?tN ?FV ?y3 ?KG ?BO ?P9 ?Qb ?Qj ?Qk ?Ql ?Qm
  (case a0=>k_is)
  (case l0=>k_is)
  (case c0=>k_is)
  (case k0=>k_is)
  (case a1=>k_is)
  (case l1=>k_is)
  (case c1=>k_is)
  (case k1=>k_is)
  (case a2=>k_is)
  (case l2=>k_is)
  (case c2=>k_is)
  (case k2=>k_is)
  (case a3=>k_is)
  (case l3=>k_is)
  (case c3=>k_is)
  (case k3=>k_is)
  (case a4=>k_is)
  (case l4=>k_is)
  (case c4=>k_is)
  (case k4=>k_is)
  (case a5=>k_is)
  (case l5=>k_is)
  (case c5=>k_is)
  (case k5=>k_is)
  (case a6=>k_is)
  (case l6=>k_is)
  (case c6=>k_is)
  (case k6=>k_is)
  (case a7=>k_is)
  (case l7=>k_is)
  (case c7=>k_is)
  (case k7=>k_is)
  (case a8=>k_is)
  (case l8=>k_is)
  (case c8=>k_is)
  (case k8=>k_is)
  (case a9=>k_is)
  (case l9=>k_is)
  (case c9=>k_is)
  (case k9=>k_is)
  (case VA=>k_is)
  (case l10=>k_is)
  (case VB=>k_is)
  (case VC=>k_is)
  (case VD=>k_is)
  (case VF=>k_is)
  (case VG=>k_is)
  (case VH=>k_is)
  (case VJ=>k_is)
  (case VL=>k_is)
  (case VM=>k_is)
  (case VN=>k_is)
  (case VP=>k_is)
  (case VQ=>k_is)
  (case VR=>k_is)
  (case VS=>k_is)
  (case VW=>k_is)
  (case VX=>k_is)
  (case VY=>k_is)
  (case VZ=>k_is)
  (case V0=>k_is)
  (case V1=>k_is)
  (case V2=>k_is)
  (case V3=>k_is)
  (case V4=>k_is)
  (case V5=>k_is)
  (case c16=>k_is)
  (case V6=>k_is)
  (case V7=>k_is)
  (case V8=>k_is)
  (case V9=>k_is)
  (case V_=>k_is)
  (case Wa=>k_is)
  (case Wb=>k_is)
  (case Wc=>k_is)
  (case Wd=>k_is)
  (case Wg=>k_is)
  (case Wh=>k_is)
  (case Wi=>k_is)
  (case Wj=>k_is)
  (case Wk=>k_is)
  (case Wl=>k_is)
  (case Wm=>k_is)
  (case Wn=>k_is)
  (case Wo=>k_is)
  (case Wq=>k_is)
  (case Wr=>k_is)
  (case Ws=>k_is)
  (case Wt=>k_is)
  (case E5=>k_is)
  (case Wu=>k_is)
  (case Wv=>k_is)
  (case Ww=>k_is)
  (case Wx=>k_is)
  (case Wy=>k_is)
  (case ML=>k_is)
  (case Wz=>k_is)
  (case WB=>k_is)
  (case WC=>k_is)
  (case WD=>k_is)
  (case WH=>k_is)
  (case WK=>k_is)
  (case WL=>k_is)
  (case WM=>k_is)
  (case WN=>k_is)
  (case WQ=>k_is)
  (case WR=>k_is)
  (case WU=>k_is)
  (case WV=>k_is)
  (case WW=>k_is)
  (case WX=>k_is)
  (case WY=>k_is)
  (case WZ=>k_is)
  (case W0=>k_is)
  (case W3=>k_is)
  (case W4=>k_is)
  (case W5=>k_is)
  (case W6=>k_is)
  (case W7=>k_is)
  (case W8=>k_is)
  (case P6=>k_is)
  (case P7=>k_is)
  (case P8=>k_is)
  (case tN=>k_is)
  (case FV=>k_is)
  (case y3=>k_is)
  (case KG=>k_is)
  (case BO=>k_is)
  (case P9=>k_is)
  (case Qb=>k_is)
  (case Qj=>k_is)
  (case Qk=>k_is)
  (case Ql=>k_is)
  (case Qm=>k_is)
