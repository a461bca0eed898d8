import PyProof.Rows.All
import Wide.All
import OpenK.AllK
import Wide.FinOn
import Lean
import PyProof.EqAt
import PyProof.EqKinds
import PyProof.TupleCall
import PyProof.CompUse
import PyProof.NeData
import PyProof.WalksEnum
import PyProof.EnumMake
import PyProof.ZipIter
import PyProof.Rows.EnumRows
import PyProof.Rows.FactsT2
import KE.KDictList
import PyProof.Rows.SortRuns
import PyProof.Rows.SortWalk
import KE.KSortTup
import PyProof.Rows.SortStr
import PyProof.ListRange
import PyProof.StrOps2
import PyProof.StrBlock2
import PyProof.AutoIntG3
import PyProof.ListMulRight
import PyProof.Rows.ListMulArg
import PyProof.Rows.CallKwBuiltin
import PyProof.Rows.StrMul
import KE.KMinBuiltin
import PyProof.TupleKey
import PyProof.SetKind
import PyProof.Rows.SetFrom
import PyProof.DictWalks
import KE.KRevIter
import PyProof.AutoSeq1
import PyProof.P3Eq
import PyProof.MeetsSeq3
import PyProof.FactsAll.list_2
import PyProof.FactsAll.tuple_2
import PyProof.Rows.RowHeap
import PyProof.FactsAll.list_3
import PySem.Challenge.RW_kinlook_k36_whole_tables_are_kinds
open PySem renaming wpAny_bind->ai,wpAny_pure->aS,wpAny_mono->sP
open List renaming mem_cons_of_mem->b9,mem_cons_self->b6,length_map->b4,mem_append_right->eT,mem_append->dP,mem_map->cK,getElem?_eq_some_iff->iL,mem_cons->dv,getElem?_eq_getElem->kS,size_toArray->hG,mem_append_left->kF,map_cons->fN,nodup_append->iN,map_map->fR,sublist_append_right->pz,nodup_cons->js,mem_singleton->kU,mem_of_getElem?->nL,getElem?_map->kX,length_append->ng,length_take->lh,drop_eq_getElem_cons->wd,getElem?_eq_none->ua,pairwise_map->pE,length_cons->oz,getElem?_append_right->yA,mem_range->oi,append_nil->pS,mem_filter->sQ,map_append->sR,take_length->ub,pairwise_iff_getElem->BO,zip_cons_cons->xl,nodup_nil->sT,replicate_succ->yB,append_assoc->xo,getElem?_append_left->DV,flatten_cons->AG,ext_getElem?->AH,any_eq_true->AI,mem_of_mem_take->DZ,eraseIdx_cons_succ->FH,getD_eq_getElem?_getD->Lc,length_drop->BQ,sublist_append_left->Lv,pairwise_append->FI,mem_of_mem_drop->FK,take_add_one->D1,nil_append->BU,all_cons->AJ,any_cons->AK,map_congr_left->FL,map_fst_zip->D2,append_eq_nil_iff->LB,getElem_mem->D3,nodup_iff_pairwise_ne->O8,mem_iff_getElem?->LD,getElem?_set_ne->LG,filterMap_cons->LH,all_eq_true->FP,nil_sublist->FR,length_eq_zero_iff->O9,find?_cons->FT,take_of_length_le->O_,take_append_drop->Pa,length_eraseIdx->Pb,not_mem_nil->LJ,extract_eq_drop_take->Rp,filter_eq_self->Pg,length_zip->LM,getElem?_cons_zero->Rq,length_range->Ph,getElem?_set_self->Rr,drop_of_length_le->Rt,cons_append->Pj,perm_append_comm->Ru,countP_cons->Pk,drop_length->Pl,cons_ne_nil->Pm,length_filter_le->Rv,mem_iff_getElem->Rw,mem_filterMap->Rx,filterMap_map->Ry,lookup_cons->Rz,all_map->Pn
open PySem.Heap renaming get?_push_of_some->eW,lt_size->dQ,get?_push_size->jv,get?_update_self->D4,get?_update_other->LN,get?_push_ne->FU,size_update->FV
open Nat renaming le_refl->bX,zero_le->eK,ne_of_lt->fo,lt_of_lt_of_le->nS,le_trans->iO,le_of_lt->ll,lt_succ_of_lt->ui,lt_irrefl->ti,zero_add->tj,pow_succ->yT,le_of_not_lt->LP,not_lt_zero->D5,lt_succ_of_le->FX,le_of_eq->B1,add_sub_of_le->LS,mul_assoc->FY,one_pos->D6,lt_of_le_of_lt->Vu,add_zero->GA,lt_or_ge->GB,lt_of_succ_lt->RA,le_of_lt_succ->Pp,sub_lt->D7,le_add_right->RC,ne_of_gt->LV,min_self->LW,mod_lt->GH,lt_trans->RD,add_comm->Pq,mul_comm->Pt,succ_pos->Pu
open Bool renaming false_ne_true->gy,false_eq_true->gE,and_eq_true->mw,eq_iff_iff->xt,not_true->Pw,and_true->Px
open Array renaming getElem?_toList->ly,toList_push->oj,getElem?_eq_getElem->xv,getD_eq_getD_getElem?->B3,length_toList->xA,getElem?_eq_none->B4,getElem?_eq_some_iff->GL,size_extract->D8,eq_empty_of_size_eq_zero->Py,getElem?_extract->Pz,toArray_toList->PB,perm_iff_toList_perm->RG,append_assoc->PC,toList_inj->PD,toList_extract->RH,append_empty->RJ
open Int renaming toNat_of_nonneg->xB,le_trans->wm,le_refl->wo,le_of_lt->AO,toNat_natCast->GN,mul_nonneg->PF,emod_lt_of_pos->RK
open Option renaming map_eq_some_iff->LX,map_some->PH,isSome_map->RL
local macro_rules | `(command| def $i:declId $s:optDeclSig $v:declVal)=>`(command| noncomputable def $i:declId $s:optDeclSig $v:declVal)
local macro_rules | `(command| abbrev $i:declId $s:optDeclSig $v:declVal)=>`(command| noncomputable abbrev $i:declId $s:optDeclSig $v:declVal)
set_option compiler.extract_closed false
local macro_rules | `(tactic| walk_at "l") => `(tactic| first | lia | omega)
local macro_rules | `(tactic| walk_at "s1") => `(tactic| solve_by_elim (maxDepth := 4) [Nat.lt_of_lt_of_le, Nat.lt_of_le_of_lt, Nat.le_trans, Nat.lt_trans, Nat.le_of_lt, Nat.le_of_not_lt])
local macro_rules | `(tactic| walk_at "s2") => `(tactic| solve_by_elim (maxDepth := 5) [Nat.lt_of_lt_of_le, Nat.lt_of_le_of_lt, Nat.le_trans, Nat.le_of_lt, Nat.le_of_not_lt, Nat.lt_of_not_le, Nat.lt_of_succ_lt, Nat.le_of_succ_le])
local macro_rules | `(tactic| walk_at "s3") => `(tactic| solve_by_elim (maxDepth := 5) [Int.lt_of_lt_of_le, Int.lt_of_le_of_lt, Int.le_trans, Int.le_of_lt, Int.not_lt.mp, Int.not_le.mp])
local macro_rules | `(tactic| walk_at "s4") => `(tactic| solve_by_elim (maxDepth := 5) [Nat.le_trans, Nat.lt_of_lt_of_le, Nat.le_of_lt, Nat.le_add_right, Nat.le_add_left, Nat.add_le_add_left, Nat.add_lt_add_left, Nat.succ_le_succ, Nat.sub_le])
theorem L2.gu{α β:Type _}{A B C:α->β->Prop}{G:Prop}(x:∃ a b,A a b/\B a b/\C a b)(k:∀ a b,A a b->B a b->C a b->G):G :=
 let ⟨a,b,p,q,r⟩:=x
 k a b p q r
set_option Elab.async false
set_option linter.all false
set_option maxRecDepth 100000
namespace L2
open PySem PySem.Spec PyProof.Rows
abbrev Key:=Sum Int Str
def GO:Key->Value->Bool
 |.inl k,v=>Value.isInt k v
 |.inr x,v=>Value.isStrOf x v
def Zz(w:World):Key->Int
 |.inl k=>hashInt k
 |.inr x=>hashStr w x
theorem xC:∀ {k:Key} {v:Value},GO k v=true->(∃ i t,k=Sum.inl i/\v=Value.int i t)\/(∃ x t,k=Sum.inr x/\v=Value.str x t)
 |.inl i,v,h=>by
  obtain⟨t,e⟩:=Value.isInt_shape (k:=i) (v:=v) h
  exact .inl ⟨i,t,rfl,e⟩
 |.inr x,v,h=>by
  obtain⟨t,e⟩:=Value.isStrOf_shape (x:=x) (v:=v) h
  exact .inr ⟨x,t,rfl,e⟩
theorem ZC(i:Int)(t:Tok):GO (.inl i) (.int i t)=true:=by simp[GO,Value.isInt]
theorem ZD(x:Str)(t:Tok):GO (.inr x) (.str x t)=true:=by simp[GO,Value.isStrOf]
theorem Vv(a b:Int):decide ((Sum.inl a:Key)=Sum.inl b)=(a == b):=by
 by_cases e:a=b
 ·subst e;simp
 ·have h:¬ (Sum.inl a:Key)=Sum.inl b:=fun q=>e (Sum.inl.inj q)
  rw[decide_eq_false h]
  exact(beq_eq_false_iff_ne.mpr e).symm
theorem Vw(a b:Str):decide ((Sum.inr a:Key)=Sum.inr b)=decide (a=b):=by
 by_cases e:a=b
 ·subst e;simp
 ·have h:¬ (Sum.inr a:Key)=Sum.inr b:=fun q=>e (Sum.inr.inj q)
  rw[decide_eq_false h,decide_eq_false e]
theorem ZE(a:Int)(b:Str):decide ((Sum.inl a:Key)=Sum.inr b)=false:=decide_eq_false (fun q=>nomatch q)
theorem ZF(a:Str)(b:Int):decide ((Sum.inr a:Key)=Sum.inl b)=false:=decide_eq_false (fun q=>nomatch q)
def kG(prog:Program)(w:World):PySem.KeyKind prog w Key where
 is:=GO
 hash:=Zz w
 inj:=fun v a b ha hb=>by
  rcases xC ha with⟨i,t,rfl,rfl⟩|⟨x,t,rfl,rfl⟩
  ·rcases xC hb with⟨j,u,rfl,e⟩|⟨y,u,rfl,e⟩
   ·injection e with e1 _;rw[e1]
   ·exact nomatch e
  ·rcases xC hb with⟨j,u,rfl,e⟩|⟨y,u,rfl,e⟩
   ·exact nomatch e
   ·injection e with e1 _;rw[e1]
 byValue:=fun k v h=>by
  rcases xC h with⟨i,t,rfl,rfl⟩|⟨x,t,rfl,rfl⟩<;>rfl
 pyHash:=fun hv h=>by
  rcases xC hv with⟨i,t,rfl,rfl⟩|⟨x,t,rfl,rfl⟩
  ·exact wpAny_pyHash_int h
  ·exact wpAny_pyHash_str h
 eqBool:=fun hu hv h=>by
  rcases xC hu with⟨i,t,rfl,rfl⟩|⟨x,t,rfl,rfl⟩
  ·rcases xC hv with⟨j,u,rfl,rfl⟩|⟨y,u,rfl,rfl⟩
   ·rw[Vv] at h;exact wpAny_eqBool_int h
   ·rw[ZE] at h;exact SeqAt.EqAt.int_str i t y u _ _ _ _ h
  ·rcases xC hv with⟨j,u,rfl,rfl⟩|⟨y,u,rfl,rfl⟩
   ·rw[ZF] at h;exact SeqAt.EqAt.str_int x t j u _ _ _ _ h
   ·rw[Vw] at h;exact wpAny_eqBool_str h
 «strs» := fun k x t v h=>by
  rcases xC h with⟨i,u,rfl,e⟩|⟨y,u,rfl,e⟩
  ·exact nomatch e
  ·injection e with e1 _
   subst e1
   cases v<;>rfl
theorem ZG(prog:Program)(w:World)(i:Int)(t:Tok):(kG prog w).is (.inl i) (.int i t)=true:=ZC i t
theorem ZH(prog:Program)(w:World)(x:Str)(t:Tok):(kG prog w).is (.inr x) (.str x t)=true:=ZD x t
inductive V where
 |non|bl (b:Bool)|int (i:Int)|str (x:Str)|rj (b:Array UInt8)|AQ (b:UInt64)|ref (a:Addr)|ty (n:String)
 deriving DecidableEq
def RelV:V->Value->Prop
 |.non,u=>u=Value.none
 |.bl b,u=>u=Value.bool b
 |.int i,u=>∃ t,u=Value.int i t
 |.str x,u=>∃ t,u=Value.str x t
 |.rj b,u=>∃ t,u=Value.bytes b t
 |.AQ b,u=>∃ t,u=Value.float b t
 |.ref a,u=>u=Value.ref a
 |.ty n,u=>u=Value.type n
abbrev Vals:List V->List Value->Prop:=Paired RelV
theorem Vals.length(r:Vals xs us):xs.length=us.length:=Paired.length r
theorem Vals.get:∀ {xs:List V} {us:List Value} {i:Nat} {x:V},Vals xs us->xs[i]? = some x->∃ u,us[i]? = some u/\RelV x u
 |_,_,_,_,.nil,e=>by simp at e
 |_,_,0,_,.cons r _,e=>by simp at e;subst e;exact⟨_,rfl,r⟩
 |_,_,i+1,x,.cons _ t,e=>by
  obtain⟨u,h1,h2⟩:=Vals.get (i:=i) (x:=x) t (by simpa using e)
  exact⟨u,by simpa using h1,h2⟩
theorem Vals.append:∀ {xs ys:List V} {us ws:List Value},Vals xs us->Vals ys ws->Vals (xs++ys) (us++ws)
 |_,_,_,_,.nil,s=>s
 |_,_,_,_,.cons r t,s=>.cons r (Vals.append t s)
theorem Vals.take:∀ {xs:List V} {us:List Value} (n:Nat),Vals xs us->Vals (xs.take n) (us.take n)
 |_,_,0,_=>.nil
 |_,_,_+1,.nil=>.nil
 |_,_,n+1,.cons r t=>.cons r (Vals.take n t)
theorem Vals.drop:∀ {xs:List V} {us:List Value} (n:Nat),Vals xs us->Vals (xs.drop n) (us.drop n)
 |_,_,0,r=>r
 |_,_,_+1,.nil=>.nil
 |_,_,n+1,.cons _ t=>Vals.drop n t
def uj:Option V->Option Value->Prop
 |some v,some u=>RelV v u
 |none,none=>True
 |_,_=>False
def KV{κ:Type}:List (κ × V)->List (κ × Value)->Prop:=Paired fun(p:κ × V) (q:κ × Value)=>p.1=q.1/\RelV p.2 q.2
def kV:Key->V
 |.inl i=>.int i
 |.inr x=>.str x
inductive HO where
 /-- a list -/
 |lst (xs:List V)
 /-- a tuple (never changes) -/
 |tup (xs:List V)
 /-- a dict whose keys are ints and texts;one whose keys are tuples of ints and texts (the empty one is both) -/
 |dK (kvs:List (Key × V))|dT (kvs:List (List Key × V))
 /-- a set of ints: its members,its size -/
 |set (S:Int->Bool) (n:Nat)
 /-- an instance of the class at C,its dict at dx,its attributes -/
 |ins (C dx:Addr) (fs:List (Str × V))
 /-- the dict of the instance at x -/
 |own (x:Addr)
 /-- the dict of an exception -/
 |xd (fs:List (Str × V))
 /-- a bound method,f of x -/
 |met (f x:Addr)
 /-- a range object lo,lo+1,.. below hi -/
 |RN (lo hi:Int)
 /-- a thing that is known to the object (the script;a dict while a loop walks it): read,never written while it is so -/
 |eu (o:Obj) (u:HO)
 /-- a code object's table -/
 |pT (ps:Array Value)
 /-- any other thing,by what is true of its one object (a def of gR' own: gS' a S n:=HO.ext fun h=>..) -/
 |ext (φ:Heap->Prop)
abbrev Hp:=Addr->Option HO
def upd(H:Hp)(a:Addr)(o:HO):Hp:=fun b=>if b=a then some o else H b
theorem fE:upd H a o a=some o:=by unfold upd;rw[if_pos rfl]
theorem cf(h:b≠a):upd H a o b=H b:=by unfold upd;rw[if_neg h]
theorem RP{H:Hp}{a b:Addr}{o u:HO}(h:H a=some o)(h':H b=some u)(d:o≠u):a≠b:=by
 intro e;subst e;rw[h] at h';exact d (Option.some.inj h')
theorem GP{H:Hp}{a b:Addr}{o:HO}(h:H a=some o)(h':H b=none):a≠b:=by
 intro e;subst e;rw[h] at h';cases h'
section
variable (P:Program)(w:World)
def fe(H:Hp)(h:Heap)(a:Addr):HO->Prop
 |.lst xs=>xs.length<=sizeLine/\∃ (its:List Value) (n:Nat),Vals xs its/\h.get? a=some { cls:=.type "list",data:=.seq its.toArray n }
 |.tup xs=>xs.length<=sizeLine/\∃ its:List Value,Vals xs its/\IsTup h a its.toArray
 |.dK kvs=>kvs.length<=sizeLine/\(a == sysModules)=false/\∃ vs,KV kvs vs/\h.DictOf (kG P w) a vs
 |.dT kvs=>kvs.length<=sizeLine/\(a == sysModules)=false/\∃ xs:List (List Key × Addr × Value),
   Paired (fun(p:List Key × V) (q:List Key × Addr × Value)=>p.1=q.1/\H q.2.1=some (.tup (p.1.map kV))/\RelV p.2 q.2.2) kvs xs /\
   ∃ o es ep,h.get? a=some o/\o.ExactDict/\o.data=.dict es ep/\es.toList=xs.map (entryOfKey (tupleKind (kG P w)))/\(xs.map (·.1)).Nodup
 |.set S n=>h.SetOf (intKind P w) a S n
 |.ins C dx fs=>H dx=some (.own a)/\fs.length<=1000/\dx≠a/\h.get? a=some (PySem.W.instObj C dx) /\
   ∃ mA,h.Ns1 dx mA/\(∀ f,uj (fs.lookup f) (mA f))/\PySem.Within mA (fs.map (·.1))
 |.own _=>∃ o,h.get? a=some o
 |.xd fs=>∃ mA,h.Ns1 a mA/\∀ f,uj (fs.lookup f) (mA f)
 |.RN lo hi=>∃ t u v,h.get? a=some { cls:=.type "range",data:=.fields #[.int lo t,.int hi u,.int 1 v] }
 |.eu o u=>h.get? a=some o/\fe H h a u
 |.pT ps=>h.get? a=some { cls:=.none,data:=.fields ps }
 |.met f x=>h.get? a=some (PySem.W.methodObj (.ref f) (.ref x))
 |.ext φ=>φ h/\(∃ o,h.get? a=some o)/\∀ h1 h2:Heap,φ h1->(∀ o,h1.get? a=some o->h2.get? a=some o)->φ h2
def hJ(H:Hp)(h:Heap):Prop:=∀ a o,H a=some o->fe P w H h a o
end
section
variable {P:Program}{w:World}{H H':Hp}{h h':Heap}{a:Addr}{o:HO}
theorem fe.lt(x:fe P w H h a o):a<h.objs.size:=by
 cases o with
 |lst xs=>obtain⟨_,_,_,_,e⟩:=x;exact dQ e
 |tup xs=>obtain⟨_,_,_,p⟩:=x;exact p.lt
 |dK kvs=>obtain⟨_,_,_,_,o,_,_,e,_⟩:=x;exact dQ e
 |dT kvs=>obtain⟨_,_,_,_,o,_,_,e,_⟩:=x;exact dQ e
 |set S n=>obtain⟨o,_,_,_,e,_⟩:=x;exact dQ e
 |ins C dx fs=>obtain⟨_,_,_,e,_⟩:=x;exact dQ e
 |own y=>obtain⟨_,e⟩:=x;exact dQ e
 |xd fs=>obtain⟨_,⟨_,_,_,e,_⟩,_⟩:=x;exact dQ e
 |RN lo hi=>obtain⟨_,_,_,e⟩:=x;exact dQ e
 |eu ob u=>obtain⟨e,_⟩:=x;exact dQ e
 |pT ps=>exact dQ (show h.get? a=some _ from x)
 |met f y=>exact dQ (show h.get? a=some _ from x)
 |ext φ=>obtain⟨_,⟨_,e⟩,_⟩:=x;exact dQ e
theorem Paired.RQ{α β:Type}{F G:α->β->Prop}:∀ {Vx:List α} {Vy:List β},Paired F Vx Vy->(∀ a b,F a b->G a b)->Paired G Vx Vy
 |_,_,.nil,_=>.nil
 |_,_,.cons r t,f=>.cons (f _ _ r) (Paired.RQ t f)
theorem fe.fh(x:fe P w H h a o)(k:∀ b u,(b=a\/H b=some (.own a))->h.get? b=some u->h'.get? b=some u)
  (ho:∀ b,H b=some (.own a)->H' b=some (.own a)) (ht:∀ b xs,H b=some (.tup xs)->H' b=some (.tup xs)):fe P w H' h' a o:=by
 induction o with
 |lst xs=>obtain⟨z,its,n,r,e⟩:=x;exact⟨z,its,n,r,k _ _ (.inl rfl) e⟩
 |tup xs=>obtain⟨z,its,r,ob,e,c⟩:=x;exact⟨z,its,r,ob,k _ _ (.inl rfl) e,c⟩
 |dK kvs=>obtain⟨z,y,vs,r,ob,es,ep,e,c⟩:=x;exact⟨z,y,vs,r,ob,es,ep,k _ _ (.inl rfl) e,c⟩
 |dT kvs =>
  obtain⟨z,y,xs,r,ob,es,ep,e,c⟩:=x
  exact⟨z,y,xs,Paired.RQ r fun p q z=>⟨z.1,ht _ _ z.2.1,z.2.2⟩,ob,es,ep,k _ _ (.inl rfl) e,c⟩
 |set S n=>obtain⟨ob,es,ep,t,e,c⟩:=x;exact⟨ob,es,ep,t,k _ _ (.inl rfl) e,c⟩
 |ins C dx fs =>
  obtain⟨d,z,ne,e,mA,⟨od,es,ep,e2,c⟩,r⟩:=x
  exact⟨ho _ d,z,ne,k _ _ (.inl rfl) e,mA,⟨od,es,ep,k _ _ (.inr d) e2,c⟩,r⟩
 |own y=>obtain⟨ob,e⟩:=x;exact⟨ob,k _ _ (.inl rfl) e⟩
 |xd fs=>obtain⟨mA,⟨od,es,ep,e,c⟩,r⟩:=x;exact⟨mA,⟨od,es,ep,k _ _ (.inl rfl) e,c⟩,r⟩
 |RN lo hi=>obtain⟨t,u,v,e⟩:=x;exact⟨t,u,v,k _ _ (.inl rfl) e⟩
 |eu ob u ih=>obtain⟨e,q⟩:=x;exact⟨k _ _ (.inl rfl) e,ih q⟩
 |pT ps =>
  have e:h.get? a=some { cls:=.none,data:=.fields ps }:=x
  show h'.get? a=some { cls:=.none,data:=.fields ps }
  exact k a _ (.inl rfl) e
 |met f y =>
  have e:h.get? a=some (PySem.W.methodObj (.ref f) (.ref y)):=x
  show h'.get? a=some (PySem.W.methodObj (.ref f) (.ref y))
  exact k a _ (.inl rfl) e
 |ext φ=>obtain⟨p,⟨o,e⟩,st⟩:=x;exact⟨st _ _ p fun o q=>k _ _ (.inl rfl) q,⟨o,k _ _ (.inl rfl) e⟩,st⟩
theorem hJ.lt(x:hJ P w H h)(e:H a=some o):a<h.objs.size:=(x a o e).lt
theorem hJ.fresh(x:hJ P w H h)(e:h.objs.size<=a):H a=none:=by
 cases q:H a with
 |none=>rfl
 |some u=>exact absurd (nS (x.lt q) e) (ti _)
theorem hJ.kept(x:hJ P w H h)(k:∀ b u,h.get? b=some u->h'.get? b=some u):hJ P w H h':=fun a o e =>
 (x a o e).fh (fun b u _ q=>k b u q) (fun _ q=>q) fun _ _ q=>q
theorem hJ.laid(x:hJ P w H h)(k:∀ b u,h.get? b=some u->h'.get? b=some u)(hp:h.objs.size<=a)(new:fe P w (upd H a o) h' a o):hJ P w (upd H a o) h':=fun b u e=>by
 have hn:=x.fresh hp
 by_cases hb:b=a
 ·subst hb;rw[fE] at e;cases e;exact new
 ·rw[cf hb] at e
  exact(x b u e).fh (fun c v _ q=>k c v q) (fun c q=>by rw[cf (GP q hn)];exact q) fun c xs q=>by rw[cf (GP q hn)];exact q
end
def Rd(H:Hp)(a:Addr)(u:HO):Prop:=H a=some u\/∃ o,H a=some (.eu o u)
theorem Rd.ok{P:Program}(r:Rd H a u)(x:hJ P w H h):fe P w H h a u:=by
 rcases r with r|⟨o,r⟩
 ·exact x a u r
 ·obtain⟨_,q⟩:=x a _ r
  exact q
def LZ:Option HO->Prop
 |some (.lst _)=>True
 |some (.dK _)=>True
 |some (.dT _)=>True
 |some (.set _ _)=>True
 |some (.ins _ _ _)=>True
 |some (.ext _)=>True
 |_=>False
section
variable {P:Program}{w:World}{H:Hp}{h h':Heap}{x e:Addr}{o':HO}
theorem hJ.write(ok:hJ P w H h)(mu:LZ (H x))(he:e=x\/H e=some (.own x))(k:∀ b u,b≠e->h.get? b=some u->h'.get? b=some u)(GU:∃ u,h'.get? e=some u)
  (new:fe P w (upd H x o') h' x o'):hJ P w (upd H x o') h':=fun b u q=>by
 have Vz:∀ c y,H c=some (.own y)->c≠x:=fun c y r z=>by subst z;rw[r] at mu;exact mu
 have ZI:∀ c xs,H c=some (.tup xs)->c≠x:=fun c xs r z=>by subst z;rw[r] at mu;exact mu
 by_cases hb:b=x
 ·subst hb;rw[fE] at q;cases q;exact new
 ·rw[cf hb] at q
  by_cases D9:b=e
  ·have q':H b=some (.own x):=by
    rcases he with z|z
    ·exact absurd (D9.trans z) hb
    ·rw[D9];exact z
   rw[q] at q';cases q'
   obtain⟨v,hv⟩:=GU
   exact⟨v,by rw[D9];exact hv⟩
  ·refine(ok b u q).fh (fun c v hc r=>k c v ?_ r) (fun c r=>by rw[cf (Vz c b r)];exact r) fun c xs r=>by rw[cf (ZI c xs r)];exact r
   rcases hc with rfl|hc
   ·exact D9
   ·rintro rfl
    rcases he with z|z
    ·exact Vz c b hc z
    ·rw[hc] at z;cases z;exact hb rfl
end
structure Un(fs ex:List Addr)(H H':Hp)(h h':Heap):Prop where
 keep:∀ b o,h.get? b=some o->H b=none->b∉fs->b∉ex->h'.get? b=some o
 slot:∀ b o,h.get? b=some o->H b=none->b∈fs->b∉ex->∃ sl,h'.get? b=some { o with slots:=sl }
 free:∀ b o,h.get? b=some o->H b=none->b∉ex->H' b=none
 there:∀ b o,h.get? b=some o->b∉ex->∃ o',h'.get? b=some o'
 jI:∀ b xs,H b=some (.tup xs)->H' b=some (.tup xs)
 xD:∀ b o u,H b=some (.eu o u)->H' b=some (.eu o u)
 y3:∀ b ps,H b=some (.pT ps)->∃ more,H' b=some (.pT (ps++more))
section
variable {fs ex:List Addr}{H H1:Hp}{h h1 h':Heap}{a x e:Addr}{o:HO}
theorem Un.any(u:Un fs ex H H1 h h1)(q:h.get? b=some ob)(n:H b=none)(hx:b∉ex):∃ sl,h1.get? b=some { ob with slots:=sl }:=by
 by_cases hb:b∈fs
 ·exact u.slot b ob q n hb hx
 ·exact⟨ob.slots,u.keep b ob q n hb hx⟩
theorem Un.kept(k:∀ b u,h.get? b=some u->h'.get? b=some u):Un fs ex H H h h' :=
 ⟨fun b ob q _ _ _=>k b ob q,fun b ob q _ _ _=>⟨ob.slots,k b ob q⟩,fun _ _ _ n _=>n,fun b ob q _=>⟨ob,k b ob q⟩,fun _ _ q=>q,fun _ _ _ q=>q,fun _ ps q=>⟨#[],by rw[q];simp⟩⟩
theorem Un.refl:Un fs ex H H h h:=Un.kept fun _ _ q=>q
theorem Un.laid(k:∀ b u,h.get? b=some u->h'.get? b=some u)(hp:h.objs.size<=a)(hn:H a=none):Un fs ex H (upd H a o) h h' where
 keep:=fun b u q _ _ _=>k b u q
 slot:=fun b u q _ _ _=>⟨u.slots,k b u q⟩
 free:=fun b u q n _=>by rw[cf (fo (nS (dQ q) hp))];exact n
 there:=fun b u q _=>⟨u,k b u q⟩
 jI:=fun b xs q=>by rw[cf (GP q hn)];exact q
 xD:=fun b u xs q=>by rw[cf (GP q hn)];exact q
 y3:=fun b ps q=>⟨#[],by rw[cf (GP q hn),q];simp⟩
theorem Un.write(mu:LZ (H x))(he:e=x\/H e=some (.own x))(k:∀ b u,b≠e->h.get? b=some u->h'.get? b=some u)(GU:∃ u,h'.get? e=some u):Un fs ex H (upd H x o) h h':=by
 have hx:∀ b,H b=none->b≠x:=fun b n z=>by subst z;rw[n] at mu;exact mu
 have hb:∀ b,H b=none->b≠e:=fun b n z=>by
  subst z
  rcases he with r|r
  ·exact hx b n r
  ·rw[n] at r;cases r
 have hm:∀ b u,H b=some u->¬ LZ (some u)->b≠x:=fun b u q nm z=>by subst z;rw[q] at mu;exact nm mu
 refine⟨fun b u q n _ _=>k b u (hb b n) q,fun b u q n _ _=>⟨u.slots,k b u (hb b n) q⟩,fun b u q n _=>by rw[cf (hx b n)];exact n,fun b u q _=>?_,
  fun b xs q=>by rw[cf (hm b _ q fun z=>z)];exact q,fun b u xs q=>by rw[cf (hm b _ q fun z=>z)];exact q,fun b ps q=>⟨#[],by rw[cf (hm b _ q fun z=>z),q];simp⟩⟩
 by_cases D9:b=e
 ·subst D9;exact GU
 ·exact⟨u,k b u D9 q⟩
end
def PJ(h:Heap)(H:Hp):List Addr:=(List.range h.objs.size).filter fun a=>(H a).isSome
def AR(h:Heap)(H:Hp):Heap:=PySem.W.hideAll h (PJ h H)
theorem ZJ(h:Heap)(H:Hp):(AR h H).objs.size=h.objs.size:=PySem.W.hideAll_size _ _
theorem ZK(e:h.get? b=some o)(n:H b=none):(AR h H).get? b=some o :=
 PySem.W.hideAll_get _ e fun hm=>by
  have q:(H b).isSome=true:=(sQ.mp hm).2
  rw[n] at q;simp at q
theorem ZL(e:(AR h H).get? b=some o):h.get? b=some o/\H b=none:=by
 have e':h.get? b=some o:=PySem.W.of_hideAll (PJ h H) e
 refine⟨e',?_⟩
 cases q:H b with
 |none=>rfl
 |some x =>
  have hm:b∈PJ h H:=sQ.mpr ⟨oi.mpr (dQ e'),by simp[q]⟩
  have z:(AR h H).get? b=none:=PySem.W.hideAll_none (PJ h H) hm
  rw[z] at e;cases e
def ZM(g h:Heap)(L:Addr):List (Addr × Obj):=(List.range h.objs.size).filterMap fun a=>if a=L\/(g.get? a).isSome=true then none else (h.get? a).map fun o=>(a,o)
def rest(g h:Heap)(L d:Addr):List (Addr × Obj):=(ZM g h L).filter fun p=>decide (p.1≠d)
structure Mod(K:PySem.W.Frag)(mg:Str->Option Value)(base:Heap):Prop where
 RT:K.In base
 glob:base.Ns mainGlobals mg
 blt:∃ mb,base.Ns builtinsNs mb/\∀ x:Str,x ≠ "__name__"->mb x=bootBuiltins x
 nolimit:base.NoLimit
structure Cx where
 prog:Program
 w:World
 K:PySem.W.Frag
 mg:Str->Option Value
 base:Heap
 A:Around
 N:List Str
 kg:Shared
 nV:Hp
 env:Env
 outer:List Env
 stack:List Env
 ex:List Addr
 fn:Str->Bool
 calm:Bool
 pn:List (Addr × Obj)
 xe:Value->Shared->Prop
def xE(l:List Env):List Addr:=l.filterMap (·.frame)
abbrev Cx.fs(X:Cx):List Addr:=xE X.outer
def PK(sc:Scope)(x:Str):Prop:=sc.names.lookup x=some .local\/sc.names.lookup x=some .cell\/sc.names.lookup x=some .free
def Loc(sc:Scope)(x:Str):Prop:=sc.names.lookup x=some .local\/sc.names.lookup x=some .cell
def Look(env:Env)(h:Heap)(m:Str->Option Value)(x:Str)(u:Value):Prop :=
 (env.kindOf x=some .local/\m x=some u)\/((env.kindOf x=some .cell\/env.kindOf x=some .free)/\∃ c,env.cells.lookup x=some c/\h.IsCell c (some u))
structure Cx.Ok(X:Cx):Prop where
 mod:Mod X.K X.mg X.base
 kind:X.env.scope.kind=.function
 glob:X.env.globals=mainGlobals
 blt:X.env.builtins=builtinsNs
 above:X.kg.heap.objs.size<=X.env.locals
 inj:∀ x y c,X.env.cells.lookup x=some c->X.env.cells.lookup y=some c->x=y
 has:∀ x,(X.env.kindOf x=some .cell\/X.env.kindOf x=some .free)->∃ c,X.env.cells.lookup x=some c
 L4:∀ x c,X.fn x=true->X.env.cells.lookup x=some c->X.kg.heap.objs.size<=c
 hd:X.calm=true->X.A.handled=none
 frames:X.A.frames=some X.stack
 PL:X.stack=X.outer\/(X.stack=X.env :: X.outer/\X.env.frame=some X.env.locals)
 PN:∀ b∈X.ex,b≠X.env.locals/\∀ x c,X.env.cells.lookup x=some c->c≠b
 bs:∀ b o,X.base.get? b=some o->X.kg.heap.get? b=some o/\X.nV b=none
 B5:X.base.objs.size<=X.kg.heap.objs.size
 L5:∀ b o,X.base.get? b=some o->b∉X.ex
 L6:∀ b∈X.ex,b∉X.fs
 xI:X.kg.heap.FunFrames X.base X.outer
 GV:∀ b∈X.fs,X.nV b=none
structure Inv(X:Cx)(pins:List (Addr × Obj))(σ:List (Option V))(H:Hp)(s:Shared):Prop where
 ok:X.Ok
 os:s.os=X.kg.os
 bare:AllBare s.gens
 base:Un X.fs X.ex X.nV H X.kg.heap s.heap
 loc:∃ m,s.heap.Ns X.env.locals m/\∀ (i:Nat) (x:Str) (v:V),X.N[i]? = some x->σ[i]? = some (some v)->PK X.env.scope x->∃ u,RelV v u/\Look X.env s.heap m x u
 cell:∀ x c,X.env.cells.lookup x=some c->∃ v,s.heap.IsCell c v
 free:H X.env.locals=none
 uk:∀ x c,X.env.cells.lookup x=some c->H c=none
 pin:∀ p∈X.pn++pins,s.heap.get? p.1=some p.2/\H p.1=none/\p.1≠X.env.locals/\p.1∉X.fs/\∀ v,p.2.data≠.cell v
 bq:hJ X.prog X.w H s.heap
 len:σ.length=X.N.length
section
variable {X:Cx}{pins:List (Addr × Obj)}{σ:List (Option V)}{H H':Hp}{s:Shared}{h':Heap}
theorem Cx.Ok.ZN(ok:X.Ok)(e:X.base.get? b=some o):b∉X.fs:=fun hb=>by
 have:=(ok.xI.mem hb).1
 rw[e] at this;cases this
theorem Inv.bs(I:Inv X pins σ H s):∀ b o,X.base.get? b=some o->s.heap.get? b=some o/\H b=none:=fun b o e =>
 ⟨I.base.keep b o (I.ok.bs b o e).1 (I.ok.bs b o e).2 (I.ok.ZN e) (I.ok.L5 b o e),I.base.free b o (I.ok.bs b o e).1 (I.ok.bs b o e).2 (I.ok.L5 b o e)⟩
theorem Inv.bk(I:Inv X pins σ H s):∀ b o,X.base.get? b=some o->s.heap.get? b=some o:=fun b o e=>(I.bs b o e).1
theorem Inv.mod(I:Inv X pins σ H s):Mod X.K X.mg X.base:=I.ok.mod
theorem Inv.ki(I:Inv X pins σ H s):X.K.In s.heap:=I.ok.mod.RT.keeps I.bk
theorem Inv.lt(I:Inv X pins σ H s):X.env.locals<s.heap.objs.size:=let ⟨_,hn,_⟩:=I.loc;hn.lt
theorem Inv.sz(I:Inv X pins σ H s):X.kg.heap.objs.size<=s.heap.objs.size:=iO I.ok.above (ll I.lt)
theorem Inv.ZO(I:Inv X pins σ H s)(h:s.heap.objs.size<=a):a∉X.fs:=fun hb=>by
 obtain⟨_,o,ho,_⟩:=I.ok.xI.mem hb
 exact absurd (nS (dQ ho) (iO I.sz h)) (ti _)
theorem Inv.Ee(I:Inv X pins σ H s):∀ x c,X.env.cells.lookup x=some c->c≠X.env.locals:=fun x c e z=>by
 obtain⟨v,o,ho,hd⟩:=I.cell x c e
 obtain⟨m,⟨o',es,ep,nh,RV,_⟩,_⟩:=I.loc
 rw[z,nh] at ho;cases ho;rw[RV] at hd;cases hd
theorem Inv.xI(I:Inv X pins σ H s):s.heap.FunFrames X.base X.outer:=by
 have all:∀ (l:List Env),(∀ b∈xE l,b∈X.fs)->X.kg.heap.FunFrames X.base l->s.heap.FunFrames X.base l:=by
  intro l
  induction l with
  |nil=>intro _ _;trivial
  |cons env r ih =>
   intro hs hl
   obtain⟨hk,⟨L,o,hf,hn,ho,hd⟩,hr⟩:=hl
   have hL:L∈X.fs:=hs L (by unfold xE;rw[LH,hf];exact b6)
   obtain⟨sl,e⟩:=I.base.slot L o ho (I.ok.GV L hL) hL fun z=>I.ok.L6 L z hL
   exact⟨hk,⟨L,_,hf,hn,e,hd⟩,ih (fun b hb=>hs b (by unfold xE;rw[LH,hf];exact b9 _ hb)) hr⟩
 exact all X.outer (fun _ hb=>hb) I.ok.xI
theorem Inv.stack(I:Inv X pins σ H s):s.heap.FunFrames X.base X.stack:=by
 rcases I.ok.PL with e|⟨e,hf⟩
 ·rw[e];exact I.xI
 ·rw[e]
  obtain⟨m,hn,_⟩:=I.loc
  refine .cons (by rw[I.ok.kind];decide) hf hn ?_ I.xI
  exact Heap.get?_none_of_le (iO I.ok.B5 I.ok.above)
theorem Inv.RW(I:Inv X pins σ H s):∀ b∈xE X.stack,b∈X.env.locals :: X.fs:=fun b hb=>by
 rcases I.ok.PL with e|⟨e,hf⟩
 ·rw[e] at hb;exact b9 _ hb
 ·rw[e] at hb
  unfold xE at hb
  rw[LH,hf] at hb
  exact hb
theorem Inv.VA(I:Inv X pins σ H s):∀ b∈xE X.stack,H b=none:=fun b hb=>by
 rcases dv.mp (I.RW b hb) with e|hb
 ·rw[e];exact I.free
 ·obtain⟨_,o,ho,_⟩:=I.ok.xI.mem hb
  exact I.base.free b o ho (I.ok.GV b hb) fun z=>I.ok.L6 b z hb
theorem Inv.step{g':Array GenState}{t':Nat}{d':Drawn}{ch:List Addr}(I:Inv X pins σ H s)
  (wq:∀ b∈ch,(b∈X.ex\/X.kg.heap.objs.size<=b)/\b≠X.env.locals/\(∀ x c,X.env.cells.lookup x=some c->c≠b)/\∀ p∈X.pn++pins,p.1≠b)
  (keep:∀ b o,b≠X.env.locals->b∉X.fs->b∉ch->s.heap.get? b=some o->H b=none->h'.get? b=some o)
  (slot:∀ b o,b≠X.env.locals->b∈X.fs->b∉ch->s.heap.get? b=some o->H b=none->∃ sl,h'.get? b=some { o with slots:=sl }) (free:∀ b o,b∉ch->s.heap.get? b=some o->H b=none->H' b=none)
  (there:∀ b o,b∉ch->s.heap.get? b=some o->∃ o',h'.get? b=some o')
  (jI:∀ b xs,H b=some (.tup xs)->H' b=some (.tup xs)) (xD:∀ b o u,H b=some (.eu o u)->H' b=some (.eu o u)) (y3:∀ b ps,H b=some (.pT ps)->∃ more,H' b=some (.pT (ps++more)))
  (ns:∀ m,s.heap.Ns X.env.locals m->h'.Ns X.env.locals m) (bq:hJ X.prog X.w H' h') (hg:AllBare g') :
  Inv X pins σ H' { s with heap:=h',gens:=g',drawn:=d',toks:=t' }:=by
 have VB:∀ b o,X.kg.heap.get? b=some o->b≠X.env.locals:=fun b o e=>fo (nS (dQ e) I.ok.above)
 have PQ:∀ b o,X.kg.heap.get? b=some o->b∉X.ex->b∉ch:=fun b o e hx hb=>by
  rcases (wq b hb).1 with z|z
  ·exact hx z
  ·exact absurd (nS (dQ e) z) (ti _)
 have cellK:∀ x c,X.env.cells.lookup x=some c->∀ v,s.heap.IsCell c v->h'.IsCell c v:=fun x c e v cS=>by
  obtain⟨o,ho,hd⟩:=cS
  have L7:c∉ch:=fun z=>(wq c z).2.2.1 x c e rfl
  by_cases hc:c∈X.fs
  ·obtain⟨sl,q⟩:=slot c o (I.Ee x c e) hc L7 ho (I.uk x c e)
   exact⟨_,q,hd⟩
  ·exact⟨o,keep c o (I.Ee x c e) hc L7 ho (I.uk x c e),hd⟩
 refine⟨I.ok,I.os,hg,⟨fun b o e n hb hx=>?_,fun b o e n hb hx=>?_,fun b o e n hx=>?_,fun b o e hx=>?_,fun b xs e=>jI b xs (I.base.jI b xs e),fun b o xs e=>xD b o xs (I.base.xD b o xs e),fun b ps e=>?_⟩,?_,fun x c e=>?_,?_,fun x c e=>?_,fun p hp=>?_,bq,I.len⟩
 ·exact keep b o (VB b o e) hb (PQ b o e hx) (I.base.keep b o e n hb hx) (I.base.free b o e n hx)
 ·obtain⟨sl,e1⟩:=I.base.slot b o e n hb hx
  obtain⟨ZP,e2⟩:=slot b _ (VB b o e) hb (PQ b o e hx) e1 (I.base.free b o e n hx)
  exact⟨ZP,e2⟩
 ·obtain⟨o',e1⟩:=I.base.there b o e hx
  exact free b o' (PQ b o e hx) e1 (I.base.free b o e n hx)
 ·obtain⟨o',e1⟩:=I.base.there b o e hx
  exact there b o' (PQ b o e hx) e1
 ·obtain⟨m1,e1⟩:=I.base.y3 b ps e
  obtain⟨m2,e2⟩:=y3 b _ e1
  exact⟨m1++m2,by rw[e2,PC]⟩
 ·obtain⟨m,hn,hl⟩:=I.loc
  refine⟨m,ns m hn,fun i x v e1 e2 e3=>?_⟩
  obtain⟨u,r,l⟩:=hl i x v e1 e2 e3
  refine⟨u,r,?_⟩
  rcases l with l|⟨k,c,e,z⟩
  ·exact .inl l
  ·exact .inr ⟨k,c,e,cellK x c e _ z⟩
 ·obtain⟨v,z⟩:=I.cell x c e
  exact⟨v,cellK x c e v z⟩
 ·obtain⟨m,⟨o,_,_,ho,_⟩,_⟩:=I.loc
  exact free _ o (fun z=>(wq _ z).2.1 rfl) ho I.free
 ·obtain⟨v,o,ho,hd⟩:=I.cell x c e
  exact free c o (fun z=>(wq c z).2.2.1 x c e rfl) ho (I.uk x c e)
 ·obtain⟨e,n,ne,nf,d⟩:=I.pin p hp
  have L7:p.1∉ch:=fun z=>(wq p.1 z).2.2.2 p hp rfl
  exact⟨keep p.1 p.2 ne nf L7 e n,free p.1 p.2 L7 e n,ne,nf,d⟩
theorem Inv.un{t':Nat}(I:Inv X pins σ H s)(u:Un X.fs [] H H' s.heap h')(bq:hJ X.prog X.w H' h'):Inv X pins σ H' { s with heap:=h',toks:=t' }:=by
 obtain⟨m,⟨o,es,ep,ho,r⟩,_⟩:=id I.loc
 obtain⟨sl,hL⟩:=u.any ho I.free (by simp)
 exact I.step (g':=s.gens) (d':=s.drawn) (ch:=[]) (fun _ z=>nomatch z) (fun b o _ hb _ e n=>u.keep b o e n hb (by simp)) (fun b o _ hb _ e n=>u.slot b o e n hb (by simp)) (fun b o _ e n=>u.free b o e n (by simp)) (fun b o _ e=>u.there b o e (by simp)) u.jI u.xD u.y3 (fun m' hm=>by
  obtain⟨o',RX,RZ,nh,r'⟩:=hm
  rw[ho] at nh;cases nh
  exact⟨_,RX,RZ,hL,r'⟩) bq I.bare
theorem Inv.call{g':Array GenState}{t':Nat}{d':Drawn}{ch:List Addr}(I:Inv X pins σ H s)(u:Un (xE X.stack) ch H H' s.heap h')(bq:hJ X.prog X.w H' h')(hg:AllBare g')
  (wq:∀ b∈ch,(b∈X.ex\/X.kg.heap.objs.size<=b)/\b≠X.env.locals/\(∀ x c,X.env.cells.lookup x=some c->c≠b)/\∀ p∈X.pn++pins,p.1≠b) :
  Inv X pins σ H' { s with heap:=h',gens:=g',drawn:=d',toks:=t' }:=by
 obtain⟨m,⟨o,es,ep,ho,r⟩,_⟩:=id I.loc
 obtain⟨sl,hL⟩:=u.any ho I.free fun z=>(wq _ z).2.1 rfl
 exact I.step (ch:=ch) wq (fun b o hL hb hc e n=>u.keep b o e n (fun z=>(dv.mp (I.RW b z)).elim hL hb) hc) (fun b o _ _ hc e n=>u.any e n hc) (fun b o hc e n=>u.free b o e n hc) (fun b o hc e=>u.there b o e hc) u.jI u.xD u.y3 (fun m' hm=>by
  obtain⟨o',RX,RZ,nh,r'⟩:=hm
  rw[ho] at nh;cases nh
  exact⟨_,RX,RZ,hL,r'⟩) bq hg
theorem Inv.turned{t':Nat}{it:Addr}(I:Inv X pins σ H s)(k:∀ b o,b≠it->s.heap.get? b=some o->h'.get? b=some o)(hn:H it=none)(hL:it≠X.env.locals)
  (h1:it∈X.ex\/X.kg.heap.objs.size<=it) (h2:∀ x c,X.env.cells.lookup x=some c->c≠it) (h3:∀ p∈X.pn++pins,p.1≠it):Inv X pins σ H { s with heap:=h',toks:=t' }:=by
 have VC:∀ b u,H b=some u->b≠it:=fun b u e z=>by rw[z,hn] at e;cases e
 refine I.step (g':=s.gens) (d':=s.drawn) (ch:=[it]) (fun b hb=>?_) (fun b o _ _ hc e _=>k b o (fun z=>hc (by simp[z])) e) (fun b o _ _ hc e _=>⟨o.slots,k b o (fun z=>hc (by simp[z])) e⟩) (fun _ _ _ _ n=>n)
  (fun b o hc e=>⟨o,k b o (fun z=>hc (by simp[z])) e⟩) (fun _ _ e=>e) (fun _ _ _ e=>e) (fun b ps e=>⟨#[],by rw[e];simp⟩) (fun m hm=>?_) (fun b u e=>?_) I.bare
 ·have e:b=it:=by simpa using hb
  subst e
  exact⟨h1,hL,h2,h3⟩
 ·obtain⟨o,es,ep,ho,r⟩:=hm
  exact⟨o,es,ep,k _ o (Ne.symm hL) ho,r⟩
 ·refine(I.bq b u e).fh (fun c v hc q=>k c v ?_ q) (fun _ q=>q) fun _ _ q=>q
  rcases hc with z|z
  ·rw[z];exact VC b u e
  ·exact VC c _ z
theorem Inv.tok(I:Inv X pins σ H s)(t:Nat):Inv X pins σ H { s with toks:=t }:=I.un (h':=s.heap) (t':=t) Un.refl I.bq
theorem Inv.kept(I:Inv X pins σ H s)(k:∀ b u,s.heap.get? b=some u->h'.get? b=some u):Inv X pins σ H { s with heap:=h',toks:=t' }:=I.un (Un.kept k) (I.bq.kept k)
theorem Inv.laid(I:Inv X pins σ H s)(k:∀ b u,s.heap.get? b=some u->h'.get? b=some u)(hp:s.heap.objs.size<=a)(new:fe X.prog X.w (upd H a o) h' a o) :
  Inv X pins σ (upd H a o) { s with heap:=h',toks:=t' }:=I.un (Un.laid k hp (I.bq.fresh hp)) (I.bq.laid k hp new)
theorem Inv.write(I:Inv X pins σ H s)(mu:LZ (H x))(he:e=x\/H e=some (.own x))(k:∀ b u,b≠e->s.heap.get? b=some u->h'.get? b=some u)(GU:∃ u,h'.get? e=some u)
  (new:fe X.prog X.w (upd H x o) h' x o):Inv X pins σ (upd H x o) { s with heap:=h',toks:=t' }:=I.un (Un.write mu he k GU) (I.bq.write mu he k GU new)
theorem Inv.VD(I:Inv X pins σ H s)(h:∀ p∈ZQ,s.heap.get? p.1=some p.2/\H p.1=none/\p.1≠X.env.locals/\p.1∉X.fs/\∀ v,p.2.data≠.cell v):Inv X ZQ σ H s :=
 ⟨I.ok,I.os,I.bare,I.base,I.loc,I.cell,I.free,I.uk,fun p hp=>(dP.mp hp).elim (fun z=>I.pin p (kF _ z)) (h p),I.bq,I.len⟩
theorem VF{N:List Str}(hN:N.Nodup){i j:Nat}{x:Str}(a:N[i]? = some x)(b:N[j]? = some x):i=j:=by
 obtain⟨h1,e1⟩:=iL.mp a
 obtain⟨h2,e2⟩:=iL.mp b
 exact(List.getElem_inj hN).mp (e1.trans e2.symm)
theorem VG{M:Model}{A:Around}{E:Value->Shared->Prop}{i:Nat}{x:Str}{v:V}{u:Value}{Q:Unit->Shared->Prop}(I:Inv X pins σ H s)(hN:X.N.Nodup)(hi:X.N[i]? = some x)(hx:Loc X.env.scope x)(r:RelV v u)
  (h:∀ s',Inv X pins (σ.set i (some v)) H s'->(∃ a,Heap.SameBut a s.heap s'.heap/\(a=X.env.locals\/X.env.cells.lookup x=some a))->Q () s') (hf:X.fn x=true\/X.env.scope.names.lookup x=some .local:=by first|exact .inl rfl|exact .inr rfl|assumption):wpAny M A (storeName X.env x u) Q E s:=by
 obtain⟨m,hn,hl⟩:=id I.loc
 have ZR:(X.env.scope.kind == .class || (X.env.scope.kind == .module && X.env.locals != X.env.globals))=false:=by rw[I.ok.kind];rfl
 have VH:i<σ.length:=by rw[I.len];exact(iL.mp hi).1
 have Ee:=I.Ee
 have tracked:∀ {a:Addr} {h':Heap},(∃ o,s.heap.get? a=some o/\H a=none)->Heap.SameBut a s.heap h'->hJ X.prog X.w H h':=fun {a h'} ha hs b ob e=>by
  obtain⟨_,_,VJ⟩:=ha
  refine(I.bq b ob e).fh (fun c w' hc q=>(hs.2 c ?_).trans q) (fun _ q=>q) fun _ _ q=>q
  rintro rfl
  rcases hc with rfl|hc
  ·rw[VJ] at e;cases e
  ·rw[VJ] at hc;cases hc
 rcases hx with hk|hk
 ·refine wpAny_storeName_local hk hn (fun h' B6 hs=>?_) ZR
  obtain⟨oL,_,_,wt,_⟩:=id hn
  refine h _ ⟨I.ok,I.os,I.bare,⟨fun b o e n hb hx=>?_,fun b o e n hb hx=>?_,I.base.free,fun b o e hx=>?_,I.base.jI,I.base.xD,I.base.y3⟩,⟨_,B6,fun j y v' e1 e2 e3=>?_⟩,fun y c e=>?_,I.free,I.uk,fun p hp=>?_,tracked ⟨oL,wt,I.free⟩ hs,by simpa using I.len⟩ ⟨_,hs,.inl rfl⟩
  ·exact(hs.2 b (fo (nS (dQ e) I.ok.above))).trans (I.base.keep b o e n hb hx)
  ·obtain⟨sl,e1⟩:=I.base.slot b o e n hb hx
   exact⟨sl,(hs.2 b (fo (nS (dQ e) I.ok.above))).trans e1⟩
  ·obtain⟨o',e1⟩:=I.base.there b o e hx
   exact⟨o',(hs.2 b (fo (nS (dQ e) I.ok.above))).trans e1⟩
  ·by_cases hj:j=i
   ·subst hj
    rw[hi] at e1;cases e1
    rw[Rr VH] at e2
    cases e2
    exact⟨u,r,.inl ⟨hk,by simp⟩⟩
   ·rw[LG (Ne.symm hj)] at e2
    obtain⟨u',r',q⟩:=hl j y v' e1 e2 e3
    refine⟨u',r',?_⟩
    rcases q with⟨k,e⟩|⟨k,c,e,z⟩
    ·refine .inl ⟨k,?_⟩
     have:y≠x:=fun e=>hj (VF hN e1 (e ▸ hi))
     simp[this,e]
    ·exact .inr ⟨k,c,e,z.sameBut hs (Ee y c e)⟩
  ·obtain⟨w',z⟩:=I.cell y c e
   exact⟨w',z.sameBut hs (Ee y c e)⟩
  ·obtain⟨e,n,ne,nf,d⟩:=I.pin p hp
   exact⟨(hs.2 p.1 ne).trans e,n,ne,nf,d⟩
 ·have R0:X.fn x=true:=by
   rcases hf with z|z
   ·exact z
   ·rw[z] at hk;cases hk
  obtain⟨c,hc⟩:=I.ok.has x (.inl hk)
  obtain⟨w',z⟩:=I.cell x c hc
  refine wpAny_storeName_cell I.ok.kind hk hc z (fun h' EA hs=>?_)
  obtain⟨oc,PR,ZS⟩:=id z
  refine h { s with heap:=h' } ⟨I.ok,I.os,I.bare,⟨fun b o e n hb hx=>?_,fun b o e n hb hx=>?_,I.base.free,fun b o e hx=>?_,I.base.jI,I.base.xD,I.base.y3⟩,⟨m,hn.sameBut hs (Ne.symm (Ee x c hc)),fun j y v' e1 e2 e3=>?_⟩,fun y c' e=>?_,I.free,I.uk,fun p hp=>?_,tracked ⟨oc,PR,I.uk x c hc⟩ hs,by simpa using I.len⟩ ⟨c,hs,.inr hc⟩
  ·exact(hs.2 b (fo (nS (dQ e) (I.ok.L4 x c R0 hc)))).trans (I.base.keep b o e n hb hx)
  ·obtain⟨sl,e1⟩:=I.base.slot b o e n hb hx
   exact⟨sl,(hs.2 b (fo (nS (dQ e) (I.ok.L4 x c R0 hc)))).trans e1⟩
  ·obtain⟨o',e1⟩:=I.base.there b o e hx
   exact⟨o',(hs.2 b (fo (nS (dQ e) (I.ok.L4 x c R0 hc)))).trans e1⟩
  ·by_cases hj:j=i
   ·subst hj
    rw[hi] at e1;cases e1
    rw[Rr VH] at e2
    cases e2
    exact⟨u,r,.inr ⟨.inl hk,c,hc,EA⟩⟩
   ·rw[LG (Ne.symm hj)] at e2
    obtain⟨u',r',q⟩:=hl j y v' e1 e2 e3
    refine⟨u',r',?_⟩
    rcases q with q|⟨k,c',e,z'⟩
    ·exact .inl q
    ·refine .inr ⟨k,c',e,z'.sameBut hs ?_⟩
     rintro rfl
     exact hj (VF hN e1 (I.ok.inj _ _ _ e hc ▸ hi))
  ·by_cases GW:c'=c
   ·subst GW;exact⟨_,EA⟩
   ·obtain⟨w2,z2⟩:=I.cell y c' e
    exact⟨w2,z2.sameBut hs GW⟩
  ·obtain⟨e,n,ne,nf,d⟩:=I.pin p hp
   refine⟨(hs.2 p.1 ?_).trans e,n,ne,nf,d⟩
   intro q
   rw[q,PR] at e
   have q':oc=p.2:=Option.some.inj e
   exact d w' (by rw[<- q'];exact ZS)
theorem VL(I:Inv X pins σ H s)(hN:X.N.Nodup)(hi:X.N[i]? = some x)(hx:Loc X.env.scope x)(r:RelV v u)
  (h:∀ s',Inv X pins (σ.set i (some v)) H s'->Q () s') (hf:X.fn x=true\/X.env.scope.names.lookup x=some .local:=by first|exact .inl rfl|exact .inr rfl|assumption):wpAny M A (storeName X.env x u) Q E s :=
 VG I hN hi hx r (fun s' I' _=>h s' I') hf
theorem Inv.ZT(I:Inv X pins σ H s)(ho:s'.os=s.os)(u:Un (xE X.stack) ch H H' s.heap s'.heap)(bq:hJ X.prog X.w H' s'.heap)(hg:AllBare s'.gens)
  (wq:∀ b∈ch,(b∈X.ex\/X.kg.heap.objs.size<=b)/\b≠X.env.locals/\(∀ x c,X.env.cells.lookup x=some c->c≠b)/\∀ p∈X.pn++pins,p.1≠b):Inv X pins σ H' s':=by
 obtain⟨h',g',d',t',o'⟩:=s'
 have e:o'=s.os:=ho
 subst e
 exact I.call (g':=g') (t':=t') (d':=d') u bq hg wq
end
abbrev XK:=Value->Option Addr->Hp->Prop
abbrev St:=List (Option V)
abbrev VK:=V->Hp->Prop
abbrev TE:=St->Hp->VK->Prop
abbrev TT:=St->Hp->(Bool->Hp->Prop)->Prop
abbrev TA:=St->Hp->(List V->Hp->Prop)->Prop
structure Ends where
 nx:St->Hp->Prop
 rt:VK
 bk:St->Hp->Prop:=fun _ _=>False
 ct:St->Hp->Prop:=fun _ _=>False
abbrev TS:=Ends->St->Hp->Prop
def EP(X:Cx)(pins:List (Addr × Obj))(σ:St)(Q:VK)(u:Value)(s':Shared):Prop:=∃ v H',Inv X pins σ H' s'/\RelV v u/\Q v H'
def TP(X:Cx)(pins:List (Addr × Obj))(σ:St)(Q:Bool->Hp->Prop)(b:Bool)(s':Shared):Prop:=∃ H',Inv X pins σ H' s'/\Q b H'
def AP(X:Cx)(pins:List (Addr × Obj))(σ:St)(Q:List V->Hp->Prop)(us:List Value)(s':Shared):Prop:=∃ vs H',Inv X pins σ H' s'/\Vals vs us/\Q vs H'
def SP(X:Cx)(pins:List (Addr × Obj))(D:Ends)(f:Flow)(s':Shared):Prop :=
 match f with
 |.next=>∃ bp H',Inv X pins bp H' s'/\D.nx bp H'
 |.brk=>∃ bp H',Inv X pins bp H' s'/\D.bk bp H'
 |.cont=>∃ bp H',Inv X pins bp H' s'/\D.ct bp H'
 |.ret u=>∃ v bp H',Inv X pins bp H' s'/\RelV v u/\D.rt v H'
def PE(X:Cx)(e:Expr)(t:TE):Prop :=
 ∀ (pins:List (Addr × Obj)) (s:Shared) (σ:St) (H:Hp) (Q:VK),Inv X pins σ H s->t σ H Q->wpAny (model X.prog X.w) X.A (eval e X.env) (EP X pins σ Q) X.xe s
def PT(X:Cx)(e:Expr)(t:TT):Prop :=
 ∀ (pins:List (Addr × Obj)) (s:Shared) (σ:St) (H:Hp) (Q:Bool->Hp->Prop),Inv X pins σ H s->t σ H Q->wpAny (model X.prog X.w) X.A (isTrue e X.env (eval e X.env)) (TP X pins σ Q) X.xe s
def PW(X:Cx)(e:Expr)(t:TT):Prop :=
 ∀ (whole:Sem Value) (pins:List (Addr × Obj)) (s:Shared) (σ:St) (H:Hp) (Q:Bool->Hp->Prop),Inv X pins σ H s->t σ H Q->wpAny (model X.prog X.w) X.A (isTrue e X.env whole) (TP X pins σ Q) X.xe s
def PA(X:Cx)(es:List Expr)(t:TA):Prop :=
 ∀ (pos:Pos) (pins:List (Addr × Obj)) (s:Shared) (σ:St) (H:Hp) (Q:List V->Hp->Prop),Inv X pins σ H s->t σ H Q->wpAny (model X.prog X.w) X.A (spliced (backTo pos (starEach es X.env))) (AP X pins σ Q) X.xe s
def PS(X:Cx)(st:Stmt)(t:TS):Prop :=
 ∀ (pins:List (Addr × Obj)) (s:Shared) (σ:St) (H:Hp) (D:Ends),Inv X pins σ H s->t D σ H->wpAny (model X.prog X.w) X.A (exec st X.env) (SP X pins D) X.xe s
def lI(X:Cx)(st:List Stmt)(t:TS):Prop :=
 ∀ (pins:List (Addr × Obj)) (s:Shared) (σ:St) (H:Hp) (D:Ends),Inv X pins σ H s->t D σ H->wpAny (model X.prog X.w) X.A (execs st X.env) (SP X pins D) X.xe s
theorem ck{α:Type}{t:Sem α}{Q Q':α->Shared->Prop}{M:Model}{A:Around}{E:Value->Shared->Prop}{s:Shared}(h:wpAny M A t Q E s)(hQ:∀ a s,Q a s->Q' a s):wpAny M A t Q' E s:=sP h hQ fun _ _ x=>x
section
variable {X:Cx}
def B7(i:Nat):TE:=fun σ H Q=>∃ v,σ[i]? = some (some v)/\Q v H
def tC(v:V):TE:=fun _ H Q=>Q v H
theorem VM (hN:X.N[i]? = some x) (hv:PK X.env.scope x) (hd:(x == ("__debug__" : Str))=false:=by decide) (rp:(x == ("__classdict__" : Str))=false:=by decide):PE X (.Name x pos) (B7 i):=by
 intro pins s σ H Q I h
 obtain⟨v,e,h⟩:=h
 obtain⟨m,hn,hl⟩:=I.loc
 obtain⟨u,r,l⟩:=hl i x v hN e hv
 have fin:EP X pins σ Q u s:=⟨v,H,I,r,h⟩
 rcases l with⟨hk,hm⟩|⟨hk,c,hc,VN⟩
 ·exact wpAny_Name (wpAny_loadName_local I.ok.kind hk hn hm fin) hd
 ·rcases hk with hk|hk
  ·exact wpAny_Name (wpAny_loadName_cell I.ok.kind hk hc VN fin) hd
  ·exact wpAny_Name (wpAny_loadName_free I.ok.kind hk hc VN fin rp) hd
theorem ZU{i j pos}:PE X (.Constant (.int i) j pos) (tC (.int i)):=fun _ _ _ H _ I h=>wpAny_Constant_int ⟨.int i,H,I.tok _,⟨_,rfl⟩,h⟩
theorem ZV{b j pos}:PE X (.Constant (.bool b) j pos) (tC (.bl b)):=fun _ _ _ H _ I h=>Constant_bool ⟨.bl b,H,I,rfl,h⟩
theorem ZW{j pos}:PE X (.Constant .none j pos) (tC .non):=fun _ _ _ H _ I h=>Constant_none ⟨.non,H,I,rfl,h⟩
theorem ZX{x j pos}:PE X (.Constant (.str x) j pos) (tC (.str x)):=fun _ _ _ H _ I h=>Calls.Constant_str ⟨.str x,H,I.tok _,⟨_,rfl⟩,h⟩
def Gl(X:Cx)(x:Str):Prop:=X.env.kindOf x=some .globalImplicit
theorem ZY(I:Inv X pins σ H s)(hg:Gl X x)(hm:X.mg x=some u)(h:Q u s)
  (hd:(x == ("__debug__" : Str))=false:=by decide):wpAny (model X.prog X.w) X.A (eval (.Name x pos) X.env) Q E s :=
 Calls.Name_function_global I.ok.kind hg (Calls.loadGlobal_global (by rw[I.ok.glob];exact I.mod.glob.keeps I.bk) hm h) hd
theorem GY(I:Inv X pins σ H s)(hg:Gl X x)(hm:X.mg x=none)(hv:bootBuiltins x=some u)(h:Q u s)
  (hn:x ≠ "__name__" := by decide) (hd:(x == ("__debug__" : Str))=false:=by decide):wpAny (model X.prog X.w) X.A (eval (.Name x pos) X.env) Q E s:=by
 obtain⟨mb,h1,h2⟩:=I.mod.blt
 exact Calls.Name_function_global I.ok.kind hg (Calls.loadGlobal_builtin (by rw[I.ok.glob];exact I.mod.glob.keeps I.bk) hm (by rw[I.ok.blt];exact h1.keeps I.bk) ((h2 x hn).trans hv) h) hd
theorem ZZ (hg:Gl X x) (hm:X.mg x=none) (hv:bootBuiltins x=some u) (r:RelV v u) (hn:x ≠ "__name__" := by decide) (hd:(x == ("__debug__" : Str))=false:=by decide):PE X (.Name x pos) (tC v) :=
 fun _ _ _ H _ I h=>GY I hg hm hv ⟨v,H,I,r,h⟩ hn hd
variable {a b:Expr}{ta tb:TE}{pos:Pos}
def tB(t:TE):TT:=fun σ H Q=>t σ H fun x H1=>∃ c,x=.bl c/\Q c H1
theorem Z0(h:PE X e t)(he:∀ whole,isTrue e X.env whole=(do let v <- whole;standAt e.pos;holding [v] (truthy v)):=by intro _;rfl):PT X e (tB t):=by
 intro pins s σ H Q I hw
 refine isTrue_plain (ck (h pins s σ H _ I hw) fun v s1 cx=>L2.gu cx fun x H1 I1 r1 q1=>?_) (he _)
 obtain⟨d,rfl,q⟩:=q1
 cases r1
 exact wpAny_truthy_bool ⟨H1,I1,q⟩
variable {tA PX:TT}{rest:List Expr}
def Z1(t u:TT):TT:=fun σ H Q=>t σ H fun c H1=>if c=true then u σ H1 Q else Q false H1
def Z2(t u:TT):TT:=fun σ H Q=>t σ H fun c H1=>if c=true then Q true H1 else u σ H1 Q
def Z3(t:TT):TT:=fun σ H Q=>t σ H fun c H1=>Q (!c) H1
theorem pw_and1(ha:PT X a tA):PW X (.BoolOp .And [a] pos) tA:=by
 intro wh pins s σ H Q I h
 refine isTrue_and (ck (ha pins s σ H Q I h) fun c s1 e=>?_)
 cases c with
 |true=>exact isTrue_and_nil e
 |false=>exact e
theorem pw_or1(ha:PT X a tA):PW X (.BoolOp .Or [a] pos) tA:=by
 intro wh pins s σ H Q I h
 refine isTrue_or (ck (ha pins s σ H Q I h) fun c s1 e=>?_)
 cases c with
 |false=>exact isTrue_or_nil e
 |true=>exact e
theorem pw_and(ha:PT X a tA)(hb:PW X (.BoolOp .And (b :: rest) pos) PX):PW X (.BoolOp .And (a :: b :: rest) pos) (Z1 tA PX):=by
 intro wh pins s σ H Q I h
 refine isTrue_and (ck (ha pins s σ H _ I h) fun c s1 cS=>?_)
 obtain⟨H1,I1,q1⟩:=cS
 cases c with
 |true=>exact hb wh pins s1 σ H1 Q I1 q1
 |false=>exact⟨H1,I1,q1⟩
theorem pw_or(ha:PT X a tA)(hb:PW X (.BoolOp .Or (b :: rest) pos) PX):PW X (.BoolOp .Or (a :: b :: rest) pos) (Z2 tA PX):=by
 intro wh pins s σ H Q I h
 refine isTrue_or (ck (ha pins s σ H _ I h) fun c s1 cS=>?_)
 obtain⟨H1,I1,q1⟩:=cS
 cases c with
 |true=>exact⟨H1,I1,q1⟩
 |false=>exact hb wh pins s1 σ H1 Q I1 q1
theorem Z4(ha:PT X a tA):PT X (.UnaryOp .Not a pos) (Z3 tA):=by
 intro pins s σ H Q I h
 exact isTrue_not (ha pins s σ H (fun c H1=>Q (!c) H1) I h)
def Z5(ta tb:TE):TE:=fun σ H Q=>ta σ H fun x H1=>∃ c,x=.bl c/\if c=true then tb σ H1 Q else Q (.bl false) H1
theorem Z6{op}(h:PE X a t):PE X (.BoolOp op [a] pos) t:=fun pins s σ H Q I hw=>BoolOp_one (h pins s σ H Q I hw)
theorem Z7(ha:PE X a ta)(hb:PE X (.BoolOp .And (b :: rest) pos) tb):PE X (.BoolOp .And (a :: b :: rest) pos) (Z5 ta tb):=by
 intro pins s σ H Q I h
 refine BoolOp_and (ck (ha pins s σ H _ I h) fun v s1 cx=>L2.gu cx fun x H1 I1 r1 q1=>?_)
 obtain⟨c,rfl,q1⟩:=q1
 cases r1
 refine wpAny_truthy_bool ?_
 cases c with
 |true=>exact hb pins s1 σ H1 Q I1 q1
 |false=>exact⟨.bl false,H1,I1,rfl,q1⟩
end
def eL(K:PySem.W.Frag)(H:Hp)(a:Addr)(xs:List V):Prop :=
 Rd H a (.lst xs) \/
  ∃ (o:Obj) (its:Array Value) (n:Nat),K.lookup a=some o/\o.cls=.type "list"/\o.dict=none/\o.data=.seq its n/\its.size<=sizeLine/\Vals xs its.toList
def nX(K:PySem.W.Frag)(H:Hp)(a:Addr)(xs:List V):Prop :=
 Rd H a (.tup xs) \/
  ∃ (o:Obj) (its:Array Value) (n:Nat),K.lookup a=some o/\o.cls=.type "tuple"/\o.data=.seq its n/\its.size<=sizeLine/\Vals xs its.toList
def Z8:Value->Option V
 |.none=>some .non
 |.bool b=>some (.bl b)
 |.int i _=>some (.int i)
 |.str x _=>some (.str x)
 |.bytes b _=>some (.rj b)
 |.float b _=>some (.AQ b)
 |.ref a=>some (.ref a)
 |.type n=>some (.ty n)
 |_=>none
theorem RelV.abs(r:RelV x u):Z8 u=some x:=by
 cases x with
 |non=>cases r;rfl
 |bl _=>cases r;rfl
 |int _=>obtain⟨t,rfl⟩:=r;rfl
 |str _=>obtain⟨t,rfl⟩:=r;rfl
 |rj _=>obtain⟨t,rfl⟩:=r;rfl
 |AQ _=>obtain⟨t,rfl⟩:=r;rfl
 |ref _=>cases r;rfl
 |ty _=>cases r;rfl
theorem RelV.inj(r:RelV x u)(q:RelV y u):x=y:=Option.some.inj (r.abs.symm.trans q.abs)
theorem Vals.inj:∀ {xs ys:List V} {us:List Value},Vals xs us->Vals ys us->xs=ys
 |_,_,_,.nil,.nil=>rfl
 |_,_,_,.cons r t,.cons r' t'=>by rw[r.inj r',Vals.inj t t']
section
variable {X:Cx}{pins:List (Addr × Obj)}{σ:St}{H:Hp}{s:Shared}{a:Addr}{xs ys:List V}
theorem Inv.list(I:Inv X pins σ H s)(h:eL X.K H a xs):∃ its:List Value,Vals xs its/\PlainL s.heap a its.toArray/\xs.length<=sizeLine:=by
 rcases h with h|⟨o,its,n,hk,hc,hd,hs,hz,r⟩
 ·obtain⟨z,its,n,r,e⟩:=h.ok I.bq
  exact⟨its,r,⟨_,n,e,rfl,rfl,rfl⟩,z⟩
 ·refine⟨its.toList,r,⟨o,n,I.ki a o hk,hc,hd,by simpa using hs⟩,?_⟩
  have e:=r.length
  simp only[xA] at e
  lia
theorem Inv.tuple(I:Inv X pins σ H s)(h:nX X.K H a xs):∃ its:List Value,Vals xs its/\IsTup s.heap a its.toArray/\xs.length<=sizeLine:=by
 rcases h with h|⟨o,its,n,hk,hc,hs,hz,r⟩
 ·obtain⟨z,its,r,p⟩:=h.ok I.bq
  exact⟨its,r,p,z⟩
 ·refine⟨its.toList,r,⟨o,I.ki a o hk,hc,n,by simpa using hs⟩,?_⟩
  have e:=r.length
  simp only[xA] at e
  lia
theorem Inv.Z9(I:Inv X pins σ H s)(h:eL X.K H a xs)(h':eL X.K H a ys):xs=ys:=by
 obtain⟨its,r,⟨o,n,e,_,_,d⟩,_⟩:=I.list h
 obtain⟨its',r',⟨o',n',e',_,_,d'⟩,_⟩:=I.list h'
 rw[e] at e';cases e'
 rw[d] at d'
 injection d' with d1 _
 have:its=its':=by simpa using congrArg Array.toList d1
 subst this
 exact r.inj r'
end
abbrev Cx.wish(X:Cx)(E:Value->Shared->Prop):Cx:={ X with xe:=E }
abbrev Cx.L8(X:Cx):Cx:=X.wish fun _ _=>False
theorem Cx.Ok.wish{X:Cx}(ok:X.Ok)(E:Value->Shared->Prop):(X.wish E).Ok :=
 ⟨ok.mod,ok.kind,ok.glob,ok.blt,ok.above,ok.inj,ok.has,ok.L4,ok.hd,ok.frames,ok.PL,ok.PN,ok.bs,ok.B5,ok.L5,ok.L6,ok.xI,ok.GV⟩
theorem Cx.Ok.B8{X:Cx}(ok:(X.wish E).Ok):X.Ok :=
 ⟨ok.mod,ok.kind,ok.glob,ok.blt,ok.above,ok.inj,ok.has,ok.L4,ok.hd,ok.frames,ok.PL,ok.PN,ok.bs,ok.B5,ok.L5,ok.L6,ok.xI,ok.GV⟩
section
variable {X:Cx}{pins:List (Addr × Obj)}{σ:St}{H:Hp}{s:Shared}{E:Value->Shared->Prop}
theorem Inv.wish(I:Inv X pins σ H s)(E:Value->Shared->Prop):Inv (X.wish E) pins σ H s:=⟨I.ok.wish E,I.os,I.bare,I.base,I.loc,I.cell,I.free,I.uk,I.pin,I.bq,I.len⟩
theorem Inv.B8(I:Inv (X.wish E) pins σ H s):Inv X pins σ H s:=⟨I.ok.B8,I.os,I.bare,I.base,I.loc,I.cell,I.free,I.uk,I.pin,I.bq,I.len⟩
theorem SP.B8{D:Ends}(h:SP (X.wish E) pins D f s'):SP X pins D f s':=by
 cases f with
 |next=>obtain⟨bp,H',I,q⟩:=h;exact⟨bp,H',I.B8,q⟩
 |brk=>obtain⟨bp,H',I,q⟩:=h;exact⟨bp,H',I.B8,q⟩
 |cont=>obtain⟨bp,H',I,q⟩:=h;exact⟨bp,H',I.B8,q⟩
 |ret u=>obtain⟨v,bp,H',I,r,q⟩:=h;exact⟨v,bp,H',I.B8,r,q⟩
theorem lI.L8{st:List Stmt}(h:lI X.L8 st t):lI X st t:=fun pins s σ H D I hw =>
 sP (h pins s σ H D (I.wish _) hw) (fun _ _ q=>q.B8) fun _ _ z=>False.elim z
end
section
variable {X:Cx}{st:Stmt}{rest:List Stmt}{t u:TS}{e:Expr}{te:TE}{pos:Pos}
def Z_:TS:=fun D σ H=>D.nx σ H
def VP(t u:TS):TS:=fun D σ H=>t { D with nx:=u D } σ H
theorem aa':lI X [] Z_:=fun _ _ σ H _ I h=>wpAny_execs_nil ⟨σ,H,I,h⟩
theorem VQ(h1:PS X st t)(h2:lI X rest u):lI X (st :: rest) (VP t u):=by
 intro pins s σ H D I h
 refine wpAny_execs_cons (ck (h1 pins s σ H { D with nx:=u D } I h) fun f s1 q=>?_)
 cases f with
 |next =>
  obtain⟨bp,H',I',q⟩:=q
  exact h2 pins s1 bp H' D I' q
 |ret v=>exact q
 |brk=>exact q
 |cont=>exact q
theorem VR(h1:PS X st t):lI X [st] t:=by
 intro pins s σ H D I h
 refine wpAny_execs_cons (ck (h1 pins s σ H D I h) fun f s1 q=>?_)
 cases f with
 |next=>exact wpAny_execs_nil q
 |ret v=>exact q
 |brk=>exact q
 |cont=>exact q
theorem Inv.quiet(I:Inv X pins σ H s):interactive X.env=false:=by simp[interactive,I.ok.kind]
def ab'(te:TE):TS:=fun D σ H=>te σ H fun _ H1=>D.nx σ H1
theorem G0(he:PE X e te)(hs:swapsWith e none pos.line X.env=pure false:=by rfl):PS X (.Expr e pos) (ab' te):=by
 intro pins s σ H D I h
 exact wpAny_Expr_any (ck (he pins s σ H _ I h) fun v s1 cx=>L2.gu cx fun x H1 I1 r1 q1=>⟨σ,H1,I1,q1⟩) I.quiet hs
def ac'(te:TE):TS:=fun D σ H=>te σ H D.rt
theorem VS(he:PE X e te):PS X (.Return (some e) pos) (ac' te):=by
 intro pins s σ H D I h
 exact wpAny_Return_some (ck (he pins s σ H _ I h) fun v s1 cx=>L2.gu cx fun x H1 I1 r1 q1=>⟨x,σ,H1,I1,r1,q1⟩)
def ad'(c:TT)(t u:TS):TS:=fun D σ H=>c σ H fun b H1=>if b=true then t D σ H1 else u D σ H1
theorem ae'(hc:PT X c tc)(ha:lI X a t)(hb:lI X b u):PS X (.If c a b pos) (ad' tc t u):=by
 intro pins s σ H D I h
 refine wpAny_If (ck (hc pins s σ H _ I h) fun d s1 cS=>?_)
 obtain⟨H1,I1,q1⟩:=cS
 cases d with
 |true=>exact ha pins s1 σ H1 D I1 q1
 |false=>exact hb pins s1 σ H1 D I1 q1
def af':TS:=fun _ _ _=>False
theorem ag':lI X sts af':=fun _ _ _ _ _ _ h=>h.elim
end
abbrev TG:=V->St->Hp->(St->Hp->Prop)->Prop
abbrev He:=List V->St->Hp->(St->Hp->Prop)->Prop
def PG(X:Cx)(target:Expr)(t:TG):Prop :=
 ∀ (pins:List (Addr × Obj)) (s:Shared) (σ:St) (H:Hp) (v:V) (u:Value) (Q:St->Hp->Prop),Inv X pins σ H s->RelV v u->t v σ H Q ->
  wpAny (model X.prog X.w) X.A (assign target X.env u) (fun _ s'=>∃ bp H',Inv X pins bp H' s'/\Q bp H') X.xe s
def y6(X:Cx)(ts:List Expr)(t:He):Prop :=
 ∀ (pins:List (Addr × Obj)) (s:Shared) (σ:St) (H:Hp) (vs:List V) (us:List Value) (Q:St->Hp->Prop),Inv X pins σ H s->Vals vs us->t vs σ H Q ->
  wpAny (model X.prog X.w) X.A (assignInOrder ((assignEach ts X.env).map (·.2)) us) (fun _ s'=>∃ bp H',Inv X pins bp H' s'/\Q bp H') X.xe s
section
variable {X:Cx}{pos:Pos}
def R1(i:Nat):TG:=fun v σ H Q=>Q (σ.set i (some v)) H
theorem R3(hN:X.N.Nodup)(hi:X.N[i]? = some x)(hx:Loc X.env.scope x)(hf:X.fn x=true\/X.env.scope.names.lookup x=some .local:=by first|exact .inl rfl|exact .inr rfl|assumption):PG X (.Name x pos) (R1 i):=by
 intro pins s σ H v u Q I r h
 exact wpAny_assign_Name (VL I hN hi hx r (fun s' I'=>⟨_,H,I',h⟩) hf)
def ah':He:=fun vs σ H Q=>vs=[]/\Q σ H
def ai'(t:TG)(u:He):He:=fun vs σ H Q=>∃ v r,vs=v :: r/\t v σ H fun bp H'=>u r bp H' Q
theorem VW:y6 X [] ah':=by
 intro pins s σ H vs us Q I r h
 obtain⟨e,h⟩:=h
 subst e
 cases r
 exact assignInOrder_nil ⟨σ,H,I,h⟩
theorem R4(h1:PG X e t)(h2:y6 X es u)
  (hs:(assignEach (e :: es) X.env).map (·.2)=assign e X.env :: (assignEach es X.env).map (·.2):=by rfl):y6 X (e :: es) (ai' t u):=by
 intro pins s σ H vs us Q I r h
 obtain⟨v,vr,e1,h⟩:=h
 subst e1
 cases r with
 |cons r rr =>
  rw[hs]
  refine assignInOrder_cons (ck (h1 pins s σ H _ _ _ I r h) fun _ s1 cS=>?_)
  obtain⟨om,H1,I1,q1⟩:=cS
  exact h2 pins s1 om H1 _ _ Q I1 rr q1
def aj'(K:PySem.W.Frag)(n:Nat)(t:He):TG:=fun v σ H Q=>∃ a xs,v=.ref a/\nX K H a xs/\xs.length=n/\t xs σ H Q
theorem VX(hc:X.calm=true)(h:y6 X es t)
  (hn:(assignEach es X.env).length=n:=by rfl) (pV:(assignEach es X.env).findIdx? (·.1)=none:=by rfl):PG X (.Tuple es k pos) (aj' X.K n t):=by
 intro pins s σ H v u Q I r hw
 obtain⟨a,xs,e1,hq,hl,hw⟩:=hw
 subst e1
 cases r
 obtain⟨its,rv,ht,hz⟩:=I.tuple hq
 refine assign_Tuple_tuple (I.ok.hd hc) ht (by simp[hn,<- hl,rv.length]) pV fun h' hx=>?_
 have I1:Inv X pins σ H { s with heap:=h' }:=I.kept (t':=s.toks) fun b o e=>hx b o (fo (dQ e)) e
 exact h pins _ σ H xs _ Q I1 (by simpa using rv) hw
def R5(te:TE)(g:TG):TS:=fun D σ H=>te σ H fun x H1=>g x σ H1 D.nx
theorem ak'(he:PE X e te)(hg:PG X tg g)(hs:swapsWithSole [tg] e pos.line X.env=pure false:=by rfl)(hw:swappedStores [tg] e X.env=pure none:=by rfl)
  (h1:(assignEach [tg] X.env).map (·.2)=[assign tg X.env]:=by rfl):PS X (.Assign [tg] e pos) (R5 te g):=by
 intro pins s σ H D I h
 refine wpAny_Assign_stores (ck (he pins s σ H _ I h) fun v s1 cx=>L2.gu cx fun x H1 I1 r1 q1=>?_) hs hw
 rw[h1]
 exact ck (hg pins s1 σ H1 x v _ I1 r1 q1) fun _ s2 q=>q
theorem VY(hN:X.N.Nodup)(hi:X.N[i]? = some x)(hx:Loc X.env.scope x)(he:PE X e te)(hs:swapsWith e (some (.Name x pos')) pos.line X.env=pure false:=by rfl)(hf:X.fn x=true\/X.env.scope.names.lookup x=some .local:=by first|exact .inl rfl|exact .inr rfl|assumption) :
  PS X (.Assign [.Name x pos'] e pos) (R5 te (R1 i)):=by
 intro pins s σ H D I h
 refine wpAny_Assign_Name (ck (he pins s σ H _ I h) fun v s1 cx=>L2.gu cx fun y H1 I1 r1 q1=>?_) hs
 exact VL I1 hN hi hx r1 (fun s2 I2=>⟨_,H1,I2,q1⟩) hf
def al'(c:TT)(tb:TS):TS:=fun D σ H=>∃ W:Nat->St->Hp->Prop,(∃ m,W m σ H)/\∀ m σ H,W m σ H ->
 c σ H fun b H1=>if b=true then ∃ N:St->Hp->Prop,(∀ bp H',N bp H'->∃ m',m'<m/\W m' bp H')/\tb { D with nx:=N,ct:=N,bk:=D.nx } σ H1 else D.nx σ H1
theorem am'(hp:PassesOwn (model X.prog X.w) X.A X.env X.xe)(hc:PT X c tc)(hb:lI X body tb):PS X (.While c body [] pos) (al' tc tb):=by
 intro pins s σ H D I h
 obtain⟨W,⟨m0,w0⟩,turn⟩:=h
 refine wpAny_While (codeAny_whileLoop (fun n s'=>∃ bp H',Inv X pins bp H' s'/\W n bp H') ?_ m0 ⟨σ,H,I,w0⟩)
 rintro n s1 ⟨om,H1,I1,w1⟩
 refine wpAny_passesOwn hp (ck (hc pins s1 om H1 _ I1 (turn n om H1 w1)) fun b s2 cS=>?_)
 obtain⟨H2,I2,q2⟩:=cS
 cases b with
 |true =>
  obtain⟨N,hN,q2⟩:=q2
  rw[if_pos rfl]
  refine wpAny_passesOwn hp (ck (hb pins s2 om H2 _ I2 q2) fun f s3 q3=>?_)
  cases f with
  |next =>
   obtain⟨n4,H3,I3,n3⟩:=q3
   obtain⟨m',hm,w3⟩:=hN n4 H3 n3
   exact⟨m',hm,n4,H3,I3,w3⟩
  |cont =>
   obtain⟨n4,H3,I3,n3⟩:=q3
   obtain⟨m',hm,w3⟩:=hN n4 H3 n3
   exact⟨m',hm,n4,H3,I3,w3⟩
  |brk=>exact q3
  |ret v=>exact q3
 |false =>
  rw[if_neg gy]
  exact wpAny_execs_nil ⟨om,H2,I2,q2⟩
end
structure It where
 go:Nat->Hp->Prop
 nr:Nat->Hp->V->Hp->Prop
 stop:Nat->Hp->Prop
def y8(X:Cx)(pins:List (Addr × Obj))(H:Hp)(b:Addr):Prop :=
 H b=none/\b≠X.env.locals/\b∉X.fs/\(b∈X.ex\/X.kg.heap.objs.size<=b)/\(∀ x c,X.env.cells.lookup x=some c->c≠b)/\∀ p∈X.pn++pins,p.1≠b
theorem Inv.PY{X:Cx}(I:Inv X pins σ H s)(hb:s.heap.objs.size<=b)(hn:H' b=none):y8 X pins H' b:=by
 refine⟨hn,LV (nS I.lt hb),I.ZO hb,.inr (iO I.sz hb),fun x c e z=>?_,fun p hp z=>?_⟩
 ·obtain⟨v,q⟩:=I.cell x c e
  exact absurd (nS q.lt (by rw[z];exact hb)) (ti _)
 ·exact absurd (nS (dQ (I.pin p hp).1) (by rw[z];exact hb)) (ti _)
structure Turn(P:Program)(w:World)(K:PySem.W.Frag)(tg:Expr)(J:It)(fp:List Addr)(it:Addr)(tn:Nat->Heap->Prop):Prop where
 mem:it∈fp
 obj:∀ i h,tn i h->∀ b∈fp,∃ o,h.get? b=some o/\∀ v,o.data≠.cell v
 keep:∀ i h h',tn i h->(∀ b∈fp,∀ o,h.get? b=some o->h'.get? b=some o)->tn i h'
 item:∀ (X:Cx),X.prog=P->X.w=w->X.K=K->X.calm=true->∀ (i:Nat) (pins:List (Addr × Obj)) (s:Shared) (σ:St) (H:Hp) (E:Value->Shared->Prop),Inv X pins σ H s->(∀ b∈fp,y8 X pins H b)->tn i s.heap->J.go i H ->
  wpAny (model P w) X.A (pyNext (.ref it)) (fun r s1=>∃ u,r=some u /\
   wpAny (model P w) X.A (letOwnedTupleGo tg (.ref it) u) (fun _ s2=>∃ x H',Inv X pins σ H' s2/\RelV x u/\J.nr i H x H'/\tn (i+1) s2.heap/\∀ b∈fp,H' b=none) E s1) E s
 done:∀ (X:Cx),X.prog=P->X.w=w->X.K=K->X.calm=true->∀ (i:Nat) (pins:List (Addr × Obj)) (s:Shared) (σ:St) (H:Hp) (E:Value->Shared->Prop),Inv X pins σ H s->(∀ b∈fp,y8 X pins H b)->tn i s.heap->J.stop i H ->
  wpAny (model P w) X.A (pyNext (.ref it)) (fun r s1=>r=none/\Inv X pins σ H s1) E s
 self:∀ (A:Around) (i:Nat) (s:Shared) (Q:Value->Shared->Prop) (E:Value->Shared->Prop),tn i s.heap->Q (.ref it) s->wpAny (model P w) A (pyIter (.ref it)) Q E s
abbrev TI:=St->Hp->(It->Hp->Prop)->Prop
def R6(X:Cx)(pins:List (Addr × Obj))(σ:St)(tg:Expr)(R:It->Hp->Prop)(R7:Value)(s2:Shared):Prop :=
 ∃ (it:Addr) (fp:List Addr) (tn:Nat->Heap->Prop) (J:It) (H':Hp),R7=.ref it/\Inv X pins σ H' s2/\Turn X.prog X.w X.K tg J fp it tn/\tn 0 s2.heap/\(∀ b∈fp,y8 X pins H' b)/\R J H'
def PI(X:Cx)(tg iter:Expr)(wi:TI):Prop :=
 ∀ (pins:List (Addr × Obj)) (s:Shared) (σ:St) (H:Hp) (R:It->Hp->Prop),Inv X pins σ H s->wi σ H R ->
  wpAny (model X.prog X.w) X.A (eval iter X.env) (fun v s1=>wpAny (model X.prog X.w) X.A (pyIter v) (R6 X pins σ tg R) X.xe s1) X.xe s
theorem R8(ho:s.heap.get? it=some o)(hc:o.cls=.type n)(hd:o.data=.fields vs)
  (hn:["enumerate", "zip", "dict_itemiterator", "dict_reverseitemiterator", "odict_iterator", "itertools.zip_longest", "itertools.pairwise"].contains n=false) (hQ:Q () s):wpAny M A (letOwnedTupleGo tg (.ref it) u) Q E s:=by
 unfold letOwnedTupleGo
 cases tg<;>first
  |exact aS hQ
  | (cases u<;>first
     |exact aS hQ
     | (refine ai (wpAny_load ho ?_)
        rw[hc,hd]
        show wpAny M A (if (["enumerate", "zip", "dict_itemiterator", "dict_reverseitemiterator", "odict_iterator", "itertools.zip_longest", "itertools.pairwise"].contains n && vs[0]? == some (rawInt _))=true then _ else _) Q E s
        rw[if_neg (by intro h;rw[hn,Bool.false_and] at h;cases h)]
        exact aS hQ))
def PZ(K:PySem.W.Frag)(a:Addr):It :=
 ⟨fun i H=>∃ xs x,eL K H a xs/\xs[i]? = some x,fun i H x H'=>H'=H/\∀ xs,eL K H a xs->xs[i]? = some x,fun i H=>∃ xs,eL K H a xs/\xs.length<=i⟩
def HC(lo:Int)(n:Nat):It:=⟨fun i _=>i<n,fun i H x H'=>H'=H/\x=.int (lo+i),fun i _=>n<=i⟩
theorem an'{P:Program}{K:PySem.W.Frag}(a it:Addr):Turn P w K tg (PZ K a) [it] it (fun i h=>h.IsListIter it a i) where
 mem:=by simp
 obj:=fun i h st b hb=>by
  have e:b=it:=by simpa using hb
  subst e
  obtain⟨o,e,c,d⟩:=st
  exact⟨o,e,fun v z=>by rw[d] at z;cases z⟩
 keep:=fun i h h' st k=>st.at fun o e=>k it (by simp) o e
 item:=by
  intro X hP hw hK hc i pins s σ H E I hf st hg
  subst hP hw hK
  obtain⟨xs,x,hq,hx⟩:=hg
  obtain⟨its,rv,p,hz⟩:=I.list hq
  obtain⟨u,hu,ru⟩:=rv.get hx
  obtain⟨f0,f1,f2,f3,f4,f5⟩:=hf it (by simp)
  refine wpAny_pyNext_list_item st p.isList (x:=u) (by simpa using hu) fun h' ah sb=>?_
  have I1:Inv X pins σ H { s with heap:=h' }:=I.turned (t':=s.toks) (fun b o hb e=>(sb.2 b hb).trans e) f0 f1 f3 f4 f5
  obtain⟨o,e,c,d⟩:=id ah
  exact⟨u,rfl,R8 (s:={ s with heap:=h' }) e c d (by decide) ⟨x,H,I1,ru,⟨rfl,fun ys hy=>by rw[I.Z9 hy hq];exact hx⟩,ah,fun b hb=>(hf b hb).1⟩⟩
 done:=by
  intro X hP hw hK hc i pins s σ H E I hf st hg
  subst hP hw hK
  obtain⟨xs,hq,hx⟩:=hg
  obtain⟨its,rv,p,hz⟩:=I.list hq
  obtain⟨f0,f1,f2,f3,f4,f5⟩:=hf it (by simp)
  have hl:=rv.length
  exact wpAny_pyNext_list_end (I.ok.hd hc) st p.isList (by simp;lia) fun h' eb=>⟨rfl,I.turned (t':=s.toks) (fun b o hb e=>eb b o hb e) f0 f1 f3 f4 f5⟩
 self:=fun _ _ _ _ _ st h=>wpAny_pyIter_listiter st h
theorem ao'{P:Program}{K:PySem.W.Frag}(it:Addr)(lo:Int)(n:Nat):Turn P w K tg (HC lo n) [it] it (fun i h=>IsRangeIter h it (lo+(i:Nat)*1) ((n:Int)-(i:Nat)) 1) where
 mem:=by simp
 obj:=fun i h st b hb=>by
  have e:b=it:=by simpa using hb
  subst e
  exact⟨_,st,fun v z=>by
   have z':Data.fields _=Data.cell v:=z
   cases z'⟩
 keep:=fun i h h' st k=>k it (by simp) _ st
 item:=by
  intro X hP hw hK hc i pins s σ H E I hf st hg
  subst hP hw hK
  obtain⟨f0,f1,f2,f3,f4,f5⟩:=hf it (by simp)
  have W:=Walks.range (prog:=X.prog) (w:=X.w) (I.ok.hd hc) it lo 1 n
  refine W.item i s _ _ hg st fun v h' tk hv ah kk=>?_
  obtain⟨t,rfl⟩:=hv
  have I1:Inv X pins σ H { s with heap:=h',toks:=tk }:=I.turned (fun b o hb e=>kk b o (by simpa using hb) e) f0 f1 f3 f4 f5
  refine⟨_,rfl,R8 (s:={ s with heap:=h',toks:=tk }) (n := "range_iterator") ah rfl rfl (by decide) ⟨.int (lo+i),H,I1,⟨t,?_⟩,⟨rfl,rfl⟩,ah,fun b hb=>(hf b hb).1⟩⟩
  rw[Int.mul_one]
 done:=by
  intro X hP hw hK hc i pins s σ H E I hf st hg
  subst hP hw hK
  obtain⟨f0,f1,f2,f3,f4,f5⟩:=hf it (by simp)
  exact wpAny_pyNext_range_end (I.ok.hd hc) st (by have:n<=i:=hg;lia) fun h' eb=>⟨rfl,I.turned (t':=s.toks) (fun b o hb e=>eb b o hb e) f0 f1 f3 f4 f5⟩
 self:=fun _ _ _ _ _ st h=>wpAny_pyIter_rangeiter st h
section
variable {X:Cx}{tg:Expr}
def ap'(K:PySem.W.Frag)(tl:TE):TI:=fun σ H R=>tl σ H fun x H1=>∃ a,x=.ref a/\(∃ xs,eL K H1 a xs)/\R (PZ K a) H1
theorem VZ(hl:PE X l tl):PI X tg l (ap' X.K tl):=by
 intro pins s σ H R I h
 refine ck (hl pins s σ H _ I h) fun v s1 cx=>L2.gu cx fun x H1 I1 r1 q1=>?_
 obtain⟨a,e,⟨xs,hq⟩,q⟩:=q1
 subst e
 cases r1
 obtain⟨its,rv,p,hz⟩:=I1.list hq
 refine wpAny_pyIter_list p.isList ?_
 refine⟨s1.heap.objs.size,[s1.heap.objs.size],_,_,H1,rfl,I1.kept (t':=s1.toks) fun b o e=>eW _ e,an' a _,⟨_,jv _ rfl,rfl,rfl⟩,fun b hb=>?_,q⟩
 have e:b=s1.heap.objs.size:=by simpa using hb
 subst e
 exact I1.PY (bX _) (I1.bq.fresh (bX _))
theorem aq'{R:It->Hp->Prop}{lo hi:Int}(I:Inv X pins σ H s)(h1:-(2 ^ 62)<=lo)(h2:lo<2 ^ 62)(h3:-(2 ^ 62)<=hi)(h4:hi<2 ^ 62)
  (q:R (HC lo (hi-lo).toNat) H):wpAny (model X.prog X.w) X.A (pyIter (.ref s.heap.objs.size)) (R6 X pins σ tg R) E { s with heap:=s.heap.push { cls:=.type "range",data:=.fields #[.int lo t,.int hi u,.int 1 v] },toks:=tk }:=by
 refine wpAny_pyIter_range (IsRange.new ..) (small_one h1 h2 h3 h4) ?_
 have I1:Inv X pins σ H { s with heap:=s.heap.push { cls:=.type "range",data:=.fields #[.int lo t,.int hi u,.int 1 v] },toks:=tk }:=I.kept fun b o e=>eW _ e
 refine⟨(s.heap.push { cls:=.type "range",data:=.fields #[.int lo t,.int hi u,.int 1 v] }).objs.size,[(s.heap.push { cls:=.type "range",data:=.fields #[.int lo t,.int hi u,.int 1 v] }).objs.size],_,_,H,rfl,
  I1.kept (t':=tk) fun b o e=>eW _ e,ao' _ lo (hi-lo).toNat,?_,fun b hb=>?_,q⟩
 ·have e1:lo+((0:Nat):Int)*1=lo:=by simp
  have e2:(((hi-lo).toNat:Nat):Int)-((0:Nat):Int)=Builtin.Range.rangeSize lo hi 1:=by rw[rangeSize_one];split<;>lia
  show IsRangeIter _ _ (lo+((0:Nat):Int)*1) ((((hi-lo).toNat:Nat):Int)-((0:Nat):Int)) 1
  rw[e1,e2]
  exact jv _ rfl
 ·have e:b=(s.heap.push { cls:=.type "range",data:=.fields #[.int lo t,.int hi u,.int 1 v] }).objs.size:=by simpa using hb
  subst e
  exact I1.PY (bX _) (I1.bq.fresh (bX _))
def ar'(ta:TA):TI:=fun σ H R=>ta σ H fun vs H1=>∃ j:Int,vs=[.int j]/\-(2 ^ 62)<=j/\j<2 ^ 62/\R (HC 0 j.toNat) H1
theorem au' (hg:Gl X "range") (hm:X.mg "range" = none) (ha:PA X [a] ta) (hs:starEach [a] X.env=[(false,eval a X.env)]:=by rfl):PI X tg (.Call (.Name "range" p) [a] [] pos) (ar' ta):=by
 intro pins s σ H R I h
 refine Call_ (GY I hg hm boot_range (PyProof.Rows.callWith_type1 (ck (ha pos pins s σ H _ I h) fun us s1 cx=>L2.gu cx fun vs H1 I1 r1 q1=>?_) hs rfl))
 obtain⟨j,e,q1,q2,q⟩:=q1
 subst e
 cases r1 with
 |cons r rr =>
  cases rr
  obtain⟨t,rfl⟩:=r
  exact call_range_1 (aq' I1 (by lia) (by lia) q1 q2 (by simpa using q))
def V0(wi:TI)(g:TG)(tb:TS):TS:=fun D σ H=>wi σ H fun J H1=>∃ W:Nat->Nat->St->Hp->Prop,(∃ m,W 0 m σ H1)/\∀ i m σ H,W i m σ H ->
 (J.stop i H/\D.nx σ H)\/(J.go i H/\∃ N:St->Hp->Prop,(∀ bp H',N bp H'->∃ m',m'<m/\W (i+1) m' bp H')/\∀ x H',J.nr i H x H'->g x σ H' fun iP H2=>tb { D with nx:=N,ct:=N,bk:=D.nx } iP H2)
def L9(fp:List Addr)(h:Heap):List (Addr × Obj):=fp.filterMap fun b=>(h.get? b).map fun o=>(b,o)
theorem P0(hb:b∈fp)(e:h.get? b=some o):(b,o)∈L9 fp h:=Rx.mpr ⟨b,hb,by rw[e];rfl⟩
theorem av'(hp:p∈L9 fp h):p.1∈fp/\h.get? p.1=some p.2:=by
 obtain⟨b,hb,e⟩:=Rx.mp hp
 cases q:h.get? b with
 |none=>rw[q] at e;cases e
 |some o =>
  rw[q] at e
  have e':(b,o)=p:=Option.some.inj e
  subst e'
  exact⟨hb,q⟩
theorem Inv.pinned(I:Inv X pins σ H s)(hf:∀ b∈fp,y8 X pins H b)(ho:∀ b∈fp,∃ o,s.heap.get? b=some o/\∀ v,o.data≠.cell v):Inv X (pins++L9 fp s.heap) σ H s :=
 I.VD fun p hp=>(dP.mp hp).elim (fun z=>I.pin p (eT _ z)) fun z=>by
  obtain⟨hb,e⟩:=av' z
  obtain⟨f0,f1,f2,_⟩:=hf p.1 hb
  obtain⟨o,e',d⟩:=ho p.1 hb
  rw[e] at e';cases e'
  exact⟨e,f0,f1,f2,d⟩
theorem Inv.P1(I:Inv X (pins++pl) σ H s):Inv X pins σ H s:=I.VD fun p hp=>I.pin p (eT _ (kF _ hp))
theorem V1(hp:PassesOwn (model X.prog X.w) X.A X.env X.xe)(hc:X.calm=true)(hi:PI X tg iter wi)(hg:PG X tg g)(hb:lI X body tb)
  (hs:∀ x,foldedSetIterable iter X.env x=pure x:=by intro _;rfl):PS X (.For tg iter body [] pos) (V0 wi g tb):=by
 intro pins s σ H D I h
 refine wpAny_For (ck (hi pins s σ H _ I h) fun v s1 h1=>ck h1 fun R7 s2 h2=>?_) hs
 obtain⟨it,fp,tn,J,H2,e,I2,T,wx,f2,W,⟨m0,w0⟩,turn⟩:=h2
 subst e
 -- what stays true of the iterator's objects through the loop
 have stat:∀ {H':Hp},(∀ b∈fp,H' b=none)->∀ b∈fp,y8 X pins H' b:=fun hn b hb=>⟨hn b hb,(f2 b hb).2⟩
 refine codeAny_forLoop_any (fun n s'=>∃ i bp H',Inv X pins bp H' s'/\tn i s'.heap/\(∀ b∈fp,H' b=none)/\W i n bp H') ?_ m0 ⟨0,σ,H2,I2,wx,fun b hb=>(f2 b hb).1,w0⟩
 rintro n s3 ⟨i,n4,H3,I3,w4,V2,w3⟩
 rcases turn i n n4 H3 w3 with⟨stop,qn⟩|⟨go,N,hN,step⟩
 ·refine wpAny_passesOwn hp (ck (T.done X rfl rfl rfl hc i pins s3 n4 H3 X.xe I3 (stat V2) w4 stop) fun r s4 cS=>?_)
  obtain⟨hr,I4⟩:=cS
  subst hr
  exact wpAny_execs_nil ⟨n4,H3,I4,qn⟩
 ·refine wpAny_passesOwn hp (ck (T.item X rfl rfl rfl hc i pins s3 n4 H3 X.xe I3 (stat V2) w4 go) fun r s4 cS=>?_)
  obtain⟨u,hr,h4⟩:=cS
  subst hr
  refine wpAny_passesOwn hp (ck h4 fun _ s5 cS=>?_)
  obtain⟨x,H5,I5,r5,y5,EB,P4⟩:=cS
  have I5':=I5.pinned (stat P4) (T.obj _ _ EB)
  refine wpAny_passesOwn hp (ck (hg _ s5 n4 H5 x u _ I5' r5 (step x H5 y5)) fun _ s6 cS=>?_)
  obtain⟨σ6,H6,I6,q6⟩:=cS
  refine wpAny_passesOwn hp (ck (hb _ s6 σ6 H6 _ I6 q6) fun f s7 q7=>?_)
  have again:∀ {xS:St} {H7:Hp},Inv X (pins++L9 fp s5.heap) xS H7 s7->N xS H7->∃ m,m<n/\∃ i bp H',Inv X pins bp H' s7/\tn i s7.heap/\(∀ b∈fp,H' b=none)/\W i m bp H':=fun {xS H7} I7 n7=>by
   obtain⟨m',hm,w7⟩:=hN xS H7 n7
   refine⟨m',hm,i+1,xS,H7,I7.P1,T.keep _ _ _ EB fun b hb o e=>(I7.pin (b,o) (eT _ (eT _ (P0 hb e)))).1,fun b hb=>?_,w7⟩
   obtain⟨o,e,d⟩:=T.obj _ _ EB b hb
   exact(I7.pin (b,o) (eT _ (eT _ (P0 hb e)))).2.1
  cases f with
  |next=>obtain⟨xS,H7,I7,n7⟩:=q7;exact again I7 n7
  |cont=>obtain⟨xS,H7,I7,n7⟩:=q7;exact again I7 n7
  |brk=>obtain⟨xS,H7,I7,q7⟩:=q7;exact⟨xS,H7,I7.P1,q7⟩
  |ret v=>obtain⟨x7,xS,H7,I7,r7,q7⟩:=q7;exact⟨x7,xS,H7,I7.P1,r7,q7⟩
end
abbrev R2:=V->V->Hp->VK->Prop
def cE(X:Cx)(f:Value->Value->Sem Value)(r:R2):Prop :=
 ∀ (pins:List (Addr × Obj)) (s:Shared) (σ:St) (H:Hp) (x y:V) (v u:Value) (Q:VK),Inv X pins σ H s->RelV x v->RelV y u->r x y H Q ->
  wpAny (model X.prog X.w) X.A (f v u) (EP X pins σ Q) X.xe s
def P5(X:Cx)(f:Value->Sem Value)(r:V->Hp->VK->Prop):Prop :=
 ∀ (pins:List (Addr × Obj)) (s:Shared) (σ:St) (H:Hp) (x:V) (v:Value) (Q:VK),Inv X pins σ H s->RelV x v->r x H Q ->
  wpAny (model X.prog X.w) X.A (f v) (EP X pins σ Q) X.xe s
def kr(X:Cx)(f:Value)(r:List V->Hp->VK->Prop):Prop :=
 ∀ (pins:List (Addr × Obj)) (s:Shared) (σ:St) (H:Hp) (xs:List V) (us:List Value) (Q:VK),Inv X pins σ H s->Vals xs us->r xs H Q ->
  wpAny (model X.prog X.w) X.A (call f us) (EP X pins σ Q) X.xe s
def ay'(X:Cx)(r:V->Hp->(Bool->Hp->Prop)->Prop):Prop :=
 ∀ (pins:List (Addr × Obj)) (s:Shared) (σ:St) (H:Hp) (x:V) (v:Value) (Q:Bool->Hp->Prop),Inv X pins σ H s->RelV x v->r x H Q ->
  wpAny (model X.prog X.w) X.A (truthy v) (TP X pins σ Q) X.xe s
def Mb(r:R2)(ta tb:TE):TE:=fun σ H Q=>ta σ H fun x H1=>tb σ H1 fun y H2=>r x y H2 Q
def V3(r:V->Hp->VK->Prop)(ta:TE):TE:=fun σ H Q=>ta σ H fun x H1=>r x H1 Q
def rI(C:Int->Int->Prop)(g:Int->Int->V):R2:=fun x y H Q=>∃ i j,x=.int i/\y=.int j/\C i j/\Q (g i j) H
def EC(g:Int->Int->V):R2:=fun x y H Q=>∃ i j,x=.int i/\y=.int j/\Q (g i j) H
def rU(g:Int->V):V->Hp->VK->Prop:=fun x H Q=>∃ i,x=.int i/\Q (g i) H
section
variable {X:Cx}{a b:Expr}{ta tb:TE}{pos:Pos}
theorem R9(ha:PE X a ta)(hb:PE X b tb){pins:List (Addr × Obj)}{s:Shared}{σ:St}{H:Hp}{R:V->V->Hp->Prop}(I:Inv X pins σ H s)
  (h:ta σ H fun x H1=>tb σ H1 fun y H2=>R x y H2) {Q:Value->Shared->Prop} {f:Value->Value->Sem Value}
  (hf:∀ v u s2 x y H2,Inv X pins σ H2 s2->RelV x v->RelV y u->R x y H2->wpAny (model X.prog X.w) X.A (f v u) Q X.xe s2) :
  wpAny (model X.prog X.w) X.A (eval a X.env) (fun v eJ=>wpAny (model X.prog X.w) X.A (eval b X.env) (fun u ED=>wpAny (model X.prog X.w) X.A (f v u) Q X.xe ED) X.xe eJ) X.xe s:=by
 refine ck (ha pins s σ H _ I h) fun v s1 cx=>L2.gu cx fun x H1 I1 r1 q1=>?_
 refine ck (hb pins s1 σ H1 _ I1 q1) fun u s2 cx=>L2.gu cx fun y H2 I2 r2 q2=>?_
 exact hf v u s2 x y H2 I2 r1 r2 q2
theorem az'{op:Operator}{r:R2}(ho:cE X (binaryOp op) r)(ha:PE X a ta)(hb:PE X b tb):PE X (.BinOp a op b pos) (Mb r ta tb):=by
 intro pins s σ H Q I h
 exact wpAny_BinOp (R9 ha hb I h fun v u s2 x y H2 I2 rx ry q=>ho pins s2 σ H2 x y v u Q I2 rx ry q)
theorem aA'(ho:P5 X (unaryOp op) r)(ha:PE X a ta):PE X (.UnaryOp op a pos) (V3 r ta):=by
 intro pins s σ H Q I h
 exact UnaryOp_ (ck (ha pins s σ H _ I h) fun v s1 cx=>L2.gu cx fun x H1 I1 r1 q1=>ho pins s1 σ H1 x v Q I1 r1 q1)
theorem R_{f:Value->Value->Sem Value}{C:Int->Int->Prop}{g:Int->Int->Int}
  (rule:∀ (i j:Int) (t u:Tok) (s:Shared) (Q:Value->Shared->Prop) (E:Value->Shared->Prop),C i j->Q (.int (g i j) s.toks) { s with toks:=s.toks+1 }->wpAny (model X.prog X.w) X.A (f (.int i t) (.int j u)) Q E s) :
  cE X f (rI C fun i j=>.int (g i j)):=by
 intro pins s σ H x y v u Q I rx ry h
 obtain⟨i,j,rfl,rfl,hc,q⟩:=h
 obtain⟨t,rfl⟩:=rx
 obtain⟨t',rfl⟩:=ry
 exact rule i j t t' s _ _ hc ⟨.int (g i j),H,I.tok _,⟨_,rfl⟩,q⟩
theorem V4{f:Value->Value->Sem Value}{g:Int->Int->Int}
  (rule:∀ (i j:Int) (t u:Tok) (s:Shared) (Q:Value->Shared->Prop) (E:Value->Shared->Prop),Q (.int (g i j) s.toks) { s with toks:=s.toks+1 }->wpAny (model X.prog X.w) X.A (f (.int i t) (.int j u)) Q E s) :
  cE X f (EC fun i j=>.int (g i j)):=by
 intro pins s σ H x y v u Q I rx ry h
 obtain⟨i,j,rfl,rfl,q⟩:=h
 obtain⟨t,rfl⟩:=rx
 obtain⟨t',rfl⟩:=ry
 exact rule i j t t' s _ _ ⟨.int (g i j),H,I.tok _,⟨_,rfl⟩,q⟩
theorem Sb{f:Value->Value->Sem Value}{g:Int->Int->Bool}
  (rule:∀ (i j:Int) (t u:Tok) (s:Shared) (Q:Value->Shared->Prop) (E:Value->Shared->Prop),Q (.bool (g i j)) s->wpAny (model X.prog X.w) X.A (f (.int i t) (.int j u)) Q E s) :
  cE X f (EC fun i j=>.bl (g i j)):=by
 intro pins s σ H x y v u Q I rx ry h
 obtain⟨i,j,rfl,rfl,q⟩:=h
 obtain⟨t,rfl⟩:=rx
 obtain⟨t',rfl⟩:=ry
 exact rule i j t t' s _ _ ⟨.bl (g i j),H,I,rfl,q⟩
def aB'(i j:Int):Prop:=0<j/\j<1073741824
def y9(i j:Int):Prop:=(-(2 ^ 64)<i/\i<2 ^ 64)\/(-(2 ^ 64)<j/\j<2 ^ 64)
theorem y9.ok(h:y9 i j):IntMulOk i j:=by
 rcases h with⟨h1,h2⟩|⟨h1,h2⟩
 ·exact .of_left (intBits_le_64 h1 h2)
 ·exact .of_right (intBits_le_64 h1 h2)
theorem aC':cE X (binaryOp .Add) (EC fun i j=>.int (i+j)):=V4 fun _ _ _ _ _ _ _ q=>add_int q
theorem aD':cE X (binaryOp .Sub) (EC fun i j=>.int (i-j)):=V4 fun _ _ _ _ _ _ _ q=>sub_int q
theorem aE':cE X (binaryOp .Mult) (rI y9 fun i j=>.int (i*j)):=R_ fun _ _ _ _ _ _ _ hc q=>mul_int q hc.ok
theorem aF':cE X (binaryOp .FloorDiv) (rI aB' fun i j=>.int (i / j)):=R_ fun i j _ _ _ _ _ hc q=>by
 have h1:(0:Int)<j:=hc.1
 have h2:j<1073741824:=hc.2
 exact floordiv_int (by lia) (by rw[Int.fdiv_eq_ediv_of_nonneg i (by exact AO ‹_›)];exact q) (.inl (PyProof.noPylong_small (by lia)))
theorem aG':cE X (binaryOp .Mod) (rI (fun _ j=>0<j) fun i j=>.int (i % j)):=R_ fun i j _ _ _ _ _ hc q=>by
 have h1:(0:Int)<j:=hc
 exact mod_int' (by lia) (by rw[Int.fmod_eq_emod_of_nonneg i (by exact AO ‹_›)];exact q)
theorem unI{f:Value->Sem Value}{g:Int->Int}
  (rule:∀ (i:Int) (t:Tok) (s:Shared) (Q:Value->Shared->Prop) (E:Value->Shared->Prop),Q (.int (g i) s.toks) { s with toks:=s.toks+1 }->wpAny (model X.prog X.w) X.A (f (.int i t)) Q E s) :
  P5 X f (rU fun i=>.int (g i)):=by
 intro pins s σ H x v Q I rx h
 obtain⟨i,rfl,q⟩:=h
 obtain⟨t,rfl⟩:=rx
 exact rule i t s _ _ ⟨.int (g i),H,I.tok _,⟨_,rfl⟩,q⟩
theorem aI':P5 X (unaryOp .USub) (rU fun i=>.int (-i)):=unI fun _ _ _ _ _ q=>neg_int q
end
def V5:V->V->Bool
 |.non,.non=>true|.non,.int _=>true|.int _,.non=>true|.non,.bl _=>true|.bl _,.non=>true|.non,.str _=>true|.str _,.non=>true
 |.int _,.int _=>true|.bl _,.bl _=>true|.str _,.str _=>true|.rj _,.rj _=>true
 |.int _,.str _=>true|.str _,.int _=>true|.bl _,.str _=>true|.str _,.bl _=>true
 |_,_=>false
def rEq:R2:=fun x y H Q=>V5 x y=true/\Q (.bl (decide (x=y))) H
def rNe:R2:=fun x y H Q=>V5 x y=true/\Q (.bl (!decide (x=y))) H
theorem V6:decide (V.int i=V.int j)=(i == j):=by
 rw[xt]
 simp
theorem V7:decide (V.bl i=V.bl j)=(i == j):=by
 rw[xt]
 simp
theorem V8:decide (V.str i=V.str j)=(i == j):=by
 rw[xt]
 simp
theorem V9:decide (V.rj i=V.rj j)=(i.toList == j.toList):=by
 rw[xt]
 cases i
 cases j
 simp
section
variable {X:Cx}{a b c:Expr}{ta tb tc:TE}{pos:Pos}
theorem gd(I:Inv X pins σ H s)(q:Q (.bl k) H)(e:k=k'):EP X pins σ Q (.bool k') s:=by
 subst e
 exact⟨.bl k,H,I,rfl,q⟩
theorem aL':cE X (compareOp .Eq) rEq:=by
 intro pins s σ H x y v u Q I rx ry h
 obtain⟨hs,q⟩:=h
 cases x with
 |non =>
  cases rx
  cases y with
  |non=>cases ry;exact PySem.EqNone.eq_none_none (gd I q (by simp))
  |bl j=>cases ry;exact PySem.EqNone.eq_none_bool (gd I q (by simp))
  |int j=>obtain⟨t',rfl⟩:=ry;exact PySem.EqNone.eq_none_int (gd I q (by simp))
  |str j=>obtain⟨t',rfl⟩:=ry;exact PySem.EqNone.eq_none_str (gd I q (by simp))
  |_=>exact absurd (show false=true from hs) gy
 |bl i =>
  cases rx
  cases y with
  |non=>cases ry;exact PySem.EqNone.eq_bool_none (gd I q (by simp))
  |bl j=>cases ry;exact eq_bool (gd I q V7)
  |str j=>obtain⟨t',rfl⟩:=ry;exact PySem.EqMixed.eq_bool_str (gd I q (by simp))
  |_=>exact absurd (show false=true from hs) gy
 |int i =>
  obtain⟨t,rfl⟩:=rx
  cases y with
  |non=>cases ry;exact PySem.EqNone.eq_int_none (gd I q (by simp))
  |int j=>obtain⟨t',rfl⟩:=ry;exact eq_int (gd I q V6)
  |str j=>obtain⟨t',rfl⟩:=ry;exact PySem.EqMixed.eq_int_str (gd I q (by simp))
  |_=>exact absurd (show false=true from hs) gy
 |str i =>
  obtain⟨t,rfl⟩:=rx
  cases y with
  |non=>cases ry;exact PySem.EqNone.eq_str_none (gd I q (by simp))
  |bl j=>cases ry;exact PySem.EqMixed.eq_str_bool (gd I q (by simp))
  |int j=>obtain⟨t',rfl⟩:=ry;exact PySem.EqMixed.eq_str_int (gd I q (by simp))
  |str j=>obtain⟨t',rfl⟩:=ry;exact eq_str (gd I q V8)
  |_=>exact absurd (show false=true from hs) gy
 |rj i =>
  obtain⟨t,rfl⟩:=rx
  cases y with
  |rj j=>obtain⟨t',rfl⟩:=ry;exact PySem.W.eq_bytes (gd I q V9)
  |_=>exact absurd (show false=true from hs) gy
 |_=>cases y<;>exact absurd (show false=true from hs) gy
theorem aM':cE X (compareOp .NotEq) rNe:=by
 intro pins s σ H x y v u Q I rx ry h
 obtain⟨hs,q⟩:=h
 cases x with
 |non =>
  cases rx
  cases y with
  |non=>cases ry;exact PySem.EqNone.ne_none_none (gd I q (by simp))
  |bl j=>cases ry;exact PySem.EqNone.ne_none_bool (gd I q (by simp))
  |int j=>obtain⟨t',rfl⟩:=ry;exact PySem.EqNone.ne_none_int (gd I q (by simp))
  |str j=>obtain⟨t',rfl⟩:=ry;exact PySem.EqNone.ne_none_str (gd I q (by simp))
  |_=>exact absurd (show false=true from hs) gy
 |bl i =>
  cases rx
  cases y with
  |non=>cases ry;exact PySem.EqNone.ne_bool_none (gd I q (by simp))
  |bl j=>cases ry;exact ne_bool (gd I q (congrArg not V7))
  |str j=>obtain⟨t',rfl⟩:=ry;exact PySem.EqMixed.ne_bool_str (gd I q (by simp))
  |_=>exact absurd (show false=true from hs) gy
 |int i =>
  obtain⟨t,rfl⟩:=rx
  cases y with
  |non=>cases ry;exact PySem.EqNone.ne_int_none (gd I q (by simp))
  |int j=>obtain⟨t',rfl⟩:=ry;exact ne_int (gd I q (congrArg not V6))
  |str j=>obtain⟨t',rfl⟩:=ry;exact PySem.EqMixed.ne_int_str (gd I q (by simp))
  |_=>exact absurd (show false=true from hs) gy
 |str i =>
  obtain⟨t,rfl⟩:=rx
  cases y with
  |non=>cases ry;exact PySem.EqNone.ne_str_none (gd I q (by simp))
  |bl j=>cases ry;exact PySem.EqMixed.ne_str_bool (gd I q (by simp))
  |int j=>obtain⟨t',rfl⟩:=ry;exact PySem.EqMixed.ne_str_int (gd I q (by simp))
  |str j=>obtain⟨t',rfl⟩:=ry;exact ne_str (gd I q (congrArg not V8))
  |_=>exact absurd (show false=true from hs) gy
 |rj i =>
  obtain⟨t,rfl⟩:=rx
  cases y with
  |rj j=>obtain⟨t',rfl⟩:=ry;exact PySem.W.ne_bytes (gd I q (congrArg not V9))
  |_=>exact absurd (show false=true from hs) gy
 |_=>cases y<;>exact absurd (show false=true from hs) gy
theorem aN':cE X (compareOp .Lt) (EC fun i j=>.bl (decide (i<j))):=Sb fun _ _ _ _ _ _ _ q=>lt_int q
theorem aO':cE X (compareOp .LtE) (EC fun i j=>.bl (decide (i<=j))):=Sb fun _ _ _ _ _ _ _ q=>le_int q
theorem aP':cE X (compareOp .Gt) (EC fun i j=>.bl (decide (j<i))):=Sb fun _ _ _ _ _ _ _ q=>gt_int q
theorem aQ':cE X (compareOp .Lt) (fun x y H Q=>∃ i j,x=.str i/\y=.str j/\Q (.bl (decide (i.cps.toList<j.cps.toList))) H):=by
 intro pins s σ H x y v u Q I rx ry h
 obtain⟨i,j,rfl,rfl,q⟩:=h
 obtain⟨t,rfl⟩:=rx
 obtain⟨t',rfl⟩:=ry
 exact lt_str (gd I q rfl)
theorem aR':cE X (compareOp .In) (fun x y H Q=>∃ i j,x=.str i/\y=.str j/\Q (.bl (!(Builtin.Str.occurrences j i 0 j.length 1).isEmpty)) H):=by
 intro pins s σ H x y v u Q I rx ry h
 obtain⟨i,j,rfl,rfl,q⟩:=h
 obtain⟨t,rfl⟩:=rx
 obtain⟨t',rfl⟩:=ry
 exact in_str (gd I q rfl)
theorem aS':cE X (compareOp .IsNot) (fun x y H Q=>y=.non/\Q (.bl (!decide (x=.non))) H):=by
 intro pins s σ H x y v u Q I rx ry h
 obtain⟨rfl,q⟩:=h
 cases ry
 refine isnot_none_gen (gd I q ?_)
 cases x<;>first
  | (cases rx;rfl)
  | (obtain⟨t,rfl⟩:=rx;rfl)
theorem aT':cE X (compareOp .NotIn) (fun x y H Q=>∃ i j,x=.str i/\y=.str j/\Q (.bl (!(!(Builtin.Str.occurrences j i 0 j.length 1).isEmpty))) H):=by
 intro pins s σ H x y v u Q I rx ry h
 obtain⟨i,j,rfl,rfl,q⟩:=h
 obtain⟨t,rfl⟩:=rx
 obtain⟨t',rfl⟩:=ry
 exact notIn_str (gd I q rfl)
theorem cE.or(h:cE X f r)(h':cE X f r'):cE X f (fun x y H Q=>r x y H Q\/r' x y H Q):=by
 intro pins s σ H x y v u Q I rx ry q
 rcases q with q|q
 ·exact h pins s σ H x y v u Q I rx ry q
 ·exact h' pins s σ H x y v u Q I rx ry q
theorem iS(b:Expr)(h:op≠.In:=by decide)(h2:op≠.NotIn:=by decide):behindInMarks op b=false:=by
 have e1:(op == CmpOp.In)=false:=by cases op<;>first|rfl|exact absurd rfl h
 have e2:(op == CmpOp.NotIn)=false:=by cases op<;>first|rfl|exact absurd rfl h2
 cases b<;>simp[behindInMarks,e1,e2]
theorem aU'{op:CmpOp}{r:R2}(ho:cE X (compareOp op) r)(ha:PE X a ta)(hb:PE X b tb)(hm:behindInMarks op b=false):PE X (.Compare a [op] [b] pos) (Mb r ta tb):=by
 intro pins s σ H Q I h
 exact wpAny_Compare1 (R9 ha hb I h fun v u s2 x y H2 I2 rx ry q=>ho pins s2 σ H2 x y v u Q I2 rx ry q) hm
def Sd(t:TE):TT:=fun σ H Q=>t σ H fun x H'=>∃ k,x=.bl k/\Q k H'
theorem aV'(ho:cE X (compareOp op) r)(ha:PE X a ta)(hb:PE X b tb)(hm:behindInMarks op b=false):PT X (.Compare a [op] [b] pos) (Sd (Mb r ta tb)):=by
 intro pins s σ H Q I h
 refine wpAny_isTrue_Compare1 (ck (ha pins s σ H _ I h) fun v s1 cx=>L2.gu cx fun x H1 I1 r1 q1=>ck (hb pins s1 σ H1 _ I1 q1) fun u s2 cx=>L2.gu cx fun y H2 I2 r2 q2 =>
  ck (ho pins s2 σ H2 x y v u _ I2 r1 r2 q2) fun c s3 ⟨z,H3,I3,r3,k,e,q3⟩=>?_) hm
 subst e
 cases r3
 exact wpAny_truthy_bool ⟨H3,I3,q3⟩
def V_(r r':R2)(ta tb tc:TE):TE:=fun σ H Q=>ta σ H fun x H1=>tb σ H1 fun y H2=>r x y H2 fun z H3=>∃ k,z=.bl k /\
 (if k=true then tc σ H3 fun w' H4=>r' y w' H4 Q else Q (.bl false) H3)
theorem aW'(ho:cE X (compareOp op) r)(nh:cE X (compareOp op') r')(ha:PE X a ta)(hb:PE X b tb)(hc:PE X c tc)
  (hm:lastMarks [op,op'] [b,c]=false:=by with_unfolding_all rfl):PT X (.Compare a [op,op'] [b,c] pos) (Sd (V_ r r' ta tb tc)):=by
 intro pins s σ H Q I h
 refine isTrue_chain (ck (ha pins s σ H _ I h) fun v s1 cx=>L2.gu cx fun x H1 I1 r1 q1=>test_link (ck (hb pins s1 σ H1 _ I1 q1) fun u s2 cx=>L2.gu cx fun y H2 I2 r2 q2 =>
  ck (ho pins s2 σ H2 x y v u _ I2 r1 r2 q2) fun d s3 ⟨z,H3,I3,r3,k,e,q3⟩=>?_)) hm
 subst e
 cases r3
 refine wpAny_truthy_bool ?_
 cases k with
 |false =>
  obtain⟨k',e',q'⟩:=q3
  cases e'
  exact ite_ff ⟨H3,I3,q'⟩
 |true =>
  refine ite_tt (test_last (ck (hc pins s3 σ H3 _ I3 q3) fun w' s4 ⟨z',H4,I4,r4,q4⟩=>ck (nh pins s4 σ H4 y z' u w' _ I4 r2 r4 q4) fun d' s5 cS=>?_))
  obtain⟨z2,H5,I5,r5,k2,e2,q5⟩:=cS
  subst e2
  cases r5
  exact wpAny_truthy_bool ⟨H5,I5,q5⟩
def Se(K:PySem.W.Frag)(x:V)(H:Hp)(k:Bool):Prop :=
 match x with
 |.non=>k=false
 |.bl b=>k=b
 |.int i=>k=(i != 0)
 |.str y=>y.length<=sizeLine/\k=((y.length:Int) != 0)
 |.rj y=>y.size<=sizeLine/\k=((y.size:Int) != 0)
 |.ref p=>(∃ xs,eL K H p xs/\k = !xs.isEmpty)\/(∃ xs,nX K H p xs/\k = !xs.isEmpty)\/∃ kvs,H p=some (.dK kvs)/\k = !kvs.isEmpty
 |_=>False
theorem aX'{κ:Type}{kvs:List (κ × V)}{vs:List (κ × Value)}(r:KV kvs vs):(!vs.isEmpty) = !kvs.isEmpty:=by
 cases r<;>rfl
theorem Wa(r:Vals xs its):(!its.toArray.isEmpty) = !xs.isEmpty:=by
 cases r<;>simp
theorem Mk:(sizeLine:Nat)<2 ^ 63:=by rw[sizeLine_eq];decide
theorem aY':ay' X (fun x H Q=>∃ k,Se X.K x H k/\Q k H):=by
 intro pins s σ H x v Q I rx h
 obtain⟨k,e,q⟩:=h
 have hl:=Mk
 have hs:sizeLine=16777216:=sizeLine_eq
 cases x with
 |non =>
  cases rx
  have e':k=false:=e
  subst e'
  exact truthy_none ⟨H,I,q⟩
 |bl b =>
  cases rx
  have e':k=b:=e
  subst e'
  exact wpAny_truthy_bool ⟨H,I,q⟩
 |int i =>
  obtain⟨t,rfl⟩:=rx
  have e':k=(i != 0):=e
  subst e'
  exact PySem.P.truthy_int ⟨H,I,q⟩
 |str y =>
  obtain⟨t,rfl⟩:=rx
  obtain⟨hy,e'⟩:y.length<=sizeLine/\k=((y.length:Int) != 0):=e
  subst e'
  exact PySem.P.truthy_str (by lia) ⟨H,I.tok _,q⟩
 |rj y =>
  obtain⟨t,rfl⟩:=rx
  obtain⟨hy,e'⟩:y.size<=sizeLine/\k=((y.size:Int) != 0):=e
  subst e'
  exact PySem.W.truthy_bytes (by lia) ⟨H,I.tok _,q⟩
 |ref p =>
  cases rx
  have e':(∃ xs,eL X.K H p xs/\k = !xs.isEmpty)\/(∃ xs,nX X.K H p xs/\k = !xs.isEmpty)\/∃ kvs,H p=some (.dK kvs)/\k = !kvs.isEmpty:=e
  rcases e' with⟨xs,hx,e'⟩|⟨xs,hx,e'⟩|⟨kvs,hx,e'⟩
  ·subst e'
   obtain⟨its,r,pl,hz⟩:=I.list hx
   have hlen:=r.length
   exact wpAny_truthy_list pl.isList (by simp only[hG];lia) ⟨H,I.tok _,by rw[Wa r];exact q⟩
  ·subst e'
   obtain⟨its,r,pl,hz⟩:=I.tuple hx
   have hlen:=r.length
   exact truthy_tuple pl (by simp only[hG];lia) ⟨H,I.tok _,by rw[Wa r];exact q⟩
  ·subst e'
   obtain⟨hz,hS,vs,r,m⟩:kvs.length<=sizeLine/\(p == sysModules)=false/\∃ vs,KV kvs vs/\s.heap.DictOf (kG X.prog X.w) p vs:=I.bq p _ hx
   have hlen:kvs.length=vs.length:=Paired.length r
   exact wpAny_truthy_dict hS m (by lia) ⟨H,I.tok _,by rw[aX' r];exact q⟩
 |_=>exact(show False from e).elim
theorem aZ':cE X (binaryOp .Add) (fun x y H Q=>∃ i j,x=.str i/\y=.str j/\i.length+j.length<=sizeLine/\Q (.str (i++j)) H):=by
 intro pins s σ H x y v u Q I rx ry h
 obtain⟨i,j,rfl,rfl,hz,q⟩:=h
 obtain⟨t,rfl⟩:=rx
 obtain⟨t',rfl⟩:=ry
 exact add_str (fun t' tk=>⟨.str (i++j),H,I.tok _,⟨_,rfl⟩,q⟩) hz
theorem vals1(r:Vals [x] us):∃ u,us=[u]/\RelV x u:=by
 cases r with
 |cons r1 r2=>cases r2;exact⟨_,rfl,r1⟩
theorem vals2(r:Vals [x,y] us):∃ u w',us=[u,w']/\RelV x u/\RelV y w':=by
 cases r with
 |cons r1 r2 =>
  cases r2 with
  |cons r3 r4=>cases r4;exact⟨_,_,rfl,r1,r3⟩
theorem ba' (hc:X.calm=true):kr X (.builtin "min") (fun xs H Q=>∃ i j,xs=[.int i,.int j]/\Q (.int (if j<i then j else i)) H):=by
 intro pins s σ H xs us Q I r h
 obtain⟨i,j,rfl,q⟩:=h
 obtain⟨u,w',rfl,⟨t,rfl⟩,⟨t',rfl⟩⟩:=vals2 r
 refine min_two_ints (I.ok.hd hc) fun h' tk k=>⟨_,H,I.kept k,?_,q⟩
 by_cases hj:j<i
 ·rw[if_pos hj,if_pos hj];exact⟨_,rfl⟩
 ·rw[if_neg hj,if_neg hj];exact⟨_,rfl⟩
theorem bb':kr X (.type "int") (fun xs H Q=>(∃ i,xs=[.int i]/\Q (.int i) H)\/∃ k,xs=[.bl k]/\Q (.int (if k then 1 else 0)) H):=by
 intro pins s σ H xs us Q I r h
 rcases h with⟨i,rfl,q⟩|⟨k,rfl,q⟩
 ·obtain⟨u,rfl,t,rfl⟩:=vals1 r
  exact call_int_int ⟨.int i,H,I,⟨_,rfl⟩,q⟩
 ·obtain⟨u,rfl,r1⟩:=vals1 r
  cases r1
  exact call_int_bool ⟨.int (if k then 1 else 0),H,I.tok _,⟨_,rfl⟩,q⟩
def bc'(K:PySem.W.Frag)(x:V)(H:Hp)(n:Nat):Prop :=
 match x with
 |.str y=>y.length<=sizeLine/\n=y.length
 |.rj y=>y.size<=sizeLine/\n=y.size
 |.ref p=>(∃ xs,eL K H p xs/\n=xs.length)\/∃ xs,nX K H p xs/\n=xs.length
 |_=>False
theorem Sf:kr X (.builtin "len") (fun xs H Q=>∃ x n,xs=[x]/\bc' X.K x H n/\Q (.int n) H):=by
 intro pins s σ H xs us Q I r h
 obtain⟨x,n,rfl,e,q⟩:=h
 obtain⟨u,rfl,rx⟩:=vals1 r
 have hl:=Mk
 have hs:sizeLine=16777216:=sizeLine_eq
 cases x with
 |str y =>
  obtain⟨t,rfl⟩:=rx
  obtain⟨hy,e'⟩:y.length<=sizeLine/\n=y.length:=e
  subst e'
  exact len_str (by lia) ⟨.int _,H,I.tok _,⟨_,rfl⟩,q⟩
 |rj y =>
  obtain⟨t,rfl⟩:=rx
  obtain⟨hy,e'⟩:y.size<=sizeLine/\n=y.size:=e
  subst e'
  exact PySem.W.len_bytes (by walk_at "s4") ⟨.int _,H,I.tok _,⟨_,rfl⟩,q⟩
 |ref p =>
  cases rx
  have e':(∃ xs,eL X.K H p xs/\n=xs.length)\/∃ xs,nX X.K H p xs/\n=xs.length:=e
  rcases e' with⟨xs,hx,e'⟩|⟨xs,hx,e'⟩
  ·subst e'
   obtain⟨its,r',pl,hz⟩:=I.list hx
   have hlen:=r'.length
   exact Calls.call_len_list pl.isList (by simp only[hG];lia) ⟨.int xs.length,H,I.tok _,⟨_,by simp only[hG];rw[hlen]⟩,q⟩
  ·subst e'
   obtain⟨its,r',pl,hz⟩:=I.tuple hx
   have hlen:=r'.length
   exact len_tuple pl (by simp only[hG];lia) ⟨.int xs.length,H,I.tok _,⟨_,by simp only[hG];rw[hlen]⟩,q⟩
 |_=>exact(show False from e).elim
end
structure Sg(h:Heap)(x dx C:Addr)(mA:Str->Option Value):Prop where
 obj:h.get? x=some (PySem.W.instObj C dx)
 ns:h.Ns1 dx mA
 ne:dx≠x
theorem lookIn_ns{h:Heap}{dx:Addr}{mA:Str->Option Value}(n:h.Ns1 dx mA):∃ od,h.get? dx=some od/\∀ name,PySem.W.lookIn name od=some (mA name):=by
 obtain⟨o,es,ep,ho,hd,hk,_,hm⟩:=n
 refine⟨o,ho,fun name=>?_⟩
 have e:=hm name
 unfold nsFind findBy at e
 rw[<- Array.find?_toList] at e
 unfold PySem.W.lookIn
 rw[hd]
 dsimp only
 split
 ·rename_i y q
  rw[q] at e
  exact congrArg some e
 ·rename_i q
  rw[q] at e
  have a:es.toList.any (·.refKey)=false:=by
   rw[List.any_eq_false]
   intro y hy
   obtain⟨z,t,bd'⟩:=hk y (Array.mem_toList_iff.mp hy)
   simp[DictEntry.refKey,bd']
  have a':¬ es.toList.any (·.refKey)=true:=by rw[a];exact gy
  rw[if_neg a']
  exact congrArg some e
theorem Sg.look(I:Sg h x dx C mA):∃ od,PySem.W.InstAt h x (PySem.W.instObj C dx) C (some od)/\∀ name,PySem.W.lookIn name od=some (mA name) :=
 let ⟨od,ho,hl⟩:=lookIn_ns I.ns
 ⟨od,⟨I.obj,rfl,rfl,ho⟩,hl⟩
theorem uj.some_of(r:uj (some v) o):∃ u,o=some u/\RelV v u:=by
 cases o with
 |none=>exact(show False from r).elim
 |some u=>exact⟨u,rfl,r⟩
section
variable {P:Program}{w:World}{H:Hp}{h:Heap}{a C dx:Addr}{fs:List (Str × V)}
theorem P6(bq:hJ P w H h)(e:H a=some (.ins C dx fs)):∃ mA,Sg h a dx C mA/\(∀ f,uj (fs.lookup f) (mA f))/\PySem.Within mA (fs.map (·.1))/\fs.length<=1000/\H dx=some (.own a):=by
 obtain⟨d,z,ne,ob,mA,n,r,q⟩:=(show fe P w H h a (.ins C dx fs) from bq a _ e)
 exact⟨mA,⟨ob,n,ne⟩,r,q,z,d⟩
end
structure Sh(K:PySem.W.Frag)(C:Addr):Prop where
 pg:PySem.W.plainGet K C Str.empty=true
 hd:PySem.W.hasDictIn K C=true
 po:PySem.W.plainOver K C=true
 sa:PySem.W.findIn K (.ref C) "__setattr__" = some (some (.builtin "object.__setattr__"))
theorem Sh.get{K:PySem.W.Frag}(c:Sh K C)(f:Str):PySem.W.plainGet K C f=true:=c.pg
section
variable {X:Cx}{pins:List (Addr × Obj)}{σ:St}{H:Hp}{s:Shared}{A:Around}{E:Value->Shared->Prop}{Q:Value->Shared->Prop}{c:Value}{b:Bool}
inductive w_(K:PySem.W.Frag)(H:Hp):V->Value->Prop where
 |non:w_ K H .non (.type "NoneType")
 |bl (x:Bool):w_ K H (.bl x) (.type "bool")
 |int (i:Int):w_ K H (.int i) (.type "int")
 |str (x:Str):w_ K H (.str x) (.type "str")
 |AQ (x:UInt64):w_ K H (.AQ x) (.type "float")
 |lst {a:Addr} {xs:List V} (e:H a=some (.lst xs)):w_ K H (.ref a) (.type "list")
 |eu {a:Addr} {o:Obj} {xs:List V} (e:H a=some (.eu o (.lst xs))):w_ K H (.ref a) (.type "list")
 |tup {a:Addr} {xs:List V} (e:H a=some (.tup xs)):w_ K H (.ref a) (.type "tuple")
 |dK {a:Addr} {kvs:List (Key × V)} (e:H a=some (.dK kvs)):w_ K H (.ref a) (.type "dict")
 |dT {a:Addr} {kvs:List (List Key × V)} (e:H a=some (.dT kvs)):w_ K H (.ref a) (.type "dict")
 |ins {a C dx:Addr} {fs:List (Str × V)} (e:H a=some (.ins C dx fs)) (cl:Sh K C) (ha:PySem.W.findIn K (.ref C) "__class__" = some (some (.builtin "object.__class__")))
   (hn:PySem.W.specialIn K (.builtin "object.__class__") "__get__" = some (some (.builtin "getset_descriptor.__get__"))) (Wb:PySem.W.takesIn K (.builtin "object.__class__")=some true)
   (hm:PySem.W.mroIn K C (.type "object")=some true):w_ K H (.ref a) (.ref C)
theorem My(I:Inv X pins σ H s)(rx:RelV x u)(ty:w_ X.K H x t)(e:PySem.W.kitOne X.K t c=some b)(h:∀ tk,Q (.bool b) { s with toks:=tk }) :
  wpAny (model X.prog X.w) A (call (.builtin "isinstance") [u,c]) Q E s:=by
 cases ty with
 |non=>cases (show u=Value.none from rx);exact PySem.W.kia_one PySem.W.kitx_none I.ki True.intro e (fun z=>nomatch z) h
 |bl y=>cases (show u=Value.bool y from rx);exact PySem.W.kia_one PySem.W.kitx_bool I.ki True.intro e (fun z=>nomatch z) h
 |int i=>obtain⟨t,q⟩:=(show ∃ t,u=Value.int i t from rx);cases q;exact PySem.W.kia_one PySem.W.kitx_int I.ki True.intro e (fun z=>nomatch z) h
 |str y=>obtain⟨t,q⟩:=(show ∃ t,u=Value.str y t from rx);cases q;exact PySem.W.kia_one PySem.W.kitx_str I.ki True.intro e (fun z=>nomatch z) h
 |AQ y=>obtain⟨t,q⟩:=(show ∃ t,u=Value.float y t from rx);cases q;exact PySem.W.kia_one PySem.W.kitx_float I.ki True.intro e (fun z=>nomatch z) h
 |@lst a xs ea =>
  cases (show u=Value.ref a from rx)
  obtain⟨_,_,n,_,h1⟩:=(show fe X.prog X.w H s.heap a (.lst xs) from I.bq a _ ea)
  exact PySem.W.kia_one PySem.W.kitx_list I.ki ⟨_,h1,rfl⟩ e (fun z=>nomatch z) h
 |@eu a ob xs ea =>
  cases (show u=Value.ref a from rx)
  obtain⟨_,_,_,n,_,h1⟩:=(show fe X.prog X.w H s.heap a (.eu ob (.lst xs)) from I.bq a _ ea)
  exact PySem.W.kia_one PySem.W.kitx_list I.ki ⟨_,h1,rfl⟩ e (fun z=>nomatch z) h
 |@tup a xs ea =>
  cases (show u=Value.ref a from rx)
  obtain⟨_,_,_,p⟩:=(show fe X.prog X.w H s.heap a (.tup xs) from I.bq a _ ea)
  obtain⟨o,h1,h2,_⟩:=p
  exact PySem.W.kia_one PySem.W.kitx_tuple I.ki ⟨o,h1,h2⟩ e (fun z=>nomatch z) h
 |@dK a kvs ea =>
  cases (show u=Value.ref a from rx)
  obtain⟨_,_,vs,_,p⟩:=(show fe X.prog X.w H s.heap a (.dK kvs) from I.bq a _ ea)
  obtain⟨o,es,ep,h1,h2,_⟩:=p
  exact PySem.W.kia_one PySem.W.kitx_dict I.ki ⟨o,h1,h2.1⟩ e (fun z=>nomatch z) h
 |@dT a kvs ea =>
  cases (show u=Value.ref a from rx)
  obtain⟨_,_,xs,_,o,es,ep,h1,h2,_⟩:=(show fe X.prog X.w H s.heap a (.dT kvs) from I.bq a _ ea)
  exact PySem.W.kia_one PySem.W.kitx_dict I.ki ⟨o,h1,h2.1⟩ e (fun z=>nomatch z) h
 |@ins a C dx fs ea cl ha hn Wb hm =>
  cases (show u=Value.ref a from rx)
  obtain⟨mA,O,_⟩:=P6 I.bq ea
  obtain⟨od,J,_⟩:=O.look
  exact PySem.W.kia_one (PySem.W.kitx_own (cl.get _) cl.hd ha hn Wb hm) I.ki J e (fun z=>nomatch z) h
end
structure nv(k:Nat)(A:Around):Prop where
 hd:A.handled=none
 dp:A.depth+3*k+5<recursionLimit
 un:A.units+16*k+200<cLine
theorem nv.mono(r:nv k A)(h:j<=k):nv j A:=⟨r.hd,by have:=r.dp;lia,by have:=r.un;lia⟩
theorem nv.deeper(r:nv (k+1) A)(env:Env):nv k (A.deeper env) :=
 ⟨r.hd,by have:=r.dp;show A.depth+1+3*k+5<_;lia,by have:=r.un;show A.units+3+16*k+200<_;lia⟩
theorem nv.depth(r:nv k A):A.depth<recursionLimit:=by have:=r.dp;lia
theorem nv.units(r:nv k A):A.units+64<cLine:=by have:=r.un;lia
def Si:TA:=fun _ H Q=>Q [] H
def Sj(ta:TE)(tr:TA):TA:=fun σ H Q=>ta σ H fun x H1=>tr σ H1 fun xs H2=>Q (x :: xs) H2
section
variable {X:Cx}{e:Expr}{es:List Expr}{te:TE}{t:TA}{pos:Pos}
theorem uS:PA X [] Si:=fun _ _ _ _ H Q I h=>Calls.spliced_nil ⟨[],H,I,.nil,h⟩
theorem rq(ha:PE X e te)(hr:PA X es t)(hs:starEach (e :: es) X.env=(false,eval e X.env) :: starEach es X.env:=by rfl):PA X (e :: es) (Sj te t):=by
 intro pos pins s σ H Q I h
 rw[hs]
 show wpAny _ _ (spliced ((false,eval e X.env) :: backTo pos (starEach es X.env))) _ _ s
 refine Calls.spliced_cons (ck (ha pins s σ H _ I h) fun u s1 cx=>L2.gu cx fun x H1 I1 r1 q1=>?_)
 exact ck (hr pos pins s1 σ H1 _ I1 q1) fun us s2 cx=>L2.gu cx fun xs H2 I2 r2 q2=>⟨x :: xs,H2,I2,.cons r1 r2,q2⟩
def be'(t:TA):TE:=fun σ H Q=>t σ H fun xs H1=>xs.length<=sizeLine/\∀ p,H1 p=none->Q (.ref p) (upd H1 p (.tup xs))
def bf'(t:TA):TE:=fun σ H Q=>t σ H fun xs H1=>xs.length<=sizeLine/\∀ p,H1 p=none->Q (.ref p) (upd H1 p (.lst xs))
theorem bg'{x1}(h:PA X es t):PE X (.Tuple es x1 pos) (be' t):=by
 intro pins s σ H Q I hq
 refine wpAny_Tuple_spliced (ck (h pos pins s σ H _ I hq) fun us s1 ⟨xs,H1,I1,r,z,q⟩=>⟨by rw[<- r.length];exact z,?_⟩)
 have hf:H1 s1.heap.objs.size=none:=I1.bq.fresh (bX _)
 refine⟨.ref s1.heap.objs.size,upd H1 s1.heap.objs.size (.tup xs),I1.laid (t':=s1.toks) (fun b u e=>eW _ e) (bX _) ?_,rfl,q _ hf⟩
 exact⟨z,us,r,⟨_,jv _ rfl,rfl,_,rfl⟩⟩
theorem bh'(h:PA X es t):PE X (.List es pos) (bf' t):=by
 intro pins s σ H Q I hq
 refine wpAny_List_spliced (ck (h pos pins s σ H _ I hq) fun us s1 ⟨xs,H1,I1,r,z,q⟩=>⟨by rw[<- r.length];exact z,?_⟩)
 have hf:H1 s1.heap.objs.size=none:=I1.bq.fresh (bX _)
 refine⟨.ref s1.heap.objs.size,upd H1 s1.heap.objs.size (.lst xs),I1.laid (t':=s1.toks) (fun b u e=>eW _ e) (bX _) ?_,rfl,q _ hf⟩
 exact⟨z,us,0,r,jv _ rfl⟩
end
abbrev Sp:=List V->Hp->VK->XK->Prop
abbrev B9:=List Env->Hp->Shared->XK->Value->Shared->Prop
structure P7(P:Program)(w:World)(K:PySem.W.Frag)(mg:Str->Option Value)(base:Heap)(A:Around)(outer:List Env)(s:Shared)(H:Hp):Prop where
 frames:A.frames=some outer
 mod:Mod K mg base
 bs:∀ b o,base.get? b=some o->s.heap.get? b=some o/\H b=none
 B5:base.objs.size<=s.heap.objs.size
 xI:s.heap.FunFrames base outer
 GV:∀ b∈xE outer,H b=none
 bq:hJ P w H s.heap
 bare:AllBare s.gens
def CE(outer:List Env)(P:Program)(w:World)(H:Hp)(s:Shared)(Q:VK)(u:Value)(s':Shared):Prop :=
 ∃ v H',s'.os=s.os/\AllBare s'.gens/\Un (xE outer) [] H H' s.heap s'.heap/\hJ P w H' s'.heap/\RelV v u/\Q v H'
def CR(CX:B9)(outer:List Env)(P:Program)(w:World)(H:Hp)(s:Shared)(Q:VK)(E:XK)(r:Result)(s':Shared):Prop :=
 match r with
 |.ok (.ret u)=>CE outer P w H s Q u s'
 |.ok _=>False
 |.error e=>CX outer H s E e s'
structure gv(P:Program)(w:World)(K:PySem.W.Frag)(mg:Str->Option Value)(base:Heap)(CX:B9)(k:Nat)(f:Addr)(fd:FuncData)(ps:List Str)(sp:Sp):Prop where
 len:∀ vs H Q E,sp vs H Q E->vs.length=ps.length
 run:∀ (A:Around) (outer:List Env) (s:Shared) (H:Hp) (args:Args) (us:List Value) (vs:List V) (Q:VK) (E:XK),nv k A->P7 P w K mg base A outer s H->BindsTo s fd args (ps.zip us)->Vals vs us->sp vs H Q E ->
  codeAny (model P w) A (.call (.ref f) args) (CR CX outer P w H s Q E) s
section
variable {X:Cx}{pins:List (Addr × Obj)}{σ:St}{H:Hp}{s s':Shared}
theorem Inv.bi'(I:Inv X pins σ H s):P7 X.prog X.w X.K X.mg X.base X.A X.stack s H :=
 ⟨I.ok.frames,I.ok.mod,I.bs,iO I.ok.B5 I.sz,I.stack,I.VA,I.bq,I.bare⟩
theorem Inv.after(I:Inv X pins σ H s)(h:CE X.stack X.prog X.w H s Q u s'):EP X pins σ Q u s':=by
 obtain⟨v,H',os,bare,un,bq,r,q⟩:=h
 obtain⟨hh,g,d,t,os'⟩:=s'
 obtain rfl:os'=s.os:=os
 exact⟨v,H',I.call (h':=hh) (g':=g) (d':=d) (t':=t) (ch:=[]) un bq bare (fun b z=>absurd z (by simp)),r,q⟩
end
def Sn(sp:Sp)(Cb:List V)(E:XK)(t:TA):TE:=fun σ H Q=>t σ H fun vs H1=>sp (vs++Cb) H1 Q E
def Binds(K:PySem.W.Frag)(fd:FuncData)(ps:List Str)(ds:List Value):Prop :=
 ∀ (s:Shared) (us:List Value),K.In s.heap->(us++ds).length=ps.length->BindsTo s fd ⟨us,[]⟩ (ps.zip (us++ds))
theorem Binds.all{K:PySem.W.Frag}{ps:List Str}(h:∀ us:List Value,us.length=ps.length->bindArgs fd ⟨us,[]⟩=pure (ps.zip us)):Binds K fd ps []:=fun s us _ hl=>by
 rw[pS] at hl ⊢
 exact .of_eq (h us hl)
def Passes(CX:B9)(X:Cx)(E:XK):Prop:=∀ (pins:List (Addr × Obj)) (σ:St) (H:Hp) (s:Shared) (e:Value) (s':Shared),Inv X pins σ H s->CX X.stack H s E e s'->X.xe e s'
section
variable {X:Cx}{CX:B9}{k:Nat}{f:Addr}{fd:FuncData}{ps:List Str}{sp:Sp}{Cb:List V}{ds:List Value}{E:XK}{x:Str}{p pos:Pos}{e:Expr}{es:List Expr}{t:TA}
theorem bk'(F:gv X.prog X.w X.K X.mg X.base CX k f fd ps sp)(hr:nv k X.A)(hb:Binds X.K fd ps ds)(hd:Vals Cb ds)(hx:Passes CX X E)
  (I:Inv X pins σ H s) (r:Vals vs us) (h:sp (vs++Cb) H Q E):wpAny (model X.prog X.w) X.A (call (.ref f) us) (EP X pins σ Q) X.xe s:=by
 have r2:Vals (vs++Cb) (us++ds):=r.append hd
 have hl:(us++ds).length=ps.length:=by rw[<- r2.length];exact F.len _ _ _ _ h
 refine wpAny_call (codeAny_mono (F.run X.A X.stack s H ⟨us,[]⟩ (us++ds) (vs++Cb) Q E hr I.bi' (hb s us I.ki hl) r2 h) fun r s' hq=>?_)
 cases r with
 |error e=>exact hx pins σ H s e s' I hq
 |ok fl =>
  cases fl with
  |ret u=>exact I.after hq
  |next=>exact False.elim hq
  |brk=>exact False.elim hq
  |cont=>exact False.elim hq
theorem bl'(F:gv X.prog X.w X.K X.mg X.base CX k f fd ps sp)(hr:nv k X.A)(hg:Gl X x)(hm:X.mg x=some (.ref f))(hk:PySem.W.keepIn X.K (.ref f)=true)(hb:Binds X.K fd ps ds)(hd:Vals Cb ds)(hx:Passes CX X E)
  (ha:PA X (e :: es) t) (rL:(x == ("__debug__" : Str))=false:=by decide) (he:starEach (e :: es) X.env=(false,eval e X.env) :: starEach es X.env:=by rfl) (kN:(backTo pos (starEach es X.env)).any (·.1)=false:=by rfl) :
  PE X (.Call (.Name x p) (e :: es) [] pos) (Sn sp Cb E t):=by
 intro pins s σ H Q I h
 refine wpAny_Call_Name_kw (ZY I hg hm ?_ rL)
 refine PySem.W.callWith_K (h₀:=X.base) I.ok.mod.RT hk (ck (ha pos pins s σ H _ I h) fun us s1 cx=>L2.gu cx fun vs H1 I1 r q=>⟨I1.ki,?_⟩) he kN
 exact bk' F hr hb hd hx I1 r q
end
structure ku(N P:List Str)(sc:Scope):Prop where
 kind:sc.kind=.function
 co:sc.isCoroutine=false
 gen:sc.isGenerator=false
 nd:N.Nodup
 pre:N.take P.length=P
 par:∀ x∈P,sc.names.lookup x=some .local\/sc.names.lookup x=some .cell
 bm':∀ y∈sc.names,y.2≠.free
theorem Wc{kindOf:Str->Option NameKind}:∀ {binds:List (Str × Value)} {m:Str->Option Value},(∀ v,(x,v)∉binds)->bindL kindOf binds m x=m x
 |[],_,_=>rfl
 | (n,v) :: r,m,h=>by
  unfold bindL
  rw[Wc fun w hw=>h w (b9 _ hw)]
  split
  ·have:x≠n:=by rintro rfl;exact h v b6
   simp[this]
  ·rfl
theorem Wd{kindOf:Str->Option NameKind}:∀ {binds:List (Str × Value)} {m:Str->Option Value},(∀ v,(x,v)∉binds)->bindC kindOf binds m x=m x
 |[],_,_=>rfl
 | (n,v) :: r,m,h=>by
  unfold bindC
  rw[Wd fun w hw=>h w (b9 _ hw)]
  split
  ·rfl
  ·have:x≠n:=by rintro rfl;exact h v b6
   simp[this]
theorem Wg{kindOf:Str->Option NameKind}:∀ {P:List Str} {vs:List Value} {i:Nat} {m:Str->Option Value},P.Nodup->P[i]? = some x->vs[i]? = some v->kindOf x=some .local ->
  bindL kindOf (P.zip vs) m x=some v
 |[],_,_,_,_,h,_,_=>by simp at h
 |_ :: _,[],_,_,_,_,h,_=>by simp at h
 |p :: P,w :: vs,0,m,nd,h1,h2,hk=>by
  simp at h1 h2;subst h1;subst h2
  show bindL kindOf ((p,w) :: P.zip vs) m p=_
  unfold bindL
  rw[Wc fun v hv=>(js.mp nd).1 (List.of_mem_zip hv).1,if_pos hk]
  simp
 |p :: P,w :: vs,i+1,m,nd,h1,h2,hk=>by
  show bindL kindOf ((p,w) :: P.zip vs) m x=_
  unfold bindL
  exact Wg (i:=i) (js.mp nd).2 (by simpa using h1) (by simpa using h2) hk
theorem Wh{kindOf:Str->Option NameKind}:∀ {P:List Str} {vs:List Value} {i:Nat} {m:Str->Option Value},P.Nodup->P[i]? = some x->vs[i]? = some v->kindOf x≠some .local ->
  bindC kindOf (P.zip vs) m x=some v
 |[],_,_,_,_,h,_,_=>by simp at h
 |_ :: _,[],_,_,_,_,h,_=>by simp at h
 |p :: P,w :: vs,0,m,nd,h1,h2,hk=>by
  simp at h1 h2;subst h1;subst h2
  show bindC kindOf ((p,w) :: P.zip vs) m p=_
  unfold bindC
  rw[Wd fun v hv=>(js.mp nd).1 (List.of_mem_zip hv).1,if_neg hk]
  simp
 |p :: P,w :: vs,i+1,m,nd,h1,h2,hk=>by
  show bindC kindOf ((p,w) :: P.zip vs) m x=_
  unfold bindC
  exact Wh (i:=i) (js.mp nd).2 (by simpa using h1) (by simpa using h2) hk
def start(N:List Str)(vs:List V):St:=vs.map some++List.replicate (N.length-vs.length) none
def EE(CX:B9)(P:Program)(w:World)(K:PySem.W.Frag)(mg:Str->Option Value)(base:Heap)(N:List Str)(qual:Str)(scope:Scope)(f:Addr)(cd:Value)(A:Around)(outer:List Env)(s:Shared)(H:Hp)(E:XK):Cx where
 prog:=P
 w:=w
 K:=K
 mg:=mg
 base:=base
 A:=A.deeper (envOfC qual scope s.heap.objs.size f cd)
 N:=N
 kg:=s
 nV:=H
 env:=envOfC qual scope s.heap.objs.size f cd
 outer:=outer
 stack:=envOfC qual scope s.heap.objs.size f cd :: outer
 ex:=[]
 calm:=true
 fn:=fun _=>true
 pn:=[]
 xe:=fun e s'=>wpAny (model P w) (A.deeper (envOfC qual scope s.heap.objs.size f cd)) (leaving (envOfC qual scope s.heap.objs.size f cd) e) (fun _ Ct=>CX outer H s E e Ct) (fun e' Ct=>CX outer H s E e' Ct) s'
theorem Wi{sc:Scope}{n:Nat}{x:Str}(h:sc.names.lookup x=some .cell):∃ c,(cellsFrom n sc.names []).lookup x=some c:=by
 have q:=PySem.W.cellsFrom_some sc.names n [] (.inl h)
 exact Option.isSome_iff_exists.mp q
theorem bn'{CX:B9}{P:Program}{w:World}{K:PySem.W.Frag}{mg:Str->Option Value}{base:Heap}{N ps:List Str}{qual:Str}{scope:Scope}{f:Addr}{cd:Value}{A:Around}{outer:List Env}{s s1:Shared}{H:Hp}{E:XK}{us:List Value}{vs:List V}
  (S:ku N ps scope) (hd:A.handled=none) (e0:P7 P w K mg base A outer s H) (hl:vs.length=ps.length) (r:Vals vs us)
  (x:InCallC s s.heap.objs.size (bindL (envOfC qual scope s.heap.objs.size f cd).kindOf (ps.zip us) fun _=>none) (cellsFrom (s.heap.objs.size+1) scope.names []) (bindC (envOfC qual scope s.heap.objs.size f cd).kindOf (ps.zip us) fun _=>none) s1) :
  Inv (EE CX P w K mg base N qual scope f cd A outer s H E) [] (start N vs) H s1:=by
 have kN:ps.length<=N.length:=by have:=congrArg List.length S.pre;rw[lh] at this;lia
 obtain⟨h1,tk,rfl,hk⟩:=x.done
 have MA:∀ b:Addr,b∉(EE CX P w K mg base N qual scope f cd A outer s H E).ex:=fun b z=>absurd (show b∈([]:List Addr) from z) (by simp)
 refine⟨⟨e0.mod,S.kind,rfl,rfl,bX _,fun y z c h1 h2=>?_,fun y hy=>?_,fun y c _ h=>?_,fun _=>hd,Around.frames_deeper e0.frames,.inr ⟨rfl,rfl⟩,fun b z=>absurd z (MA b),e0.bs,e0.B5,fun b _ _=>MA b,fun b z=>absurd z (MA b),e0.xI,e0.GV⟩,
  rfl,e0.bare,Un.kept hk,⟨_,x.toInCall.ns,fun i y v h1 h2 h3=>?_⟩,fun y c h=>⟨_,x.cell y c h⟩,e0.bq.fresh (bX _),fun y c h=>?_,fun p hp=>absurd (show p∈([]:List (Addr × Obj)) from hp) (by simp),e0.bq.kept hk,?_⟩
 ·exact name_of_addr x.apart (PySem.mem_of_lookup h1) (PySem.mem_of_lookup h2)
 ·have hy:scope.names.lookup y=some .cell\/scope.names.lookup y=some .free:=hy
  rcases hy with hy|hy
  ·exact Wi hy
  ·exact absurd rfl (S.bm' _ (PySem.mem_of_lookup hy))
 ·exact ll (x.above y c (PySem.mem_of_lookup h))
 ·have hi:i<vs.length:=by
   unfold start at h2
   by_cases hi:i<vs.length
   ·exact hi
   ·rw[yA (by simpa using hi)] at h2
    rw[List.getElem?_replicate] at h2
    split at h2<;>cases h2
  have ha:vs[i]? = some v:=by
   unfold start at h2
   rw[DV (by simpa using hi),kX] at h2
   cases e:vs[i]? with
   |none=>rw[e] at h2;cases h2
   |some a=>rw[e] at h2;cases h2;rfl
  obtain⟨u,hu,rv⟩:=r.get ha
  have hp:ps[i]? = some y:=by
   rw[<- S.pre,List.getElem?_take_of_lt (by lia)];exact h1
  have Wj:ps.Nodup:=by rw[<- S.pre];exact S.nd.sublist (List.take_sublist _ _)
  refine⟨u,rv,?_⟩
  rcases S.par y (nL hp) with k|k
  ·exact .inl ⟨k,Wg Wj hp hu k⟩
  ·obtain⟨c,e⟩:=Wi (n:=s.heap.objs.size+1) k
   refine .inr ⟨.inl k,c,e,?_⟩
   have q:=x.cell y c e
   rw[Wh Wj hp hu (by show scope.names.lookup y≠_;rw[k];decide)] at q
   exact q
 ·exact e0.bq.fresh (ll (x.above y c (PySem.mem_of_lookup h)))
 ·unfold start
  show _=N.length
  rw[ng,b4,List.length_replicate]
  lia
theorem bo'{P:Program}{K:PySem.W.Frag}{dV kV doc pm dy ct oc:Value}
  {N ps:List Str} (lk:K.lookup f=some ⟨oc,od,.func (PySem.W.fnOf name qual params body scope dV kV doc pm an dy ct),HG⟩) (rp:PySem.W.codeIn K dy qual=true) (S:ku N ps scope)
  (len:∀ vs H Q E,sp vs H Q E->vs.length=ps.length)
  (MB:∀ (A:Around) (outer:List Env) (s:Shared) (H:Hp) (vs:List V) (Q:VK) (E:XK),nv k (A.deeper (envOfC qual scope s.heap.objs.size f dy))->sp vs H Q E ->
   ∃ t,lI (EE CX P w K mg base N qual scope f dy A outer s H E) body t/\t { nx:=fun _ H'=>Q .non H',rt:=Q } (start N vs) H) :
  gv P w K mg base CX (k+1) f (PySem.W.fnOf name qual params body scope dV kV doc pm an dy ct) ps sp:=by
 refine⟨len,fun A outer s H args us vs Q E hr e0 hb r CB=>?_⟩
 have hl:=len _ _ _ _ CB
 have KX:K.In s.heap:=e0.mod.RT.keeps fun b o e=>(e0.bs b o e).1
 have lim:s.heap.NoLimit:=e0.mod.nolimit.keeps fun b o e=>(e0.bs b o e).1
 have bp':∀ y∈ps.zip us,scope.names.lookup y.1=some .local\/(scope.names.lookup y.1=some .cell/\((cellsFrom (s.heap.objs.size+1) scope.names []).lookup y.1).isSome=true):=fun⟨n,v⟩ hy=>by
  rcases S.par n (List.of_mem_zip hy).1 with q|q
  ·exact .inl q
  ·exact .inr ⟨q,PySem.W.cellsFrom_some _ _ _ (.inl q)⟩
 refine codeAny_call_function hr.depth (KX _ _ lk) rfl S.co S.gen rfl (PySem.W.codeRec_of KX rp) (hb _ _ _ _ ?_)
 refine wpAny_newFunctionEnv_cells S.kind bp' fun env he s1 x=>?_
 subst he
 refine⟨lim.keeps x.toInCall.keep,codeAny_func ?_⟩
 obtain⟨t,ht,hq⟩:=MB A outer s H vs Q E (hr.deeper _) CB
 have I:Inv (EE CX P w K mg base N qual scope f dy A outer s H E) [] (start N vs) H s1:=bn' S hr.hd e0 hl r x
 refine sP (ht [] s1 (start N vs) H _ I hq) (fun fl s' hs=>?_) fun e s' hs=>hs
 have fin:∀ {bp:St} {H':Hp} {v:V} {u:Value},Inv (EE CX P w K mg base N qual scope f dy A outer s H E) [] bp H' s'->RelV v u->Q v H'->CE outer P w H s Q u s' :=
  fun {bp H' v u} J rv q=>⟨v,H',J.os,J.bare,J.base,J.bq,rv,q⟩
 cases fl with
 |ret u =>
  obtain⟨v,bp,H',J,rv,q⟩:=hs
  exact fin J rv q
 |next =>
  obtain⟨bp,H',J,q⟩:=hs
  exact fin (v:=V.non) (u:=Value.none) J rfl q
 |brk =>
  obtain⟨_,_,_,q⟩:=hs
  exact False.elim q
 |cont =>
  obtain⟨_,_,_,q⟩:=hs
  exact False.elim q
section
variable {X:Cx}{x:Str}{p pos:Pos}{e:Expr}{es:List Expr}{t:TA}{id T:String}{r:List V->Hp->VK->Prop}
def Sq(r:List V->Hp->VK->Prop)(t:TA):TE:=fun σ H Q=>t σ H fun vs H1=>r vs H1 Q
theorem Sr (hc:kr X (.builtin id) r) (hg:Gl X x) (hm:X.mg x=none) (hv:bootBuiltins x=some (.builtin id)) (ha:PA X (e :: es) t) (hn:x ≠ "__name__" := by decide) (rL:(x == ("__debug__" : Str))=false:=by decide)
  (he:starEach (e :: es) X.env=(false,eval e X.env) :: starEach es X.env:=by rfl) (kN:(backTo pos (starEach es X.env)).any (·.1)=false:=by rfl):PE X (.Call (.Name x p) (e :: es) [] pos) (Sq r t):=by
 intro pins s σ H Q I h
 refine wpAny_Call_Name_kw (GY I hg hm hv ?_ hn rL)
 exact PyProof.Rows.callWith_builtin1 (ck (ha pos pins s σ H _ I h) fun us s1 cx=>L2.gu cx fun vs H1 I1 r1 q1=>hc pins s1 σ H1 vs us Q I1 r1 q1) he kN
theorem bq' (hc:kr X (.type T) r) (hg:Gl X x) (hm:X.mg x=none) (hv:bootBuiltins x=some (.type T)) (ha:PA X (e :: es) t) (hn:x ≠ "__name__" := by decide) (rL:(x == ("__debug__" : Str))=false:=by decide)
  (he:starEach (e :: es) X.env=(false,eval e X.env) :: starEach es X.env:=by rfl) (kN:(backTo pos (starEach es X.env)).any (·.1)=false:=by rfl):PE X (.Call (.Name x p) (e :: es) [] pos) (Sq r t):=by
 intro pins s σ H Q I h
 refine wpAny_Call_Name_kw (GY I hg hm hv ?_ hn rL)
 exact PyProof.Rows.callWith_type1 (ck (ha pos pins s σ H _ I h) fun us s1 cx=>L2.gu cx fun vs H1 I1 r1 q1=>hc pins s1 σ H1 vs us Q I1 r1 q1) he kN
end
end L2
namespace HT
open PySem PyProof.Rows
section
open PySem.SeqAt
open PySem.AutoSeq1 (wpAny_loadPart')
open PySem.MeetsSeq PySem.MeetsSeq2 PySem.MeetsSeq3
end
section
variable {prog:Program}{w:World}{A:Around}{E:Value->Shared->Prop}{s:Shared}
theorem bs'(ht:IsTup s.heap t vs.toArray)(hb:IsTup s.heap b ws.toArray)(hv:vs≠[])
  (h1:ws=[]->Q (.ref t) s) (h2:ws≠[]->Q (.ref s.heap.objs.size) { s with heap:=s.heap.push { cls:=.type "tuple",data:=.seq (vs++ws).toArray } })
  (hsz:vs.length+ws.length<=sizeLine):wpAny (model prog w) A (binaryOp .Add (.ref t) (.ref b)) Q E s:=by
 obtain⟨⟨cls,dd,data,sl⟩,ho,hc,n,hd⟩:=id ht
 obtain⟨⟨Ss,rS,data2,rV⟩,qa,x3,n2,hd2⟩:=id hb
 simp only at hc hd x3 hd2
 subst hc hd x3 hd2
 have e:vs.toArray++ws.toArray=(vs++ws).toArray:=by simp
 by_cases hw:ws=[]
 ·exact concat_meets ⟨_,ho,rfl⟩ ⟨_,qa,rfl⟩ noFill_tuple_add seq_tuple_add PySem.F.slot_tuple_add PySem.F.entry_tuple_add (PySem.F.args_tuple_add_2 _ _)
   (tuple_addW1 t b vs.toArray ws.toArray n n2 dd rS sl rV (by simpa using hv) (by simp[hw])) ⟨ho,qa,h1 hw⟩
 ·refine concat_meets ⟨_,ho,rfl⟩ ⟨_,qa,rfl⟩ noFill_tuple_add seq_tuple_add PySem.F.slot_tuple_add PySem.F.entry_tuple_add (PySem.F.args_tuple_add_2 _ _)
   (tuple_addW2 t b vs.toArray ws.toArray n n2 dd rS sl rV (by simpa using hv) (by simpa using hw) (by rw[hG,hG];exact hsz)) ⟨ho,qa,?_⟩
  rw[e]
  exact h2 hw
def bI(n d:Nat):Option Int->Nat
 |none=>d
 |some v=>if v<0 then (v+(n:Int)).toNat else min v.toNat n
theorem bt'(n d:Nat)(hd:d<=n)(o:Option Int):bI n d o<=n:=by
 cases o with
 |none=>exact hd
 |some v =>
  show(if v<0 then (v+(n:Int)).toNat else min v.toNat n)<=n
  by_cases hv:v<0
  ·rw[if_pos hv];lia
  ·rw[if_neg hv];exact Nat.min_le_right _ _
theorem Wk(v:Int)(n d:Nat):(if v<0 then max (v+(n:Int)) 0 else min v (n:Int))=((bI n d (some v):Nat):Int):=by
 show(if v<0 then max (v+(n:Int)) 0 else min v (n:Int))=(((if v<0 then (v+(n:Int)).toNat else min v.toNat n):Nat):Int)
 by_cases hv:v<0
 ·simp only[if_pos hv];lia
 ·simp only[if_neg hv];lia
theorem bu'(lo hi:Option Int)(n:Nat):Builtin.Slice.sliceAdjust lo hi 1 (n:Int)=(((bI n 0 lo:Nat):Int),((bI n n hi:Nat):Int)):=by
 have h1:¬ ((1:Int)<0):=by decide
 unfold Builtin.Slice.sliceAdjust
 simp only[h1,if_false]
 refine Prod.ext ?_ ?_
 ·cases lo with
  |none=>rfl
  |some v=>exact Wk v n 0
 ·cases hi with
  |none=>rfl
  |some v=>exact Wk v n n
theorem bv'(i j:Nat):Builtin.Slice.slicePlaces (i:Int) (j:Int) 1=j-i:=by
 unfold Builtin.Slice.slicePlaces
 have h1:(1:Int)>0:=by exact wo _
 simp only[h1,if_true,Int.ediv_one]
 split<;>lia
theorem Wl(p:IsPart v o)(h:Q o s):wpAny (model prog w) A (Builtin.Slice.slicePartIndex v) Q E s:=by
 cases p with
 |none=>exact slicePart_none h
 |int i t=>exact slicePart_int h
theorem bw'{sl:Addr}{vl vu:Value}{lo hi:Option Int}{n:Nat}{Q:Int × Int × Nat->Shared->Prop}(hs:s.heap.IsSliceOf sl vl vu .none)(pl:IsPart vl lo)(pu:IsPart vu hi)
  (h:Q (((bI n 0 lo:Nat):Int),1,bI n n hi-bI n 0 lo) s):wpAny (model prog w) A (Builtin.Slice.sliceApplied (.ref sl) (pure (n:Int))) Q E s:=by
 obtain⟨os,MD,oB,xa⟩:=id hs
 unfold Builtin.Slice.sliceApplied Builtin.Slice.sliceFields
 refine ai (ai (wpAny_field MD xa (x:=vl) rfl (ai (wpAny_field MD xa (x:=vu) rfl (ai (wpAny_field MD xa (x:=.none) rfl (aS ?_)))))))
 refine ai (slicePart_none ?_)
 show wpAny _ _ (if ((1:Int) == 0)=true then _ else _) _ _ s
 rw[if_neg (by decide)]
 refine ai (Wl pl (ai (Wl pu (ai (aS ?_)))))
 show wpAny _ _ (match Builtin.Slice.sliceAdjust lo hi 1 (n:Int) with|(lo,hi)=>pure (lo,(1:Int),Builtin.Slice.slicePlaces lo hi 1)) _ _ s
 rw[bu' lo hi n]
 show wpAny _ _ (pure (((bI n 0 lo:Nat):Int),(1:Int),Builtin.Slice.slicePlaces ((bI n 0 lo:Nat):Int) ((bI n n hi:Nat):Int) 1)) _ _ s
 rw[bv']
 exact aS h
theorem bx'(xs:Array Value)(i k:Nat):((List.range k).filterMap fun(m:Nat)=>xs[((i:Int)+(m:Int)*1).toNat]?).toArray=((xs.toList.drop i).take k).toArray:=by
 have e:(fun(m:Nat)=>xs[((i:Int)+(m:Int)*1).toNat]?)=fun m=>xs[i+m]? := by
  funext m
  have:((i:Int)+(m:Int)*1).toNat=i+m:=by exact(Nat.add_assoc ..).symm
  rw[this]
 rw[e]
 have:=pick_run xs i k
 rw[Ry] at this
 have e2:((fun x=>xs[x]?) ∘ fun x=>i+x)=fun m=>xs[i+m]? := rfl
 rw[e2] at this
 rw[this]
theorem by'{lo hi:Option Int}(ht:IsTup s.heap t items)(hs:s.heap.IsSliceOf sl vl vu .none)(pl:IsPart vl lo)(pu:IsPart vu hi)
  (hw:¬ (bI items.size 0 lo=0/\bI items.size items.size hi=items.size))
  (h:Q (.ref s.heap.objs.size) { s with heap:=s.heap.push { cls:=.type "tuple",data:=.seq ((items.toList.drop (bI items.size 0 lo)).take (bI items.size items.size hi-bI items.size 0 lo)).toArray } })
  (hsz:items.size<=sizeLine):wpAny (model prog w) A (getItem (.ref t) (.ref sl)) Q E s:=by
 have P8:sizeOk (.seq ((items.toList.drop (bI items.size 0 lo)).take (bI items.size items.size hi-bI items.size 0 lo)).toArray):=by
  show((items.toList.drop (bI items.size 0 lo)).take (bI items.size items.size hi-bI items.size 0 lo)).toArray.size<=sizeLine
  rw[hG,lh,BQ,xA]
  lia
 have hj:bI items.size items.size hi<=items.size:=bt' _ _ (bX _) hi
 obtain⟨os,MD,oB,xa⟩:=id hs
 have hTs:s.TypeIs (.ref sl) "slice" := ⟨os,MD,oB⟩
 unfold getItem
 try with_reducible refine wpAny_holding ?_
 first|refine ai (aS ?_)|skip
 refine ai (wpAny_sequenceKey ht.typeIs (by decide) ?_)
 refine ai (wpAny_callSpecial?_slot (name:=Str.ofString "__getitem__") ht.typeIs PyProof.Rows.slot_tuple_getitem
  (wpAny_call_entry PyProof.Rows.slot_tuple_getitem ht.typeIs entry_tuple_getitem ?_ (args_tuple_getitem _ _)))
 show wpAny _ _ (Builtin.Tuple.tupleItemsOf (.ref t) >>= _) _ _ s
 refine ai (tupleItemsOf_ ht ?_)
 refine ai (wpAny_typeOf hTs ?_)
 rw[if_pos (by decide)]
 refine ai (bw' hs pl pu ?_)
 have CC:¬ ((((bI items.size 0 lo:Nat):Int) == 0 && (1:Int) == 1 && (bI items.size items.size hi-bI items.size 0 lo) == items.size)=true):=by
  intro q
  rw[mw,mw] at q
  have q1:((bI items.size 0 lo:Nat):Int)=0:=eq_of_beq q.1.1
  have q2:bI items.size items.size hi-bI items.size 0 lo=items.size:=eq_of_beq q.2
  exact hw ⟨by lia,by lia⟩
 show wpAny _ _ (if (((bI items.size 0 lo:Nat):Int) == 0 && (1:Int) == 1 && (bI items.size items.size hi-bI items.size 0 lo) == items.size)=true then _ else _) _ _ s
 rw[if_neg CC,bx']
 first
  |exact ai (m:=Builtin.Tuple.tupleExact _) (wpAny_newObj_type (aS ⟨_,rfl,aS h⟩) P8)
  |exact ai (m:=Builtin.Tuple.tupleExact _) (wpAny_newObj_type (ai (aS (aS ⟨_,rfl,aS h⟩))) P8)
  |exact ai (ai (m:=Builtin.Tuple.tupleExact _) (wpAny_newObj_type (aS (aS ⟨_,rfl,aS h⟩)) P8))
  |exact ai (ai (m:=Builtin.Tuple.tupleExact _) (wpAny_newObj_type (aS ⟨_,rfl,aS h⟩) P8))
end
end HT
namespace L2
open PySem PySem.Spec PyProof.Rows
abbrev TO:=St->Hp->(Option Int->Hp->Prop)->Prop
def PO(X:Cx)(e:Option Expr)(t:TO):Prop :=
 ∀ (pins:List (Addr × Obj)) (s:Shared) (σ:St) (H:Hp) (Q:Option Int->Hp->Prop),Inv X pins σ H s->t σ H Q ->
  wpAny (model X.prog X.w) X.A (evalPart e X.env) (fun u s'=>∃ o H',Inv X pins σ H' s'/\IsPart u o/\Q o H') X.xe s
def bA':TO:=fun _ H Q=>Q none H
def bB'(t:TE):TO:=fun σ H Q=>t σ H fun x H1=>∃ i,x=.int i/\Q (some i) H1
section
variable {X:Cx}{e:Expr}{te:TE}{lo hi:Option Expr}{tl th:TO}{pos p2:Pos}
theorem bC':PO X none bA':=by
 intro pins s σ H Q I h
 rw[evalPart_none]
 exact aS ⟨none,H,I,.none,h⟩
theorem bD'(h:PE X e te):PO X (some e) (bB' te):=by
 intro pins s σ H Q I hw
 rw[evalPart_some]
 refine ck (h pins s σ H _ I hw) fun u s1 cx=>L2.gu cx fun x H1 I1 r1 q1=>?_
 obtain⟨i,rfl,q⟩:=q1
 obtain⟨t,rfl⟩:=r1
 exact⟨some i,H1,I1,.int i t,q⟩
def HK(X:Cx)(r:V->Option Int->Option Int->Hp->VK->Prop):Prop :=
 ∀ (pins:List (Addr × Obj)) (s:Shared) (σ:St) (H:Hp) (x:V) (v vl vu:Value) (lo hi:Option Int) (sl:Addr) (Q:VK),Inv X pins σ H s->RelV x v->s.heap.IsSliceOf sl vl vu .none->IsPart vl lo->IsPart vu hi->r x lo hi H Q ->
  ∃ T id,typeLookup (.type T) "__getitem__" = pure (some (.builtin id))/\s.TypeIs v T/\wpAny (model X.prog X.w) X.A (getItem v (.ref sl)) (EP X pins σ Q) X.xe s
def tSl(r:V->Option Int->Option Int->Hp->VK->Prop)(te:TE)(tl th:TO):TE:=fun σ H Q=>te σ H fun x H1=>tl σ H1 fun l H2=>th σ H2 fun u H3=>r x l u H3 Q
theorem bF'(hr:HK X r)(he:PE X e te)(hl:PO X lo tl)(hu:PO X hi th):PE X (.Subscript e (.Slice lo hi none p2) pos) (tSl r te tl th):=by
 intro pins s σ H Q I h
 refine Subscript_ (ck (he pins s σ H _ I h) fun v s1 cx=>L2.gu cx fun x H1 I1 r1 q1=>?_)
 refine wpAny_Slice (ck (hl pins s1 σ H1 _ I1 q1) fun vl s2 cx=>L2.gu cx fun l H2 I2 pl q2=>ck (hu pins s2 σ H2 _ I2 q2) fun vu s3 cx=>L2.gu cx fun u H3 I3 pu q3=>?_)
 rw[evalPart_none]
 refine aS ?_
 have I4:Inv X pins σ H3 { s3 with heap:=s3.heap.push { cls:=.type "slice",data:=.fields #[vl,vu,.none] } }:=I3.kept (t':=s3.toks) fun b ob q=>eW _ q
 obtain⟨T,id,hT,ht,hg⟩:=hr pins { s3 with heap:=s3.heap.push { cls:=.type "slice",data:=.fields #[vl,vu,.none] } } σ H3 x v vl vu l u s3.heap.objs.size Q I4 r1 (Heap.IsSliceOf.new ..) pl pu q3
 show wpAny (model X.prog X.w) X.A (subscriptTail e (.Slice lo hi none p2) v (.ref s3.heap.objs.size)) (EP X pins σ Q) X.xe { s3 with heap:=s3.heap.push { cls:=.type "slice",data:=.fields #[vl,vu,.none] } }
 exact tail_any (ops:=[.ref s3.heap.objs.size,v]) ht hT hg (by with_unfolding_all rfl)
def AU(xs:List V)(lo hi:Option Int):List V:=(xs.drop (HT.bI xs.length 0 lo)).take (HT.bI xs.length xs.length hi-HT.bI xs.length 0 lo)
theorem Wm(xs:List V)(lo hi:Option Int):(AU xs lo hi).length<=xs.length:=by
 unfold AU
 rw[lh,BQ]
 lia
def Wn(K:PySem.W.Frag):V->Option Int->Option Int->Hp->VK->Prop:=fun x lo hi H Q=>∃ a xs,x=.ref a/\nX K H a xs /\
 ¬ (HT.bI xs.length 0 lo=0/\HT.bI xs.length xs.length hi=xs.length)/\∀ p,H p=none->Q (.ref p) (upd H p (.tup (AU xs lo hi)))
theorem bG':HK X (Wn X.K):=by
 intro pins s σ H x v vl vu lo hi sl Q I rx hs pl pu h
 obtain⟨a,xs,rfl,hx,hw,q⟩:=h
 cases rx
 obtain⟨its,r,ht,hz⟩:=I.tuple hx
 have hlen:its.toArray.size=xs.length:=by rw[hG];exact r.length.symm
 refine⟨"tuple",_,PyProof.Rows.slot_tuple_getitem.lookup,ht.typeIs,?_⟩
 refine HT.by' ht hs pl pu (by rw[hlen];exact hw) ?_ (by rw[hlen];exact hz)
 rw[hlen]
 refine⟨.ref s.heap.objs.size,_,I.laid (t':=s.toks) (o:=.tup (AU xs lo hi)) (fun b ob q=>eW _ q) (bX _) ?_,rfl,q _ (I.bq.fresh (bX _))⟩
 exact⟨iO (Wm xs lo hi) hz,_,(r.drop (HT.bI xs.length 0 lo)).take (HT.bI xs.length xs.length hi-HT.bI xs.length 0 lo),IsTup.new _ _⟩
def Sv(K:PySem.W.Frag):R2:=fun x y H Q=>∃ a b xs ys,x=.ref a/\y=.ref b/\nX K H a xs/\nX K H b ys/\xs≠[]/\xs.length+ys.length<=sizeLine /\
 (ys=[]->Q (.ref a) H)/\(ys≠[]->∀ p,H p=none->Q (.ref p) (upd H p (.tup (xs++ys))))
theorem Vals.Sw(r:Vals xs us):us=[]↔xs=[]:=by
 cases r with
 |nil=>simp
 |cons _ _=>simp
theorem bH':cE X (binaryOp .Add) (Sv X.K):=by
 intro pins s σ H x y v u Q I rx ry h
 obtain⟨a,b,xs,ys,rfl,rfl,ha,hb,hx,hz,q1,q2⟩:=h
 cases rx
 cases ry
 obtain⟨its,r1,p1,_⟩:=I.tuple ha
 obtain⟨AV,r2,p2,_⟩:=I.tuple hb
 refine HT.bs' p1 p2 (fun z=>hx (r1.Sw.mp z)) (fun z=>⟨.ref a,H,I,rfl,q1 (r2.Sw.mp z)⟩) (fun z=>?_) (by rw[<- r1.length,<- r2.length];exact hz)
 refine⟨.ref s.heap.objs.size,_,I.laid (t':=s.toks) (o:=.tup (xs++ys)) (fun b ob q=>eW _ q) (bX _) ?_,rfl,q2 (fun w=>z (r2.Sw.mpr w)) _ (I.bq.fresh (bX _))⟩
 exact⟨by rw[ng];exact hz,_,r1.append r2,IsTup.new _ _⟩
end
def n5(n:Nat)(i:Int):Option Nat:=if 0<=i then (if i<n then some i.toNat else none) else if -(n:Int)<=i then some (i+n).toNat else none
def fi{α:Type}(xs:List α)(i:Int):Option α:=(n5 xs.length i).bind fun j=>xs[j]?
theorem bI'(h:n5 n i=some j):seqIndex? i n=some j/\j<n/\-(n:Int)<=i/\i<n:=by
 unfold n5 at h
 by_cases h0:0<=i
 ·rw[if_pos h0] at h
  by_cases h1:i<n
  ·rw[if_pos h1] at h
   have e:i.toNat=j:=Option.some.inj h
   exact⟨by rw[seqIndex_of h0 h1,e],by lia,by lia,h1⟩
  ·rw[if_neg h1] at h;cases h
 ·rw[if_neg h0] at h
  by_cases h1:-(n:Int)<=i
  ·rw[if_pos h1] at h
   have e:(i+n).toNat=j:=Option.some.inj h
   exact⟨by rw[seqIndex_neg (by lia) h1,e],by lia,h1,by lia⟩
  ·rw[if_neg h1] at h;cases h
theorem Sx{α:Type}{xs:List α}{i:Int}{v:α}(h:fi xs i=some v):∃ j,seqIndex? i xs.length=some j/\xs[j]? = some v/\j<xs.length/\-(xs.length:Int)<=i/\i<xs.length:=by
 unfold fi at h
 cases e:n5 xs.length i with
 |none=>rw[e] at h;cases h
 |some j =>
  rw[e] at h
  obtain⟨h1,h2,h3,h4⟩:=bI' e
  exact⟨j,h1,h,h2,h3,h4⟩
theorem HL{α:Type}{xs:List α}{j:Nat}{v:α}(h:xs[j]? = some v):fi xs (j:Int)=some v:=by
 have hj:j<xs.length:=(iL.mp h).1
 have e:n5 xs.length (j:Int)=some j:=by
  unfold n5
  rw[if_pos (by walk_at "s1"),if_pos (by lia)];simp
 unfold fi;rw[e];exact h
theorem bJ'{α:Type}(xs:List α)(v:α):fi (xs++[v]) (-1)=some v:=by
 have hl:(xs++[v]).length=xs.length+1:=by simp
 have e:n5 (xs++[v]).length (-1)=some xs.length:=by
  unfold n5
  rw[hl,if_neg (by decide),if_pos (by lia)]
  congr 1
  lia
 unfold fi
 rw[e]
 show(xs++[v])[xs.length]? = some v
 simp
def P9(b:Expr):Prop:=∀ o i,subscripted b false o i=operate [o,i] (getItem o i)
def ve(X:Cx)(r:R2):Prop :=
 ∀ (value slice:Expr) (pins:List (Addr × Obj)) (s:Shared) (σ:St) (H:Hp) (x y:V) (v u:Value) (Q:VK),Inv X pins σ H s->RelV x v->RelV y u->r x y H Q ->
  subscripted slice false v u=operate [v,u] (getItem v u)->wpAny (model X.prog X.w) X.A (subscriptTail value slice v u) (EP X pins σ Q) X.xe s
def P_(X:Cx)(id:String)(r:V->List V->Hp->VK->Prop):Prop :=
 ∀ (pins:List (Addr × Obj)) (s:Shared) (σ:St) (H:Hp) (x:V) (xs:List V) (v:Value) (us:List Value) (Q:VK),Inv X pins σ H s->RelV x v->Vals xs us->r x xs H Q ->
  wpAny (model X.prog X.w) X.A (call (.builtin id) (v :: us)) (EP X pins σ Q) X.xe s
section
variable {X:Cx}{a b:Expr}{ta tb:TE}{pos:Pos}
theorem ve.or(h:ve X r)(h':ve X r'):ve X (fun x y H Q=>r x y H Q\/r' x y H Q):=by
 intro value slice pins s σ H x y v u Q I rx ry q hs
 rcases q with q|q
 ·exact h value slice pins s σ H x y v u Q I rx ry q hs
 ·exact h' value slice pins s σ H x y v u Q I rx ry q hs
theorem Sy{r:R2}(hr:ve X r)(ha:PE X a ta)(hb:PE X b tb)(hs:P9 b):PE X (.Subscript a b pos) (Mb r ta tb):=by
 intro pins s σ H Q I h
 exact Subscript_ (R9 ha hb I h fun v u s2 x y H2 I2 rx ry q=>hr a b pins s2 σ H2 x y v u Q I2 rx ry q (hs _ _))
def Wo(K:PySem.W.Frag):R2:=fun x y H Q=>∃ p xs i v,x=.ref p/\y=.int i/\eL K H p xs/\fi xs i=some v/\Q v H
def Wq(K:PySem.W.Frag):R2:=fun x y H Q=>∃ p xs i v,x=.ref p/\y=.int i/\nX K H p xs/\fi xs i=some v/\Q v H
def Wr:R2:=fun x y H Q=>∃ z i c,x=.str z/\y=.int i/\z.length<=sizeLine/\fi z.cps.toList i=some c/\Q (.str ⟨#[c]⟩) H
theorem bK':ve X (Wo X.K):=by
 intro value slice pins s σ H x y v u Q I rx ry h hs
 obtain⟨p,xs,i,z,rfl,rfl,hq,he,q⟩:=h
 cases rx
 obtain⟨t,rfl⟩:=ry
 obtain⟨its,r,pl,hz⟩:=I.list hq
 obtain⟨j,h1,h2,h3,h4,h5⟩:=Sx he
 obtain⟨w,ew,lP⟩:=r.get h2
 have hl:=r.length
 have hn:=Mk
 have fin:EP X pins σ Q w s:=⟨z,H,I,lP,q⟩
 by_cases h0:0<=i
 ·have hj:i.toNat=j:=by
   rw[seqIndex_of h0 h5] at h1
   exact Option.some.inj h1
  exact item_listR pl.isList h0 (by lia) (by rw[hj];simpa using ew) fin hs
 ·have hj:(i+(its.toArray.size:Int)).toNat=j:=by
   rw[seqIndex_neg (by exact Int.not_le.mp ‹_›) h4] at h1
   rw[hG,<- hl]
   exact Option.some.inj h1
  exact subscriptTail_builtinR (x:=w) pl.isList.typeIs slot_list_getitem.lookup
   (wpAny_getItem_list_neg (Q:=fun r s'=>r=w/\EP X pins σ Q r s') pl.isList (by exact Int.not_le.mp ‹_›) (by rw[hG]<;>lia) (by lia) (by rw[hj];simpa using ew) ⟨rfl,fin⟩) hs
theorem bL':ve X (Wq X.K):=by
 intro value slice pins s σ H x y v u Q I rx ry h hs
 obtain⟨p,xs,i,z,rfl,rfl,hq,he,q⟩:=h
 cases rx
 obtain⟨t,rfl⟩:=ry
 obtain⟨its,r,pl,hz⟩:=I.tuple hq
 obtain⟨j,h1,h2,h3,h4,h5⟩:=Sx he
 obtain⟨w,ew,lP⟩:=r.get h2
 have hl:=r.length
 have hn:=Mk
 have fin:EP X pins σ Q w s:=⟨z,H,I,lP,q⟩
 exact subscriptTail_builtinR (x:=w) pl.typeIs slot_tuple_getitem.lookup
  (getItem_tuple (j:=j) (Q:=fun r s'=>r=w/\EP X pins σ Q r s') pl (by lia) (by lia) (by rw[hG,<- hl];exact h1) (by simpa using ew) ⟨rfl,fin⟩) hs
theorem bM':ve X Wr:=by
 intro value slice pins s σ H x y v u Q I rx ry h hs
 obtain⟨z,i,c,rfl,rfl,hz,he,q⟩:=h
 obtain⟨t,rfl⟩:=rx
 obtain⟨t',rfl⟩:=ry
 obtain⟨j,h1,h2,h3,h4,h5⟩:=Sx he
 have hl:z.cps.toList.length=z.length:=by simp[Str.length]
 rw[hl] at h1 h4 h5
 have hn:=Mk
 exact tail_any (typeIs_str s z t) slot_str_getitem.lookup (getItem_str (c:=c) (by
  have e1:decide (i < -(2 ^ 63:Int))=false:=decide_eq_false (by lia)
  have e2:decide (i >= 2 ^ 63)=false:=decide_eq_false (by lia)
  rw[e1,e2,Bool.or_false]) (by rw[h1];simpa using h2) ⟨.str ⟨#[c]⟩,H,I.tok _,⟨_,rfl⟩,q⟩) hs
def rIx(K:PySem.W.Frag):R2:=fun x y H Q=>Wo K x y H Q\/Wq K x y H Q\/Wr x y H Q
theorem bO':ve X (rIx X.K):=bK'.or (bL'.or bM')
theorem bP'(lo hi:Option Int)(n:Nat):(sliceBounds lo hi none n).1=((HT.bI n 0 lo:Nat):Int)/\(sliceBounds lo hi none n).2.1=((HT.bI n n hi:Nat):Int)/\(sliceBounds lo hi none n).2.2=1:=by
 refine⟨?_,?_,rfl⟩
 ·cases lo with
  |none=>simp[sliceBounds,HT.bI]
  |some i =>
   simp only[sliceBounds,HT.bI,Option.getD_none,show(1:Int)>0 by decide,if_true]
   by_cases h:i<0
   ·simp only[h,if_true]<;>lia
   ·simp only[h,if_false]<;>lia
 ·cases hi with
  |none=>simp[sliceBounds,HT.bI]
  |some i =>
   simp only[sliceBounds,HT.bI,Option.getD_none,show(1:Int)>0 by decide,if_true]
   by_cases h:i<0
   ·simp only[h,if_true]<;>lia
   ·simp only[h,if_false]<;>lia
theorem bQ'(its:List Value)(lo hi:Option Int):slicePick its.toArray lo hi none=((its.drop (HT.bI its.length 0 lo)).take (HT.bI its.length its.length hi-HT.bI its.length 0 lo)).toArray:=by
 obtain⟨h1,h2,h3⟩:=bP' lo hi its.toArray.size
 unfold slicePick
 rw[h1,h2,h3]
 simp only[sliceRange_one,pick_run,hG]<;>rfl
def bR'(K:PySem.W.Frag):V->Option Int->Option Int->Hp->VK->Prop:=fun x lo hi H Q=>∃ a xs,x=.ref a/\eL K H a xs/\∀ p,H p=none->Q (.ref p) (upd H p (.lst (AU xs lo hi)))
theorem bS':HK X (bR' X.K):=by
 intro pins s σ H x v vl vu lo hi sl Q I rx hs pl pu h
 obtain⟨a,xs,rfl,hx,q⟩:=h
 cases rx
 obtain⟨its,r,ht,hz⟩:=I.list hx
 have hlen:=r.length
 refine⟨"list",_,slot_list_getitem.lookup,ht.isList.typeIs,?_⟩
 refine wpAny_getItem_list_slice ht.isList hs pl pu .none (by simp) ?_ (by rw[hG]<;>lia)
 rw[bQ',<- hlen]
 refine⟨.ref s.heap.objs.size,_,I.laid (t':=s.toks) (o:=.lst (AU xs lo hi)) (fun b ob q=>eW _ q) (bX _) ?_,rfl,q _ (I.bq.fresh (bX _))⟩
 exact⟨iO (Wm xs lo hi) hz,_,0,(r.drop (HT.bI xs.length 0 lo)).take (HT.bI xs.length xs.length hi-HT.bI xs.length 0 lo),jv _ rfl⟩
def zh:V->Bool
 |.non=>true
 |.bl _=>true
 |.int _=>true
 |.str _=>true
 |_=>false
def AW:V->V->Bool
 |.non,.non=>true
 |.bl a,.bl b=>a == b
 |.bl a,.int b=>(if a then 1 else 0) == b
 |.int a,.bl b=>a == (if b then 1 else 0)
 |.int a,.int b=>a == b
 |.str a,.str b=>a == b
 |_,_=>false
theorem bT'(ry:RelV y u)(rx:RelV x v)(fy:zh y=true)(fx:zh x=true):SeqAt.EqAt A s u v (AW y x):=by
 cases y with
 |non =>
  cases ry
  cases x with
  |non=>cases rx;exact SeqAt.EqAt.same _
  |bl b=>cases rx;exact SeqAt.EqAt.none_bool b
  |int b=>obtain⟨t,rfl⟩:=rx;exact SeqAt.EqAt.none_int b t
  |str b=>obtain⟨t,rfl⟩:=rx;exact SeqAt.EqAt.none_str b t
  |_=>exact absurd (show false=true from fx) gy
 |bl a =>
  cases ry
  cases x with
  |non=>cases rx;exact SeqAt.EqAt.bool_none a
  |bl b=>cases rx;exact SeqAt.EqAt.bool_bool a b
  |int b=>obtain⟨t,rfl⟩:=rx;exact SeqAt.EqAt.bool_int a b t
  |str b=>obtain⟨t,rfl⟩:=rx;exact SeqAt.EqAt.bool_str a b t
  |_=>exact absurd (show false=true from fx) gy
 |int a =>
  obtain⟨t',rfl⟩:=ry
  cases x with
  |non=>cases rx;exact SeqAt.EqAt.int_none a t'
  |bl b=>cases rx;exact SeqAt.EqAt.int_bool a t' b
  |int b=>obtain⟨t,rfl⟩:=rx;exact SeqAt.EqAt.int_int a t' b t
  |str b=>obtain⟨t,rfl⟩:=rx;exact SeqAt.EqAt.int_str a t' b t
  |_=>exact absurd (show false=true from fx) gy
 |str a =>
  obtain⟨t',rfl⟩:=ry
  cases x with
  |non=>cases rx;exact SeqAt.EqAt.str_none a t'
  |bl b=>cases rx;exact SeqAt.EqAt.str_bool a t' b
  |int b=>obtain⟨t,rfl⟩:=rx;exact SeqAt.EqAt.str_int a t' b t
  |str b=>obtain⟨t,rfl⟩:=rx;exact SeqAt.EqAt.str_str a t' b t
  |_=>exact absurd (show false=true from fx) gy
 |_=>exact absurd (show false=true from fy) gy
def rX(x:V)(u:Value):Bool:=match u with
 |.none=>AW .non x
 |.bool b=>AW (.bl b) x
 |.int i _=>AW (.int i) x
 |.str z _=>AW (.str z) x
 |_=>false
theorem Ws(r:RelV y u)(f:zh y=true):rX x u=AW y x:=by
 cases y with
 |non=>cases r;rfl
 |bl b=>cases r;rfl
 |int i=>obtain⟨t,rfl⟩:=r;rfl
 |str z=>obtain⟨t,rfl⟩:=r;rfl
 |_=>exact absurd (show false=true from f) gy
theorem MG:∀ {xs:List V} {us:List Value},Vals xs us->xs.all zh=true->us.any (rX x)=xs.any fun y=>AW y x
 |_,_,.nil,_=>rfl
 |y :: xs,u :: us,.cons r t,f=>by
  rw[AJ,mw] at f
  rw[AK,AK,Ws r f.1,MG t f.2]
theorem ML(rx:RelV x v)(fx:zh x=true):∀ {xs:List V} {us:List Value},Vals xs us->xs.all zh=true->∀ u∈us,SeqAt.EqAt A s u v (rX x u)
 |_,_,.nil,_=>fun u hu=>by cases hu
 |y :: xs,u :: us,.cons r t,f=>fun u' hu=>by
  rw[AJ,mw] at f
  rcases dv.mp hu with rfl|hu
  ·rw[Ws r f.1];exact bT' r rx f.1 fx
  ·exact ML rx fx t f.2 u' hu
def Qa(x:V)(xs:List V):Bool:=xs.any fun y=>AW y x
def MQ(K:PySem.W.Frag)(neg:Bool):R2:=fun x y H Q=>∃ p xs,y=.ref p/\(eL K H p xs\/nX K H p xs)/\zh x=true/\xs.all zh=true/\Q (.bl (if neg then !Qa x xs else Qa x xs)) H
theorem bU':cE X (compareOp .In) (MQ X.K false):=by
 intro pins s σ H x y v u Q I rx ry h
 obtain⟨p,xs,rfl,hq,fx,fs,q⟩:=h
 cases ry
 rcases hq with hq|hq
 ·obtain⟨its,r,pl,hz⟩:=I.list hq
  refine SeqAt.in_listAt (rX x) pl.isList (fun w hw=>ML rx fx r fs w (by simpa using hw)) ⟨.bl _,H,I,rfl,?_⟩
  rw[show its.toArray.any (rX x)=its.any (rX x) by simp,MG r fs]
  exact q
 ·obtain⟨its,r,pl,hz⟩:=I.tuple hq
  refine SeqAt.in_tupleAt (rX x) pl (fun w hw=>ML rx fx r fs w (by simpa using hw)) ⟨.bl _,H,I,rfl,?_⟩
  rw[show its.toArray.any (rX x)=its.any (rX x) by simp,MG r fs]
  exact q
theorem bV':cE X (compareOp .NotIn) (MQ X.K true):=by
 intro pins s σ H x y v u Q I rx ry h
 obtain⟨p,xs,rfl,hq,fx,fs,q⟩:=h
 cases ry
 rcases hq with hq|hq
 ·obtain⟨its,r,pl,hz⟩:=I.list hq
  refine SeqAt.notIn_listAt (rX x) pl.isList (fun w hw=>ML rx fx r fs w (by simpa using hw)) ⟨.bl _,H,I,rfl,?_⟩
  rw[show its.toArray.any (rX x)=its.any (rX x) by simp,MG r fs]
  exact q
 ·obtain⟨its,r,pl,hz⟩:=I.tuple hq
  refine SeqAt.notIn_tupleAt (rX x) pl (fun w hw=>ML rx fx r fs w (by simpa using hw)) ⟨.bl _,H,I,rfl,?_⟩
  rw[show its.toArray.any (rX x)=its.any (rX x) by simp,MG r fs]
  exact q
theorem kr.or(h:kr X f r)(h':kr X f r'):kr X f (fun xs H Q=>r xs H Q\/r' xs H Q):=by
 intro pins s σ H xs us Q I rs q
 rcases q with q|q
 ·exact h pins s σ H xs us Q I rs q
 ·exact h' pins s σ H xs us Q I rs q
theorem bW':kr X (.type "list") (fun xs H Q=>∃ p ys,xs=[.ref p]/\(eL X.K H p ys\/nX X.K H p ys)/\∀ l,H l=none->Q (.ref l) (upd H l (.lst ys))):=by
 intro pins s σ H xs us Q I r h
 obtain⟨p,ys,rfl,hq,q⟩:=h
 obtain⟨u,rfl,rx⟩:=vals1 r
 cases rx
 have fin:∀ (its:List Value),Vals ys its->ys.length<=sizeLine->∀ (h':Heap) (c':Nat),(∀ b o',s.heap.get? b=some o'->h'.get? b=some o') ->
   h'.get? s.heap.objs.size=some { cls:=.type "list",dict:=none,data:=.seq its.toArray c',slots:=#[] }->EP X pins σ Q (.ref s.heap.objs.size) { s with heap:=h' }:=fun its r' hz h' c' kp e =>
  ⟨.ref s.heap.objs.size,_,I.laid (t':=s.toks) kp (bX _) (show fe X.prog X.w _ h' _ (.lst ys) from⟨hz,its,c',r',e⟩),rfl,q _ (I.bq.fresh (bX _))⟩
 rcases hq with hq|hq
 ·obtain⟨its,r',pl,hz⟩:=I.list hq
  have hlen:=r'.length
  obtain⟨o,ho,hc,n,hd⟩:=pl.isList
  exact call_list_seq p (.inl rfl) ho hc hd (fun h' c' kp e=>fin its r' hz h' c' kp e) (by simp only[hG]<;>lia)
 ·obtain⟨its,r',pl,hz⟩:=I.tuple hq
  have hlen:=r'.length
  obtain⟨o,ho,hc,n,hd⟩:=pl
  exact call_list_seq p (.inr rfl) ho hc hd (fun h' c' kp e=>fin its r' hz h' c' kp e) (by simp only[hG]<;>lia)
def Sz(K:PySem.W.Frag)(T:String)(x:V)(H:Hp):Prop:=match x with
 |.str _=>T = "str"
 |.int _=>T = "int"
 |.ref p=>(T = "list"/\∃ xs,eL K H p xs)\/(T = "tuple"/\∃ o,K.lookup p=some o/\o.cls=.type "tuple"/\o.dict=none) \/
   (T = "dict"/\((∃ kvs,H p=some (.dK kvs))\/∃ kvs,H p=some (.dT kvs)))\/(T = "set"/\∃ S n,H p=some (.set S n))
 |_=>False
theorem bX'{T:String}(I:Inv X pins σ H s)(r:RelV x v)(ty:Sz X.K T x H) :
  s.TypeIs v T/\∀ a,v=.ref a->∃ ob,s.heap.get? a=some ob/\ob.dict=none:=by
 cases x with
 |str z =>
  obtain⟨t,rfl⟩:=r
  cases (show T = "str" from ty)
  exact⟨typeIs_str s z t,fun _ e=>nomatch e⟩
 |int i =>
  obtain⟨t,rfl⟩:=r
  cases (show T = "int" from ty)
  exact⟨typeIs_int s i t,fun _ e=>nomatch e⟩
 |ref p =>
  cases r
  rcases ty with⟨rfl,xs,hq⟩|⟨rfl,o,hk,hc,hd⟩|⟨rfl,hk⟩|⟨rfl,S,n,hk⟩
  ·obtain⟨its,_,pl,_⟩:=I.list hq
   refine⟨pl.isList.typeIs,fun a e=>?_⟩
   cases e
   obtain⟨o,n,e,c,hd,_⟩:=pl
   exact⟨o,e,hd⟩
  ·refine⟨⟨o,I.ki p o hk,hc⟩,fun a e=>?_⟩
   cases e
   exact⟨o,I.ki _ o hk,hd⟩
  ·have z:∃ o,s.heap.get? p=some o/\o.ExactDict:=by
    rcases hk with⟨kvs,hk⟩|⟨kvs,hk⟩
    ·obtain⟨_,_,_,_,o,_,_,e,ex,_⟩:=I.bq p _ hk
     exact⟨o,e,ex⟩
    ·obtain⟨_,_,_,_,o,_,_,e,ex,_⟩:=I.bq p _ hk
     exact⟨o,e,ex⟩
   obtain⟨o,e,ex⟩:=z
   refine⟨⟨o,e,ex.1⟩,fun a e2=>?_⟩
   cases e2
   exact⟨o,e,ex.2.1⟩
  ·obtain⟨o,_,_,_,e,ex,_⟩:=I.bq p _ hk
   refine⟨⟨o,e,ex.1⟩,fun a e2=>?_⟩
   cases e2
   exact⟨o,e,ex.2.1⟩
 |_=>exact False.elim ty
def tBM(K:PySem.W.Frag)(T:String)(r:V->List V->Hp->VK->Prop)(to:TE)(t:TA):TE:=fun σ H Q=>to σ H fun x H1=>Sz K T x H1/\t σ H1 fun xs H2=>r x xs H2 Q
variable {o e:Expr}{es:List Expr}{to:TE}{t:TA}{name:Str}{apos dS:Pos}{T id:String}{r:V->List V->Hp->VK->Prop}
theorem EF (pa:PlainAttrs T) (slot:Slot T name id) (hty:typeOf (.builtin id)=pure (.type "method_descriptor")) (hm:P_ X id r) (ho:PE X o to) (ha:PA X (e :: es) t)
  (vi:attributeBase o name X.env (eval o X.env)=eval o X.env:=by rfl)
  (sj:((backTo dS (starEach (e :: es) X.env)).all (fun x=>!x.1) && (backToKw dS (keywordEach [] X.env)).all (fun x=>x.1.isSome)
   && decide ((e :: es).length+([]:List Keyword).length+(if ([]:List Keyword).isEmpty then 0 else 1)<30))=true:=by rfl)
  (hline:(apos.endLine == dS.line)=true:=by rfl) (hs:starEach (e :: es) X.env=(false,eval e X.env) :: starEach es X.env:=by rfl) (vj:(backTo dS (starEach es X.env)).any (·.1)=false:=by rfl) :
  PE X (.Call (.Attribute o name apos) (e :: es) [] dS) (tBM X.K T r to t):=by
 intro pins s σ H Q I h
 refine wpAny_Call_method_late vi sj hline rfl (ck (ho pins s σ H _ I h) fun v s1 cS=>?_)
 obtain⟨x,H1,I1,r1,ty,q1⟩:=cS
 obtain⟨h1,h2⟩:=bX' I1 r1 ty
 refine⟨T,id,pa,slot,hty,h1,h2,?_⟩
 have hA:=ha dS pins s1 σ H1 _ I1 q1
 rw[hs] at hA ⊢
 refine Calls.callWith_builtin (by show(false || (backTo dS (starEach es X.env)).any (·.1))=false;rw[vj]<;>rfl) (Calls.evalArgs_plain ?_)
 exact ck hA fun us s2 cx=>L2.gu cx fun vs H2 I2 r2 q2=>hm pins s2 σ H2 x vs v us Q I2 r1 r2 q2
end
def Wt(X:Cx)(id:String)(r:V->List V->Hp->VK->Prop):Prop :=
 ∀ (pins:List (Addr × Obj)) (s:Shared) (σ:St) (H:Hp) (x:V) (xs:List V) (v:Value) (us:List Value) (Q:VK),Inv X pins σ H s->RelV x v->Vals xs us->r x xs H Q ->
  wpAny (model X.prog X.w) X.A (call (.builtin id) (v :: us)) (EP X pins σ Q) X.xe s
theorem Vals.one{x:V}{us:List Value}(h:Vals [x] us):∃ u,us=[u]/\RelV x u:=by
 cases h
 rename_i r h
 cases h
 exact⟨_,rfl,‹_›⟩
theorem Vals.two{x y:V}{us:List Value}(h:Vals [x,y] us):∃ u v,us=[u,v]/\RelV x u/\RelV y v:=by
 cases h
 rename_i r h
 cases h
 rename_i q h
 cases h
 exact⟨_,_,rfl,‹_›,‹_›⟩
theorem Vals.rep(h:Vals xs us):∀ k:Nat,Vals (List.replicate k xs).flatten (List.replicate k us).flatten
 |0=>.nil
 |k+1=>by
  rw[yB,yB,AG,AG]
  exact Vals.append h (Vals.rep h k)
section
variable {X:Cx}{pins:List (Addr × Obj)}{σ:St}{H:Hp}{s:Shared}{l:Addr}{xs ys:List V}
theorem Inv.Wu{its its':List Value}{n:Nat}{f:Array Value->Array Value}{t':Nat}(I:Inv X pins σ H s)(hH:H l=some (.lst xs))
  (e:s.heap.get? l=some { cls:=.type "list",data:=.seq its.toArray n }) (hf:f its.toArray=its'.toArray) (hv:Vals ys its') (hz:ys.length<=sizeLine) :
  Inv X pins σ (upd H l (.lst ys)) { s with heap:=s.heap.update l (Obj.mapSeq f),toks:=t' }:=by
 have q:=PySem.IsL.update e f
 rw[hf] at q
 refine I.write (x:=l) (e:=l) (by rw[hH];exact trivial) (.inl rfl) (fun b' u hb hu=>(LN s.heap (Obj.mapSeq f) (Ne.symm hb)).trans hu) ⟨_,q⟩ ?_
 exact⟨hz,its',_,hv,q⟩
theorem Inv.SD(I:Inv X pins σ H s)(hv:Vals ys its)(hz:ys.length<=sizeLine) :
  Inv X pins σ (upd H s.heap.objs.size (.lst ys)) { s with heap:=s.heap.push { cls:=.type "list",data:=.seq its.toArray },toks:=t' } :=
 I.laid (fun _ _ q=>eW _ q) (bX _) ⟨hz,its,0,hv,jv _ rfl⟩
theorem Inv.fresh(I:Inv X pins σ H s):H s.heap.objs.size=none:=I.bq.fresh (bX _)
theorem Inv.SF (I:Inv X pins σ H s) (hH:H l=some (.lst xs)):xs.length<=sizeLine/\∃ (its:List Value) (n:Nat),Vals xs its/\xs.length=its.length/\s.heap.get? l=some { cls:=.type "list",data:=.seq its.toArray n }:=by
 obtain⟨z,its,n,r,e⟩:=I.bq l _ hH
 exact⟨z,its,n,r,r.length,e⟩
theorem ca'(h:n<=sizeLine):Builtin.List.listTooLong n=false:=by
 unfold Builtin.List.listTooLong
 exact decide_eq_false (by lia)
end
section
variable {X:Cx}
def Wv:V->List V->Hp->VK->Prop:=fun x vs H Q=>∃ l xs y,x=.ref l/\vs=[y]/\H l=some (.lst xs)/\xs.length<sizeLine/\Q .non (upd H l (.lst (xs++[y])))
theorem Qb:Wt X "list.append" Wv:=by
 intro pins s σ H x vs v us Q I rx rv h
 obtain⟨l,xs,y,rfl,rfl,hH,hz,q⟩:=h
 cases rx
 obtain⟨u,rfl,ru⟩:=rv.one
 obtain⟨z,its,n,r,hl,e⟩:=I.SF hH
 refine call_meets F.slot_list_append ⟨_,e,rfl⟩ F.entry_list_append (F.args_list_append_2 _ _) (PySem.list_append l its.toArray n u (by rw[hG];lia)) ⟨e,?_⟩
 refine⟨.non,_,I.Wu (its':=its++[u]) hH e (by simp) (r.append (.cons ru .nil)) ?_,rfl,q⟩
 rw[ng,List.length_singleton]
 assumption
def cb':V->List V->Hp->VK->Prop:=fun x vs H Q=>∃ l b xs zs,x=.ref l/\vs=[.ref b]/\H l=some (.lst xs)/\H b=some (.lst zs)/\xs.length+zs.length<=sizeLine/\Q .non (upd H l (.lst (xs++zs)))
theorem cc':Wt X "list.extend" cb':=by
 intro pins s σ H x vs v us Q I rx rv h
 obtain⟨l,b,xs,zs,rfl,rfl,hH,hB,hz,q⟩:=h
 cases rx
 obtain⟨u,rfl,ru⟩:=rv.one
 cases ru
 obtain⟨z,its,n,r,hl,e⟩:=I.SF hH
 obtain⟨z2,AV,n2,r2,vk,e2⟩:=I.SF hB
 have hsz:its.toArray.size+AV.toArray.size<=sizeLine:=by rw[hG,hG];lia
 have cd':¬ (!its.toArray.isEmpty && Builtin.List.listTooLong (its.toArray.size+AV.toArray.size))=true:=by
  rw[ca' hsz,Bool.and_false]
  exact gy
 refine call_meets F.slot_list_extend ⟨_,e,rfl⟩ F.entry_list_extend (F.args_list_extend_2 _ _)
  (AutoSeq1.list_extend_list_list_0 l its.toArray n b AV.toArray n2 cd' (by rw[hG];lia) (by lia)) ⟨e,e2,?_⟩
 refine⟨.non,_,I.Wu (its':=its++AV) hH e (by simp) (r.append r2) ?_,rfl,q⟩
 rw[ng]
 lia
end
section
set_option maxRecDepth 100000 in
end
section
variable {κ:Type}[DecidableEq κ]
def fP(kvs:List (κ × V))(k:κ):Option V:=(kvs.find? fun kv=>decide (kv.1=k)).map (·.2)
def putK(kvs:List (κ × V))(k:κ)(v:V):List (κ × V) :=
 if (kvs.any fun kv=>decide (kv.1=k))=true then kvs.map (fun kv=>if kv.1=k then (kv.1,v) else kv) else kvs++[(k,v)]
theorem vn{p:κ × V}{r:List (κ × V)}{k:κ}(e:p.1=k):fP (p :: r) k=some p.2:=by simp[fP,FT,e]
theorem vt{p:κ × V}{r:List (κ × V)}{k:κ}(e:¬ p.1=k):fP (p :: r) k=fP r k:=by simp[fP,FT,e]
theorem HM(k:κ):∀ kvs:List (κ × V),(kvs.any fun kv=>decide (kv.1=k))=(fP kvs k).isSome
 |[]=>rfl
 |p :: r=>by
  rw[AK]
  by_cases e:p.1=k
  ·simp only[vn e,decide_eq_true e,Bool.true_or,Option.isSome_some]
  ·rw[vt e,decide_eq_false e,Bool.false_or];exact HM k r
theorem Ww(k j:κ)(y:V):∀ kvs:List (κ × V),fP (kvs.map fun kv=>if kv.1=k then (kv.1,y) else kv) j=(fP kvs j).map fun x=>if j=k then y else x
 |[]=>rfl
 |p :: r=>by
  have ih:=Ww k j y r
  rw[fN]
  by_cases h:p.1=k
  ·rw[if_pos h]
   by_cases e:p.1=j
   ·rw[vn (p:=(p.1,y)) e,vn e,PH,if_pos (e.symm.trans h)]
   ·rw[vt (p:=(p.1,y)) e,vt e,ih]
  ·rw[if_neg h]
   by_cases e:p.1=j
   ·rw[vn (p:=p) e,vn e,PH,if_neg (fun z=>h (e.trans z))]
   ·rw[vt (p:=p) e,vt e,ih]
theorem Wx(k j:κ)(y:V):∀ kvs:List (κ × V),fP kvs k=none->fP (kvs++[(k,y)]) j=if j=k then some y else fP kvs j
 |[],_=>by
  by_cases e:k=j
  ·rw[if_pos e.symm];exact vn (p:=(k,y)) e
  ·rw[if_neg (fun z=>e z.symm)];exact vt (p:=(k,y)) e
 |p :: r,hn=>by
  rw[Pj]
  have hk:¬ p.1=k:=fun z=>by rw[vn z] at hn;cases hn
  rw[vt hk] at hn
  have ih:=Wx k j y r hn
  by_cases e:p.1=j
  ·rw[vn e,vn e,if_neg (fun z=>hk (e.trans z))]
  ·rw[vt e,vt e,ih]
theorem ce'(kvs:List (κ × V))(k j:κ)(y:V):fP (putK kvs k y) j=if j=k then some y else fP kvs j:=by
 unfold putK
 by_cases a:(kvs.any fun kv=>decide (kv.1=k))=true
 ·rw[if_pos a,Ww]
  rw[HM] at a
  by_cases e:j=k
  ·obtain⟨x,hx⟩:=Option.isSome_iff_exists.mp a
   rw[if_pos e,e,hx,PH,if_pos rfl]
  ·rw[if_neg e]
   cases fP kvs j with
   |none=>rfl
   |some x=>rw[PH,if_neg e]
 ·rw[if_neg a]
  refine Wx k j y kvs ?_
  rw[HM] at a
  cases q:fP kvs k with
  |none=>rfl
  |some x=>rw[q] at a;exact(a rfl).elim
theorem SG(kvs:List (κ × V))(k:κ)(v:V):(putK kvs k v).length<=kvs.length+1:=by
 unfold putK
 split
 ·rw[b4];exact RC _ _
 ·rw[ng,oz,List.length_nil];exact bX _
theorem uj.MR(r:uj o u):o.isSome=u.isSome:=by
 cases o with
 |none=>cases u with
  |none=>rfl
  |some _=>exact(show False from r).elim
 |some _=>cases u with
  |none=>exact(show False from r).elim
  |some _=>rfl
theorem uj.getD(r:uj o u)(rd:RelV d d'):RelV (o.getD d) (u.getD d'):=by
 cases o with
 |none=>cases u with
  |none=>exact rd
  |some _=>exact(show False from r).elim
 |some _=>cases u with
  |none=>exact(show False from r).elim
  |some _=>exact r
theorem KV.val{kvs:List (κ × V)}{vs:List (κ × Value)}(r:KV kvs vs)(k:κ):uj (fP kvs k) (valueAt vs k):=by
 unfold KV at r
 induction r with
 |nil=>exact True.intro
 |@cons p q ps qs h t ih =>
  obtain⟨h1,h2⟩:=h
  by_cases e:p.1=k
  ·have e':q.1=k:=h1.symm.trans e
   have b:valueAt (q :: qs) k=some q.2:=by simp[valueAt,FT,e']
   rw[vn e,b];exact h2
  ·have e':¬ q.1=k:=fun z=>e (h1.trans z)
   have b:valueAt (q :: qs) k=valueAt qs k:=by simp[valueAt,FT,e']
   rw[vt e,b];exact ih
theorem KV.any(r:KV kvs vs)(k:κ):(kvs.any fun kv=>decide (kv.1=k))=vs.any fun kv=>decide (kv.1=k):=by
 unfold KV at r
 induction r with
 |nil=>rfl
 |cons h t ih=>rw[AK,AK,ih,h.1]
theorem KV.repl(r:KV kvs vs)(k:κ)(ry:RelV y u) :
  KV (kvs.map fun kv=>if kv.1=k then (kv.1,y) else kv) (vs.map fun kv=>if kv.1=k then (kv.1,u) else kv):=by
 unfold KV at r ⊢
 induction r with
 |nil=>exact .nil
 |@cons p q ps qs h t ih =>
  rw[fN,fN]
  refine .cons ?_ ih
  obtain⟨h1,h2⟩:=h
  by_cases e:p.1=k
  ·rw[if_pos e,if_pos (h1.symm.trans e)];exact⟨h1,ry⟩
  ·rw[if_neg e,if_neg (fun z=>e (h1.trans z))];exact⟨h1,h2⟩
theorem KV.put(r:KV kvs vs)(k:κ)(ry:RelV y u):KV (putK kvs k y) (stored vs k u):=by
 unfold putK stored
 rw[r.any k]
 by_cases e:(vs.any fun kv=>decide (kv.1=k))=true
 ·rw[if_pos e,if_pos e];exact r.repl k ry
 ·rw[if_neg e,if_neg e];exact Paired.snoc r ⟨rfl,ry⟩
theorem KV.length(r:KV kvs vs):kvs.length=vs.length:=Paired.length r
end
theorem HP{P:Program}(r:RelV (kV k) u):(kG P w).is k u=true:=by
 cases k with
 |inl i=>obtain⟨t,e⟩:=(show ∃ t,u=Value.int i t from r);subst e;exact ZG P w i t
 |inr x=>obtain⟨t,e⟩:=(show ∃ t,u=Value.str x t from r);subst e;exact ZH P w x t
theorem SJ{P:Program}:∀ {ks:List Key} {us:List Value},Vals (ks.map kV) us->ItemsAre (kG P w) ks us
 |[],_,r=>by rw[List.map_nil] at r;cases r;exact .nil
 |k :: ks,_,r=>by
  rw[fN] at r
  cases r with
  |cons h t=>exact .cons (HP h) (SJ t)
abbrev KT(H:Hp):List (List Key × V)->List (List Key × Addr × Value)->Prop:=Paired fun p q=>p.1=q.1/\H q.2.1=some (.tup (p.1.map kV))/\RelV p.2 q.2.2
theorem KT.val{H:Hp}{kvs:List (List Key × V)}{xs:List (List Key × Addr × Value)}(r:KT H kvs xs)(k:List Key):uj (fP kvs k) ((atKey xs k).map (·.2)):=by
 induction r with
 |nil=>exact True.intro
 |@cons p q ps qs h t ih =>
  obtain⟨h1,_,h2⟩:=h
  by_cases e:p.1=k
  ·have e':q.1=k:=h1.symm.trans e
   have b:atKey (q :: qs) k=some q.2:=by simp[atKey,FT,e']
   rw[vn e,b];exact h2
  ·have e':¬ q.1=k:=fun z=>e (h1.trans z)
   have b:atKey (q :: qs) k=atKey qs k:=by simp[atKey,FT,e']
   rw[vt e,b];exact ih
theorem KT.repl(r:KT H kvs xs)(k:List Key)(ry:RelV y u) :
  KT H (kvs.map fun kv=>if kv.1=k then (kv.1,y) else kv) (xs.map (putAt k u)):=by
 induction r with
 |nil=>exact .nil
 |@cons p q ps qs h t ih =>
  rw[fN,fN]
  refine .cons ?_ ih
  obtain⟨h1,h2,h3⟩:=h
  unfold putAt
  by_cases e:p.1=k
  ·rw[if_pos e,if_pos (h1.symm.trans e)];exact⟨h1,h2,ry⟩
  ·rw[if_neg e,if_neg (fun z=>e (h1.trans z))];exact⟨h1,h2,h3⟩
theorem KT.put(r:KT H kvs xs)(k:List Key)(hb:H b=some (.tup (k.map kV)))(ry:RelV y u) :
  KT H (putK kvs k y) (storedH xs k b u):=by
 have e:(kvs.any fun kv=>decide (kv.1=k))=(atKey xs k).isSome:=by
  rw[HM,(r.val k).MR,RL]
 unfold putK storedH
 rw[e]
 by_cases q:(atKey xs k).isSome=true
 ·rw[if_pos q,if_pos q];exact r.repl k ry
 ·rw[if_neg q,if_neg q];exact Paired.snoc r ⟨rfl,hb,ry⟩
theorem KT.keeps(r:KT H kvs xs)(ht:∀ b ys,H b=some (.tup ys)->H' b=some (.tup ys)):KT H' kvs xs :=
 Paired.RQ r fun _ _ z=>⟨z.1,ht _ _ z.2.1,z.2.2⟩
section
variable {P:Program}{w:World}{H:Hp}{h:Heap}{a:Addr}
theorem Wy(ok:hJ P w H h)(e:Rd H a u):fe P w H h a u:=e.ok ok
theorem CD(ok:hJ P w H h)(e:Rd H a (.dK kvs)):kvs.length<=sizeLine/\(a == sysModules)=false/\∃ vs,KV kvs vs/\h.DictOf (kG P w) a vs :=
 show fe P w H h a (.dK kvs) from Wy ok e
theorem cf'(ok:hJ P w H h)(e:H a=some (.dK kvs)):kvs.length<=sizeLine/\(a == sysModules)=false/\∃ vs,KV kvs vs/\h.DictOf (kG P w) a vs:=CD ok (.inl e)
theorem CF(ok:hJ P w H h)(e:H a=some (.tup (ks.map kV))):(tupleKind (kG P w)).is h ks a:=by
 obtain⟨_,its,r,o,h1,h2,n,h3⟩:=(show fe P w H h a (.tup (ks.map kV)) from ok a _ e)
 exact⟨o,its.toArray,n,h1,h2,h3,by simpa using SJ r⟩
theorem EG(ok:hJ P w H h)(e:Rd H a (.dT kvs)):kvs.length<=sizeLine/\(a == sysModules)=false /\
  ∃ xs,KT H kvs xs/\h.DictOfH (tupleKind (kG P w)) a xs:=by
 obtain⟨z,y,xs,r,o,es,ep,h1,h2,h3,h4,h5⟩:=(show fe P w H h a (.dT kvs) from Wy ok e)
 refine⟨z,y,xs,r,o,es,ep,h1,h2,h3,h4,fun x hx=>?_,h5⟩
 have all:∀ {l:List (List Key × V)} {m:List (List Key × Addr × Value)},KT H l m->∀ x∈m,(tupleKind (kG P w)).is h x.1 x.2.1:=by
  intro l m q
  induction q with
  |nil=>intro x hx;exact nomatch hx
  |@cons p q ps qs hq t ih =>
   intro x hx
   rcases dv.mp hx with e|hx
   ·subst e
    exact CF ok (by rw[<- hq.1];exact hq.2.1)
   ·exact ih x hx
 exact all r x hx
theorem SK(ok:hJ P w H h)(e:H a=some (.dT kvs)):kvs.length<=sizeLine/\(a == sysModules)=false /\
  ∃ xs,KT H kvs xs/\h.DictOfH (tupleKind (kG P w)) a xs:=EG ok (.inl e)
end
def kP(H:Hp)(a:Addr)(y:V)(r:Option V):Prop :=
 (∃ kvs k,Rd H a (.dK kvs)/\y=kV k/\r=fP kvs k)\/∃ kvs k b,Rd H a (.dT kvs)/\y=.ref b/\H b=some (.tup (k.map kV))/\r=fP kvs k
def CH(H:Hp)(a:Addr)(y v:V)(H':Hp):Prop :=
 (∃ kvs k,H a=some (.dK kvs)/\y=kV k/\kvs.length<sizeLine/\H'=upd H a (.dK (putK kvs k v))) \/
 ∃ kvs k b,H a=some (.dT kvs)/\y=.ref b/\H b=some (.tup (k.map kV))/\kvs.length<sizeLine/\H'=upd H a (.dT (putK kvs k v))
theorem kP.k{H:Hp}{a:Addr}{kvs:List (Key × V)}{k:Key}(e:H a=some (.dK kvs)):kP H a (kV k) (fP kvs k):=.inl ⟨kvs,k,.inl e,rfl,rfl⟩
theorem kP.t{H:Hp}{a b:Addr}{kvs:List (List Key × V)}{k:List Key}(e:H a=some (.dT kvs))(eb:H b=some (.tup (k.map kV))):kP H a (.ref b) (fP kvs k):=.inr ⟨kvs,k,b,.inl e,rfl,eb,rfl⟩
theorem CH.k{H:Hp}{a:Addr}{kvs:List (Key × V)}{k:Key}{v:V}(e:H a=some (.dK kvs))(hl:kvs.length<sizeLine):CH H a (kV k) v (upd H a (.dK (putK kvs k v))):=.inl ⟨kvs,k,e,rfl,hl,rfl⟩
theorem CH.t{H:Hp}{a b:Addr}{kvs:List (List Key × V)}{k:List Key}{v:V}(e:H a=some (.dT kvs))(eb:H b=some (.tup (k.map kV)))(hl:kvs.length<sizeLine) :
  CH H a (.ref b) v (upd H a (.dT (putK kvs k v))):=.inr ⟨kvs,k,b,e,rfl,eb,hl,rfl⟩
section
variable {X:Cx}{pins:List (Addr × Obj)}{σ:St}{H:Hp}{s:Shared}{a:Addr}{y v:V}{u r:Value}{o:Option V}{A:Around}{E:Value->Shared->Prop}
theorem Inv.big(I:Inv X pins σ H s):sysModules<s.heap.objs.size:=by
 have h:mainGlobals<s.heap.objs.size:=(I.mod.glob.keeps I.bk).lt
 exact RD (by decide) h
theorem cg'(hu:A.units+1<cLine)(I:Inv X pins σ H s)(g:kP H a y (some v))(ry:RelV y u)(h:∀ w' s',Inv X pins σ H s'->RelV v w'->Q w' s') :
  wpAny (model X.prog X.w) A (getItem (.ref a) u) Q E s:=by
 rcases g with⟨kvs,k,e,ey,l⟩|⟨kvs,k,b,e,ey,eb,l⟩
 ·subst ey
  obtain⟨z,hd,vs,rel,dd⟩:=CD I.bq e
  obtain⟨w',hw,lP⟩:=uj.some_of (v:=v) (o:=valueAt vs k) (by rw[l];exact rel.val k)
  exact wpAny_getItem_of (HP ry) dd.mapOf hw (h w' _ (I.tok _) lP)
 ·subst ey
  cases (show u=Value.ref b from ry)
  obtain⟨z,hd,xs,rel,dd⟩:=EG I.bq e
  obtain⟨w',hw,lP⟩:=uj.some_of (v:=v) (o:=(atKey xs k).map (·.2)) (by rw[l];exact rel.val k)
  obtain⟨p,hp,hp2⟩:=LX.mp hw
  refine wpAny_getItem_heap (tupleKind_room_in1 hu) (CF I.bq eb) dd hp ?_
  rw[hp2]
  exact h w' _ (I.tok _) lP
theorem ci'(hu:A.units+1<cLine)(I:Inv X pins σ H s)(g:kP H a y o)(ry:RelV y u)(h:∀ s',Inv X pins σ H s'->Q (.bool o.isSome) s') :
  wpAny (model X.prog X.w) A (compareOp .In u (.ref a)) Q E s:=by
 rcases g with⟨kvs,k,e,ey,l⟩|⟨kvs,k,b,e,ey,eb,l⟩
 ·subst ey
  obtain⟨z,hd,vs,rel,dd⟩:=CD I.bq e
  refine wpAny_in_of (HP ry) hd dd.mapOf ?_
  rw[<- (rel.val k).MR,<- l]
  exact h _ (I.tok _)
 ·subst ey
  cases (show u=Value.ref b from ry)
  obtain⟨z,hd,xs,rel,dd⟩:=EG I.bq e
  refine wpAny_in_heap (tupleKind_room_in1 hu) (CF I.bq eb) hd dd ?_
  have q:=(rel.val k).MR
  rw[RL] at q
  rw[<- q,<- l]
  exact h _ (I.tok _)
theorem cj'(hu:A.units+1<cLine)(I:Inv X pins σ H s)(g:kP H a y o)(ry:RelV y u)(h:∀ s',Inv X pins σ H s'->Q (.bool (!o.isSome)) s') :
  wpAny (model X.prog X.w) A (compareOp .NotIn u (.ref a)) Q E s:=by
 rcases g with⟨kvs,k,e,ey,l⟩|⟨kvs,k,b,e,ey,eb,l⟩
 ·subst ey
  obtain⟨z,hd,vs,rel,dd⟩:=CD I.bq e
  refine wpAny_notIn_of (HP ry) hd dd.mapOf ?_
  rw[<- (rel.val k).MR,<- l]
  exact h _ (I.tok _)
 ·subst ey
  cases (show u=Value.ref b from ry)
  obtain⟨z,hd,xs,rel,dd⟩:=EG I.bq e
  refine wpAny_notIn_heap (tupleKind_room_in1 hu) (CF I.bq eb) hd dd ?_
  have q:=(rel.val k).MR
  rw[RL] at q
  rw[<- q,<- l]
  exact h _ (I.tok _)
theorem Qc(I:Inv X pins σ H s)(mu:LZ (H a))(hs:Heap.SameBut a s.heap h')(he:∃ q,h'.get? a=some q)(new:fe X.prog X.w (upd H a ob) h' a ob) :
  Inv X pins σ (upd H a ob) { s with heap:=h',toks:=t' } :=
 I.write (x:=a) (e:=a) mu (.inl rfl) (fun b q hb z=>(hs.2 b hb).trans z) he new
theorem ck'{P:Program}(z:kvs.length<=sizeLine)(hd:(a == sysModules)=false)(rel:KV kvs vs)(dd:h'.DictOf (kG P w) a vs) :
  fe P w H' h' a (.dK kvs):=⟨z,hd,vs,rel,dd⟩
theorem cl'(hu:A.units+1<cLine)(I:Inv X pins σ H s)(g:CH H a y v H')(ry:RelV y u)(rv:RelV v r)(h:∀ s',Inv X pins σ H' s'->Q () s') :
  wpAny (model X.prog X.w) A (setItem (.ref a) u r) Q E s:=by
 rcases g with⟨kvs,k,e,ey,l,eH⟩|⟨kvs,k,b,e,ey,eb,l,eH⟩
 ·subst ey eH
  obtain⟨z,hd,vs,rel,dd⟩:=cf' I.bq e
  have hz:vs.length<=sizeLine:=by rw[<- rel.length];exact z
  have hl:(putK kvs k v).length<=sizeLine:=by have:=SG kvs k v;lia
  refine wpAny_setItem_pairs (hsz:=hz) (HP ry) dd fun h' CL hs=>h _ ?_
  have he:∃ q,h'.get? a=some q:=let ⟨q,_,_,hq,_⟩:=CL;⟨q,hq⟩
  exact Qc I (by rw[e];exact True.intro) hs he (ck' hl hd (rel.put k rv) CL)
 ·subst ey eH
  cases (show u=Value.ref b from ry)
  obtain⟨z,hd,xs,rel,dd⟩:=SK I.bq e
  have hz:xs.length<=sizeLine:=by rw[<- Paired.length rel];exact z
  have hl:(putK kvs k v).length<=sizeLine:=by have:=SG kvs k v;lia
  refine wpAny_setItem_heap (hsz:=hz) (tupleKind_room_in1 hu) (CF I.bq eb) dd fun h' CL hs=>h _ ?_
  obtain⟨q,es,ep,hq,h2,h3,h4,_,h5⟩:=CL
  refine Qc I (by rw[e];exact True.intro) hs ⟨q,hq⟩ ⟨hl,hd,_,(rel.put k eb rv).keeps fun c ys ec=>?_,q,es,ep,hq,h2,h3,h4,h5⟩
  rw[cf (RP ec e (fun z=>nomatch z))]
  exact ec
end
section
variable {X:Cx}{pins:List (Addr × Obj)}{σ:St}{H:Hp}{s:Shared}{a:Addr}{kvs:List (Key × V)}{A:Around}{E:Value->Shared->Prop}
theorem cm' (I:Inv X pins σ H s) (e:Rd H a (.dK kvs)) (h:∀ t s',Inv X pins σ H s'->Q (.int kvs.length t) s'):wpAny (model X.prog X.w) A (call (.builtin "len") [.ref a]) Q E s:=by
 obtain⟨z,hd,vs,rel,dd⟩:=CD I.bq e
 refine call_len_dict hd dd (by rw[<- rel.length];rw[sizeLine_eq] at z;lia) ?_
 rw[<- rel.length]
 exact h _ _ (I.tok _)
end
theorem cn' {X:Cx} (I:Inv X pins σ H s) (g:kP H a y o):s.TypeIs (.ref a) "dict" := by
 rcases g with⟨kvs,k,e,_,_⟩|⟨kvs,k,b,e,_,_,_⟩
 ·obtain⟨_,_,vs,_,dd⟩:=CD I.bq e
  exact dd.typeIs
 ·obtain⟨_,_,xs,_,dd⟩:=EG I.bq e
  exact dd.typeIs
def co'(td ty tv:TE):TS:=fun D σ H=>tv σ H fun v H1=>td σ H1 fun x H2=>ty σ H2 fun y H3=>∃ a H4,x=.ref a/\CH H3 a y v H4/\D.nx σ H4
section
variable {X:Cx}{o i value:Expr}{pos pos':Pos}{td ty tv:TE}
theorem cp'(hu:X.A.units+1<cLine)(ho:PE X o td)(hi:PE X i ty)(hv:PE X value tv)(hs:swapsWith value (some (.Subscript o i pos')) pos.line X.env=pure false) :
  PS X (.Assign [.Subscript o i pos'] value pos) (co' td ty tv):=by
 intro pins s σ H D I h
 refine wpAny_Assign_Subscript (ck (hv pins s σ H _ I h) fun r s1 cx=>L2.gu cx fun v H1 I1 rv q1=>ck (ho pins s1 σ H1 _ I1 q1) fun u s2 cx=>L2.gu cx fun x H2 I2 rx q2=>ck (hi pins s2 σ H2 _ I2 q2) fun iv s3 cS=>?_) hs
 obtain⟨y,H3,I3,ry,a,H4,ex,g,q3⟩:=cS
 subst ex
 obtain rfl:u=Value.ref a:=rx
 exact cl' hu I3 g ry rv fun s4 I4=>⟨σ,H4,I4,q3⟩
end
theorem cq' {P:Program} (h:Heap) (hb:sysModules<h.objs.size):fe P w H (h.push { cls:=.type "dict",data:=.dict #[] }) h.objs.size (.dT []) :=
 ⟨eK _,beq_eq_false_iff_ne.mpr (Ne.symm (fo hb)),[],.nil,_,#[],0,jv _ rfl,⟨rfl,rfl,rfl⟩,rfl,rfl,sT⟩
def cr':TE:=fun _ H Q=>∀ p,H p=none->Q (.ref p) (upd H p (.dT []))
section
variable {X:Cx}{pos:Pos}
theorem ct':PE X (.Dict [] [] pos) cr':=fun pins s σ H Q I h =>
 wpAny_Dict_empty ⟨.ref s.heap.objs.size,_,I.laid (a:=s.heap.objs.size) (o:=.dT []) (t':=s.toks) (fun _ _ q=>eW _ q) (bX _) (cq' s.heap I.big),rfl,h _ (I.bq.fresh (bX _))⟩
end
structure M2(X:Cx)(o:Expr)(m:Str)(apos:Pos)(e f:Expr)(dS:Pos):Prop where
 base:attributeBase o m X.env (eval o X.env)=eval o X.env
 few:((backTo dS (starEach [e,f] X.env)).all (fun x=>!x.1) && (backToKw dS (keywordEach [] X.env)).all (fun x=>x.1.isSome)
  && decide (([e,f]:List Expr).length+([]:List Keyword).length+(if ([]:List Keyword).isEmpty then 0 else 1)<30))=true
 line:(apos.endLine == dS.line)=true
 trees:backTo dS (starEach [e,f] X.env)=[(false,eval e X.env),(false,eval f X.env)]
def Qe(H:Hp)(a:Addr):Prop:=(∃ kvs,Rd H a (.dK kvs))\/∃ kvs,Rd H a (.dT kvs)
theorem Wz{X:Cx}(I:Inv X pins σ H s)(d:Qe H a) :
  s.TypeIs (.ref a) "dict"/\(∀ b,Value.ref a=.ref b->∃ ob,s.heap.get? b=some ob/\ob.dict=none)/\(a == sysModules)=false:=by
 rcases d with⟨kvs,e⟩|⟨kvs,e⟩
 ·obtain⟨_,hd,vs,_,dd⟩:=CD I.bq e
  refine⟨dd.typeIs,fun b q=>?_,hd⟩
  cases q
  obtain⟨ob,_,_,h1,h2,_⟩:=dd
  exact⟨ob,h1,h2.2.1⟩
 ·obtain⟨_,hd,xs,_,dd⟩:=EG I.bq e
  refine⟨dd.typeIs,fun b q=>?_,hd⟩
  cases q
  obtain⟨ob,_,_,h1,h2,_⟩:=dd
  exact⟨ob,h1,h2.2.1⟩
section
variable {X:Cx}{pins:List (Addr × Obj)}{σ:St}{H:Hp}{s:Shared}{a:Addr}{y d:V}{u r:Value}{o:Option V}{A:Around}{E:Value->Shared->Prop}
theorem cu'(hu:A.units+1<cLine)(I:Inv X pins σ H s)(g:kP H a y o)(ry:RelV y u)(rd:RelV d r)(h:∀ w' s',Inv X pins σ H s'->RelV (o.getD d) w'->Q w' s') :
  wpAny (model X.prog X.w) A (call (.builtin "dict.get") [.ref a,u,r]) Q E s:=by
 rcases g with⟨kvs,k,e,ey,l⟩|⟨kvs,k,b,e,ey,eb,l⟩
 ·subst ey
  obtain⟨z,hd,vs,rel,dd⟩:=CD I.bq e
  refine call_meetsIn PySem.F.slot_dict_get dd.typeIs PySem.F.entry_dict_get (PySem.F.args_dict_get_3 _ _ _) (meets_dict_get_default (kG X.prog X.w) a (HP ry) hd r) ⟨_,dd.mapOf,h _ _ (I.tok _) ?_⟩
  rw[l]
  exact(rel.val k).getD rd
 ·subst ey
  cases (show u=Value.ref b from ry)
  obtain⟨z,hd,xs,rel,dd⟩:=EG I.bq e
  refine call_meetsIn PySem.F.slot_dict_get dd.typeIs PySem.F.entry_dict_get (PySem.F.args_dict_get_3 _ _ _) (meetsH_dict_get_default (tupleKind (kG X.prog X.w)) a b hd r) ⟨tupleKind_room_in1 hu,k,xs,CF I.bq eb,dd,h _ _ (I.tok _) ?_⟩
  rw[l]
  exact(rel.val k).getD rd
end
def WB(td ty tx:TE):TE:=fun σ H Q=>td σ H fun x H1=>∃ a,x=.ref a/\Qe H1 a/\ty σ H1 fun y H2=>tx σ H2 fun z H3=>∃ o,kP H3 a y o/\Q (o.getD z) H3
section
variable {X:Cx}{o e f:Expr}{apos dS:Pos}{td ty tx:TE}
theorem cv' (hu:X.A.units+1<cLine) (ho:PE X o td) (he:PE X e ty) (hf:PE X f tx) (m:M2 X o "get" apos e f dS):PE X (.Call (.Attribute o "get" apos) [e,f] [] dS) (WB td ty tx):=by
 intro pins s σ H Q I h
 refine wpAny_Call_method m.base m.few m.line PySem.F.plainAttrs_dict PySem.F.slot_dict_get PySem.F.type_dict_get (ck (ho pins s σ H _ I h) fun u s1 cS=>?_)
 obtain⟨x,H1,I1,rx,a,ex,d,q1⟩:=cS
 subst ex
 obtain rfl:u=Value.ref a:=rx
 obtain⟨t1,t2,_⟩:=Wz I1 d
 refine⟨t1,t2,?_⟩
 rw[m.trees]
 refine Calls.callWith_builtin rfl (Calls.evalArgs_plain (Calls.spliced_cons (ck (he pins s1 σ H1 _ I1 q1) fun iv s2 cx=>L2.gu cx fun y H2 I2 ry q2 =>
  Calls.spliced_cons (ck (hf pins s2 σ H2 _ I2 q2) fun fv s3 ⟨z,H3,I3,rz,ov,g,q3⟩=>Calls.spliced_nil ?_))))
 exact cu' hu I3 g ry rz fun w' s4 I4 lP=>⟨_,H3,I4,lP,q3⟩
end
end L2
namespace WC
open PySem PySem.W PySem.Calls PyProof.Rows
theorem cw'{P:Params}:∀ (ns:List Int) (vs:List Value),WellAll P h vs (ns.map WData.int)->IntsAre vs ns:=by
 intro ns
 induction ns with
 |nil =>
  intro vs w
  rw[List.map_nil] at w
  cases w
  exact .nil
 |cons n ns ih =>
  intro vs w
  rw[fN] at w
  cases w with
  |cons a b =>
   cases a
   exact .cons _ _ (ih _ b)
theorem cx'{l:OpenLaw}{n:Nat}(hn:l.most=some n){P:Params}{h:Heap}{args:List WData}{vals:List Value}
  (CM:l.row.toRowW.claim.pre args=true) (SN:WellAll P h vals args) :
  ∃ a vs ns,vals=[Value.ref a]/\args=[WData.list (ns.map WData.int)]/\h.get? a=some { cls:=.type "list",data:=.seq vs.toArray }/\IntsAre vs ns/\ns.length<=n:=by
 have zi:WShape.hasAll [] args [.list .int]=true:=(pre_splitW CM).1
 have hc:l.pre.holds [] { args:=args }=true:=(pre_splitW CM).2
 obtain⟨d,r,rfl,h1,h2⟩:=hasAllW_cons zi
 obtain rfl:=hasAllW_nil h2
 obtain⟨xs,rfl,h3⟩:=hasW_list h1
 obtain⟨ns,rfl⟩:=items_int h3
 have hlen:ns.length<=n:=by
  unfold OpenLaw.pre at hc
  have h4:(WTm.not (.lt (.lit (.int (n:Int))) (.len (.arg 0)))).holds [] { args:=[.list (ns.map .int)] }=true:=by
   have h4:=(holds_andW hc).1
   rw[hn] at h4
   exact h4
  have h5:=condW_of h4 (w_not (w_lt w_lit (w_len_list (w_arg rfl))))
  rw[b4] at h5
  refine LP fun q=>?_
  have q':(n:Int)<((ns.length:Nat):Int):=by lia
  first
   | (rw[decide_eq_true q'] at h5;exact absurd h5 (by decide))
   | (simp at h5;lia)
 cases SN with
 |cons w1 w2 =>
  cases w2
  cases w1 with
  |list ho oC=>exact⟨_,_,ns,rfl,rfl,ho,cw' ns _ oC,hlen⟩
theorem cy'(l:OpenLaw)(args:List WData):l.row.toRowW.claim.post args (.bool true) args=true :=
 postW_of (r:=l.row.toRowW) (X:=(true == true))
  (show WShape.has [] (.bool true) .bool=true by first|rfl|decide|simp[WShape.has,WShape.arms,WShape.armsAll])
  (show(WTm.eq .res (.lit (.bool true))).value [] { args:=args,res:=some (.bool true),after:=args }=some (.bool (true == true)) from w_eq_bool (w_res rfl) w_lit) rfl
theorem cz'{l:OpenLaw}{n:Nat}{q:Program}{loose:List Str}{XP:(Str->Option Value)->Heap->Prop}{YP:World->Heap->Prop}{d:DefRec}
  (hn:l.most=some n) (MS:d.params.defaults=[])
  (call:∀ (w:World) (kg eJ:Shared) (mg mb:Str->Option Value) (fa:Addr) (o:Obj) (pm cd doc:Value) (a:Addr) (vs:List Value) (ns:List Int),
   Ground q loose [] XP w kg mg mb eJ.heap->YP w eJ.heap ->
   eJ.heap.get? fa=some o->o.data=.func (docDef d.name d.params d.body d.scope pm cd doc)->eJ.heap.CodeRec cd d.name->mg d.name=some (.ref fa) ->
   eJ.heap.get? a=some { cls:=.type "list",data:=.seq vs.toArray }->IntsAre vs ns->ns.length<=n->eJ.gens = #[] ->
   codeAny (model l.prog w) callerA (.call (.ref fa) ⟨[.ref a],[]⟩) (fun r s'=>r=.ok (.ret (.bool true))/\OldK eJ.heap s'.heap/\s'.os=eJ.os/\AllBare s'.gens) eJ) :
  WalkO q loose XP YP l.row.toRowW d [] (fun f vs=>PySem.call f vs):=by
 intro w kg eJ mg mb G Y fa o pm cd doc dV kV ho hd rp hD MV hg args vals as CM hlay hrd SN CY
 obtain rfl:dV=.none:=Dflts.none hD MS
 obtain rfl:kV=.none:=Dflts.noKw hD
 obtain⟨a,vs,ns,rfl,rfl,SQ,hints,hlen⟩:=cx' hn CM SN
 refine enter_call (codeAny_mono (call w kg eJ mg mb fa o pm cd doc a vs ns G Y ho (fd_plain hd) rp MV SQ hints hlen hg) fun r s' hq=>?_)
 obtain⟨rfl,h2,h3,h4⟩:=hq
 exact⟨.inl ⟨.bool true,.bool true,[],rfl,fun _=>rfl,.bool true,cy' l _,fun _=>⟨List.Pairwise.nil,fun _ hm=>(nomatch hm)⟩⟩,h2,h3,h4⟩
end WC
namespace L2
open PySem PySem.Spec PyProof.Rows
theorem WD:∀ {vs:List Value} {ns:List Int},IntsAre vs ns->Vals (ns.map V.int) vs
 |_,_,.nil=>.nil
 |_,_,.cons n t h=>.cons ⟨t,rfl⟩ (WD h)
def Only(H:Hp):Prop:=∀ b,H b=none\/∃ o xs,H b=some (.eu o (.lst xs))
theorem cA'{P:Program}{K:PySem.W.Frag}
  (KX:K.In eJ.heap) (WH:eJ.heap.Ns mainGlobals mg) (hb:eJ.heap.Ns builtinsNs mb) (zk:∀ x:Str,x ≠ "__name__"->mb x=bootBuiltins x) (cB':eJ.heap.NoLimit) (hg:eJ.gens = #[])
  (ha:eJ.heap.get? a=some { cls:=.type "list",data:=.seq vs.toArray }) (hi:IntsAre vs ns) (hl:ns.length<=sizeLine) (hr:nv k callerA)
  (F:∀ base:Heap,K.In base->base.Ns mainGlobals mg->gv P w K mg base CX k fa fd [x] sp) (cC':∀ (s:Shared) (u:Value),BindsTo s fd ⟨[u],[]⟩ [(x,u)])
  (CB:∀ H:Hp,Only H->eL K H a (ns.map V.int)->sp [.ref a] H (fun v _=>v=.bl true) fun _ _ _=>False)
  (SV:∀ H e s',CX [] H eJ (fun _ _ _=>False) e s'->False) :
  codeAny (model P w) callerA (.call (.ref fa) ⟨[.ref a],[]⟩) (fun r s'=>r=.ok (.ret (.bool true))/\OldK eJ.heap s'.heap/\s'.os=eJ.os/\AllBare s'.gens) eJ:=by
 have rv:=WD hi
 have cD':=hi.length
 -- from an abstract heap in which nothing but the script may be tracked
 have core:∀ H:Hp,Only H->eL K H a (ns.map V.int)->hJ P w H eJ.heap->(∀ b,H b≠none->b=a)->(H a≠none->K.lookup a=none) ->
   codeAny (model P w) callerA (.call (.ref fa) ⟨[.ref a],[]⟩) (fun r s'=>r=.ok (.ret (.bool true))/\OldK eJ.heap s'.heap/\s'.os=eJ.os/\AllBare s'.gens) eJ:=by
  intro H hO hS bq hA hK
  have WK:∀ {b:Addr} {o:Obj},eJ.heap.get? b=some o->H b=none->(AR eJ.heap H).get? b=some o:=fun e n=>ZK e n
  have MA:∀ {b:Addr} {o:Obj} {es:Array DictEntry} {ep:Nat},eJ.heap.get? b=some o->o.data=.dict es ep->H b=none:=fun {b o es ep} e d=>by
   cases q:H b with
   |none=>rfl
   |some u =>
    have e':b=a:=hA b (by rw[q];simp)
    subst e'
    rw[ha] at e;cases e
    have d':Data.seq vs.toArray _=Data.dict es ep:=d
    cases d'
  have Qf:∀ {b:Addr} {m:Str->Option Value},eJ.heap.Ns b m->(AR eJ.heap H).Ns b m:=fun {b m} ⟨o,es,ep,e,d,r⟩=>⟨o,es,ep,WK e (MA e d),d,r⟩
  have WL:K.In (AR eJ.heap H):=fun b o e=>WK (KX b o e) (by
   cases q:H b with
   |none=>rfl
   |some u =>
    have e':b=a:=hA b (by rw[q];simp)
    subst e'
    rw[hK (by rw[q];simp)] at e;cases e)
  have hM:Mod K mg (AR eJ.heap H):=⟨WL,Qf WH,⟨mb,Qf hb,zk⟩,let ⟨mc,h1,h2⟩:=cB';⟨mc,Qf h1,h2⟩⟩
  have e0:P7 P w K mg (AR eJ.heap H) callerA [] eJ H:=⟨rfl,hM,fun b o e=>ZL e,B1 (ZJ _ _),trivial,fun b hb=>absurd (show b∈([]:List Addr) from hb) (by simp),bq,.of_eq hg⟩
  refine codeAny_mono ((F _ WL (Qf WH)).run callerA [] eJ H ⟨[.ref a],[]⟩ [.ref a] [.ref a] _ _ hr e0 (cC' eJ (.ref a)) (.cons rfl .nil) (CB H hO hS)) fun r s' h=>?_
  cases r with
  |error e=>exact(SV H e s' h).elim
  |ok fl =>
   cases fl with
   |next=>exact False.elim h
   |brk=>exact False.elim h
   |cont=>exact False.elim h
   |ret u =>
    obtain⟨v,H',os,bare,un,cE',r',q⟩:=h
    have q':v=.bl true:=q
    subst q'
    obtain rfl:u=Value.bool true:=r'
    refine⟨rfl,OldK.of_keep fun b o e=>?_,os,bare⟩
    cases q:H b with
    |none=>exact un.keep b o e q (by intro z;exact absurd (show b∈([]:List Addr) from z) (by simp)) (by simp)
    |some u =>
     rcases hO b with z|⟨ob,xs,z⟩
     ·rw[q] at z;cases z
     ·have z2:=un.xD b ob _ z
      obtain⟨e1,_⟩:=bq b _ z
      obtain⟨e2,_⟩:=cE' b _ z2
      rw[e] at e1;cases e1
      exact e2
 cases hk:K.lookup a with
 |some o =>
  -- the script is one of the module's own objects
  have e:=KX a o hk
  rw[ha] at e
  cases e
  refine core (fun _=>none) (fun _=>.inl rfl) (.inr ⟨_,vs.toArray,_,hk,rfl,rfl,rfl,by rw[hG,cD'];exact hl,by simpa using rv⟩) (fun b u z=>by have z':(none:Option HO)=some u:=z;cases z') (fun b z=>absurd rfl z) fun z=>absurd rfl z
 |none =>
  refine core (fun b=>if b=a then some (.eu { cls:=.type "list",data:=.seq vs.toArray } (.lst (ns.map V.int))) else none) (fun b=>?_) (.inl (.inr ⟨{ cls:=.type "list",data:=.seq vs.toArray },if_pos rfl⟩)) (fun b u z=>?_) (fun b z=>?_) fun _=>hk
  ·by_cases hb:b=a
   ·exact .inr ⟨_,_,if_pos hb⟩
   ·exact .inl (if_neg hb)
  ·by_cases hb:b=a
   ·have z':=(if_pos hb).symm.trans z
    cases z'
    subst hb
    exact⟨ha,by rw[b4];exact hl,vs,_,rv,ha⟩
   ·have z':=(if_neg hb).symm.trans z
    cases z'
  ·by_cases hb:b=a
   ·exact hb
   ·exact absurd (if_neg hb) z
theorem cF'{l:PySem.W.OpenLaw}{n k:Nat}{q:Program}{loose:List Str}{XP:(Str->Option Value)->Heap->Prop}{YP:World->Heap->Prop}{d:DefRec}{K:Params->PySem.W.Frag}{CX:World->B9}{sp:World->Sp}{x:Str}
  (hn:l.most=some n) (HV:n<=sizeLine) (MS:d.params.defaults=[]) (hr:nv k callerA)
  (hY:∀ (w:World) (h:Heap),YP w h->(K w.params).In h)
  (F:∀ (w:World) (mg:Str->Option Value) (fa:Addr) (h:Heap),(K w.params).In h->h.Ns mainGlobals mg->mg d.name=some (.ref fa) ->
   ∃ fd:FuncData,(∀ (s:Shared) (u:Value),BindsTo s fd ⟨[u],[]⟩ [(x,u)]) /\
    ∀ base:Heap,(K w.params).In base->base.Ns mainGlobals mg->gv l.prog w (K w.params) mg base (CX w) k fa fd [x] (sp w))
  (CB:∀ (w:World) (H:Hp) (a:Addr) (ns:List Int),ns.length<=n->Only H->eL (K w.params) H a (ns.map V.int)->sp w [.ref a] H (fun v _=>v=.bl true) fun _ _ _=>False)
  (SV:∀ (w:World) (H:Hp) (s:Shared) (e:Value) (s':Shared),CX w [] H s (fun _ _ _=>False) e s'->False) :
  PySem.W.WalkO q loose XP YP l.row.toRowW d [] (fun f vs=>PySem.call f vs):=by
 refine WC.cz' hn MS fun w kg eJ mg mb fa o pm cd doc a vs ns G Y ho hd rp MV SQ hints hlen hg=>?_
 have KX:=hY w _ Y
 obtain⟨fd,hb,hF⟩:=F w mg fa _ KX G.T.g MV
 exact cA' KX G.T.g G.T.b G.T.builtins G.T.nolimit hg SQ hints (iO hlen HV) hr hF hb (fun H hO hS=>CB w H a ns hlen hO hS) fun H e s'=>SV w H eJ e s'
def iX(s:Stmt):Arguments:=match s with
 |.FunctionDef _ a _ _ _ _ _ _ _ _=>a
 |_=>{ posonlyargs:=[],args:=[],vararg:=none,kwonlyargs:=[],kw_defaults:=[],kwarg:=none,defaults:=[] }
def hU(s:Stmt):List Stmt:=match s with
 |.FunctionDef _ _ b _ _ _ _ _ _ _=>b
 |_=>[]
def cp(s:Stmt):Scope:=match s with
 |.FunctionDef _ _ _ _ _ _ sc _ _ _=>sc
 |_=>{ kind:=.function,names:=[],isGenerator:=false,isCoroutine:=false }
abbrev gI:B9:=fun _ _ _ _ _ _=>False
abbrev E0:XK:=fun _ _ _=>False
theorem cG'{X:Cx}:Passes gI X E0:=fun _ _ _ _ _ _ _ h=>h.elim
structure hV(K:PySem.W.Frag)(x qual:Str)(st:Stmt)(f:Addr)(fd:FuncData):Prop where
 ex:∃ (oc:Value) (od:Option Addr) (kV doc pm:Value) (an:Option Addr) (dy ct:Value) (HG:Array (Option Value)),
  fd=PySem.W.fnOf x qual (iX st) (hU st) (cp st) .none kV doc pm an dy ct/\K.lookup f=some ⟨oc,od,.func fd,HG⟩/\PySem.W.codeIn K dy qual=true
 kp:PySem.W.keepIn K (.ref f)=true
section
variable {P:Program}{w:World}{K:PySem.W.Frag}{mg:Str->Option Value}{base:Heap}
theorem hV.ok{st:Stmt}{N ps:List Str}(F:hV K x qual st f fd)(S:ku N ps (cp st))(len:∀ vs H Q E,sp vs H Q E->vs.length=ps.length)
  (MB:∀ (dy:Value) (A:Around) (outer:List Env) (s:Shared) (H:Hp) (vs:List V) (Q:VK) (E:XK),nv k (A.deeper (envOfC qual (cp st) s.heap.objs.size f dy))->sp vs H Q E ->
   ∃ t,lI (EE gI P w K mg base N qual (cp st) f dy A outer s H E).L8 (hU st) t/\t { nx:=fun _ H'=>Q .non H',rt:=Q } (start N vs) H):gv P w K mg base gI (k+1) f fd ps sp:=by
 obtain⟨oc,od,kV,doc,pm,an,dy,ct,HG,rfl,lk,rp⟩:=F.ex
 refine bo' lk rp S len fun A outer s H vs Q E hr CB=>?_
 obtain⟨t,h,q⟩:=MB dy A outer s H vs Q E hr CB
 exact⟨t,h.L8,q⟩
theorem hV.binds{st:Stmt}{ps:List Str}(F:hV K x qual st f fd)
  (h:∀ (kV doc pm:Value) (an:Option Addr) (dy ct:Value) (us:List Value),us.length=ps.length->bindArgs (PySem.W.fnOf x qual (iX st) (hU st) (cp st) .none kV doc pm an dy ct) ⟨us,[]⟩=pure (ps.zip us)):Binds K fd ps []:=by
 obtain⟨oc,od,kV,doc,pm,an,dy,ct,HG,rfl,lk,rp⟩:=F.ex
 exact .all (h kV doc pm an dy ct)
theorem lS{st:Stmt}{kV doc pm dy ct:Value}(l:K.lookup f=some ⟨oc,od,.func (PySem.W.fnOf x qual (iX st) (hU st) (cp st) .none kV doc pm an dy ct),HG⟩)
  (c:PySem.W.codeIn K dy qual=true) (k:PySem.W.keepIn K (.ref f)=true):hV K x qual st f (PySem.W.fnOf x qual (iX st) (hU st) (cp st) .none kV doc pm an dy ct):=⟨⟨oc,od,kV,doc,pm,an,dy,ct,HG,rfl,l,c⟩,k⟩
end
section
variable {X:Cx}
theorem pv (i:Nat) (hN:X.N[i]? = some x:=by rfl) (hv:PK X.env.scope x:=by first|exact Or.inl rfl|exact Or.inr (Or.inl rfl)|exact Or.inr (Or.inr rfl)) (hd:(x == ("__debug__" : Str))=false:=by decide)
  (rp:(x == ("__classdict__" : Str))=false:=by decide):PE X (.Name x pos) (B7 i):=VM hN hv hd rp
end
def ax(H H':Hp):Prop:=∀ b o,H b=some o->H' b=some o
theorem ax.refl(H:Hp):ax H H:=fun _ _ h=>h
theorem ax.trans(a:ax H H1)(b:ax H1 H2):ax H H2:=fun c o h=>b c o (a c o h)
theorem ax.free(e:ax H H')(h:H' l=Option.none):H l=Option.none:=by
 cases q:H l with
 |none=>rfl
 |some o =>
  rw[e l o q] at h
  cases h
theorem ax.seq{K:PySem.W.Frag}(e:ax H H')(h:eL K H a xs):eL K H' a xs:=by
 rcases h with(h|⟨o,h⟩)|h
 ·exact .inl (.inl (e _ _ h))
 ·exact .inl (.inr ⟨o,e _ _ h⟩)
 ·exact .inr h
end L2
set_option maxHeartbeats 4000000
namespace L2
open PySem PySem.Spec PyProof.Rows
def sv(env:Env):List (Str × NameKind)->List (Str × Addr)->List (Str × Addr)
 |[],cs=>cs
 | (n,k) :: r,cs=>sv env r (if k == NameKind.free then (n,(env.cells.lookup n).getD 0) :: cs else cs)
theorem iV(env:Env):∀ (names:List (Str × NameKind)) (cs:List (Str × Addr)),(∀ y∈names,y.2=.free->∃ c,env.cells.lookup y.1=some c) ->
  (forIn names cs fun x r=>match x with
   | (name,kind)=>if (kind == NameKind.free)=true then do let a <- cellOf env name;pure (ForInStep.yield ((name,a) :: r)) else pure (ForInStep.yield r):Sem (List (Str × Addr)))=pure (sv env names cs)
 |[],cs,_=>rfl
 | (n,k) :: r,cs,h=>by
  rw[List.forIn_cons]
  have ih:=iV env r
  by_cases hk:k=.free
  ·subst hk
   obtain⟨c,e⟩:=h (n,.free) b6 rfl
   have e:env.cells.lookup n=some c:=e
   have e2:cellOf env n=pure c:=by unfold cellOf;rw[e]
   have e3:sv env ((n,.free) :: r) cs=sv env r ((n,c) :: cs):=by
    show sv env r (if (NameKind.free == NameKind.free)=true then (n,(env.cells.lookup n).getD 0) :: cs else cs)=_
    rw[e];rfl
   rw[e3,<- ih ((n,c) :: cs) fun y hy=>h y (b9 _ hy)]
   simp only[beq_self_eq_true,if_true,e2]
   rfl
  ·have hb:(k == NameKind.free)=false:=by simpa using hk
   have e3:sv env ((n,k) :: r) cs=sv env r cs:=by
    show sv env r (if (k == NameKind.free)=true then _ else cs)=_
    rw[hb];rfl
   rw[e3,<- ih cs fun y hy=>h y (b9 _ hy)]
   simp only[hb,gE,if_false]
   rfl
theorem pL(h:∀ y∈scope.names,y.2=.free->∃ c,env.cells.lookup y.1=some c):closureFor scope env=pure (sv env scope.names []):=by
 have:=iV env scope.names [] h
 unfold closureFor
 rw[<- bind_pure (forIn scope.names [] _)] at this
 exact this
theorem oV:∀ {names:List (Str × NameKind)} {cs:List (Str × Addr)},(∀ y∈names,y.2=.free->∃ c,env.cells.lookup y.1=some c)->(∀ y d,cs.lookup y=some d->env.cells.lookup y=some d) ->
  (sv env names cs).lookup x=some c->env.cells.lookup x=some c
 |[],cs,_,h,e=>h x c e
 | (n,k) :: r,cs,hf,h,e=>by
  refine oV (names:=r) (fun y hy=>hf y (b9 _ hy)) ?_ e
  intro y d hd
  by_cases hk:k=.free
  ·subst hk
   obtain⟨c',e'⟩:=hf (n,.free) b6 rfl
   have e':env.cells.lookup n=some c':=e'
   simp only[beq_self_eq_true,if_true,e',Option.getD_some,Rz] at hd
   cases hb:y == n with
   |true=>rw[hb] at hd;have:y=n:=eq_of_beq hb;subst this;rw[e'];exact hd
   |false=>rw[hb] at hd;exact h y d hd
  ·have hb:(k == NameKind.free)=false:=by simpa using hk
   simp only[hb,gE,if_false] at hd
   exact h y d hd
theorem lG:∀ {names:List (Str × NameKind)} {cs:List (Str × Addr)},((x,NameKind.free)∈names\/∃ c,cs.lookup x=some c)->∃ c,(sv env names cs).lookup x=some c
 |[],cs,h=>by
  rcases h with h|h
  ·exact nomatch h
  ·exact h
 | (n,k) :: r,cs,h=>by
  refine lG (names:=r) ?_
  rcases h with h|⟨c,h⟩
  ·rcases dv.mp h with e|h
   ·cases e
    refine .inr ⟨(env.cells.lookup x).getD 0,?_⟩
    simp only[beq_self_eq_true,if_true,Rz]
   ·exact .inl h
  ·refine .inr ?_
   by_cases hk:(k == NameKind.free)=true
   ·simp only[hk,if_true,Rz]
    cases hb:x == n with
    |true=>exact⟨_,rfl⟩
    |false=>exact⟨c,h⟩
   ·simp only[hk,if_false]
    exact⟨c,h⟩
def bx(X:Cx)(scope:Scope)(C:Addr)(N:List Str)(fp:List Addr)(gi:Shared)(gX:Hp):Cx :=
 { X with N:=N,kg:=gi,nV:=gX,env:=compEnvC scope (sv X.env scope.names []) C X.env,outer:=X.stack,stack:=X.stack,ex:=fp,fn:=fun _=>false,pn:=[],xe:=fun _ _=>False }
def zo(X:Cx)(ifs:List Expr)(t:TT):Prop :=
 ∀ (pins:List (Addr × Obj)) (s:Shared) (σ:St) (H:Hp) (Q:Bool->Hp->Prop),Inv X pins σ H s->t σ H Q ->
  wpAny (model X.prog X.w) X.A (forIn ifs true fun c r=>if r=true then do let ok <- isTrue c X.env (eval c X.env);pure (ForInStep.yield ok) else pure (ForInStep.yield r)) (TP X pins σ Q) X.xe s
def cH':TT:=fun _ H Q=>Q true H
theorem Eu{X:Cx}:zo X [] cH':=fun _ _ _ H _ I h=>wpAny_tests_nil ⟨H,I,h⟩
theorem Ej{X:Cx}(h:PT X c t):zo X [c] t:=fun pins s σ H Q I hw=>wpAny_tests_one (h pins s σ H Q I hw)
theorem gO{R:Result->Shared->Prop}(I:Nat->Shared->Prop)(E:Value->Shared->Prop)
  (turn:∀ n s,I n s->wpAny (model prog w) A (pyNext it) (fun r eJ=>match r with
   |none=>R (.ok .next) eJ
   |some v=>wpAny (model prog w) A (letOwnedTupleGo target it v) (fun _ kg=>wpAny (model prog w) A (assign target env v) (fun _ ED =>
     wpAny (model prog w) A (forIn ifs true fun c r=>if r=true then do let ok <- isTrue c env (eval c env);pure (ForInStep.yield ok) else pure (ForInStep.yield r)) (fun ok gi =>
      if ok=true then wpAny (model prog w) A (eval elt env) (fun x WM =>
       wpAny (model prog w) A (call (.builtin "list.append") [acc,x]) (fun _ WN=>∃ m,m<n/\I m WN) E WM) E gi
      else ∃ m,m<n/\I m gi) E ED) E kg) E eJ) E s)
  (hE:∀ e s',E e s'->notedBy (model prog w) A env (fun e s'=>R (.error e) s') e s')
  (n:Nat) (h:I n s) :
  codeAny (model prog w) A (.compLoop (.ListComp elt [⟨target,iter,ifs,0⟩] scope pos) 0 it acc env) R s:=by
 refine codeAny_loop rfl I (fun n s hI=>?_) n h
 show wpAny _ A ((compTurn (.ListComp elt [⟨target,iter,ifs,0⟩] scope pos) 0 it acc env).onRaise (fun x=>do noteFrame x env;theTreesLotGoes x)) _ _ s
 refine wpAny_noted ?_
 rw[compTurn_list]
 refine sP (Q:=_) (E:=E) ?_ (fun _ _ q=>q) hE
 refine ai (wpAny_standAt (ai (sP (turn n s hI) (fun r eJ MX=>?_) fun _ _ h'=>h')))
 cases r with
 |none=>exact aS MX
 |some v =>
  refine ai (sP MX (fun _ kg h₀=>?_) fun _ _ h'=>h')
  refine ai (sP h₀ (fun _ ED cI'=>ai (sP cI' (fun ok gi WQ=>?_) fun _ _ h'=>h')) fun _ _ h'=>h')
  cases ok with
  |false=>exact aS ⟨rfl,WQ⟩
  |true =>
   exact ai (ai (sP WQ (fun x WM cJ'=>ai (sP cJ' (fun _ WN cK'=>aS (aS ⟨rfl,cK'⟩)) fun _ _ h'=>h')) fun _ _ h'=>h'))
def pI(tn:Nat)(ix:List Nat)(σ:St):St:=List.replicate tn none++ix.map fun j=>(σ[j]?).join
def yp(wi:TI)(g:TG)(tc:TT)(te:TE)(tn:Nat)(ix:List Nat):TE:=fun σ H Q=>wi σ H fun J H1=>∀ D,H1 D=none ->
 ∃ W:Nat->Nat->St->Hp->Prop,(∃ m,W 0 m (pI tn ix σ) (upd H1 D (.lst [])))/\∀ i m τ H,W i m τ H ->
  (J.stop i H/\Q (.ref D) H)\/(J.go i H/\∃ (N1:St->V->Hp->Prop) (N2:St->Hp->Prop),
   (∀ mz v H4,N1 mz v H4->∃ ys m',H4 D=some (.lst ys)/\ys.length<sizeLine/\m'<m/\W (i+1) m' mz (upd H4 D (.lst (ys++[v])))) /\
   (∀ mz H3,N2 mz H3->∃ m',m'<m/\W (i+1) m' mz H3) /\
   ∀ x H',J.nr i H x H'->g x τ H' fun mz H2=>tc mz H2 fun b H3=>if b=true then te mz H3 (N1 mz) else N2 mz H3)
section
variable {X:Cx}{tg iter elt:Expr}{ifs:List Expr}{scope:Scope}{pos:Pos}{wi:TI}{g:TG}{tc:TT}{te:TE}{tn cn:List Str}{ix:List Nat}
structure bC(X:Cx)(scope:Scope)(tn cn:List Str)(ix:List Nat):Prop where
 kind:scope.kind=.function
 cL':∀ y∈scope.names,y.2≠.cell
 free:∀ y∈scope.names,y.2=.free->X.env.scope.names.lookup y.1=some .cell\/X.env.scope.names.lookup y.1=some .free
 names:∀ y∈scope.names,y.2=.local->scope.names.lookup y.1=some .local
 len:ix.length=cn.length
 cap:∀ (k j:Nat),ix[k]? = some j->∃ y,cn[k]? = some y/\X.N[j]? = some y/\(X.env.scope.names.lookup y=some .cell\/X.env.scope.names.lookup y=some .free)/\(y,NameKind.free)∈scope.names /\
  ((relabel scope X.env).names.lookup y=some .cell\/(relabel scope X.env).names.lookup y=some .free)
 all:∀ x,(relabel scope X.env).names.lookup x=some .cell\/(relabel scope X.env).names.lookup x=some .free->(x,NameKind.free)∈scope.names
theorem x_(O:bC X scope tn cn ix)(I:Inv X pins σ H s)(hf:∀ b∈fp,y8 X pins H b)(hfs:∀ b∈fp,b<s.heap.objs.size)(hC:s.heap.objs.size<=C) :
  (bx X scope C (tn++cn) fp s H).Ok:=by
 have EH:∀ y∈scope.names,y.2=.free->∃ c,X.env.cells.lookup y.1=some c:=fun y hy hk=>I.ok.has y.1 (O.free y hy hk)
 have sub:∀ x c,(sv X.env scope.names []).lookup x=some c->X.env.cells.lookup x=some c:=fun x c e=>oV EH (fun y d h=>by simp at h) e
 refine⟨I.ok.mod,O.kind,I.ok.glob,I.ok.blt,hC,fun x y c h1 h2=>I.ok.inj x y c (sub x c h1) (sub y c h2),fun x hx=>lG (.inl (O.all x hx)),(fun x c h _=>nomatch h),I.ok.hd,I.ok.frames,.inl rfl,fun b hb=>⟨?_,fun x c e=>?_⟩,
  I.bs,iO I.ok.B5 I.sz,fun b o e hb=>?_,fun b hb=>?_,I.stack,I.VA⟩
 ·exact fo (nS (hfs b hb) hC)
 ·exact(hf b hb).2.2.2.2.1 x c (sub x c e)
 ·rcases (hf b hb).2.2.2.1 with z|z
  ·exact I.ok.L5 b o e z
  ·exact absurd (nS (dQ e) (iO I.ok.B5 z)) (ti _)
 ·intro hz
  rcases dv.mp (I.RW b hz) with e|e
  ·exact(hf b hb).2.1 e
  ·exact(hf b hb).2.2.1 e
theorem uZ{P:Value->Shared->Prop}(hc:X.calm=true)(hi:PI X tg iter wi)(O:bC X scope tn cn ix)
  (hg:∀ C fp gi gX,PG (bx X scope C (tn++cn) fp gi gX) tg g) (oB:∀ C fp gi gX,zo (bx X scope C (tn++cn) fp gi gX) ifs tc) (he:∀ C fp gi gX,PE (bx X scope C (tn++cn) fp gi gX) elt te)
  (hs:∀ x,foldedSetIterable iter X.env x=pure x) (I:Inv X pins σ H s) (h:yp wi g tc te tn.length ix σ H Q)
  (fin:∀ (C D:Addr) (m:Str->Option Value) (H5:Hp) (s6:Shared) (r:Flow),Inv X pins σ H5 s6->s6.heap.Ns C m->H5 C=none->y8 X pins H5 C->Q (.ref D) H5->compPost (model X.prog X.w) X.A X.xe use P (.ref D) C (.ok r) s6) :
  wpAny (model X.prog X.w) X.A (comprehension (.ListComp elt [⟨tg,iter,ifs,0⟩] scope pos) scope X.env gV' (newList []) false (eval iter X.env) use) P X.xe s:=by
 have EH:∀ y∈scope.names,y.2=.free->∃ c,X.env.cells.lookup y.1=some c:=fun y hy hk=>I.ok.has y.1 (O.free y hy hk)
 have sub:∀ x c,(sv X.env scope.names []).lookup x=some c->X.env.cells.lookup x=some c:=fun x c e=>oV EH (fun y d h=>by simp at h) e
 refine wpAny_comprehension_free (use:=use) rfl hs (pL EH) O.kind O.names (ck (hi pins s σ H _ I h) fun v s1 h1=>ck h1 fun R7 s2 h2=>?_)
 obtain⟨it,fp,Qg,J,H2,e,I2,T,wx,f2,h2⟩:=h2
 subst e
 obtain⟨W,⟨m0,w0⟩,turn⟩:=h2 s2.heap.objs.size (I2.bq.fresh (bX _))
 refine wpAny_newObj_type ?_
 have I3:Inv X pins σ (upd H2 s2.heap.objs.size (.lst [])) { s2 with heap:=s2.heap.push { cls:=.type "list",data:=.seq ([]:List Value).toArray } }:=I2.SD (its:=[]) (t':=s2.toks) .nil (eK _)
 generalize hD:s2.heap.objs.size=D at *
 generalize WR:({ s2 with heap:=s2.heap.push { cls:=.type "list",data:=.seq ([]:List Value).toArray } }:Shared)=s3 at *
 have k23:∀ b o,s2.heap.get? b=some o->s3.heap.get? b=some o:=fun b o e=>by rw[<- WR];exact eW _ e
 have sz3:s3.heap.objs.size=D+1:=by rw[<- WR,<- hD];exact Heap.size_push ..
 have f3:∀ b∈fp,y8 X pins (upd H2 D (.lst [])) b:=fun b hb=>by
  obtain⟨f0,fr⟩:=f2 b hb
  obtain⟨o,ho,_⟩:=T.obj _ _ wx b hb
  refine⟨?_,fr⟩
  rw[cf (fo (by rw[<- hD];exact dQ ho))]
  exact f0
 have w4:Qg 0 s3.heap:=T.keep _ _ _ wx fun b hb o e=>k23 b o e
 have lt3:∀ b∈fp,b<s3.heap.objs.size:=fun b hb=>by
  obtain⟨o,ho,_⟩:=T.obj _ _ w4 b hb
  exact dQ ho
 refine wpAny_newFunctionEnv O.cL' (by intro y hy;simp at hy) (fun MX cP' cQ'=>?_) O.kind
 have EI:∀ b o,s3.heap.get? b=some o->MX.get? b=some o:=fun b o e=>cQ'.extBut b o (fo (dQ e)) (eW _ e)
 -- the block's context
 have Qh:=x_ (C:=s3.heap.objs.size) O I3 f3 lt3 (bX _)
 have I4:Inv (bx X scope s3.heap.objs.size (tn++cn) fp s3 (upd H2 D (.lst []))) [] (pI tn.length ix σ) (upd H2 D (.lst [])) { s3 with heap:=MX,toks:=s3.toks+([]:List (Str × Value)).length }:=by
  refine⟨Qh,rfl,I3.bare,Un.kept EI,⟨_,cP',fun i x v e1 e2 e3=>?_⟩,fun x c e=>?_,I3.bq.fresh (bX _),fun x c e=>I3.uk x c (sub x c e),fun p hp=>absurd hp (by simp[bx]),I3.bq.kept EI,?_⟩
  ·have hX:tn.length<=i:=by
    by_cases q:i<tn.length
    ·unfold pI at e2
     rw[DV (by simpa using q),List.getElem?_replicate] at e2
     simp[q] at e2
    ·lia
   unfold pI at e2
   rw[yA (by simpa using hX),List.length_replicate,kX] at e2
   have e1:(tn++cn)[i]? = some x:=e1
   rw[yA hX] at e1
   cases q:ix[i-tn.length]? with
   |none=>rw[q] at e2;cases e2
   |some j =>
    rw[q] at e2
    obtain⟨y,c1,c2,c3,c4,c5⟩:=O.cap _ _ q
    rw[c1] at e1;cases e1
    have e2:σ[j]?.join=some v:=Option.some.inj e2
    have ej:σ[j]? = some (some v):=by
     cases z:σ[j]? with
     |none=>rw[z] at e2;cases e2
     |some o=>rw[z] at e2;exact congrArg some e2
    obtain⟨m,hn,hl⟩:=I3.loc
    obtain⟨u,r,l⟩:=hl j x v c2 ej (c3.elim (fun z=>.inr (.inl z)) fun z=>.inr (.inr z))
    refine⟨u,r,.inr ⟨c5,?_⟩⟩
    rcases l with⟨hk,_⟩|⟨hk,c,GW,hce⟩
    ·have hk:X.env.scope.names.lookup x=some .local:=hk
     rcases c3 with z|z
     ·rw[z] at hk;cases hk
     ·rw[z] at hk;cases hk
    ·obtain⟨c',EA⟩:=lG (env:=X.env) (cs:=[]) (Or.inl c4)
     have:=sub x c' EA
     rw[GW] at this;cases this
     obtain⟨o,ho,hd⟩:=hce
     exact⟨c,EA,o,EI _ _ ho,hd⟩
  ·obtain⟨v,o,ho,hd⟩:=I3.cell x c (sub x c e)
   exact⟨v,o,EI _ _ ho,hd⟩
  ·show(pI tn.length ix σ).length=(tn++cn).length
   unfold pI
   simp[O.len]
 -- from the block back to the body
 have back:∀ {τ:St} {H':Hp} {s':Shared},Inv (bx X scope s3.heap.objs.size (tn++cn) fp s3 (upd H2 D (.lst []))) [] τ H' s'->Inv X pins σ H' s':=fun {τ H' s'} I' =>
  Inv.ZT (ch:=fp) I3 I'.os I'.base I'.bq I'.bare fun b hb=>by
   obtain⟨_,f1,_,f3',f4,f5⟩:=f3 b hb
   exact⟨f3',f1,f4,f5⟩
 have SW:∀ {H':Hp},(∀ b∈fp,H' b=none)->∀ b∈fp,y8 (bx X scope s3.heap.objs.size (tn++cn) fp s3 (upd H2 D (.lst []))) [] H' b:=fun hn b hb =>
  ⟨hn b hb,(Qh.PN b hb).1,Qh.L6 b hb,.inl hb,(Qh.PN b hb).2,fun p hp=>absurd hp (by simp[bx])⟩
 have loop:∀ s4:Shared,Inv (bx X scope s3.heap.objs.size (tn++cn) fp s3 (upd H2 D (.lst []))) [] (pI tn.length ix σ) (upd H2 D (.lst [])) s4->Qg 0 s4.heap ->
   codeAny (model X.prog X.w) X.A (.compLoop (.ListComp elt [⟨tg,iter,ifs,0⟩] scope pos) 0 (.ref it) (.ref D) (compEnvC scope (sv X.env scope.names []) s3.heap.objs.size X.env))
    (compPost (model X.prog X.w) X.A X.xe use P (.ref D) s3.heap.objs.size) s4:=by
  intro s4 I4 vv
  refine gO (fun n s'=>∃ i τ H',Inv (bx X scope s3.heap.objs.size (tn++cn) fp s3 (upd H2 D (.lst []))) [] τ H' s'/\Qg i s'.heap/\(∀ b∈fp,H' b=none)/\W i n τ H') (fun _ _=>False) ?_ (fun _ _ z=>z.elim) m0
   ⟨0,_,_,I4,vv,fun b hb=>(f3 b hb).1,w0⟩
  rintro n s5 ⟨i,τ,H5,I5,EB,P4,w5⟩
  rcases turn i n τ H5 w5 with⟨stop,qn⟩|⟨go,N1,N2,hN1,oD,step⟩
  ·refine ck (T.done (bx X scope s3.heap.objs.size (tn++cn) fp s3 (upd H2 D (.lst []))) rfl rfl rfl hc i [] s5 τ H5 (fun _ _=>False) I5 (SW P4) EB stop) fun r s6 cS=>?_
   obtain⟨hr,I6⟩:=cS
   subst hr
   have J6:=back I6
   obtain⟨m,hn,_⟩:=I6.loc
   exact fin _ D m H5 s6 _ J6 hn I6.free (I3.PY (b:=s3.heap.objs.size) (H':=H5) (bX _) I6.free) qn
  ·refine ck (T.item (bx X scope s3.heap.objs.size (tn++cn) fp s3 (upd H2 D (.lst []))) rfl rfl rfl hc i [] s5 τ H5 (fun _ _=>False) I5 (SW P4) EB go) fun r s6 cS=>?_
   obtain⟨u,hr,h6⟩:=cS
   subst hr
   refine ck h6 fun _ s7 cS=>?_
   obtain⟨x,H7,I7,r7,y7,SX,fr7⟩:=cS
   have I7':=I7.pinned (SW fr7) (T.obj _ _ SX)
   refine ck (hg _ _ _ _ _ s7 τ H7 x u _ I7' r7 (step x H7 y7)) fun _ s8 cS=>?_
   obtain⟨HZ,H8,I8,q8⟩:=cS
   refine ck (oB _ _ _ _ _ s8 HZ H8 _ I8 q8) fun ok s9 cS=>?_
   obtain⟨H9,I9,q9⟩:=cS
   have again:∀ {s':Shared} {H':Hp} {m':Nat},Inv (bx X scope s3.heap.objs.size (tn++cn) fp s3 (upd H2 D (.lst []))) ([]++L9 fp s7.heap) HZ H' s'->m'<n->W (i+1) m' HZ H' ->
     ∃ m,m<n/\∃ i τ H',Inv (bx X scope s3.heap.objs.size (tn++cn) fp s3 (upd H2 D (.lst []))) [] τ H' s'/\Qg i s'.heap/\(∀ b∈fp,H' b=none)/\W i m τ H':=fun {s' H' m'} J hm w'=>by
    refine⟨m',hm,i+1,HZ,H',J.P1,T.keep _ _ _ SX fun b hb o e=>(J.pin (b,o) (eT _ (eT _ (P0 hb e)))).1,fun b hb=>?_,w'⟩
    obtain⟨o,e,d⟩:=T.obj _ _ SX b hb
    exact(J.pin (b,o) (eT _ (eT _ (P0 hb e)))).2.1
   cases ok with
   |false =>
    rw[if_neg gy] at q9 ⊢
    obtain⟨m',hm,w'⟩:=oD _ _ q9
    exact again I9 hm w'
   |true =>
    rw[if_pos rfl] at q9 ⊢
    refine ck (he _ _ _ _ _ s9 HZ H9 _ I9 q9) fun x9 s10 cx=>L2.gu cx fun v10 WU I10 SY q10=>?_
    obtain⟨ys,m',hH,hz,hm,w'⟩:=hN1 _ _ _ q10
    refine ck (Qb _ s10 HZ WU (.ref D) [v10] (.ref D) [x9] (fun _ H'=>H'=upd WU D (.lst (ys++[v10]))) I10 rfl (.cons SY .nil) ⟨D,ys,v10,rfl,rfl,hH,hz,rfl⟩) fun _ s11 cx=>L2.gu cx fun _ H11 I11 _ q11=>?_
    subst q11
    exact again I11 hm w'
 exact codeAny_compStart_list (loop _ I4 (T.keep _ _ _ w4 fun b hb o e=>EI b o e)) (T.self _ 0 _ _ _ (T.keep _ _ _ w4 fun b hb o e=>EI b o e) (loop _ I4 (T.keep _ _ _ w4 fun b hb o e=>EI b o e)))
theorem Eb(hc:X.calm=true)(hi:PI X tg iter wi)(O:bC X scope tn cn ix)
  (hg:∀ C fp gi gX,PG (bx X scope C (tn++cn) fp gi gX) tg g) (oB:∀ C fp gi gX,zo (bx X scope C (tn++cn) fp gi gX) ifs tc) (he:∀ C fp gi gX,PE (bx X scope C (tn++cn) fp gi gX) elt te)
  (hs:∀ x,foldedSetIterable iter X.env x=pure x:=by intro _;rfl):PE X (.ListComp elt [⟨tg,iter,ifs,0⟩] scope pos) (yp wi g tc te tn.length ix):=by
 intro pins s σ H Q I h
 rw[eval_ListComp]
 refine uZ (use:=none) (P:=EP X pins σ Q) hc hi O hg oB he hs I h fun C D m H5 s6 r J6 hn hf ⟨_,g1,_,g3,g4,g5⟩ qn=>⟨m,hn,fun h' S0=>⟨.ref D,H5,?_,rfl,qn⟩⟩
 exact J6.turned (t':=s6.toks) (fun b o hb e=>S0.extBut b o hb e) hf g1 g3 g4 g5
theorem vU(hN:X.N.Nodup)(vw:X.N[i]? = some x)(hx:Loc X.env.scope x)(hc:X.calm=true)(hi:PI X tg iter wi)(O:bC X scope tn cn ix)
  (hg:∀ C fp gi gX,PG (bx X scope C (tn++cn) fp gi gX) tg g) (oB:∀ C fp gi gX,zo (bx X scope C (tn++cn) fp gi gX) ifs tc) (he:∀ C fp gi gX,PE (bx X scope C (tn++cn) fp gi gX) elt te)
  (S4:swapsWith (.ListComp elt [⟨tg,iter,ifs,0⟩] scope pos) (some (.Name x pos')) S5.line X.env=pure true)
  (hs:∀ x,foldedSetIterable iter X.env x=pure x:=by intro _;rfl) (hf:X.fn x=true\/X.env.scope.names.lookup x=some .local:=by first|exact .inl rfl|exact .inr rfl|assumption) :
  PS X (.Assign [.Name x pos'] (.ListComp elt [⟨tg,iter,ifs,0⟩] scope pos) S5) (R5 (yp wi g tc te tn.length ix) (R1 i)):=by
 intro pins s σ H D0 I h
 rw[exec_Assign_Name_used _ _ _ _ S4]
 refine ai (wpAny_standAt (ai ?_))
 show wpAny _ _ (do let _ <- comprehension (.ListComp elt [⟨tg,iter,ifs,0⟩] scope pos) scope X.env _ (newList []) false (eval iter X.env) (some (assign (.Name x pos') X.env))) _ _ s
 refine ai (sP (uZ (use:=some (assign (.Name x pos') X.env)) (P:=fun _ s'=>SP X pins D0 .next s') hc hi O hg oB he hs I h fun C D m H5 s6 r J6 hn Dp ⟨_,g1,_,g3,g4,g5⟩ qn=>?_) (fun _ s' hq=>aS (aS hq)) fun _ _ e=>e)
 refine(show wpAny _ _ (assign (.Name x pos') X.env (.ref D)) _ _ s6 from wpAny_assign_Name (VG J6 hN vw hx (v:=.ref D) rfl (fun s7 I7 cS=>?_) hf))
 obtain⟨a,sb,ha⟩:=cS
 have hCa:C≠a:=by
  rcases ha with rfl|ha
  ·exact g1
  ·exact Ne.symm (g4 _ a ha)
 refine⟨m,hn.sameBut sb hCa,fun h' S0=>⟨_,H5,?_,qn⟩⟩
 exact I7.turned (t':=s7.toks) (fun b o hb e=>S0.extBut b o hb e) Dp g1 g3 g4 g5
end
def Ic (a b:String):Bool:=a == b || (a == "bool" && b == "int")
def S6 (b:String):Bool:=["str", "int", "bool", "list", "tuple", "dict"].contains b
theorem jB (K:PySem.W.Frag) (a b:String) (ha:a∈["NoneType", "bool", "int", "str", "list", "tuple", "dict"]) (hb:b∈["str", "int", "bool", "list", "tuple", "dict"]):PySem.W.kitOne K (.type a) (.type b)=some (Ic a b):=by
 simp only[dv,LJ,or_false] at ha hb
 rcases ha with rfl|rfl|rfl|rfl|rfl|rfl|rfl<;>rcases hb with rfl|rfl|rfl|rfl|rfl|rfl<;>kernel_rfl
section
variable {X:Cx}
theorem cE.imp(h:cE X f r)(hi:∀ x y H Q,r' x y H Q->r x y H Q):cE X f r' :=
 fun pins s σ H x y v u Q I rx ry q=>h pins s σ H x y v u Q I rx ry (hi x y H Q q)
def J3(K:PySem.W.Frag):R2:=fun x y H Q=>∃ l b xs zs,x=.ref l/\y=.ref b/\eL K H l xs/\eL K H b zs/\xs.length+zs.length<=sizeLine/\∀ p,H p=none->Q (.ref p) (upd H p (.lst (xs++zs)))
theorem Gr:cE X (binaryOp .Add) (J3 X.K):=by
 intro pins s σ H x y v u Q I rx ry h
 obtain⟨l,b,xs,zs,rfl,rfl,hH,hB,hz,q⟩:=h
 cases rx
 cases ry
 obtain⟨its,r,pl,z⟩:=I.list hH
 obtain⟨AV,r2,pl2,z2⟩:=I.list hB
 have hl:=r.length
 have vk:=r2.length
 obtain⟨⟨cls,dd,data,sl⟩,ho,hc,n,hd⟩:=id pl.isList
 obtain⟨⟨Ss,rS,data2,rV⟩,qa,x3,n2,hd2⟩:=id pl2.isList
 simp only at hc hd x3 hd2
 subst hc hd x3 hd2
 have ea:its.toArray++AV.toArray=(its++AV).toArray:=by simp
 refine concat_meets ⟨_,ho,rfl⟩ ⟨_,qa,rfl⟩ noFill_list_add seq_list_add PySem.F.slot_list_add PySem.F.entry_list_add (PySem.F.args_list_add_2 _ _) (list_addW l b its.toArray AV.toArray n n2 dd rS sl rV (by simp only[hG];lia)) ⟨ho,qa,?_⟩
 rw[ea]
 exact⟨.ref _,_,I.SD (t':=s.toks) (r.append r2) (by rw[ng];lia),rfl,q _ I.fresh⟩
def zR(K:PySem.W.Frag):R2:=fun x y H Q=>match x,y with
 |.int i,.int j=>Q (.int (i+j)) H
 |.str i,.str j=>i.length+j.length<=sizeLine/\Q (.str (i++j)) H
 |.ref a,.ref b=>∃ xs zs,eL K H a xs/\eL K H b zs/\xs.length+zs.length<=sizeLine/\∀ p,H p=none->Q (.ref p) (upd H p (.lst (xs++zs)))
 |_,_=>False
theorem Ea:cE X (binaryOp .Add) (zR X.K):=by
 refine(aC'.or (aZ'.or Gr)).imp fun x y H Q h=>?_
 unfold zR at h
 split at h
 ·exact .inl ⟨_,_,rfl,rfl,h⟩
 ·exact .inr (.inl ⟨_,_,rfl,rfl,h.1,h.2⟩)
 ·obtain⟨xs,zs,h1,h2,h3,h4⟩:=h
  exact .inr (.inr ⟨_,_,xs,zs,rfl,rfl,h1,h2,h3,h4⟩)
 ·exact h.elim
def Gv:R2:=fun x y H Q=>match x,y with
 |.int i,.int j=>Q (.int (i-j)) H
 |_,_=>False
theorem Eo:cE X (binaryOp .Sub) Gv:=aD'.imp fun x y H Q h=>by
 unfold Gv at h
 split at h
 ·exact⟨_,_,rfl,rfl,h⟩
 ·exact h.elim
def Fo:R2:=fun x y H Q=>match x,y with
 |.int i,.int j=>y9 i j/\Q (.int (i*j)) H
 |_,_=>False
theorem Gy:cE X (binaryOp .Mult) Fo:=aE'.imp fun x y H Q h=>by
 unfold Fo at h
 split at h
 ·exact⟨_,_,rfl,rfl,h.1,h.2⟩
 ·exact h.elim
def F_:R2:=fun x y H Q=>match x,y with
 |.int i,.int j=>(0<j/\j<1073741824)/\Q (.int (i / j)) H
 |_,_=>False
theorem Di:cE X (binaryOp .FloorDiv) F_:=aF'.imp fun x y H Q h=>by
 unfold F_ at h
 split at h
 ·exact⟨_,_,rfl,rfl,h.1,h.2⟩
 ·exact h.elim
def Fx:R2:=fun x y H Q=>match x,y with
 |.int i,.int j=>0<j/\Q (.int (i % j)) H
 |_,_=>False
theorem Dt:cE X (binaryOp .Mod) Fx:=aG'.imp fun x y H Q h=>by
 unfold Fx at h
 split at h
 ·exact⟨_,_,rfl,rfl,h.1,h.2⟩
 ·exact h.elim
def qc(x y:Str):Bool:=decide (x.cps.toList<y.cps.toList)
def S7:R2:=fun x y H Q=>match x,y with
 |.int i,.int j=>Q (.bl (decide (i<j))) H
 |.str i,.str j=>Q (.bl (qc i j)) H
 |_,_=>False
theorem Dg:cE X (compareOp .Lt) S7:=(aN'.or aQ').imp fun x y H Q h=>by
 unfold S7 at h
 split at h
 ·exact .inl ⟨_,_,rfl,rfl,h⟩
 ·exact .inr ⟨_,_,rfl,rfl,h⟩
 ·exact h.elim
theorem yV:cE X (compareOp .LtE) (fun x y H Q=>∃ i j,x=.str i/\y=.str j/\Q (.bl (!qc j i)) H):=by
 intro pins s σ H x y v u Q I rx ry h
 obtain⟨i,j,rfl,rfl,q⟩:=h
 obtain⟨t,rfl⟩:=rx
 obtain⟨t',rfl⟩:=ry
 exact PySem.P.le_str ⟨.bl _,H,I,rfl,q⟩
def S8:R2:=fun x y H Q=>match x,y with
 |.int i,.int j=>Q (.bl (decide (i<=j))) H
 |.str i,.str j=>Q (.bl (!qc j i)) H
 |_,_=>False
theorem Iw:cE X (compareOp .LtE) S8:=(aO'.or yV).imp fun x y H Q h=>by
 unfold S8 at h
 split at h
 ·exact .inl ⟨_,_,rfl,rfl,h⟩
 ·exact .inr ⟨_,_,rfl,rfl,h⟩
 ·exact h.elim
def S9:R2:=fun x y H Q=>match x,y with
 |.int i,.int j=>Q (.bl (decide (j<i))) H
 |_,_=>False
theorem Ie:cE X (compareOp .Gt) S9:=aP'.imp fun x y H Q h=>by
 unfold S9 at h
 split at h
 ·exact⟨_,_,rfl,rfl,h⟩
 ·exact h.elim
theorem Inv.rd(I:Inv X pins σ H s)(e:Rd H a u):fe X.prog X.w H s.heap a u:=e.elim (I.bq a _) fun⟨o,e⟩=>(show fe X.prog X.w H s.heap a (.eu o u) from I.bq a _ e).2
def Qi(K:PySem.W.Frag):List V->Hp->VK->Prop:=fun xs H Q=>match xs with
 |[.str y]=>y.length<=sizeLine/\Q (.int y.length) H
 |[.ref p]=>(∃ ys,eL K H p ys/\Q (.int ys.length) H)\/(∃ ys,nX K H p ys/\Q (.int ys.length) H)\/∃ kvs,Rd H p (.dK kvs)/\Q (.int kvs.length) H
 |_=>False
theorem xT:kr X (.builtin "len") (Qi X.K):=by
 intro pins s σ H xs us Q I r h
 unfold Qi at h
 split at h
 ·exact Sf pins s σ H _ us Q I r ⟨_,_,rfl,⟨h.1,rfl⟩,h.2⟩
 ·rcases h with⟨ys,h1,h2⟩|⟨ys,h1,h2⟩|⟨kvs,h1,h2⟩
  ·exact Sf pins s σ H _ us Q I r ⟨_,_,rfl,.inl ⟨ys,h1,rfl⟩,h2⟩
  ·exact Sf pins s σ H _ us Q I r ⟨_,_,rfl,.inr ⟨ys,h1,rfl⟩,h2⟩
  ·obtain⟨u,rfl,ru⟩:=vals1 r
   cases ru
   exact cm' I h1 fun t s' I'=>⟨.int kvs.length,H,I',⟨t,rfl⟩,h2⟩
 ·exact h.elim
def Qj(K:PySem.W.Frag):R2:=fun x y H Q=>match x,y with
 |.ref p,.int i=>(∃ xs v,eL K H p xs/\fi xs i=some v/\Q v H)\/∃ xs v,nX K H p xs/\fi xs i=some v/\Q v H
 |.str z,.int i=>z.length<=sizeLine/\∃ c,fi z.cps.toList i=some c/\Q (.str ⟨#[c]⟩) H
 |_,_=>False
theorem CZ:ve X (Qj X.K):=by
 intro value slice pins s σ H x y v u Q I rx ry h hs
 refine bO' value slice pins s σ H x y v u Q I rx ry ?_ hs
 unfold Qj at h
 split at h
 ·rcases h with⟨xs,w,h1,h2,h3⟩|⟨xs,w,h1,h2,h3⟩
  ·exact .inl ⟨_,xs,_,w,rfl,rfl,h1,h2,h3⟩
  ·exact .inr (.inl ⟨_,xs,_,w,rfl,rfl,h1,h2,h3⟩)
 ·obtain⟨h1,c,h2,h3⟩:=h
  exact .inr (.inr ⟨_,_,c,rfl,rfl,h1,h2,h3⟩)
 ·exact h.elim
def x5(z:Str)(lo hi:Option Int):Str:=⟨((z.cps.toList.drop (HT.bI z.length 0 lo)).take (HT.bI z.length z.length hi-HT.bI z.length 0 lo)).toArray⟩
end
theorem zr(l:List Nat)(lo hi:Option Int)(h:((l.drop (HT.bI l.length 0 lo)).take (HT.bI l.length l.length hi-HT.bI l.length 0 lo)).length=l.length) :
  (l.drop (HT.bI l.length 0 lo)).take (HT.bI l.length l.length hi-HT.bI l.length 0 lo)=l:=by
 generalize HT.bI l.length 0 lo=a at *
 generalize HT.bI l.length l.length hi=b at *
 by_cases hl:l.length=0
 ·have:l=[]:=O9.mp hl
  subst this;simp
 ·rw[lh,BQ] at h
  have h1:a=0:=by lia
  subst h1
  rw[List.drop_zero]
  exact O_ (by lia)
theorem xO(lo hi:Option Int)(n:Nat):Builtin.Str.strSliceIndices lo hi 1 n=(List.range (HT.bI n n hi-HT.bI n 0 lo)).map (HT.bI n 0 lo + ·):=by
 unfold Builtin.Str.strSliceIndices
 have e1:(match lo with|none=>(0:Int)|some i=>max 0 (min (if i<0 then i+n else i) n))=((HT.bI n 0 lo:Nat):Int):=by
  cases lo with
  |none=>simp[HT.bI]
  |some i =>
   simp only[HT.bI]
   by_cases h:i<0
   ·simp only[h,if_true]<;>lia
   ·simp only[h,if_false]<;>lia
 have e2:(match hi with|none=>(n:Int)|some i=>max 0 (min (if i<0 then i+n else i) n))=((HT.bI n n hi:Nat):Int):=by
  cases hi with
  |none=>simp[HT.bI]
  |some i =>
   simp only[HT.bI]
   by_cases h:i<0
   ·simp only[h,if_true]<;>lia
   ·simp only[h,if_false]<;>lia
 rw[<- sliceRange_one,<- e1,<- e2]
 simp only[show(1:Int)>0 by decide,if_true]
 cases lo<;>cases hi<;>rfl
section
variable {X:Cx}
theorem part_of(h:IsPart v o):∃ p:Option (Int × Tok),v=partValue p/\p.map (·.1)=o:=by
 cases h with
 |none=>exact⟨none,rfl,rfl⟩
 |int i t=>exact⟨some (i,t),rfl,rfl⟩
def S_(K:PySem.W.Frag):V->Option Int->Option Int->Hp->VK->Prop:=fun x lo hi H Q=>match x with
 |.str z=>z.length<=sizeLine/\Q (.str (x5 z lo hi)) H
 |.ref a=>∃ xs,eL K H a xs/\∀ p,H p=none->Q (.ref p) (upd H p (.lst (AU xs lo hi)))
 |_=>False
theorem Hn:HK X (fun x lo hi H Q=>∃ z,x=.str z/\z.length<=sizeLine/\Q (.str (x5 z lo hi)) H):=by
 intro pins s σ H x v vl vu lo hi sl Q I rx hs pl pu h
 obtain⟨z,rfl,hz,q⟩:=h
 obtain⟨t,rfl⟩:=rx
 obtain⟨p1,rfl,e1⟩:=part_of pl
 obtain⟨p2,rfl,e2⟩:=part_of pu
 refine⟨"str",_,F.slot_str_getitem.lookup,typeIs_str s z t,wpAny_getItem_str_slice (l:=p1) (u:=p2) (st:=none) hs rfl ?_⟩
 have hl:z.cps.toList.length=z.length:=by simp[Str.length]
 have ep:slicePicked z p1 p2 none=(List.range (HT.bI z.length z.length hi-HT.bI z.length 0 lo)).map (HT.bI z.length 0 lo + ·):=by
  unfold slicePicked
  rw[e1,e2]
  exact xO lo hi z.length
 have ef:(slicePicked z p1 p2 none).filterMap (z.cps[·]?)=(z.cps.toList.drop (HT.bI z.length 0 lo)).take (HT.bI z.length z.length hi-HT.bI z.length 0 lo):=by
  rw[ep];exact pick_run z.cps _ _
 unfold sliceMade
 split
 ·rename_i hc
  have hw:(slicePicked z p1 p2 none).length=z.length:=by simpa using hc
  have:x5 z lo hi=z:=by
   unfold x5
   have e3:((z.cps.toList.drop (HT.bI z.cps.toList.length 0 lo)).take (HT.bI z.cps.toList.length z.cps.toList.length hi-HT.bI z.cps.toList.length 0 lo)).length=z.cps.toList.length:=by
    rw[hl,lh,BQ,hl]
    rw[ep,b4,Ph] at hw
    have h0:HT.bI z.length 0 lo<=z.length:=by
     cases lo with
     |none=>simp[HT.bI]
     |some i=>simp only[HT.bI];split<;>lia
    have h1:HT.bI z.length z.length hi<=z.length:=by
     cases hi with
     |none=>simp[HT.bI]
     |some i=>simp only[HT.bI];split<;>lia
    lia
   have:=zr z.cps.toList lo hi e3
   rw[hl] at this
   rw[this]
  rw[this] at q
  exact⟨.str z,H,I,⟨t,rfl⟩,q⟩
 ·rw[ef]
  exact⟨by
   show(x5 z lo hi).length<=sizeLine
   unfold x5 Str.length
   simp only[hG,lh,BQ,hl]
   have:z.cps.toList.length=z.length:=hl
   lia,⟨.str (x5 z lo hi),H,I.tok _,⟨_,rfl⟩,q⟩⟩
theorem HJ:HK X (S_ X.K):=by
 intro pins s σ H x v vl vu lo hi sl Q I rx hs pl pu h
 unfold S_ at h
 split at h
 ·exact Hn pins s σ H _ v vl vu lo hi sl Q I rx hs pl pu ⟨_,rfl,h.1,h.2⟩
 ·obtain⟨xs,h1,h2⟩:=h
  exact bS' pins s σ H _ v vl vu lo hi sl Q I rx hs pl pu ⟨_,xs,rfl,h1,h2⟩
 ·exact h.elim
end
structure qQ(J:It)(its:List V)(cond:Hp->Prop):Prop where
 go:∀ i H,cond H->i<its.length->J.go i H
 nr:∀ i H x H',cond H->i<its.length->J.nr i H x H'->H'=H/\its[i]? = some x
 stop:∀ H,cond H->J.stop its.length H
theorem BW(K:PySem.W.Frag)(a:Addr)(xs:List V):qQ (PZ K a) xs (fun H=>eL K H a xs) where
 go:=fun i H h hi=>⟨xs,xs[i],h,by simp[hi]⟩
 nr:=fun i H x H' h _ y=>⟨y.1,y.2 xs h⟩
 stop:=fun H h=>⟨xs,h,bX _⟩
def xP(lo:Int)(n:Nat):List V:=(List.range n).map fun i=>.int (lo+(i:Nat))
theorem GC(lo:Int)(n:Nat):qQ (HC lo n) (xP lo n) (fun _=>True) where
 go:=fun i H _ h=>by simpa[xP,HC] using h
 nr:=fun i H x H' _ hi h=>by
  have hi:i<n:=by simpa[xP] using hi
  obtain⟨rfl,rfl⟩:=h
  refine⟨rfl,?_⟩
  simp[xP,hi]
 stop:=fun H _=>by simp[xP,HC]
def Qk(J:It)(g:TG)(tb:TS)(D:Ends)(σ:St)(H:Hp):Prop :=
 ∃ W:Nat->Nat->St->Hp->Prop,(∃ m,W 0 m σ H)/\∀ i m σ H,W i m σ H ->
   (J.stop i H/\D.nx σ H)\/(J.go i H/\∃ N:St->Hp->Prop,(∀ bp H',N bp H'->∃ m',m'<m/\W (i+1) m' bp H')/\∀ x H',J.nr i H x H'->g x σ H' fun iP H2=>tb { D with nx:=N,ct:=N,bk:=D.nx } iP H2)
theorem yG(wi:TI)(g:TG)(tb:TS)(D:Ends)(σ:St)(H:Hp):V0 wi g tb D σ H=wi σ H fun J H1=>Qk J g tb D σ H1:=rfl
def J1(J:It)(g:TG)(tc:TT)(te:TE)(τ0:St)(H1:Hp)(D:Addr)(Q:VK):Prop :=
 ∃ W:Nat->Nat->St->Hp->Prop,(∃ m,W 0 m τ0 (upd H1 D (.lst [])))/\∀ i m τ H,W i m τ H ->
  (J.stop i H/\Q (.ref D) H)\/(J.go i H/\∃ (N1:St->V->Hp->Prop) (N2:St->Hp->Prop),
   (∀ mz v H4,N1 mz v H4->∃ ys m',H4 D=some (.lst ys)/\ys.length<sizeLine/\m'<m/\W (i+1) m' mz (upd H4 D (.lst (ys++[v])))) /\
   (∀ mz H3,N2 mz H3->∃ m',m'<m/\W (i+1) m' mz H3) /\
   ∀ x H',J.nr i H x H'->g x τ H' fun mz H2=>tc mz H2 fun b H3=>if b=true then te mz H3 (N1 mz) else N2 mz H3)
theorem Bw(wi:TI)(g:TG)(tc:TT)(te:TE)(tn:Nat)(ix:List Nat)(σ:St)(H:Hp)(Q:VK):yp wi g tc te tn ix σ H Q=wi σ H fun J H1=>∀ D,H1 D=none->J1 J g tc te (pI tn ix σ) H1 D Q:=rfl
mutual
inductive Rep(K:PySem.W.Frag)(H:Hp):PyData->V->Prop
 |none:Rep K H .none .non
 |bool (b:Bool):Rep K H (.bool b) (.bl b)
 |int (i:Int):Rep K H (.int i) (.int i)
 |str (x:Str):Rep K H (.str x) (.str x)
 |list {a:Addr} {vs:List V} {ds:List PyData}:eL K H a vs->aI K H ds vs->Rep K H (.list ds) (.ref a)
 |tuple {a:Addr} {vs:List V} {ds:List PyData}:nX K H a vs->aI K H ds vs->Rep K H (.tuple ds) (.ref a)
inductive aI(K:PySem.W.Frag)(H:Hp):List PyData->List V->Prop
 |nil:aI K H [] []
 |cons {d:PyData} {v:V} {ds:List PyData} {vs:List V}:Rep K H d v->aI K H ds vs->aI K H (d :: ds) (v :: vs)
end
section
variable {X:Cx}{pins:List (Addr × Obj)}{σ:St}{H:Hp}{s:Shared}
mutual
theorem Rep.reads(I:Inv X pins σ H s):∀ {d:PyData} {v:V} {u:Value},Rep X.K H d v->RelV v u->∃ as,Reads s.heap u d as
 |_,_,_,.none,r=>by cases (show _=Value.none from r);exact⟨_,.none⟩
 |_,_,_,.bool b,r=>by cases (show _=Value.bool b from r);exact⟨_,.bool b⟩
 |_,_,_,.int i,r=>by obtain⟨t,e⟩:=r;subst e;exact⟨_,.int i t⟩
 |_,_,_,.str x,r=>by obtain⟨t,e⟩:=r;subst e;exact⟨_,.str x t⟩
 |_,_,_,.list h hs,r=>by
  cases r
  obtain⟨its,rv,pl,_⟩:=I.list h
  obtain⟨o,e,c,n,d⟩:=pl.isList
  obtain⟨as,q⟩:=aI.reads I hs rv
  exact⟨_,.list e c d q⟩
 |_,_,_,.tuple h hs,r=>by
  cases r
  obtain⟨its,rv,⟨o,e,c,n,d⟩,_⟩:=I.tuple h
  obtain⟨as,q⟩:=aI.reads I hs rv
  exact⟨_,.tuple e c d q⟩
theorem aI.reads(I:Inv X pins σ H s):∀ {ds:List PyData} {vs:List V} {us:List Value},aI X.K H ds vs->Vals vs us->∃ as,ReadsAll s.heap us ds as
 |_,_,_,.nil,.nil=>⟨_,.nil⟩
 |_,_,_,.cons h hs,.cons r rs=>by
  obtain⟨as,q⟩:=Rep.reads I h r
  obtain⟨bs,q'⟩:=aI.reads I hs rs
  exact⟨_,.cons q q'⟩
end
def Ta(K:PySem.W.Frag):R2:=fun x y H Q=>∃ d e,Rep K H d x/\Rep K H e y/\d.canLay0=true/\e.canLay0=true/\d.depth<=60/\Q (.bl (PyData.eqv d e)) H
def Tb(K:PySem.W.Frag):R2:=fun x y H Q=>∃ d e,Rep K H d x/\Rep K H e y/\d.canLay0=true/\e.canLay0=true/\d.depth<=60/\Q (.bl (!PyData.eqv d e)) H
theorem Ik(hu:X.A.units+64<cLine):cE X (compareOp .Eq) (Ta X.K):=by
 intro pins s σ H x y v u Q I rx ry h
 obtain⟨d,e,h1,h2,h3,h4,h5,q⟩:=h
 obtain⟨as,r1⟩:=h1.reads I rx
 obtain⟨bs,r2⟩:=h2.reads I ry
 exact PySem.SeqAt.rcAt_reads r1 r2 h3 h4 (by lia) X.prog X.w X.xe _ ⟨.bl _,H,I,rfl,q⟩
theorem Hv(hu:X.A.units+64<cLine):cE X (compareOp .NotEq) (Tb X.K):=by
 intro pins s σ H x y v u Q I rx ry h
 obtain⟨d,e,h1,h2,h3,h4,h5,q⟩:=h
 obtain⟨as,r1⟩:=h1.reads I rx
 obtain⟨bs,r2⟩:=h2.reads I ry
 exact PySem.SeqAt.rcNeAt_reads r1 r2 h3 h4 (by lia) X.prog X.w X.xe _ ⟨.bl _,H,I,rfl,q⟩
def Ql(K:PySem.W.Frag):R2:=fun x y H Q=>match x,y with
 |.int i,.int j=>Q (.bl (decide (i=j))) H
 |.str i,.str j=>Q (.bl (decide (i=j))) H
 |.bl i,.bl j=>Q (.bl (decide (i=j))) H
 |_,_=>Ta K x y H Q
theorem GQ(hu:X.A.units+64<cLine):cE X (compareOp .Eq) (Ql X.K):=(aL'.or (Ik hu)).imp fun x y H Q h=>by
 unfold Ql at h
 split at h
 ·refine .inl ⟨rfl,?_⟩;simpa using h
 ·refine .inl ⟨rfl,?_⟩;simpa using h
 ·refine .inl ⟨rfl,?_⟩;simpa using h
 ·exact .inr h
def Qm(K:PySem.W.Frag):R2:=fun x y H Q=>match x,y with
 |.int i,.int j=>Q (.bl (!decide (i=j))) H
 |.str i,.str j=>Q (.bl (!decide (i=j))) H
 |.bl i,.bl j=>Q (.bl (!decide (i=j))) H
 |_,_=>Tb K x y H Q
theorem Jl(hu:X.A.units+64<cLine):cE X (compareOp .NotEq) (Qm X.K):=(aM'.or (Hv hu)).imp fun x y H Q h=>by
 unfold Qm at h
 split at h
 ·refine .inl ⟨rfl,?_⟩;simpa using h
 ·refine .inl ⟨rfl,?_⟩;simpa using h
 ·refine .inl ⟨rfl,?_⟩;simpa using h
 ·exact .inr h
end
end L2
namespace L2
open PySem PySem.Spec PyProof.Rows
def MY(sc:Scope)(names:List (Str × NameKind)):List (Str × NameKind):=names.map fun y=>if (y.2 == NameKind.free && sc.kind == .function && sc.names.lookup y.1 == some .cell)=true then (y.1,NameKind.cell) else (y.1,y.2)
def MZ(o:Option NameKind):Bool:=o == some .cell || o == some .free
def Hz(sc scope:Scope)(N cn:List Str)(ix:List Nat):Bool :=
 scope.kind == .function && scope.names.all (fun y=>y.2 != .cell) && scope.names.all (fun y=>y.2 != .free || MZ (sc.names.lookup y.1)) && scope.names.all (fun y=>y.2 != .local || scope.names.lookup y.1 == some .local) &&
 ix.length == cn.length && (List.range ix.length).all (fun k=>match ix[k]?,cn[k]? with
  |some j,some y=>N[j]? == some y && MZ (sc.names.lookup y) && scope.names.contains (y,NameKind.free) && MZ ((MY sc scope.names).lookup y)
  |_,_=>false) &&
 (MY sc scope.names).all (fun y=>!(y.2 == .cell || y.2 == .free) || scope.names.contains (y.1,NameKind.free))
theorem tH(h:MZ o=true):o=some .cell\/o=some .free:=by
 unfold MZ at h
 simpa using h
theorem bC.of{X:Cx}(AX:X.env.scope=sc)(hN:X.N=N)(h:Hz sc scope N cn ix=true):bC X scope tn cn ix:=by
 unfold Hz at h
 simp only[mw] at h
 obtain⟨⟨⟨⟨⟨⟨h1,h2⟩,h3⟩,h4⟩,h5⟩,h6⟩,h7⟩:=h
 rw[FP] at h2 h3 h4 h6 h7
 have WV:(relabel scope X.env).names=MY sc scope.names:=by
  unfold relabel MY
  rw[<- AX]
  rfl
 refine⟨by simpa using h1,fun y hy=>by simpa using h2 y hy,fun y hy hk=>?_,fun y hy hk=>?_,by simpa using h5,fun k j hk=>?_,fun x hx=>?_⟩
 ·have:=h3 y hy
  rw[hk] at this
  rw[AX]
  exact tH (by simpa using this)
 ·have:=h4 y hy
  rw[hk] at this
  simpa using this
 ·have jS:k<ix.length:=(iL.mp hk).1
  have:=h6 k (oi.mpr jS)
  rw[hk] at this
  cases e:cn[k]? with
  |none=>rw[e] at this;cases this
  |some y =>
   rw[e] at this
   simp only[mw] at this
   obtain⟨⟨⟨a1,a2⟩,a3⟩,a4⟩:=this
   refine⟨y,rfl,by rw[hN];simpa using a1,by rw[AX];exact tH a2,by simpa using a3,by rw[WV];exact tH a4⟩
 ·rw[WV] at hx
  have mem:∃ k,(x,k)∈MY sc scope.names/\(k=.cell\/k=.free):=by
   rcases hx with hx|hx
   ·exact⟨_,PySem.mem_of_lookup hx,.inl rfl⟩
   ·exact⟨_,PySem.mem_of_lookup hx,.inr rfl⟩
  obtain⟨k,hm,hk⟩:=mem
  have:=h7 _ hm
  rcases hk with rfl|rfl<;>simpa using this
structure dk(P:Program)(w:World)(K:PySem.W.Frag)(mg:Str->Option Value)(base:Heap)(k:Nat)(x:Str)(ps:List Str)(sp:Sp):Prop where
 ex:∃ (g:Addr) (fd:FuncData),mg x=some (.ref g)/\PySem.W.keepIn K (.ref g)=true/\Binds K fd ps []/\gv P w K mg base gI k g fd ps sp
section
variable {X:Cx}{k:Nat}{x:Str}{ps:List Str}{sp:Sp}{p pos:Pos}{e:Expr}{es:List Expr}{t:TA}
theorem Je (C:dk X.prog X.w X.K X.mg X.base k x ps sp) (hr:nv k X.A) (ha:PA X (e :: es) t) (hg:Gl X x:=by rfl) (rL:(x == ("__debug__" : Str))=false:=by decide) (he:starEach (e :: es) X.env=(false,eval e X.env) :: starEach es X.env:=by rfl)
  (kN:(backTo pos (starEach es X.env)).any (·.1)=false:=by rfl):PE X (.Call (.Name x p) (e :: es) [] pos) (Sn sp [] E0 t):=by
 obtain⟨g,fd,hm,hk,hb,F⟩:=C.ex
 exact bl' F hr hg hm hk hb .nil cG' ha rL he kN
end
theorem hV.mB{P:Program}{K:PySem.W.Frag}{st:Stmt}{ps:List Str}(F:hV K x qual st f fd)(hm:mg x=some (.ref f))
  (G:gv P w K mg base gI k f fd ps sp)
  (h:∀ (kV doc pm:Value) (an:Option Addr) (dy ct:Value) (us:List Value),us.length=ps.length->bindArgs (PySem.W.fnOf x qual (iX st) (hU st) (cp st) .none kV doc pm an dy ct) ⟨us,[]⟩=pure (ps.zip us)):dk P w K mg base k x ps sp :=
 ⟨f,fd,hm,F.kp,F.binds h,G⟩
theorem CV:bootBuiltins "int" = some (.type "int"):=by decide +kernel
theorem Ft:bootBuiltins "bool" = some (.type "bool"):=by decide +kernel
theorem lY:bootBuiltins "list" = some (.type "list"):=by decide +kernel
theorem qe:bootBuiltins "isinstance" = some (.builtin "isinstance"):=by decide +kernel
theorem qx:bootBuiltins "len" = some (.builtin "len"):=by decide +kernel
theorem Jh {X:Cx} {T:String} (hm:X.mg x=none) (hv:bootBuiltins x=some (.type T)) (hg:Gl X x:=by rfl) (hn:x ≠ "__name__" := by decide) (hd:(x == ("__debug__" : Str))=false:=by decide):PE X (.Name x pos) (tC (.ty T)) :=
 ZZ hg hm hv rfl hn hd
def Qn(i j:Str):Bool:=!(Builtin.Str.occurrences j i 0 j.length 1).isEmpty
def EJ(K:PySem.W.Frag)(neg:Bool):R2:=fun x y H Q=>match x,y with
 |.str i,.str j=>Q (.bl (if neg then !Qn i j else Qn i j)) H
 |_,.ref p=>(∃ o,kP H p x o/\Q (.bl (if neg then !o.isSome else o.isSome)) H)\/MQ K neg x y H Q
 |_,_=>False
theorem Ig{X:Cx}(hu:X.A.units+64<cLine):cE X (compareOp .In) (EJ X.K false):=by
 intro pins s σ H x y v u Q I rx ry h
 unfold EJ at h
 split at h
 ·exact aR' pins s σ H _ _ v u Q I rx ry ⟨_,_,rfl,rfl,h⟩
 ·rcases h with⟨o,g,q⟩|h
  ·cases ry
   exact ci' (by lia) I g rx fun s3 I3=>⟨.bl o.isSome,H,I3,rfl,q⟩
  ·exact bU' pins s σ H _ _ v u Q I rx ry h
 ·exact h.elim
theorem yI{X:Cx}(hu:X.A.units+64<cLine):cE X (compareOp .NotIn) (EJ X.K true):=by
 intro pins s σ H x y v u Q I rx ry h
 unfold EJ at h
 split at h
 ·exact aT' pins s σ H _ _ v u Q I rx ry ⟨_,_,rfl,rfl,h⟩
 ·rcases h with⟨o,g,q⟩|h
  ·cases ry
   exact cj' (by lia) I g rx fun s3 I3=>⟨.bl (!o.isSome),H,I3,rfl,q⟩
  ·exact bV' pins s σ H _ _ v u Q I rx ry h
 ·exact h.elim
theorem ax.upd(h:ax H H')(hp:H' p=none):ax H (upd H' p o):=fun b u e=>by
 have e':=h b u e
 rw[cf (GP e' hp)]
 exact e'
theorem ax.lst{K:PySem.W.Frag}(e:ax H H')(h:eL K H a xs):eL K H' a xs:=e.seq h
theorem ax.tup{K:PySem.W.Frag}(e:ax H H')(h:nX K H a xs):nX K H' a xs:=by
 rcases h with(h|⟨o,h⟩)|h
 ·exact .inl (.inl (e _ _ h))
 ·exact .inl (.inr ⟨o,e _ _ h⟩)
 ·exact .inr h
mutual
theorem Rep.same{K:PySem.W.Frag}(s:ax H H'):∀ {d:PyData} {v:V},Rep K H d v->Rep K H' d v
 |_,_,.none=>.none
 |_,_,.bool b=>.bool b
 |_,_,.int i=>.int i
 |_,_,.str x=>.str x
 |_,_,.list h hs=>.list (s.lst h) (aI.same s hs)
 |_,_,.tuple h hs=>.tuple (s.tup h) (aI.same s hs)
theorem aI.same{K:PySem.W.Frag}(s:ax H H'):∀ {ds:List PyData} {vs:List V},aI K H ds vs->aI K H' ds vs
 |_,_,.nil=>.nil
 |_,_,.cons h hs=>.cons (Rep.same s h) (aI.same s hs)
end
section
variable {X:Cx}{K:PySem.W.Frag}
theorem kIx(hK:X.K=K:=by rfl):ve X (Qj K):=by subst hK;exact CZ
theorem oo(hu:X.A.units+64<cLine)(hK:X.K=K:=by rfl):cE X (compareOp .Eq) (Ql K):=by subst hK;exact GQ hu
theorem M0(hu:X.A.units+64<cLine)(hK:X.K=K:=by rfl):cE X (compareOp .NotEq) (Qm K):=by subst hK;exact Jl hu
theorem ki(hu:X.A.units+64<cLine)(hK:X.K=K:=by rfl):cE X (compareOp .In) (EJ K false):=by subst hK;exact Ig hu
theorem HN(hu:X.A.units+64<cLine)(hK:X.K=K:=by rfl):cE X (compareOp .NotIn) (EJ K true):=by subst hK;exact yI hu
end
theorem N5{α:Type}{a:α}{p:α->Prop}:(∃ v,a=v/\p v)↔p a:=⟨fun⟨_,e,h⟩=>e ▸ h,fun h=>⟨a,rfl,h⟩⟩
end L2
namespace L2
open PySem PySem.Spec PyProof.Rows
abbrev Qo:=Array DictEntry
def tq(h:Heap)(d:Addr)(es:Qo)(ep:Nat):Prop:=∃ o,h.get? d=some o/\o.ExactDict/\o.data=.dict es ep
theorem tq.typ {s:Shared} {d:Addr} {es:Qo} {ep:Nat} (x:tq s.heap d es ep):s.TypeIs (.ref d) "dict" := let ⟨o,e,c,_⟩:=x;⟨o,e,c.1⟩
section
variable {prog:Program}{w:World}{A:Around}{E:Value->Shared->Prop}{s:Shared}{d it:Addr}{es:Qo}{ep i:Nat}
theorem uB{Q:Value->Shared->Prop}(lo:(d == sysModules)=false)(x:tq s.heap d es ep)
  (q:Q (.ref s.heap.objs.size) { s with heap:=s.heap.push { cls:=.type "dict_keyiterator",data:=.fields #[.ref d,.int 0 0,.int es.size 0,.int ep 0] } }):wpAny (model prog w) A (pyIter (.ref d)) Q E s:=by
 obtain⟨o,ho,hc,Qp⟩:=id x
 refine wpAny_pyIter_slot x.typ F.slot_dict_iter (wpAny_call_entry F.slot_dict_iter x.typ F.entry_dict_iter ?_ (F.args_dict_iter_1 _))
 unfold Builtin.«dict.__iter__»
 refine ai ?_
 unfold Builtin.Dict.dictSlotNone
 refine ai (wpAny_notOrdered_dict x.typ ?_)
 refine(show wpAny _ _ (pure (Value.ref d)) _ _ s from aS ?_)
 refine(show wpAny _ _ (Builtin.Dict.showsAll d >>= _) _ _ s from ?_)
 unfold Builtin.Dict.showsAll
 rw[if_neg (by rw[lo];decide)]
 refine ai (aS (ai (wpAny_dictEntries ho Qp (ai (wpAny_dictEpoch ho Qp (ai (wpAny_newObj_type (aS ⟨_,rfl, "dict_keyiterator",_,⟨_,jv _ rfl,rfl⟩,F.slot_dict_keyiterator_next.lookup,?_⟩))))))))
 simpa[rawInt] using q
theorem ur(hit:s.heap.IsKeyIter it d i es.size ep)(x:tq s.heap d es ep)(hx:i<es.size)
  (q:∀ h',h'.IsKeyIter it d (i+1) es.size ep->Heap.SameBut it s.heap h'->Q (some es[i].key) { s with heap:=h' }):wpAny (model prog w) A (pyNext (.ref it)) Q E s:=by
 obtain⟨o,ho,hc,hd⟩:=id hit
 obtain⟨od,EK,rp,Nc⟩:=id x
 have ty:=hit.typeIs
 unfold pyNext
 refine ai (wpAny_attempt (wpAny_callSpecial?_slot (name:=Str.ofString "__next__") ty F.slot_dict_keyiterator_next (wpAny_call_entry F.slot_dict_keyiterator_next ty F.entry_dict_keyiterator_next ?_ (F.args_dict_keyiterator_next_1 _))))
 refine ai (aS (ai (ai ?_)))
 first|refine ai (wpAny_typeNameOfWhole_keyiter ty (aS ?_))|refine ai (wpAny_typeNameOf_keyiter ty (aS ?_))
 refine ai (wpAny_fieldsOf ho hd ?_)
 simp only[show Builtin.Dict_items.ownsTuple "dict_keyiterator" = false by decide,gE,if_false]
 refine(show wpAny _ _ (if (Value.ref d == Value.none)=true then _ else _) _ _ s from ?_)
 rw[if_neg (show ¬ ((Value.ref d == Value.none)=true) by intro h;cases h)]
 refine ai (aS (ai (wpAny_dictEntries EK Nc ?_)))
 rw[if_neg (by intro h;simp at h)]
 refine ai (aS (ai (wpAny_dictEpoch EK Nc ?_)))
 rw[if_neg (by intro h;simp at h)]
 refine aS ?_
 simp only[show ¬ ((i:Int)<0) by lia,if_false,GN,xv hx]
 refine ai ?_
 first|refine ai (wpAny_typeNameOfWhole_keyiter ty (aS ?_))|refine ai (wpAny_typeNameOf_keyiter ty (aS ?_))
 refine ai (wpAny_isOneOf_keyiter ty ?_)
 refine(show wpAny _ _ (setField (.ref it) 1 (rawInt ((i:Int)+1)) >>= _) _ _ s from ai (wpAny_setField ho hd (by simp) ?_))
 have WW:(s.heap.update it (Obj.mapFields (·.setIfInBounds 1 (rawInt ((i:Int)+1))))).IsKeyIter it d (i+1) es.size ep :=
  ⟨_,D4 _ ho (Obj.isFreed_of_fields (Obj.data_mapFields hd _)),(Obj.cls_mapFields ..).trans hc,by rw[Obj.data_mapFields hd];simp[rawInt]⟩
 refine ai (wpAny_holding (ai (wpAny_isOneOf_keyiter (s:={ s with heap:=s.heap.update it (Obj.mapFields (·.setIfInBounds 1 (rawInt ((i:Int)+1)))) }) WW.typeIs ?_)))
 refine(show wpAny _ _ (pure es[i].key) _ _ _ from aS (aS ⟨_,rfl,aS (q _ WW (Heap.SameBut.update ..))⟩))
theorem uK(hh:A.handled=none)(hit:s.heap.IsKeyIter it d es.size es.size ep)(x:tq s.heap d es ep)(q:∀ h',Heap.ExtBut it s.heap h'->Q none { s with heap:=h' }) :
  wpAny (model prog w) A (pyNext (.ref it)) Q E s:=by
 obtain⟨o,ho,hc,hd⟩:=id hit
 obtain⟨od,EK,rp,Nc⟩:=id x
 have ty:=hit.typeIs
 unfold pyNext
 refine ai (wpAny_attempt (wpAny_callSpecial?_slot (name:=Str.ofString "__next__") ty F.slot_dict_keyiterator_next (wpAny_call_entry F.slot_dict_keyiterator_next ty F.entry_dict_keyiterator_next ?_ (F.args_dict_keyiterator_next_1 _))))
 refine ai (aS (ai (ai ?_)))
 first|refine ai (wpAny_typeNameOfWhole_keyiter ty (aS ?_))|refine ai (wpAny_typeNameOf_keyiter ty (aS ?_))
 refine ai (wpAny_fieldsOf ho hd ?_)
 simp only[show Builtin.Dict_items.ownsTuple "dict_keyiterator" = false by decide,gE,if_false]
 refine(show wpAny _ _ (if (Value.ref d == Value.none)=true then _ else _) _ _ s from ?_)
 rw[if_neg (show ¬ ((Value.ref d == Value.none)=true) by intro h;cases h)]
 refine ai (aS (ai (wpAny_dictEntries EK Nc ?_)))
 rw[if_neg (by intro h;simp at h)]
 refine ai (aS (ai (wpAny_dictEpoch EK Nc ?_)))
 rw[if_neg (by intro h;simp at h)]
 refine aS ?_
 simp only[show ¬ ((es.size:Int)<0) by lia,if_false,GN,B4 (bX es.size)]
 refine ai ?_
 first|refine ai (wpAny_typeNameOfWhole_keyiter ty (aS ?_))|refine ai (wpAny_typeNameOf_keyiter ty (aS ?_))
 refine(show wpAny _ _ (setField (.ref it) 0 .none >>= _) _ _ s from ai (wpAny_setField ho hd (by simp) ?_))
 refine(show wpAny _ _ (newExc (.type "StopIteration") [] >>= _) _ _ _ from ai ?_)
 simp only[newExc,newTuple]
 refine ai (wpAny_newObj_type ?_ (by size_fits))
 refine ai (m:=firstArgMember _ _) (wpAny_of_eq (a:=Value.none) (by first|rfl|(simp only[firstArgMember];rfl)) (wpAny_newObj_type ?_ (by size_fits)))
 simp only[raiseNew]
 refine ai (wpAny_handled ?_)
 rw[show A.in1.handled=none from hh]
 refine ai (aS (wpAny_throw ?_))
 refine ai (wpAny_isInstance (b:=true) (T := "StopIteration") ⟨_,jv _ rfl,rfl⟩ isSubtype_stop ?_)
 exact aS (q _ (((Heap.SameBut.update ..).extBut.push _).push _))
theorem tq.at(x:tq h d es ep)(e:∀ o,h.get? d=some o->h'.get? d=some o):tq h' d es ep:=let ⟨o,ho,r⟩:=x;⟨o,e o ho,r⟩
theorem tq.lt(x:tq h d es ep):d<h.objs.size:=let ⟨_,e,_⟩:=x;dQ e
theorem yH(hh:A.handled=none)(I:Addr)(kz:d≠I):Walks prog w A I [I,d] [I] es.size (fun i v=>∃ e,es[i]? = some e/\v=e.key) (fun i h=>h.IsKeyIter I d i es.size ep/\tq h d es ep) where
 sub:=fun b hb=>by simp at hb;simp[hb]
 frame:=fun _ _ _ st hk=>⟨st.1.at fun o e=>hk I (by simp) o e,st.2.at fun o e=>hk d (by simp) o e⟩
 item:=fun i s Q E hi st hQ=>ur st.1 st.2 hi fun h' a b=>hQ _ h' s.toks ⟨es[i],by simp[hi],rfl⟩ ⟨a,st.2.at fun o e=>b.extBut d o kz e⟩ fun c o hb e=>b.extBut c o (fun h=>hb (by simp[h])) e
 done:=fun s Q E st hQ=>uK hh st.1 st.2 fun h' Iq=>hQ h' s.toks fun b o hb e=>Iq b o (fun h=>hb (by simp[h])) e
 self:=fun _ _ _ _ st hQ=>wpAny_pyIter_keyiter st.1 hQ
theorem zp (lo:(d == sysModules)=false):PySem.W.KdlSrc prog w "dict" d d es.size (fun i v=>∃ e,es[i]? = some e/\v=e.key) (fun h=>tq h d es ep) where
 type:=fun _ x=>x.typ
 there:=fun _ x=>⟨x.lt,x.lt⟩
 keep:=fun _ _ x hk=>x.at fun o e=>hk d (.inl rfl) o e
 notList:=by decide
 notTuple:=by decide
 hint:=fun _ _ _ _ x hq=>PySem.W.kdl_hint_dict x.typ hq
 iter:=fun _ _ hh x=>⟨_,_,(fun _ _ hq=>uB lo x hq),yH hh _ (fo x.lt),⟨⟨_,jv _ rfl,rfl,rfl⟩,x.at fun o e=>eW _ e⟩⟩
end
theorem Paired.n0{α β:Type}{R:α->β->Prop}{bs:List β}(h:Paired R [] bs):bs=[]:=by cases h;rfl
theorem Paired.c{α β:Type}{R:α->β->Prop}{a:α}{as:List α}{bs:List β}(h:Paired R (a :: as) bs):∃ b cs,bs=b :: cs/\R a b/\Paired R as cs:=by
 cases h with
 |cons r t=>exact⟨_,_,rfl,r,t⟩
def cM(H:Hp)(ys:List V)(ks:List (List Key)):Prop:=Paired (fun(v:V) (k:List Key)=>∃ b,v=.ref b/\H b=some (.tup (k.map kV))) ys ks
section
variable {X:Cx}
def uP:List V->Hp->VK->Prop:=fun xs H Q=>match xs with
 |[.ref p]=>∃ kvs,Rd H p (.dT kvs)/\∀ ys l,cM H ys (kvs.map (·.1))->H l=none->Q (.ref l) (upd H l (.lst ys))
 |_=>False
theorem tQ
  (h:Paired (fun(p:List Key × V) (q:List Key × Addr × Value)=>p.1=q.1/\H q.2.1=some (.tup (p.1.map kV))/\RelV p.2 q.2.2) kvs xs) :
  cM H (xs.map fun q=>.ref q.2.1) (kvs.map (·.1))/\Vals (xs.map fun q=>.ref q.2.1) ((xs.map (entryOfKey (tupleKind (kG prog w)))).map (·.key)):=by
 induction h with
 |nil=>exact⟨.nil,.nil⟩
 |cons r t ih=>exact⟨.cons ⟨_,rfl,r.2.1⟩ ih.1,.cons rfl ih.2⟩
theorem vO (hc:X.calm=true):kr X (.type "list") uP:=by
 intro pins s σ H xs us Q I r h
 unfold uP at h
 split at h
 ·rename_i p
  obtain⟨kvs,e,q⟩:=h
  obtain⟨u,rfl,ru⟩:=Vals.one r
  cases ru
  obtain⟨z,y,ps,rel,o,es,ep,h1,h2,h3,h4,h5⟩:=(show fe X.prog X.w H s.heap p (.dT kvs) from I.rd e)
  obtain⟨ta,va⟩:=tQ (prog:=X.prog) (w:=X.w) rel
  have hlen:es.size=kvs.length:=by
   have:=congrArg List.length h4
   rw[xA,b4] at this
   rw[this];exact rel.length.symm
  refine PySem.W.kdl_call (zp (es:=es) (ep:=ep) y) (I.ok.hd hc) ⟨o,h1,h2,h3⟩ (by lia) fun h' tk acc c kp eo AY=>?_
  have hv:acc.toList=(ps.map (entryOfKey (tupleKind (kG X.prog X.w)))).map (·.key):=by
   apply AH
   intro i
   by_cases hi:i<es.size
   ·have ic:i<acc.size:=by rw[AY.1];exact hi
    obtain⟨en,e1,e2⟩:=AY.2 i acc[i] (by simp[ic])
    rw[<- h4,kX,ly,ly,e1]
    simp[ic,e2]
   ·rw[<- h4,kX,ly,ly,B4 (by rw[AY.1];lia),B4 (by lia)]
    rfl
  refine⟨.ref s.heap.objs.size,_,I.laid (t':=tk) kp (bX _) (show fe X.prog X.w _ h' _ (.lst (ps.map fun q=>.ref q.2.1)) from⟨?_,acc.toList,c,?_,?_⟩),rfl,q _ _ ta (I.bq.fresh (bX _))⟩
  ·rw[b4,<- rel.length];exact z
  ·rw[hv];exact va
  ·rw[PB];exact eo
 ·exact h.elim
end
end L2
namespace x6
open PySem PyProof.Rows
def R(r:Value->Int)(xs:Array Keyed)(i:Nat):Int:=match xs[i]? with
 |some p=>r p.1
 |none=>0
theorem dJ(h:xs[i]? = ys[j]?):R r xs i=R r ys j:=by unfold R;rw[h]
def mE(prog:Program)(w:World)(A:Around)(s:Shared)(κ:SortKind)(r:Value->Int)(P:Value->Prop):Prop :=
 ∀ x y,P x->P y->∀ (Q:Bool->Shared->Prop) (E:Value->Shared->Prop),Q (decide (r x<r y)) s->wpAny (model prog w) A (keyLt' κ x y) Q E s
def AllP(P:Value->Prop)(xs:Array Keyed):Prop:=∀ p∈xs.toList,P p.1
theorem AllP.perm{P:Value->Prop}(h:AllP P xs)(hp:ys.Perm xs):AllP P ys:=fun p hm=>h p ((RG.mp hp).mem_iff.mp hm)
theorem AllP.at{P:Value->Prop}{xs:Array Keyed}(h:AllP P xs){i:Nat}{p:Keyed}(e:xs[i]? = some p):P p.1:=h p (by
 obtain⟨hi,rfl⟩:=GL.mp e
 simp)
structure lT(lo hi:Nat)(st ah:SortSt):Prop where
 kind:kindOf ah=kindOf st
 failed:failedOf ah=failedOf st
 pend:pendingOf ah=pendingOf st
 perm:(arrOf ah).Perm (arrOf st)
 out:∀ k,k<lo\/hi<=k->(arrOf ah)[k]? = (arrOf st)[k]?
theorem lT.refl(lo hi:Nat)(st:SortSt):lT lo hi st st:=⟨rfl,rfl,rfl,Array.Perm.refl _,fun _ _=>rfl⟩
theorem lT.trans{lo hi:Nat}(h:lT lo hi a b)(g:lT lo hi b c):lT lo hi a c :=
 ⟨g.kind.trans h.kind,g.failed.trans h.failed,g.pend.trans h.pend,g.perm.trans h.perm,fun k hk=>(g.out k hk).trans (h.out k hk)⟩
theorem lT.mono{lo hi EL hX:Nat}(h:lT lo hi a b)(h1:EL<=lo)(h2:hi<=hX):lT EL hX a b :=
 ⟨h.kind,h.failed,h.pend,h.perm,fun k hk=>h.out k (by lia)⟩
theorem lT.size{lo hi:Nat}(h:lT lo hi a b):(arrOf b).size=(arrOf a).size:=h.perm.size_eq
def Up(r:Value->Int)(xs:Array Keyed)(lo hi:Nat):Prop:=∀ i j,lo<=i->i<=j->j<hi->R r xs i<=R r xs j
def Down(r:Value->Int)(xs:Array Keyed)(lo hi:Nat):Prop:=∀ i j,lo<=i->i<=j->j<hi->R r xs j<=R r xs i
theorem vB(hs:src<xs.size)(hd:d<=src)(k:Nat) :
  R r (bubble xs src d) k=if k=src-d then R r xs src else if src-d<k/\k<=src then R r xs (k-1) else R r xs k:=by
 have e:=getElem?_bubble hs d hd k
 by_cases h1:k=src-d
 ·rw[if_pos h1] at e ⊢;exact dJ e
 ·rw[if_neg h1] at e ⊢
  by_cases h2:src-d<k/\k<=src
  ·rw[if_pos h2] at e ⊢;exact dJ e
  ·rw[if_neg h2] at e ⊢;exact dJ e
theorem pZ(hj:j<=xs.size)(k:Nat) :
  R r (mirror xs i j ((j-i) / 2)) k=if i<=k/\k<j then R r xs (i+j-1-k) else R r xs k:=by
 have e:=getElem?_mirror_all (i:=i) hj k
 by_cases h1:i<=k/\k<j
 ·rw[if_pos h1] at e ⊢;exact dJ e
 ·rw[if_neg h1] at e ⊢;exact dJ e
theorem cg(hj:j<=xs.size)(heq:∀ k,i<=k->k<j->R r xs k=R r xs (j-1))(k:Nat) :
  R r (mirror xs i j ((j-i) / 2)) k=R r xs k:=by
 rw[pZ hj]
 split
 ·rw[heq _ (by lia) (by lia),heq k (by lia) (by lia)]
 ·rfl
section
variable {prog:Program}{w:World}{A:Around}{E:Value->Shared->Prop}{s:Shared}{κ:SortKind}{r:Value->Int}{P:Value->Prop}
theorem rJ{st:SortSt}(C:mE prog w A s κ r P)(hk:kindOf st=κ)(hx:P x.1)(hy:P y.1)(h:Q (some (decide (r x.1<r y.1))) st) :
  wpS (model prog w) A E s (lt' x y) Q st:=by
 rw[lt'_eq]
 refine wpS_bind (wpS_get ?_)
 rw[hk]
 refine wpS_bind (wpS_lift (wpAny_attempt (C x.1 y.1 hx hy _ _ ⟨rfl,?_⟩)))
 exact wpS_pure h
theorem aL{st:SortSt}(hi:i<xs.size)(h:∀ p,xs[i]? = some p->Q p st):wpS (model prog w) A E s (elem' xs i) Q st:=by
 rw[elem'_eq,getElem?_pos xs i hi]
 exact wpS_pure (h _ (getElem?_pos xs i hi))
theorem lH{st:SortSt}{i j:Nat}{Q:Option Bool->SortSt->Prop}(C:mE prog w A s κ r P)(hk:kindOf st=κ)(hP:AllP P (arrOf st))(hi:i<(arrOf st).size)(hj:j<(arrOf st).size)
  (h:Q (some (decide (R r (arrOf st) i<R r (arrOf st) j))) st):wpS (model prog w) A E s (ltAt' i j) Q st:=by
 rw[ltAt'_eq]
 refine wpS_bind (wpS_get ?_)
 show wpS _ _ _ _ (do let x <- elem' (arrOf st) i;let y <- elem' (arrOf st) j;lt' x y) Q st
 refine wpS_bind (aL hi fun p ep=>wpS_bind (aL hj fun q eq=>rJ C hk (hP.at ep) (hP.at eq) ?_))
 have e1:R r (arrOf st) i=r p.1:=by unfold R;rw[ep]
 have e2:R r (arrOf st) j=r q.1:=by unfold R;rw[eq]
 rw[<- e1,<- e2]
 exact h
theorem eE{st:SortSt}(h:Q () (setArr st (mirror (arrOf st) i j ((j-i) / 2)))) :
  wpS (model prog w) A E s (reverseSlice' i j) Q st:=by
 rw[reverseSlice'_eq];exact wpS_modify h
theorem gD{st:SortSt}(hj:j<=(arrOf st).size):lT i j st (setArr st (mirror (arrOf st) i j ((j-i) / 2))) :=
 ⟨rfl,rfl,rfl,mirror_perm _ _ _ _,fun k hk=>by
  have e:=getElem?_mirror_all (i:=i) hj k
  rw[if_neg (by lia)] at e
  exact e⟩
theorem wI{st:SortSt}{lo src d:Nat}(hs:src<(arrOf st).size)(hd:lo+d<=src):lT lo (src+1) st (setArr st (bubble (arrOf st) src d)) :=
 ⟨rfl,rfl,rfl,bubble_perm _ _ _,fun k hk=>by
  have e:=getElem?_bubble hs d (by walk_at "s4") k
  rw[if_neg (by lia),if_neg (by lia)] at e
  exact e⟩
theorem wpS_binarySort{st:SortSt}{lo n ok:Nat}(C:mE prog w A s κ r P)(hk:kindOf st=κ)(hP:AllP P (arrOf st))(hn:lo+n<=(arrOf st).size)(bq:ok<=n)(hs:Up r (arrOf st) lo (lo+ok))
  (h:∀ ah,lT lo (lo+n) st ah->Up r (arrOf ah) lo (lo+n)->Q true ah):wpS (model prog w) A E s (binarySort' lo n ok) Q st:=by
 rw[binarySort'_eq]
 refine wpS_bind (wpS_mono (wpS_forRange (I:=fun k c ah=>c=(none,())/\lT lo (lo+n) st ah/\Up r (arrOf ah) lo (lo+min k n))
  (Q:=fun c ah=>c=(none,())/\lT lo (lo+n) st ah/\Up r (arrOf ah) lo (lo+n)) ?step ?fin ?init) ?post)
 case post =>
  rintro c ah ⟨rfl,iq,gx⟩
  exact wpS_pure (h ah iq gx)
 case init =>
  refine⟨rfl,.refl _ _ _,fun i j hl i5 hj=>?_⟩
  by_cases h1:ok=0
  ·have:i=j:=by lia
   subst this;exact wo _
  ·exact hs i j hl i5 (by lia)
 case fin =>
  rintro c ah ⟨hc,iq,gx⟩
  refine⟨hc,iq,?_⟩
  rwa[show min (max (max ok 1) n) n=n by lia] at gx
 case step =>
  rintro k c ah hak hkn ⟨rfl,iq,gx⟩
  rw[show min k n=k by lia] at gx
  have hsz:=iq.size
  have jS:kindOf ah=κ:=iq.kind.trans hk
  have qf:=hP.perm iq.perm
  refine wpS_bind (wpS_mono (wpS_forRange (I:=fun x c x8=>x8=ah/\∃ l r',c=(none,l,r')/\l<=r'/\r'<=k/\r'-l<=k-x /\
    (∀ i,lo<=i->i<lo+l->R r (arrOf ah) i<=R r (arrOf ah) (lo+k))/\(∀ i,lo+r'<=i->i<lo+k->R r (arrOf ah) (lo+k)<R r (arrOf ah) i))
   (Q:=fun c x8=>x8=ah/\∃ l r',c=(none,l,r')/\l<=k /\
    (∀ i,lo<=i->i<lo+l->R r (arrOf ah) i<=R r (arrOf ah) (lo+k))/\(∀ i,lo+l<=i->i<lo+k->R r (arrOf ah) (lo+k)<R r (arrOf ah) i)) ?dg' ?dh' ?di') ?dk')
  case di'=>exact⟨rfl,0,k,rfl,by lia,by lia,by lia,fun i _ hi=>by lia,fun i h1 h2=>by lia⟩
  case dh' =>
   rintro c x8 ⟨rfl,l,r',rfl,hlr,ER,hm,CY,zt⟩
   have:l=r':=by lia
   subst this
   exact⟨rfl,l,l,rfl,ER,CY,zt⟩
  case dg' =>
   rintro x c x8 _ hxk ⟨rfl,l,r',rfl,hlr,ER,hm,CY,zt⟩
   dsimp only
   by_cases oI:l >= r'
   ·rw[if_pos oI]
    have:l=r':=by lia
    subst this
    exact wpS_pure ⟨rfl,l,l,rfl,ER,CY,zt⟩
   ·rw[if_neg oI]
    refine wpS_bind (lH C jS qf (by lia) (by lia) ?_)
    by_cases vx:R r (arrOf x8) (lo+k)<R r (arrOf x8) (lo+(l+r') / 2)
    ·simp only[vx,decide_true,if_true]
     refine wpS_pure ⟨rfl,l,(l+r') / 2,rfl,by lia,by lia,by lia,CY,fun i h1 h2=>?_⟩
     exact Int.lt_of_lt_of_le vx (gx _ _ (by lia) h1 h2)
    ·simp only[vx,decide_false,gE,if_false]
     refine wpS_pure ⟨rfl,(l+r') / 2+1,r',rfl,by lia,by lia,by lia,fun i h0 h1=>?_,zt⟩
     exact wm (gx i (lo+(l+r') / 2) h0 (by lia) (by lia)) (Int.not_lt.mp vx)
  case dk' =>
   rintro c x8 ⟨rfl,l,r',rfl,hlk,CY,zt⟩
   show wpS _ _ _ _ (do moveDown' (lo+k) (lo+l);pure (ForInStep.yield (none,()))) _ _
   rw[moveDown'_eq]
   have EV:lo+k<(arrOf x8).size:=by lia
   refine wpS_bind (wpS_modify (wpS_pure ⟨rfl,iq.trans ((wI (lo:=lo) EV (by lia)).mono (bX _) (by lia)),?_⟩))
   rw[show min (k+1) n=k+1 by lia]
   intro i j hl i5 hj
   show R r (bubble (arrOf x8) (lo+k) (lo+k-(lo+l))) i<=R r (bubble (arrOf x8) (lo+k) (lo+k-(lo+l))) j
   rw[vB EV (by lia),vB EV (by lia),show lo+k-(lo+k-(lo+l))=lo+l by lia]
   repeat' split
   all_goals first
    | (exfalso;lia)
    |exact wo _
    |exact CY _ (by lia) (by lia)
    |exact AO (zt _ (by lia) (by lia))
    |exact gx _ _ (by lia) (by lia) (by lia)
end
def ascL(lo a nrem:Nat):StateT SortSt Sem AscSt :=
 forIn [a:nrem] ((none,a):AscSt) fun _ __s=>do
  let __x ← ltAt' (lo + __s.snd) (lo + __s.snd - 1)
  match __x with
  |some smaller=>if smaller=true then pure (ForInStep.done (none,__s.snd)) else pure (ForInStep.yield (none,__s.snd+1))
  |_=>pure (ForInStep.done (some none,__s.snd))
def qW(lo n nrem:Nat):StateT SortSt Sem (Option Nat):=do
 reverseSlice' lo (lo+n)
 let __s ← ascL lo n nrem
 match __s.fst with
 |some r=>pure r
 |none=>pure (some __s.snd)
def Bk(lo n nrem:Nat):StateT SortSt Sem DescSt :=
 forIn [n:nrem] ((none,n,0):DescSt) fun _ __s=>do
  let __x ← ltAt' (lo + __s.snd.fst) (lo + __s.snd.fst - 1)
  match __x with
  |some smaller =>
   if smaller=true then
    if __s.snd.snd>0 then do
     reverseSlice' (lo+__s.snd.fst-(__s.snd.snd+1)) (lo+__s.snd.fst)
     pure (ForInStep.yield (none,__s.snd.fst+1,0))
    else pure (ForInStep.yield (none,__s.snd.fst+1,0))
   else do
    let __x ← ltAt' (lo+__s.snd.fst - 1) (lo+__s.snd.fst)
    match __x with
    |some larger =>
     if larger=true then pure (ForInStep.done (none,__s.snd.fst,__s.snd.snd))
     else pure (ForInStep.yield (none,__s.snd.fst+1,__s.snd.snd+1))
    |_=>pure (ForInStep.done (some none,__s.snd.fst,__s.snd.snd))
  |_=>pure (ForInStep.done (some none,__s.snd.fst,__s.snd.snd))
def gh(lo n nrem:Nat):StateT SortSt Sem (Option Nat):=do
 liftM (rule "list.sort.descending-run")
 let __s ← Bk lo (n+1) nrem
 match __s.fst with
 |some r=>pure r
 |none =>
  if __s.snd.snd>0 then do
   reverseSlice' (lo+__s.snd.fst-(__s.snd.snd+1)) (lo+__s.snd.fst)
   qW lo __s.snd.fst nrem
  else qW lo __s.snd.fst nrem
theorem ql(lo nrem:Nat):countRun' lo nrem=(do
  let __s ← ascL lo 1 nrem
  match __s.fst with
  |some r=>pure r
  |none =>
   if (__s.snd == nrem)=true then pure (some __s.snd)
   else if __s.snd>1 then do
    let __x ← ltAt' lo (lo+__s.snd - 1)
    match __x with
    |some WX=>if WX=true then pure (some __s.snd) else do
      reverseSlice' lo (lo+__s.snd)
      gh lo __s.snd nrem
    |_=>pure none
   else gh lo __s.snd nrem):=by
 rw[countRun'_eq]
 dsimp only
 unfold gh qW Bk ascL
 congr 1
 funext __s
 obtain⟨r,n⟩:=__s
 cases r with
 |some r=>rfl
 |none =>
  dsimp only
  split
  ·rfl
  ·split
   ·congr 1
    funext x
    cases x with
    |none=>rfl
    |some WX =>
     dsimp only
     split
     ·rfl
     ·congr 1
      funext _r
      (congr 1;funext _u;congr 1;congr 1;funext s2;obtain⟨r2,n2,q2⟩:=s2;cases r2 with
       |some r2=>rfl
       |none=>(dsimp only;split;(congr 1;funext _v;(congr 1;funext _w;congr 1;(funext s3;obtain⟨r3,n3⟩:=s3;cases r3<;>rfl)));(congr 1;funext _w;congr 1;(funext s3;obtain⟨r3,n3⟩:=s3;cases r3<;>rfl))))
   ·(congr 1;funext _u;congr 1;congr 1;funext s2;obtain⟨r2,n2,q2⟩:=s2;cases r2 with
     |some r2=>rfl
     |none=>(dsimp only;split;(congr 1;funext _v;(congr 1;funext _w;congr 1;(funext s3;obtain⟨r3,n3⟩:=s3;cases r3<;>rfl)));(congr 1;funext _w;congr 1;(funext s3;obtain⟨r3,n3⟩:=s3;cases r3<;>rfl))))
section
variable {prog:Program}{w:World}{A:Around}{E:Value->Shared->Prop}{s:Shared}{κ:SortKind}{r:Value->Int}{P:Value->Prop}
theorem uX{st:SortSt}{lo a nrem:Nat}(C:mE prog w A s κ r P)(hk:kindOf st=κ)(hP:AllP P (arrOf st))(hn:lo+nrem<=(arrOf st).size)(ha:1<=a)(han:a<=nrem)
  (hs:Up r (arrOf st) lo (lo+a))
  (h:∀ n,a<=n->n<=nrem->Up r (arrOf st) lo (lo+n)->(n=nrem\/R r (arrOf st) (lo+n)<R r (arrOf st) (lo+n-1))->Q (none,n) st) :
  wpS (model prog w) A E s (ascL lo a nrem) Q st:=by
 unfold ascL
 refine wpS_forRange (I:=fun x c ah=>ah=st/\c=(none,x)/\Up r (arrOf st) lo (lo+x)) ?step ?fin ⟨rfl,rfl,hs⟩
 case fin =>
  rintro c ah ⟨rfl,rfl,gx⟩
  rw[show max a nrem=nrem by lia] at gx ⊢
  exact h nrem han (bX _) gx (.inl rfl)
 case step =>
  rintro x c ah Tc hxn ⟨rfl,rfl,gx⟩
  dsimp only
  refine wpS_bind (lH C hk hP (by lia) (by lia) ?_)
  by_cases vx:R r (arrOf ah) (lo+x)<R r (arrOf ah) (lo+x-1)
  ·simp only[vx,decide_true,if_true]
   exact wpS_pure (h x Tc (by lia) gx (.inr vx))
  ·simp only[vx,decide_false,gE,if_false]
   refine wpS_pure ⟨rfl,rfl,fun i j hl i5 hj=>?_⟩
   by_cases Nn:j<lo+x
   ·exact gx i j hl i5 Nn
   ·have oq:j=lo+x:=by lia
    subst oq
    by_cases hX:i=lo+x
    ·subst hX;exact wo _
    ·exact wm (gx i (lo+x-1) hl (by lia) (by lia)) (Int.not_lt.mp vx)
theorem nW{st:SortSt}{lo n nrem:Nat}(C:mE prog w A s κ r P)(hk:kindOf st=κ)(hP:AllP P (arrOf st))(hn:lo+nrem<=(arrOf st).size)(h1:1<=n)(AZ:n<=nrem)
  (hs:Down r (arrOf st) lo (lo+n)) (h:∀ m ah,lT lo (lo+nrem) st ah->1<=m->m<=nrem->Up r (arrOf ah) lo (lo+m)->Q (some m) ah) :
  wpS (model prog w) A E s (qW lo n nrem) Q st:=by
 unfold qW
 have hsz:lo+n<=(arrOf st).size:=by lia
 refine wpS_bind (eE ?_)
 have iq:=gD (i:=lo) hsz
 refine wpS_bind (uX C (iq.kind.trans hk) (hP.perm iq.perm) (by rw[iq.size];exact hn) h1 AZ ?_ fun m tF sA Td _=>wpS_pure (h m _ (iq.mono (bX _) (by lia)) (by lia) sA Td))
 intro i j hl i5 hj
 show R r (mirror (arrOf st) lo (lo+n) ((lo+n-lo) / 2)) i<=R r (mirror (arrOf st) lo (lo+n) ((lo+n-lo) / 2)) j
 rw[pZ hsz,pZ hsz,if_pos (by lia),if_pos (by lia)]
 exact hs _ _ (by lia) (by lia) (by lia)
theorem xU{st:SortSt}{lo n nrem:Nat}(C:mE prog w A s κ r P)(hk:kindOf st=κ)(hP:AllP P (arrOf st))(hn:lo+nrem<=(arrOf st).size)(h1:1<=n)(AZ:n<=nrem)
  (hs:Down r (arrOf st) lo (lo+n))
  (h:∀ m qh ah,lT lo (lo+nrem) st ah->n<=m->m<=nrem->Down r (arrOf ah) lo (lo+m)->qh+1<=m->(∀ i,lo+m-(qh+1)<=i->i<lo+m->R r (arrOf ah) i=R r (arrOf ah) (lo+m-1))->Q (none,m,qh) ah) :
  wpS (model prog w) A E s (Bk lo n nrem) Q st:=by
 unfold Bk
 refine wpS_forRange (I:=fun x c ah=>∃ qh,c=(none,x,qh)/\lT lo (lo+nrem) st ah/\Down r (arrOf ah) lo (lo+x)/\qh+1<=x /\
   (∀ i,lo+x-(qh+1)<=i->i<lo+x->R r (arrOf ah) i=R r (arrOf ah) (lo+x-1))) ?step ?fin ⟨0,rfl,.refl _ _ _,hs,by lia,fun i h1 h2=>by congr 1;lia⟩
 case fin =>
  rintro c ah ⟨qh,rfl,iq,gx,hq,he⟩
  rw[show max n nrem=nrem by lia] at gx hq he ⊢
  exact h nrem qh ah iq AZ (bX _) gx hq he
 case step =>
  rintro x c ah Tc hxn ⟨qh,rfl,iq,gx,hq,he⟩
  dsimp only
  have hz:=iq.size
  have hsz:lo+x<=(arrOf ah).size:=by lia
  have jS:=iq.kind.trans hk
  have qf:=hP.perm iq.perm
  refine wpS_bind (lH C jS qf (by lia) (by lia) ?_)
  by_cases vx:R r (arrOf ah) (lo+x)<R r (arrOf ah) (lo+x-1)
  ·simp only[vx,decide_true,if_true]
   have WY:∀ xs:Array Keyed,(∀ k,R r xs k=R r (arrOf ah) k)->Down r xs lo (lo+(x+1)):=by
    intro xs WZ i j hl i5 hj
    rw[WZ,WZ]
    by_cases Nn:j<lo+x
    ·exact gx i j hl i5 Nn
    ·have oq:j=lo+x:=by lia
     subst oq
     by_cases hX:i=lo+x
     ·subst hX;exact wo _
     ·exact wm (AO vx) (gx i (lo+x-1) hl (by lia) (by lia))
   by_cases Nw:qh>0
   ·rw[if_pos Nw]
    refine wpS_bind (eE (wpS_pure ⟨0,rfl,iq.trans ((gD hsz).mono (by lia) (by lia)),WY _ (cg hsz he),by lia,fun i h1 h2=>by congr 1;lia⟩))
   ·rw[if_neg Nw]
    exact wpS_pure ⟨0,rfl,iq,WY _ (fun _=>rfl),by lia,fun i h1 h2=>by congr 1;lia⟩
  ·simp only[vx,decide_false,gE,if_false]
   refine wpS_bind (lH C jS qf (by lia) (by lia) ?_)
   by_cases W0:R r (arrOf ah) (lo+x-1)<R r (arrOf ah) (lo+x)
   ·simp only[W0,decide_true,if_true]
    exact wpS_pure (h x qh ah iq Tc (by lia) gx hq he)
   ·simp only[W0,decide_false,gE,if_false]
    have W3:R r (arrOf ah) (lo+x)=R r (arrOf ah) (lo+x-1):=by lia
    refine wpS_pure ⟨qh+1,rfl,iq,fun i j hl i5 hj=>?_,by lia,fun i h1 h2=>?_⟩
    ·by_cases Nn:j<lo+x
     ·exact gx i j hl i5 Nn
     ·have oq:j=lo+x:=by lia
      subst oq
      by_cases hX:i=lo+x
      ·subst hX;exact wo _
      ·rw[W3];exact gx i (lo+x-1) hl (by lia) (by lia)
    ·rw[show lo+(x+1)-1=lo+x by lia]
     by_cases xh:i=lo+x
     ·subst xh;rfl
     ·rw[W3];exact he i (by lia) (by lia)
theorem iG{st:SortSt}{lo n nrem:Nat}(C:mE prog w A s κ r P)(hk:kindOf st=κ)(hP:AllP P (arrOf st))(hn:lo+nrem<=(arrOf st).size)(AZ:n+1<=nrem)
  (hs:Down r (arrOf st) lo (lo+(n+1))) (h:∀ m ah,lT lo (lo+nrem) st ah->1<=m->m<=nrem->Up r (arrOf ah) lo (lo+m)->Q (some m) ah) :
  wpS (model prog w) A E s (gh lo n nrem) Q st:=by
 unfold gh
 refine wpS_bind (wpS_lift (wpAny_rule ⟨rfl,?_⟩))
 refine wpS_bind (xU C hk hP hn (by lia) AZ hs fun m qh ah iq tF sA gx hq he=>?_)
 dsimp only
 have hz:=iq.size
 have hsz:lo+m<=(arrOf ah).size:=by lia
 have jS:=iq.kind.trans hk
 have qf:=hP.perm iq.perm
 by_cases Nw:qh>0
 ·rw[if_pos Nw]
  have hW:=gD (i:=lo+m-(qh+1)) hsz
  refine wpS_bind (eE (nW C (hW.kind.trans jS) (qf.perm hW.perm) (by rw[hW.size,hz];exact hn) (by lia) sA ?_ fun m2 wx NC=>h m2 wx ((iq.trans (hW.mono (by lia) (by lia))).trans NC)))
  intro i j hl i5 hj
  show R r (mirror (arrOf ah) _ _ _) j<=R r (mirror (arrOf ah) _ _ _) i
  rw[cg hsz he,cg hsz he]
  exact gx i j hl i5 hj
 ·rw[if_neg Nw]
  exact nW C jS qf (by rw[hz];exact hn) (by lia) sA gx fun m2 wx NC=>h m2 wx (iq.trans NC)
theorem wpS_countRun{st:SortSt}{lo nrem:Nat}(C:mE prog w A s κ r P)(hk:kindOf st=κ)(hP:AllP P (arrOf st))(hn:lo+nrem<=(arrOf st).size)(h1:1<=nrem)
  (h:∀ m ah,lT lo (lo+nrem) st ah->1<=m->m<=nrem->Up r (arrOf ah) lo (lo+m)->Q (some m) ah) :
  wpS (model prog w) A E s (countRun' lo nrem) Q st:=by
 rw[ql]
 refine wpS_bind (uX C hk hP hn (bX 1) h1 (fun i j hl i5 hj=>by
  have:i=j:=by lia
  subst this;exact wo _) fun n W4 HV oP hor=>?_)
 dsimp only
 by_cases AZ:n=nrem
 ·rw[if_pos (by simpa using AZ)]
  exact wpS_pure (h n st (.refl _ _ _) W4 HV oP)
 ·rw[if_neg (by simpa using AZ)]
  have df:R r (arrOf st) (lo+n)<R r (arrOf st) (lo+n-1):=hor.resolve_left AZ
  by_cases W5:n>1
  ·rw[if_pos W5]
   refine wpS_bind (lH C hk hP (by lia) (by lia) ?_)
   by_cases W6:R r (arrOf st) lo<R r (arrOf st) (lo+n-1)
   ·simp only[W6,decide_true,if_true]
    exact wpS_pure (h n st (.refl _ _ _) W4 HV oP)
   ·simp only[W6,decide_false,gE,if_false]
    have hsz:lo+n<=(arrOf st).size:=by lia
    have oC:∀ k,lo<=k->k<lo+n->R r (arrOf st) k=R r (arrOf st) (lo+n-1):=by
     intro k hl hk
     have a1:=oP lo k (by lia) hl hk
     have a2:=oP k (lo+n-1) hl (by lia) (by lia)
     lia
    have hW:=gD (i:=lo) hsz
    refine wpS_bind (eE (iG C (hW.kind.trans hk) (hP.perm hW.perm) (by rw[hW.size];exact hn) (by lia) ?_ fun m2 wx NC=>h m2 wx ((hW.mono (bX _) (by lia)).trans NC)))
    intro i j hl i5 hj
    show R r (mirror (arrOf st) _ _ _) j<=R r (mirror (arrOf st) _ _ _) i
    rw[cg hsz oC,cg hsz oC]
    by_cases hjn:j<lo+n
    ·rw[oC i hl (by lia),oC j (by lia) hjn];exact wo _
    ·have oq:j=lo+n:=by lia
     subst oq
     by_cases hX:i=lo+n
     ·subst hX;exact wo _
     ·rw[oC i hl (by lia)];exact AO df
  ·rw[if_neg W5]
   have ds':n=1:=by lia
   subst ds'
   refine iG C hk hP hn (by lia) ?_ h
   intro i j hl i5 hj
   by_cases hX:i=j
   ·subst hX;exact wo _
   ·have vw:i=lo:=by lia
    have Iy:j=lo+1:=by lia
    subst vw;subst Iy
    exact AO df
end
def yQ(left:Bool)(key:Keyed)(arr:Array Keyed)(base i:Nat):StateT SortSt Sem (Option Bool):=do
 let x ← elem' arr (base+i)
 if left then lt' x key else return (<- lt' key x).map (!·)
def lB:Bool->Keyed->Array Keyed->Nat->Nat->Nat->StateT SortSt Sem (Option Nat):=sortPriv% PySem.Builtin.gallop
section
variable {prog:Program}{w:World}{A:Around}{E:Value->Shared->Prop}{s:Shared}{κ:SortKind}{r:Value->Int}{P:Value->Prop}
def eS(r:Value->Int)(left:Bool)(key:Keyed)(arr:Array Keyed)(base i:Nat):Bool :=
 if left then decide (R r arr (base+i)<r key.1) else !decide (r key.1<R r arr (base+i))
theorem eX{st:SortSt}(C:mE prog w A s κ r P)(hk:kindOf st=κ)(hP:AllP P arr)(hy:P key.1)(hi:base+i<arr.size)
  (h:Q (some (eS r left key arr base i)) st):wpS (model prog w) A E s (yQ left key arr base i) Q st:=by
 unfold yQ
 refine wpS_bind (aL hi fun p ep=>?_)
 have e1:R r arr (base+i)=r p.1:=by unfold R;rw[ep]
 unfold eS at h
 rw[e1] at h
 cases left with
 |true =>
  simp only[if_true] at h ⊢
  exact rJ C hk (hP.at ep) hy h
 |false =>
  simp only[gE,if_false] at h ⊢
  exact wpS_bind (rJ C hk hy (hP.at ep) (wpS_pure h))
theorem Bp(hu:Up r arr base (base+n))(i5:i<=j)(hj:j<n)(h:eS r left key arr base j=true):eS r left key arr base i=true:=by
 have q:=hu (base+i) (base+j) (by lia) (by lia) (by lia)
 unfold eS at h ⊢
 cases left with
 |true=>simp only[if_true,decide_eq_true_eq] at h ⊢;lia
 |false=>simp only[gE,if_false,Bool.not_eq_true',decide_eq_false_iff_not] at h ⊢;lia
theorem dI{st:SortSt}{base n hint:Nat}(C:mE prog w A s κ r P)(hk:kindOf st=κ)(hP:AllP P arr)(hy:P key.1)(hn:base+n<=arr.size)(hh:hint<n)
  (hu:Up r arr base (base+n))
  (h:∀ k,k<=n->(∀ i,i<k->eS r left key arr base i=true)->(∀ i,k<=i->i<n->eS r left key arr base i=false)->Q (some k) st):wpS (model prog w) A E s (lB left key arr base n hint) Q st:=by
 have mono:∀ {i j},i<=j->j<n->eS r left key arr base j=true->eS r left key arr base i=true:=fun a b c=>Bp hu a b c
 have Qq:∀ {i j},i<=j->j<n->eS r left key arr base i=false->eS r left key arr base j=false:=fun {i j} a b c=>by
  cases q:eS r left key arr base j with
  |false=>rfl
  |true=>rw[mono a b q] at c;cases c
 refine wpS_bind (eX C hk hP hy (by lia) ?_)
 dsimp only
 cases q0:eS r left key arr base hint with
 |true =>
  simp only[if_true]
  refine wpS_bind (wpS_mono (wpS_forRange (I:=fun x c ah=>ah=st/\∃ lst eR,c=(none,lst,eR)/\lst<eR/\lst<n-hint/\x+1<=eR/\eS r left key arr base (hint+lst)=true)
   (Q:=fun c ah=>ah=st/\∃ lst eR,c=(none,lst,eR)/\lst<eR/\lst<n-hint/\eS r left key arr base (hint+lst)=true/\(n-hint<=eR\/eS r left key arr base (hint+eR)=false)) ?step ?fin ?init) ?post)
  case init=>exact⟨rfl,0,1,rfl,by lia,by lia,by lia,q0⟩
  case fin =>
   rintro c ah ⟨rfl,lst,eR,rfl,h1,h2,h3,h4⟩
   exact⟨rfl,lst,eR,rfl,h1,h2,h4,.inl (by lia)⟩
  case step =>
   rintro x c ah _ hx ⟨rfl,lst,eR,rfl,h1,h2,h3,h4⟩
   dsimp only
   by_cases oI:eR >= n-hint
   ·rw[if_pos oI]
    exact wpS_pure ⟨rfl,lst,eR,rfl,h1,h2,h4,.inl oI⟩
   ·rw[if_neg oI]
    refine wpS_bind (eX C hk hP hy (by lia) ?_)
    cases q:eS r left key arr base (hint+eR) with
    |true =>
     simp only[Pw,gE,if_false]
     exact wpS_pure ⟨rfl,_,_,rfl,by lia,by lia,by lia,q⟩
    |false =>
     simp only[Bool.not_false,if_true]
     exact wpS_pure ⟨rfl,lst,eR,rfl,h1,h2,h4,.inr q⟩
  case post =>
   rintro c ah ⟨rfl,lst,eR,rfl,h1,h2,h4,h5⟩
   dsimp only
   generalize ah=st at *
   have hl:∀ i,i<hint+lst+1->eS r left key arr base i=true:=fun i hi=>mono (j:=hint+lst) (by lia) (by lia) h4
   have zt:∀ i,hint+min eR (n-hint)<=i->i<n->eS r left key arr base i=false:=fun i hi aC=>by
    rcases h5 with h5|h5
    ·lia
    ·by_cases z:n-hint<=eR
     ·lia
     ·exact Qq (i:=hint+eR) (by lia) aC h5
   have Te:hint+lst+1<=hint+min eR (n-hint):=by lia
   have Tf:hint+min eR (n-hint)<=n:=by lia
   generalize hint+lst+1=lo at *
   generalize hint+min eR (n-hint)=hi at *
   refine wpS_bind (wpS_mono (wpS_forRange (I:=fun x c ah=>ah=st/\∃ l u,c=(none,l,u)/\l<=u/\u<=n/\u-l<=n-x/\(∀ i,i<l->eS r left key arr base i=true)/\(∀ i,u<=i->i<n->eS r left key arr base i=false))
    (Q:=fun c ah=>ah=st/\∃ l,c=(none,l,l)/\l<=n/\(∀ i,i<l->eS r left key arr base i=true)/\(∀ i,l<=i->i<n->eS r left key arr base i=false)) ?dt' ?du' ?dv') ?postA)
   case dv'=>exact⟨rfl,lo,hi,rfl,Te,Tf,by lia,hl,zt⟩
   case du' =>
    rintro c ah ⟨rfl,l,u,rfl,h1,h2,h3,h4,h5⟩
    have:l=u:=by lia
    subst this
    exact⟨rfl,l,rfl,h2,h4,h5⟩
   case dt' =>
    rintro x c ah _ hx ⟨rfl,l,u,rfl,h1,h2,h3,h4,h5⟩
    dsimp only
    by_cases oI:l >= u
    ·rw[if_pos oI]
     have:l=u:=by lia
     subst this
     exact wpS_pure ⟨rfl,l,rfl,h2,h4,h5⟩
    ·rw[if_neg oI]
     refine wpS_bind (eX C hk hP hy (by lia) ?_)
     cases q:eS r left key arr base (l+(u-l) / 2) with
     |true =>
      simp only[if_true]
      exact wpS_pure ⟨rfl,_,_,rfl,by lia,by lia,by lia,fun i hi=>mono (j:=l+(u-l) / 2) (by lia) (by lia) q,h5⟩
     |false =>
      simp only[gE,if_false]
      exact wpS_pure ⟨rfl,_,_,rfl,by lia,by lia,by lia,h4,fun i hi aC=>Qq (i:=l+(u-l) / 2) (by lia) aC q⟩
   case postA =>
    rintro c ah ⟨rfl,l,rfl,h2,h4,h5⟩
    exact wpS_pure (h l h2 h4 h5)
 |false =>
  simp only[gE,if_false]
  refine wpS_bind (wpS_mono (wpS_forRange (I:=fun x c ah=>ah=st/\∃ lst eR,c=(none,lst,eR)/\lst<eR/\lst<hint+1/\x+1<=eR/\eS r left key arr base (hint-lst)=false)
   (Q:=fun c ah=>ah=st/\∃ lst eR,c=(none,lst,eR)/\lst<eR/\lst<hint+1/\eS r left key arr base (hint-lst)=false/\(hint+1<=eR\/eS r left key arr base (hint-eR)=true)) ?dw' ?fin2 ?dx') ?dy')
  case dx'=>exact⟨rfl,0,1,rfl,by lia,by lia,by lia,q0⟩
  case fin2 =>
   rintro c ah ⟨rfl,lst,eR,rfl,h1,h2,h3,h4⟩
   exact⟨rfl,lst,eR,rfl,h1,h2,h4,.inl (by lia)⟩
  case dw' =>
   rintro x c ah _ hx ⟨rfl,lst,eR,rfl,h1,h2,h3,h4⟩
   dsimp only
   by_cases oI:eR >= hint+1
   ·rw[if_pos oI]
    exact wpS_pure ⟨rfl,lst,eR,rfl,h1,h2,h4,.inl oI⟩
   ·rw[if_neg oI]
    refine wpS_bind (eX C hk hP hy (by lia) ?_)
    cases q:eS r left key arr base (hint-eR) with
    |true =>
     simp only[if_true]
     exact wpS_pure ⟨rfl,lst,eR,rfl,h1,h2,h4,.inr q⟩
    |false =>
     simp only[gE,if_false]
     exact wpS_pure ⟨rfl,_,_,rfl,by lia,by lia,by lia,q⟩
  case dy' =>
   rintro c ah ⟨rfl,lst,eR,rfl,h1,h2,h4,h5⟩
   dsimp only
   generalize ah=st at *
   have hl:∀ i,i<hint+1-min eR (hint+1)->eS r left key arr base i=true:=fun i hi=>by
    rcases h5 with h5|h5
    ·lia
    ·by_cases z:hint+1<=eR
     ·lia
     ·exact mono (j:=hint-eR) (by lia) (by lia) h5
   have zt:∀ i,hint-lst<=i->i<n->eS r left key arr base i=false:=fun i hi aC=>Qq (i:=hint-lst) (by lia) aC h4
   have Te:hint+1-min eR (hint+1)<=hint-lst:=by lia
   have Tf:hint-lst<=n:=by lia
   generalize hint+1-min eR (hint+1)=lo at *
   generalize hint-lst=hi at *
   refine wpS_bind (wpS_mono (wpS_forRange (I:=fun x c ah=>ah=st/\∃ l u,c=(none,l,u)/\l<=u/\u<=n/\u-l<=n-x/\(∀ i,i<l->eS r left key arr base i=true)/\(∀ i,u<=i->i<n->eS r left key arr base i=false))
    (Q:=fun c ah=>ah=st/\∃ l,c=(none,l,l)/\l<=n/\(∀ i,i<l->eS r left key arr base i=true)/\(∀ i,l<=i->i<n->eS r left key arr base i=false)) ?dz' ?dA' ?dB') ?dC')
   case dB'=>exact⟨rfl,lo,hi,rfl,Te,Tf,by lia,hl,zt⟩
   case dA' =>
    rintro c ah ⟨rfl,l,u,rfl,h1,h2,h3,h4,h5⟩
    have:l=u:=by lia
    subst this
    exact⟨rfl,l,rfl,h2,h4,h5⟩
   case dz' =>
    rintro x c ah _ hx ⟨rfl,l,u,rfl,h1,h2,h3,h4,h5⟩
    dsimp only
    by_cases oI:l >= u
    ·rw[if_pos oI]
     have:l=u:=by lia
     subst this
     exact wpS_pure ⟨rfl,l,rfl,h2,h4,h5⟩
    ·rw[if_neg oI]
     refine wpS_bind (eX C hk hP hy (by lia) ?_)
     cases q:eS r left key arr base (l+(u-l) / 2) with
     |true =>
      simp only[if_true]
      exact wpS_pure ⟨rfl,_,_,rfl,by lia,by lia,by lia,fun i hi=>mono (j:=l+(u-l) / 2) (by lia) (by lia) q,h5⟩
     |false =>
      simp only[gE,if_false]
      exact wpS_pure ⟨rfl,_,_,rfl,by lia,by lia,by lia,h4,fun i hi aC=>Qq (i:=l+(u-l) / 2) (by lia) aC q⟩
   case dC' =>
    rintro c ah ⟨rfl,l,rfl,h2,h4,h5⟩
    exact wpS_pure (h l h2 h4 h5)
end
abbrev Le(r:Value->Int)(x y:Keyed):Prop:=r x.1<=r y.1
theorem n9(e:xs[i]? = some p):R r xs i=r p.1:=by unfold R;rw[e]
theorem Jd(h:i<xs.size):R r xs i=r xs[i].1:=n9 (getElem?_pos xs i h)
structure MI(r:Value->Int)(a b out:Array Keyed)(ia ib:Nat):Prop where
 ha:ia<=a.size
 hb:ib<=b.size
 perm:out.toList.Perm (a.toList.take ia++b.toList.take ib)
 up:out.toList.Pairwise (Le r)
 la:∀ x∈out.toList,∀ i,ia<=i->i<a.size->r x.1<=R r a i
 lb:∀ x∈out.toList,∀ j,ib<=j->j<b.size->r x.1<=R r b j
section
variable {r:Value->Int}{a b out:Array Keyed}{ia ib:Nat}
theorem oF{α:Type}{l:List α}{i:Nat}{x:α}(h:l[i]? = some x):l.take (i+1)=l.take i++[x]:=by
 rw[D1,h];rfl
theorem MI.rB(M:MI r a b out ia ib)(hA:Up r a 0 a.size)(hB:Up r b 0 b.size){y:Keyed}(e:b[ib]? = some y)(hl:ia<a.size->R r b ib<=R r a ia):MI r a b (out.push y) ia (ib+1):=by
 have W7:ib<b.size:=(GL.mp e).1
 have ey:=n9 (r:=r) e
 refine⟨M.ha,W7,?_,?_,?_,?_⟩
 ·rw[oj,oF (x:=y) (by simpa using e),<- xo]
  exact M.perm.append_right _
 ·rw[oj,FI]
  refine⟨M.up,by simp,fun x hx z hz=>?_⟩
  have:z=y:=by simpa using hz
  subst this
  show r x.1<=r z.1
  rw[<- ey]
  exact M.lb x hx ib (bX _) W7
 ·intro x hx i hi IA
  rw[oj] at hx
  rcases dP.mp hx with hx|hx
  ·exact M.la x hx i hi IA
  ·have:x=y:=by simpa using hx
   subst this
   rw[<- ey]
   exact wm (hl (by walk_at "s1")) (hA ia i (eK _) hi IA)
 ·intro x hx j hj ND
  rw[oj] at hx
  rcases dP.mp hx with hx|hx
  ·exact M.lb x hx j (by exact ll ‹_›) ND
  ·have:x=y:=by simpa using hx
   subst this
   rw[<- ey]
   exact hB ib j (eK _) (by exact ll ‹_›) ND
theorem MI.sG(M:MI r a b out ia ib)(hA:Up r a 0 a.size)(hB:Up r b 0 b.size){y:Keyed}(e:a[ia]? = some y)(hl:ib<b.size->R r a ia<=R r b ib):MI r a b (out.push y) (ia+1) ib:=by
 have IA:ia<a.size:=(GL.mp e).1
 have ey:=n9 (r:=r) e
 refine⟨IA,M.hb,?_,?_,?_,?_⟩
 ·rw[oj,oF (x:=y) (by simpa using e),xo]
  refine(M.perm.append_right [y]).trans ?_
  rw[xo]
  exact List.Perm.append_left _ Ru
 ·rw[oj,FI]
  refine⟨M.up,by simp,fun x hx z hz=>?_⟩
  have:z=y:=by simpa using hz
  subst this
  show r x.1<=r z.1
  rw[<- ey]
  exact M.la x hx ia (bX _) IA
 ·intro x hx i hi ic
  rw[oj] at hx
  rcases dP.mp hx with hx|hx
  ·exact M.la x hx i (by exact ll ‹_›) ic
  ·have:x=y:=by simpa using hx
   subst this
   rw[<- ey]
   exact hA ia i (eK _) (by exact ll ‹_›) ic
 ·intro x hx j hj ND
  rw[oj] at hx
  rcases dP.mp hx with hx|hx
  ·exact M.lb x hx j hj ND
  ·have:x=y:=by simpa using hx
   subst this
   rw[<- ey]
   exact wm (hl (by walk_at "s1")) (hB ib j (eK _) hj ND)
theorem gn{xs:Array Keyed}{i k:Nat}(h:i+k<xs.size):xs.extract i (i+(k+1))=(xs.extract i (i+k)).push xs[i+k]:=by
 apply PD.mp
 rw[oj]
 simp only[RH,Rp]
 rw[show i+(k+1)-i=k+1 by exact Nat.add_sub_cancel_left ..,show i+k-i=k by exact Nat.add_sub_cancel_left ..,D1]
 congr 1
 rw[List.getElem?_drop]
 simp[h]
theorem MI.A3(hA:Up r a 0 a.size)(hB:Up r b 0 b.size):∀ (k:Nat) {out:Array Keyed} {ia:Nat},MI r a b out ia ib->ia+k<=a.size->(ib<b.size->∀ i,i<k->R r a (ia+i)<=R r b ib)->MI r a b (out++a.extract ia (ia+k)) (ia+k) ib
 |0,out,ia,M,h1,h2=>by
  have:a.extract ia (ia+0) = #[]:=Py (by simp only[D8];lia)
  rw[this]
  simpa using M
 |k+1,out,ia,M,h1,h2=>by
  have q:=MI.A3 hA hB k M (by exact ll ‹_›) fun hb i hi=>h2 hb i (by exact ui ‹_›)
  have e:a[ia+k]? = some a[ia+k]:=getElem?_pos a (ia+k) (by assumption)
  have z:=q.sG hA hB e fun hb=>h2 hb k (by exact bX _)
  rw[gn (by assumption),Array.append_push]
  exact z
theorem MI.A4(hA:Up r a 0 a.size)(hB:Up r b 0 b.size):∀ (k:Nat) {out:Array Keyed} {ib:Nat},MI r a b out ia ib->ib+k<=b.size->(ia<a.size->∀ i,i<k->R r b (ib+i)<=R r a ia)->MI r a b (out++b.extract ib (ib+k)) ia (ib+k)
 |0,out,ib,M,h1,h2=>by
  have:b.extract ib (ib+0) = #[]:=Py (by simp only[D8];lia)
  rw[this]
  simpa using M
 |k+1,out,ib,M,h1,h2=>by
  have q:=MI.A4 hA hB k M (by exact ll ‹_›) fun ha i hi=>h2 ha i (by exact ui ‹_›)
  have e:b[ib+k]? = some b[ib+k]:=getElem?_pos b (ib+k) (by assumption)
  have z:=q.rB hA hB e fun ha=>h2 ha k (by exact bX _)
  rw[gn (by assumption),Array.append_push]
  exact z
def cP(r:Value->Int)(a b out:Array Keyed):Prop:=out.toList.Perm (a.toList++b.toList)/\out.toList.Pairwise (Le r)
theorem MI.whole(M:MI r a b out a.size b.size):cP r a b out:=by
 refine⟨?_,M.up⟩
 have h:=M.perm
 rw[O_ (by simp),O_ (by simp)] at h
 exact h
theorem MI.JR(M:MI r a b out ia b.size)(hA:Up r a 0 a.size)(hB:Up r b 0 b.size):cP r a b (out++a.extract ia a.size++b.extract b.size b.size):=by
 have e:b.extract b.size b.size = #[]:=by simp
 rw[e,RJ]
 have ha:=M.ha
 have q:=MI.A3 hA hB (a.size-ia) M (by lia) fun hb=>absurd hb (ti _)
 rw[show ia+(a.size-ia)=a.size by exact LS ‹_›] at q
 exact q.whole
theorem MI.Kr(M:MI r a b out a.size ib)(hA:Up r a 0 a.size)(hB:Up r b 0 b.size):cP r a b (out++a.extract a.size a.size++b.extract ib b.size):=by
 have e:a.extract a.size a.size = #[]:=by simp
 rw[e,RJ]
 have hb:=M.hb
 have q:=MI.A4 hA hB (b.size-ib) M (by lia) fun ha=>absurd ha (ti _)
 rw[show ib+(b.size-ib)=b.size by exact LS ‹_›] at q
 exact q.whole
theorem MI.IB(M:MI r a b out ia ib)(hA:Up r a 0 a.size)(hB:Up r b 0 b.size)(e:ib=b.size):cP r a b (out++a.extract ia a.size++b.extract ib b.size):=by subst e;exact M.JR hA hB
theorem MI.IC(M:MI r a b out ia ib)(hA:Up r a 0 a.size)(hB:Up r b 0 b.size)(e:ia=a.size):cP r a b (out++a.extract ia a.size++b.extract ib b.size):=by subst e;exact M.Kr hA hB
theorem MI.J5(M:MI r a b out ia ib)(hA:Up r a 0 a.size)(hB:Up r b 0 b.size)(IA:ia+1=a.size)(hg:∀ j,j<b.size->R r b j<=R r a ia):cP r a b (out++b.extract ib b.size++a.extract ia a.size):=by
 have hb:=M.hb
 have q:=MI.A4 hA hB (b.size-ib) M (by lia) fun ha i hi=>hg _ (by lia)
 rw[show ib+(b.size-ib)=b.size by exact LS ‹_›] at q
 have z:=MI.A3 hA hB (a.size-ia) q (by lia) fun hb=>absurd hb (ti _)
 rw[show ia+(a.size-ia)=a.size by lia] at z
 exact z.whole
theorem MI.start(hA:Up r a 0 a.size)(hB:Up r b 0 b.size):MI r a b #[] 0 0:=⟨eK _,eK _,by simp,by simp,fun x hx=>by simp at hx,fun x hx=>by simp at hx⟩
end
def bV:Nat->StateT SortSt Sem Unit:=sortPriv% PySem.Builtin.setMinGallop
def uO:Array Keyed->Array Keyed->StateT SortSt Sem (Array Keyed):=sortPriv% PySem.Builtin.mergeLo
def uT:Array Keyed->Array Keyed->StateT SortSt Sem (Array Keyed):=sortPriv% PySem.Builtin.mergeHi
theorem jJ(g:Nat):bV g=modify fun s=>SortSt.mk' (kindOf s) (arrOf s) (pendingOf s) g (failedOf s):=rfl
def Mg(st ah:SortSt):Prop:=∃ g,ah=SortSt.mk' (kindOf st) (arrOf st) (pendingOf st) g (failedOf st)
theorem Mg.refl(st:SortSt):Mg st st:=⟨gallopOf st,rfl⟩
theorem Mg.kind{st ah:SortSt}(h:Mg st ah):kindOf ah=kindOf st:=by obtain⟨g,rfl⟩:=h;rfl
theorem Mg.set{st ah:SortSt}(h:Mg st ah)(g:Nat):Mg st (SortSt.mk' (kindOf ah) (arrOf ah) (pendingOf ah) g (failedOf ah)):=by obtain⟨g',rfl⟩:=h;exact⟨g,rfl⟩
section
variable {prog:Program}{w:World}{A:Around}{E:Value->Shared->Prop}{s:Shared}{r:Value->Int}
theorem iD{st:SortSt}(h:Q () (SortSt.mk' (kindOf st) (arrOf st) (pendingOf st) g (failedOf st))):wpS (model prog w) A E s (bV g) Q st:=by
 rw[jJ];exact wpS_modify h
theorem Bu(h:eS r false key arr base i=true):R r arr (base+i)<=r key.1:=by
 unfold eS at h;simp only[gE,if_false,Bool.not_eq_true',decide_eq_false_iff_not] at h;lia
theorem yS(h:eS r false key arr base i=false):r key.1<R r arr (base+i):=by
 unfold eS at h;simp only[gE,if_false,Bool.not_eq_false',decide_eq_true_eq] at h;exact h
theorem Em(h:eS r true key arr base i=true):R r arr (base+i)<r key.1:=by
 unfold eS at h;simp only[if_true,decide_eq_true_eq] at h;exact h
theorem vg(h:eS r true key arr base i=false):r key.1<=R r arr (base+i):=by
 unfold eS at h;simp only[if_true,decide_eq_false_iff_not] at h;lia
end
theorem Mg.trans(h:Mg a b)(g:Mg b c):Mg a c:=by obtain⟨x,rfl⟩:=h;obtain⟨y,rfl⟩:=g;exact⟨y,rfl⟩
theorem Fg{K G:Prop}(pk:K)(h:K->G):G:=h pk
abbrev SM:=StateT SortSt Sem
abbrev L1:=Option (Array Keyed) × Array Keyed × Nat × Nat × Nat
abbrev EW:=Option (Array Keyed) × Array Keyed × Nat × Nat × Nat × Nat
abbrev L3:=Option (Array Keyed) × Array Keyed × Nat × Nat × Nat × Nat × Nat
def Dx(a b out:Array Keyed)(ia ib:Nat):Array Keyed:=out++a.extract ia a.size++b.extract ib b.size
def NF(a b out:Array Keyed)(ia ib:Nat):Array Keyed:=out++b.extract ib b.size++a.extract ia a.size
def Tg(a b:Array Keyed)(mg ac bc ia ib:Nat)(out:Array Keyed):SM (ForInStep L3):=elem' a ia >>= fun p =>
 if (ia+1+1 == a.size)=true then pure (.done (some (NF a b (out.push p) (ia+1) ib),out.push p,ia+1,ib,mg,ac,bc))
 else if (decide (ac<7) && decide (bc<7))=true then pure (.done (none,out.push p,ia+1,ib,mg,ac,bc)) else pure (.yield (none,out.push p,ia+1,ib,mg,ac,bc))
def EX(a b:Array Keyed)(mg ac bc ia ib:Nat)(out:Array Keyed):SM (ForInStep L3):=elem' a ia >>= fun p=>lB true p b ib (b.size-ib) 0 >>= fun x=>match x with
 |some k=>if k>0 then
   if (ib+k == b.size)=true then pure (.done (some (Dx a b (out++b.extract ib (ib+k)) ia (ib+k)),out++b.extract ib (ib+k),ia,ib+k,mg,ac,k))
   else Tg a b mg ac k ia (ib+k) (out++b.extract ib (ib+k))
  else Tg a b mg ac k ia ib out
 |_=>pure (.done (some (Dx a b out ia ib),out,ia,ib,mg,ac,bc))
def lo1(a b:Array Keyed)(mg ac bc ia ib:Nat)(out:Array Keyed):SM (ForInStep L3):=elem' b ib >>= fun p =>
 if (ib+1 == b.size)=true then pure (.done (some (Dx a b (out.push p) ia (ib+1)),out.push p,ia,ib+1,mg,ac,bc)) else EX a b mg ac bc ia (ib+1) (out.push p)
def Ti(a b:Array Keyed)(mg ac bc ia ib:Nat)(out:Array Keyed):SM (ForInStep L3):=bV mg >>= fun _=>elem' b ib >>= fun p=>lB false p a ia (a.size-ia) 0 >>= fun x=>match x with
 |some k=>if k>0 then
   if (ia+k+1 == a.size)=true then pure (.done (some (NF a b (out++a.extract ia (ia+k)) (ia+k) ib),out++a.extract ia (ia+k),ia+k,ib,mg,k,bc))
   else if (ia+k == a.size)=true then pure (.done (some (Dx a b (out++a.extract ia (ia+k)) (ia+k) ib),out++a.extract ia (ia+k),ia+k,ib,mg,k,bc))
   else lo1 a b mg k bc (ia+k) ib (out++a.extract ia (ia+k))
  else lo1 a b mg k bc ia ib out
 |_=>pure (.done (some (Dx a b out ia ib),out,ia,ib,mg,ac,bc))
def W8(a b:Array Keyed)(_:Nat)(s:L3):SM (ForInStep L3) :=
 if s.2.2.2.2.1>1 then Ti a b (s.2.2.2.2.1-1) s.2.2.2.2.2.1 s.2.2.2.2.2.2 s.2.2.1 s.2.2.2.1 s.2.1 else Ti a b s.2.2.2.2.1 s.2.2.2.2.2.1 s.2.2.2.2.2.2 s.2.2.1 s.2.2.2.1 s.2.1
def W9(a b:Array Keyed)(mg bc ia ib:Nat)(out:Array Keyed):SM (ForInStep EW):=elem' b ib >>= fun p =>
 if (ib+1 == b.size)=true then pure (.done (some (Dx a b (out.push p) ia (ib+1)),out.push p,ia,ib+1,0,bc+1))
 else if bc+1 >= mg then pure (.done (none,out.push p,ia,ib+1,0,bc+1)) else pure (.yield (none,out.push p,ia,ib+1,0,bc+1))
def W_(a b:Array Keyed)(mg ac ia ib:Nat)(out:Array Keyed):SM (ForInStep EW):=elem' a ia >>= fun p =>
 if (ia+1+1 == a.size)=true then pure (.done (some (NF a b (out.push p) (ia+1) ib),out.push p,ia+1,ib,ac+1,0))
 else if ac+1 >= mg then pure (.done (none,out.push p,ia+1,ib,ac+1,0)) else pure (.yield (none,out.push p,ia+1,ib,ac+1,0))
def Xa(a b:Array Keyed)(mg:Nat)(_:Nat)(s:EW):SM (ForInStep EW):=elem' b s.2.2.2.1 >>= fun pb=>elem' a s.2.2.1 >>= fun pa=>lt' pb pa >>= fun x=>match x with
 |some w=>if w=true then W9 a b mg s.2.2.2.2.2 s.2.2.1 s.2.2.2.1 s.2.1 else W_ a b mg s.2.2.2.2.1 s.2.2.1 s.2.2.2.1 s.2.1
 |_=>pure (.done (some (Dx a b s.2.1 s.2.2.1 s.2.2.2.1),s.2.1,s.2.2.1,s.2.2.2.1,s.2.2.2.2.1,s.2.2.2.2.2))
def Xb (a b:Array Keyed) (mg:Nat) (t:EW):SM (ForInStep L1):=(liftM (rule "list.sort.gallop"):SM Unit) >>= fun _ =>
 forIn [:a.size+b.size] ((none,t.2.1,t.2.2.1,t.2.2.2.1,mg+1,t.2.2.2.2.1,t.2.2.2.2.2):L3) (W8 a b) >>= fun u=>match u.1 with
 |some r=>pure (.done (some r,u.2.1,u.2.2.1,u.2.2.2.1,u.2.2.2.2.1))
 |none=>bV (u.2.2.2.2.1+1) >>= fun _=>pure (.yield (none,u.2.1,u.2.2.1,u.2.2.2.1,u.2.2.2.2.1+1))
def Xc(a b:Array Keyed)(_:Nat)(s:L1):SM (ForInStep L1):=forIn [:a.size+b.size] ((none,s.2.1,s.2.2.1,s.2.2.2.1,0,0):EW) (Xa a b s.2.2.2.2) >>= fun t=>match t.1 with
 |some r=>pure (.done (some r,t.2.1,t.2.2.1,t.2.2.2.1,s.2.2.2.2))
 |none=>Xb a b s.2.2.2.2 t
def loM (a b:Array Keyed):SM (Array Keyed):=(liftM (rule "list.sort.merge-lo"):SM Unit) >>= fun _=>elem' b 0 >>= fun y =>
 if (1 == b.size)=true then pure (Dx a b #[y] 0 1)
 else if (0+1 == a.size)=true then pure (NF a b #[y] 0 1)
 else get >>= fun st=>forIn [:a.size+b.size] ((none,#[y],0,1,gallopOf st):L1) (Xc a b) >>= fun t=>match t.1 with
 |some r=>pure r
 |none=>(liftM (unsupported (α:=Array Keyed) "internal:list.sort.merge-bound"):SM (Array Keyed))
set_option smartUnfolding false in
theorem wF:uO=loM:=rfl
section
variable {prog:Program}{w:World}{A:Around}{E:Value->Shared->Prop}{s:Shared}{κ:SortKind}{r:Value->Int}{P:Value->Prop}{a b out:Array Keyed}{mg ac bc ia ib N:Nat}{st:SortSt}
structure MC(prog:Program)(w:World)(A:Around)(s:Shared)(κ:SortKind)(r:Value->Int)(P:Value->Prop)(a b:Array Keyed):Prop where
 C:mE prog w A s κ r P
 pa:AllP P a
 pb:AllP P b
 hA:Up r a 0 a.size
 hB:Up r b 0 b.size
 hl:∀ i,i<a.size->R r b 0<=R r a i
 hg:∀ j,j<b.size->R r b j<=R r a (a.size-1)
def HS(r:Value->Int)(a b:Array Keyed)(c:Option (Array Keyed) × β):Prop:=∃ out rest,c=(some out,rest)/\cP r a b out
def LY(r:Value->Int)(a b:Array Keyed)(N:Nat)(c:L3):Prop:=∃ out ia ib mg ac bc,c=(none,out,ia,ib,mg,ac,bc)/\MI r a b out ia ib/\ia+1<a.size/\ib<b.size/\N<=ia+ib
def LI(r:Value->Int)(a b:Array Keyed)(N:Nat)(c:EW):Prop:=∃ out ia ib ac bc,c=(none,out,ia,ib,ac,bc)/\MI r a b out ia ib/\ia+1<a.size/\ib<b.size/\N<=ia+ib
theorem MC.last(c:MC prog w A s κ r P a b)(M:MI r a b out ia ib)(z:ia+1=a.size):cP r a b (NF a b out ia ib):=M.J5 c.hA c.hB z fun j hj=>by
 have:=c.hg j hj
 rwa[show a.size-1=ia by lia] at this
theorem Dd(c:MC prog w A s κ r P a b)(M:MI r a b out ia ib)(h1:ia+1<a.size)(lt:R r a ia<=R r b ib)(h2:ib<b.size)(hN:N<=ia+ib)(D:∀ c,HS r a b c->Q (.done c) st)(Y:∀ c,LY r a b N c->Q (.done c) st/\Q (.yield c) st):wpS (model prog w) A E s (Tg a b mg ac bc ia ib out) Q st:=by
 refine wpS_bind (aL (by lia) fun p e=>?_)
 have M2:=M.sG c.hA c.hB e fun _=>lt
 by_cases z:ia+1+1=a.size
 ·rw[if_pos (by simpa using z)]
  exact wpS_pure (D _ ⟨_,_,rfl,c.last M2 z⟩)
 ·rw[if_neg (by simpa using z)]
  have y:=Y _ ⟨_,_,_,mg,ac,bc,rfl,M2,by lia,h2,by lia⟩
  split
  ·exact wpS_pure y.1
  ·exact wpS_pure y.2
theorem HQ(c:MC prog w A s κ r P a b)(hk:kindOf st=κ)(M:MI r a b out ia ib)(h1:ia+1<a.size)(h2:ib<b.size)(hN:N<=ia+ib)(D:∀ c,HS r a b c->Q (.done c) st)(Y:∀ c,LY r a b N c->Q (.done c) st/\Q (.yield c) st):wpS (model prog w) A E s (EX a b mg ac bc ia ib out) Q st:=by
 refine wpS_bind (aL (by lia) fun p e=>wpS_bind (dI c.C hk c.pb (c.pa.at e) (by lia) (by lia) (fun i j u v w=>c.hB i j (by lia) v (by lia)) fun l IE vk IG=>?_))
 have ra:=n9 (r:=r) e
 dsimp only
 have lt:ib+l<b.size->R r a ia<=R r b (ib+l):=fun z=>by have:=vg (IG l (bX _) (by lia));lia
 by_cases l0:l>0
 ·have M5:=MI.A4 c.hA c.hB l M (by lia) fun _ i hi=>by have:=Em (vk i hi);lia
  rw[if_pos l0]
  by_cases z:ib+l=b.size
  ·rw[if_pos (by simpa using z)]
   exact wpS_pure (D _ ⟨_,_,rfl,M5.IB c.hA c.hB z⟩)
  ·rw[if_neg (by simpa using z)]
   exact Dd c M5 h1 (lt (by lia)) (by lia) (by lia) D Y
 ·rw[if_neg l0]
  obtain rfl:l=0:=by lia
  exact Dd c M h1 (lt h2) h2 hN D Y
theorem C_(c:MC prog w A s κ r P a b)(hk:kindOf st=κ)(M:MI r a b out ia ib)(h1:ia+1<a.size)(lt:R r b ib<=R r a ia)(h2:ib<b.size)(hN:N<=ia+ib)(D:∀ c,HS r a b c->Q (.done c) st)(Y:∀ c,LY r a b N c->Q (.done c) st/\Q (.yield c) st):wpS (model prog w) A E s (lo1 a b mg ac bc ia ib out) Q st:=by
 refine wpS_bind (aL h2 fun p e=>?_)
 have M4:=M.rB c.hA c.hB e fun _=>lt
 by_cases z:ib+1=b.size
 ·rw[if_pos (by simpa using z)]
  exact wpS_pure (D _ ⟨_,_,rfl,M4.IB c.hA c.hB z⟩)
 ·rw[if_neg (by simpa using z)]
  exact HQ c hk M4 h1 (by lia) (by lia) D Y
theorem HR(c:MC prog w A s κ r P a b)(hk:kindOf st=κ)(M:MI r a b out ia ib)(h1:ia+1<a.size)(h2:ib<b.size)(hN:N<=ia+ib)(D:∀ ah,Mg st ah->∀ c,HS r a b c->Q (.done c) ah)(Y:∀ ah,Mg st ah->∀ c,LY r a b N c->Q (.done c) ah/\Q (.yield c) ah):wpS (model prog w) A E s (Ti a b mg ac bc ia ib out) Q st:=by
 have g:=(Mg.refl st).set mg
 refine wpS_bind (iD ?_)
 refine wpS_bind (aL h2 fun p e=>wpS_bind (dI c.C (g.kind.trans hk) c.pa (c.pb.at e) (by lia) (by lia) (fun i j u v w=>c.hA i j (by lia) v (by lia)) fun k Xd qk EZ=>?_))
 have rb:=n9 (r:=r) e
 dsimp only
 have lt:ia+k<a.size->R r b ib<=R r a (ia+k):=fun z=>by have:=yS (EZ k (bX _) (by lia));lia
 by_cases k0:k>0
 ·have M3:=MI.A3 c.hA c.hB k M (by lia) fun _ i hi=>by have:=Bu (qk i hi);lia
  rw[if_pos k0]
  by_cases z:ia+k+1=a.size
  ·rw[if_pos (by simpa using z)]
   exact wpS_pure (D _ g _ ⟨_,_,rfl,c.last M3 z⟩)
  ·rw[if_neg (by simpa using z)]
   by_cases z2:ia+k=a.size
   ·rw[if_pos (by simpa using z2)]
    exact wpS_pure (D _ g _ ⟨_,_,rfl,M3.IC c.hA c.hB z2⟩)
   ·rw[if_neg (by simpa using z2)]
    exact C_ c (g.kind.trans hk) M3 (by lia) (lt (by lia)) h2 (by lia) (D _ g) (Y _ g)
 ·rw[if_neg k0]
  obtain rfl:k=0:=by lia
  exact C_ c (g.kind.trans hk) M h1 (lt (by lia)) h2 hN (D _ g) (Y _ g)
theorem Hi(c:MC prog w A s κ r P a b)(M:MI r a b out ia ib)(h1:ia+1<a.size)(lt:R r b ib<=R r a ia)(h2:ib<b.size)(hN:N<=ia+ib+1)(D:∀ c,HS r a b c->Q (.done c) st)(Y:∀ c,LI r a b N c->Q (.done c) st/\Q (.yield c) st):wpS (model prog w) A E s (W9 a b mg bc ia ib out) Q st:=by
 refine wpS_bind (aL h2 fun p e=>?_)
 have M2:=M.rB c.hA c.hB e fun _=>lt
 by_cases z:ib+1=b.size
 ·rw[if_pos (by simpa using z)]
  exact wpS_pure (D _ ⟨_,_,rfl,M2.IB c.hA c.hB z⟩)
 ·rw[if_neg (by simpa using z)]
  have y:=Y _ ⟨_,_,_,0,bc+1,rfl,M2,h1,by lia,hN⟩
  split
  ·exact wpS_pure y.1
  ·exact wpS_pure y.2
theorem HX(c:MC prog w A s κ r P a b)(M:MI r a b out ia ib)(h1:ia+1<a.size)(lt:R r a ia<=R r b ib)(h2:ib<b.size)(hN:N<=ia+ib+1)(D:∀ c,HS r a b c->Q (.done c) st)(Y:∀ c,LI r a b N c->Q (.done c) st/\Q (.yield c) st):wpS (model prog w) A E s (W_ a b mg ac ia ib out) Q st:=by
 refine wpS_bind (aL (by lia) fun p e=>?_)
 have M2:=M.sG c.hA c.hB e fun _=>lt
 by_cases z:ia+1+1=a.size
 ·rw[if_pos (by simpa using z)]
  exact wpS_pure (D _ ⟨_,_,rfl,c.last M2 z⟩)
 ·rw[if_neg (by simpa using z)]
  have y:=Y _ ⟨_,_,_,ac+1,0,rfl,M2,by lia,h2,by lia⟩
  split
  ·exact wpS_pure y.1
  ·exact wpS_pure y.2
theorem Jb(c:MC prog w A s κ r P a b)(hk:kindOf st=κ)(M:MI r a b out ia ib)(h1:ia+1<a.size)(h2:ib<b.size)(hN:N<=ia+ib+1)(D:∀ c,HS r a b c->Q (.done c) st)(Y:∀ c,LI r a b N c->Q (.done c) st/\Q (.yield c) st):wpS (model prog w) A E s (Xa a b mg x (none,out,ia,ib,ac,bc)) Q st:=by
 refine wpS_bind (aL h2 fun pb eb=>wpS_bind (aL (show ia<a.size by lia) fun pa ea=>wpS_bind (rJ c.C hk (c.pb.at eb) (c.pa.at ea) ?_)))
 have rb:R r b ib=r pb.1:=n9 eb
 have ra:R r a ia=r pa.1:=n9 ea
 dsimp only
 by_cases hw:r pb.1<r pa.1
 ·rw[if_pos (decide_eq_true hw)]
  exact Hi c M h1 (by lia) h2 hN D Y
 ·rw[if_neg (by simpa using hw)]
  exact HX c M h1 (by lia) h2 hN D Y
theorem Jc(c:MC prog w A s κ r P a b)(hk:kindOf st=κ)(M:MI r a b out ia ib)(h1:ia+1<a.size)(h2:ib<b.size)(hN:N<=ia+ib)(D:∀ ah,Mg st ah->∀ c,HS r a b c->Q (.done c) ah)
  (Y:∀ ah,Mg st ah->∀ out ia ib mg,MI r a b out ia ib->ia+1<a.size->ib<b.size->N<=ia+ib->Q (.yield (none,out,ia,ib,mg)) ah):wpS (model prog w) A E s (Xb a b mg (none,out,ia,ib,ac,bc)) Q st:=by
 refine wpS_bind (wpS_lift (wpAny_rule ⟨rfl,?_⟩))
 refine wpS_bind (wpS_mono (wpS_forRange (I:=fun _ c ah=>Mg st ah/\LY r a b N c) (Q:=fun c ah=>Mg st ah/\(HS r a b c\/LY r a b N c)) ?step ?fin ⟨.refl st,_,_,_,_,_,_,rfl,M,h1,h2,hN⟩) ?post)
 case fin =>
  rintro c ah ⟨hm,q⟩
  exact⟨hm,.inr q⟩
 case step =>
  rintro y c1 A5 _ _ ⟨hm,out,ia,ib,mg,ac,bc,rfl,M,h1,h2,hN⟩
  unfold W8
  dsimp only
  split<;>exact HR c (hm.kind.trans hk) M h1 h2 hN (fun ah g c q=>⟨hm.trans g,.inl q⟩) fun ah g c q=>⟨⟨hm.trans g,.inr q⟩,hm.trans g,q⟩
 case post =>
  rintro c ah ⟨hm,⟨o,rest,rfl,hM⟩|⟨out,ia,ib,mg,ac,bc,rfl,M,h1,h2,hN⟩⟩
  ·exact wpS_pure (D _ hm _ ⟨_,_,rfl,hM⟩)
  ·exact wpS_bind (iD (wpS_pure (Y _ (hm.set _) _ _ _ _ M h1 h2 hN)))
theorem Ib(c:MC prog w A s κ r P a b)(hk:kindOf st=κ)(M:MI r a b out ia ib)(h1:ia+1<a.size)(h2:ib<b.size)(hN:N<=ia+ib)(D:∀ ah,Mg st ah->∀ c,HS r a b c->Q (.done c) ah)
  (Y:∀ ah,Mg st ah->∀ out ia ib mg,MI r a b out ia ib->ia+1<a.size->ib<b.size->N+1<=ia+ib->Q (.yield (none,out,ia,ib,mg)) ah):wpS (model prog w) A E s (Xc a b x (none,out,ia,ib,mg)) Q st:=by
 refine wpS_bind (wpS_mono (wpS_forRange (I:=fun y c ah=>ah=st/\LI r a b (N+y) c) (Q:=fun c ah=>ah=st/\(HS r a b c\/LI r a b (N+1) c)) ?step ?fin ⟨rfl,_,_,_,_,_,rfl,M,h1,h2,hN⟩) ?post)
 case fin =>
  rintro c ah ⟨rfl,o,ia',ib',ac,bc,rfl,M',q1,q2,q3⟩
  exact⟨rfl,.inr ⟨_,_,_,_,_,rfl,M',q1,q2,by lia⟩⟩
 case step =>
  rintro y c1 A5 _ hy ⟨rfl,o,ia',ib',ac,bc,rfl,M',q1,q2,q3⟩
  exact Jb (N:=N+y+1) c hk M' q1 q2 (by lia) (fun c q=>⟨rfl,.inl q⟩) fun c q=>by
   obtain⟨o,ia,ib,ac,bc,rfl,M,h1,h2,h3⟩:=q
   exact⟨⟨rfl,.inr ⟨_,_,_,_,_,rfl,M,h1,h2,by lia⟩⟩,rfl,_,_,_,_,_,rfl,M,h1,h2,by lia⟩
 case post =>
  rintro c1 ah ⟨rfl,⟨o,rest,rfl,hM⟩|⟨o,ia,ib,ac,bc,rfl,M',q1,q2,q3⟩⟩
  ·exact wpS_pure (D _ (.refl _) _ ⟨_,_,rfl,hM⟩)
  ·exact Jc c hk M' q1 q2 q3 D Y
theorem ug{st:SortSt}(C:mE prog w A s κ r P)(hk:kindOf st=κ)(Tj:AllP P a)(Tn:AllP P b)(hA:Up r a 0 a.size)(hB:Up r b 0 b.size)(na:1<=a.size)(nb:1<=b.size)
  (h0:R r b 0<=R r a 0) (hg:∀ j,j<b.size->R r b j<=R r a (a.size-1)) (h:∀ out ah,cP r a b out->Mg st ah->Q out ah):wpS (model prog w) A E s (uO a b) Q st:=by
 have c:MC prog w A s κ r P a b:=⟨C,Tj,Tn,hA,hB,fun i hi=>wm h0 (hA 0 i (bX _) (eK _) hi),hg⟩
 rw[wF]
 refine wpS_bind (wpS_lift (wpAny_rule ⟨rfl,?_⟩))
 refine wpS_bind (aL nb fun y0 e0=>?_)
 have M1:MI r a b #[y0] 0 1:=(MI.start hA hB).rB hA hB e0 fun _=>h0
 by_cases c1:1=b.size
 ·rw[if_pos (by simpa using c1)]
  exact wpS_pure (h _ _ (M1.IB hA hB c1) (.refl st))
 ·rw[if_neg (by simpa using c1)]
  by_cases c2:0+1=a.size
  ·rw[if_pos (by simpa using c2)]
   exact wpS_pure (h _ _ (c.last M1 c2) (.refl st))
  ·rw[if_neg (by simpa using c2)]
   refine wpS_bind (wpS_get ?_)
   refine wpS_bind (wpS_mono (wpS_forRange (I:=fun x c ah=>Mg st ah/\∃ out ia ib mg,c=(none,out,ia,ib,mg)/\MI r a b out ia ib/\ia+1<a.size/\ib<b.size/\x+1<=ia+ib)
    (Q:=fun c ah=>Mg st ah/\HS r a b c) ?step ?fin ⟨.refl st,_,_,_,_,rfl,M1,by lia,by lia,by lia⟩) ?post)
   case fin =>
    rintro c ah ⟨_,out,ia,ib,mg,rfl,M,h1,h2,h3⟩
    lia
   case post =>
    rintro c ah ⟨hm,out,rest,rfl,hM⟩
    exact wpS_pure (h out ah hM hm)
   case step =>
    rintro x c1 A5 _ hx ⟨tF,out,ia,ib,mg,rfl,M,h1,h2,h3⟩
    exact Ib (N:=x+1) c (tF.kind.trans hk) M h1 h2 h3 (fun ah g c q=>⟨tF.trans g,q⟩) fun ah g out ia ib mg M h1 h2 h3=>⟨tF.trans g,_,_,_,_,rfl,M,h1,h2,h3⟩
end
abbrev Ge(r:Value->Int)(x y:Keyed):Prop:=r y.1<=r x.1
structure MH(r:Value->Int)(a b out:Array Keyed)(na nb:Nat):Prop where
 ha:na<=a.size
 hb:nb<=b.size
 perm:out.toList.Perm (a.toList.drop na++b.toList.drop nb)
 down:out.toList.Pairwise (Ge r)
 ga:∀ x∈out.toList,∀ i,i<na->R r a i<=r x.1
 gb:∀ x∈out.toList,∀ j,j<nb->R r b j<=r x.1
section
variable {r:Value->Int}{a b out:Array Keyed}{na nb:Nat}
theorem rC{α:Type}{l:List α}{i:Nat}{x:α}(h0:0<i)(h:l[i-1]? = some x):l.drop (i-1)=x :: l.drop i:=by
 obtain⟨hi,e⟩:=iL.mp h
 rw[wd hi,e,show i-1+1=i by exact Nat.sub_add_cancel ‹_›]
theorem MH.sG(M:MH r a b out na nb)(hA:Up r a 0 a.size)(hB:Up r b 0 b.size)(h0:0<na){y:Keyed}(e:a[na-1]? = some y)(hl:0<nb->R r b (nb-1)<=R r a (na-1)):MH r a b (out.push y) (na-1) nb:=by
 have ey:=n9 (r:=r) e
 have ha:=M.ha
 have hb:=M.hb
 refine⟨by lia,M.hb,?_,?_,?_,?_⟩
 ·rw[oj,rC (x:=y) h0 (by simpa using e)]
  refine(M.perm.append_right [y]).trans ?_
  exact Ru
 ·rw[oj,FI]
  refine⟨M.down,by simp,fun x hx z hz=>?_⟩
  have:z=y:=by simpa using hz
  subst this
  show r z.1<=r x.1
  rw[<- ey]
  exact M.ga x hx (na-1) (by exact D7 ‹_› D6)
 ·intro x hx i hi
  rw[oj] at hx
  rcases dP.mp hx with hx|hx
  ·exact M.ga x hx i (by walk_at "s4")
  ·have:x=y:=by simpa using hx
   subst this
   rw[<- ey]
   exact hA i (na-1) (eK _) (by exact ll ‹_›) (by lia)
 ·intro x hx j hj
  rw[oj] at hx
  rcases dP.mp hx with hx|hx
  ·exact M.gb x hx j hj
  ·have:x=y:=by simpa using hx
   subst this
   rw[<- ey]
   exact wm (hB j (nb-1) (eK _) (by lia) (by lia)) (hl (by lia))
theorem MH.rB(M:MH r a b out na nb)(hA:Up r a 0 a.size)(hB:Up r b 0 b.size)(h0:0<nb){y:Keyed}(e:b[nb-1]? = some y)(hl:0<na->R r a (na-1)<=R r b (nb-1)):MH r a b (out.push y) na (nb-1):=by
 have ey:=n9 (r:=r) e
 have ha:=M.ha
 have hb:=M.hb
 refine⟨M.ha,by lia,?_,?_,?_,?_⟩
 ·rw[oj,rC (x:=y) h0 (by simpa using e)]
  refine(M.perm.append_right [y]).trans ?_
  rw[xo]
  exact List.Perm.append_left _ Ru
 ·rw[oj,FI]
  refine⟨M.down,by simp,fun x hx z hz=>?_⟩
  have:z=y:=by simpa using hz
  subst this
  show r z.1<=r x.1
  rw[<- ey]
  exact M.gb x hx (nb-1) (by exact D7 ‹_› D6)
 ·intro x hx i hi
  rw[oj] at hx
  rcases dP.mp hx with hx|hx
  ·exact M.ga x hx i hi
  ·have:x=y:=by simpa using hx
   subst this
   rw[<- ey]
   exact wm (hA i (na-1) (eK _) (by lia) (by lia)) (hl (by lia))
 ·intro x hx j hj
  rw[oj] at hx
  rcases dP.mp hx with hx|hx
  ·exact M.gb x hx j (by walk_at "s4")
  ·have:x=y:=by simpa using hx
   subst this
   rw[<- ey]
   exact hB j (nb-1) (eK _) (by exact ll ‹_›) (by lia)
theorem kW{xs:Array Keyed}{i n:Nat}(h:i<n)(hn:n<=xs.size):(xs.extract i n).reverse = #[xs[n-1]'(by lia)]++(xs.extract i (n-1)).reverse:=by
 obtain⟨k,rfl⟩:∃ k,n=i+(k+1):=⟨n-1-i,by lia⟩
 have e3:i+(k+1)-1=i+k:=by rfl
 simp only[e3]
 rw[gn (by assumption),Array.reverse_push]
theorem MH.A3(hA:Up r a 0 a.size)(hB:Up r b 0 b.size):∀ (k:Nat) {out:Array Keyed} {na p:Nat},MH r a b out na nb->p+k=na->(0<nb->∀ i,p<=i->i<na->R r b (nb-1)<=R r a i)->MH r a b (out++(a.extract p na).reverse) p nb
 |0,out,na,p,M,h1,h2=>by
  have:a.extract p na = #[]:=Py (by simp only[D8];lia)
  have e:na=p:=by walk_at "s1"
  subst e
  rw[this]
  simpa using M
 |k+1,out,na,p,M,h1,h2=>by
  have ha:=M.ha
  have e:a[na-1]? = some (a[na-1]'(by lia)):=getElem?_pos a (na-1) (by lia)
  have q:=M.sG hA hB (by lia) e fun hb=>h2 hb _ (by lia) (by lia)
  have z:=MH.A3 hA hB k (p:=p) q (by lia) fun hb i kK ic=>h2 hb i kK (by walk_at "s4")
  rw[kW (by lia) ha,<- PC]
  simpa using z
theorem MH.A4(hA:Up r a 0 a.size)(hB:Up r b 0 b.size):∀ (k:Nat) {out:Array Keyed} {nb p:Nat},MH r a b out na nb->p+k=nb->(0<na->∀ i,p<=i->i<nb->R r a (na-1)<=R r b i)->MH r a b (out++(b.extract p nb).reverse) na p
 |0,out,nb,p,M,h1,h2=>by
  have:b.extract p nb = #[]:=Py (by simp only[D8];lia)
  have e:nb=p:=by walk_at "s1"
  subst e
  rw[this]
  simpa using M
 |k+1,out,nb,p,M,h1,h2=>by
  have hb:=M.hb
  have e:b[nb-1]? = some (b[nb-1]'(by lia)):=getElem?_pos b (nb-1) (by lia)
  have q:=M.rB hA hB (by lia) e fun ha=>h2 ha _ (by lia) (by lia)
  have z:=MH.A4 hA hB k (p:=p) q (by lia) fun ha i kK ic=>h2 ha i kK (by walk_at "s4")
  rw[kW (by lia) hb,<- PC]
  simpa using z
theorem MH.whole(M:MH r a b out 0 0):cP r a b out.reverse:=by
 refine⟨?_,?_⟩
 ·have h:=M.perm
  rw[List.drop_zero,List.drop_zero] at h
  rw[Array.toList_reverse]
  exact(List.reverse_perm _).trans h
 ·rw[Array.toList_reverse,List.pairwise_reverse]
  exact M.down
theorem oN(x y:Array Keyed):(x++y.reverse).reverse=y++x.reverse:=by
 apply PD.mp
 simp
theorem MH.IC(M:MH r a b out na nb)(hA:Up r a 0 a.size)(hB:Up r b 0 b.size)(e:na=0):cP r a b (a.extract 0 na++b.extract 0 nb++out.reverse):=by
 subst e
 have z:=MH.A4 hA hB nb (p:=0) M (by exact Pq ..) fun ha=>absurd ha (ti _)
 have q:=z.whole
 rw[oN] at q
 have e2:a.extract 0 0 = #[]:=by simp
 rw[e2,Array.empty_append]
 exact q
theorem MH.IB(M:MH r a b out na nb)(hA:Up r a 0 a.size)(hB:Up r b 0 b.size)(e:nb=0):cP r a b (a.extract 0 na++b.extract 0 nb++out.reverse):=by
 subst e
 have z:=MH.A3 hA hB na (p:=0) M (by exact Pq ..) fun hb=>absurd hb (ti _)
 have q:=z.whole
 rw[oN] at q
 have e2:b.extract 0 0 = #[]:=by simp
 rw[e2,RJ]
 exact q
theorem MH.vf(M:MH r a b out na nb)(hA:Up r a 0 a.size)(hB:Up r b 0 b.size)(e:nb=1)(hl:∀ i,i<a.size->R r b 0<=R r a i):cP r a b (b.extract 0 nb++a.extract 0 na++out.reverse):=by
 subst e
 have ha:=M.ha
 have z:=MH.A3 hA hB na (p:=0) M (by exact Pq ..) fun _ i _ hi=>hl i (by walk_at "s1")
 have z2:=MH.A4 hA hB 1 (p:=0) z (by exact Pq ..) fun h=>absurd h (ti _)
 have q:=z2.whole
 rw[oN,oN] at q
 rw[PC]
 exact q
theorem MH.start:MH r a b #[] a.size b.size:=⟨bX _,bX _,by simp,by simp,fun x hx=>by simp at hx,fun x hx=>by simp at hx⟩
end
abbrev S1:=Option (Array Keyed) × Nat × Nat × Array Keyed × Nat
abbrev S2:=Option (Array Keyed) × Nat × Nat × Array Keyed × Nat × Nat
abbrev S3:=Option (Array Keyed) × Nat × Nat × Array Keyed × Nat × Nat × Nat
def DB(a b out:Array Keyed)(na nb:Nat):Array Keyed:=a.extract 0 na++b.extract 0 nb++out.reverse
def Qr(a b out:Array Keyed)(na nb:Nat):Array Keyed:=b.extract 0 nb++a.extract 0 na++out.reverse
def To(a b:Array Keyed)(mg ac bc na nb:Nat)(out:Array Keyed):SM (ForInStep S3):=elem' a (na-1) >>= fun p =>
 if (na-1 == 0)=true then pure (.done (some (DB a b (out.push p) (na-1) nb),na-1,nb,out.push p,mg,ac,bc))
 else if (decide (ac<7) && decide (bc<7))=true then pure (.done (none,na-1,nb,out.push p,mg,ac,bc)) else pure (.yield (none,na-1,nb,out.push p,mg,ac,bc))
def ic(a b:Array Keyed)(mg ac bc na nb:Nat)(out:Array Keyed):SM (ForInStep S3):=elem' a (na-1) >>= fun p=>lB true p b 0 nb (nb-1) >>= fun x=>match x with
 |some k=>if nb-k>0 then
   if (k == 1)=true then pure (.done (some (Qr a b (out++(b.extract k nb).reverse) na k),na,k,out++(b.extract k nb).reverse,mg,ac,nb-k))
   else if (k == 0)=true then pure (.done (some (DB a b (out++(b.extract k nb).reverse) na k),na,k,out++(b.extract k nb).reverse,mg,ac,nb-k))
   else To a b mg ac (nb-k) na k (out++(b.extract k nb).reverse)
  else To a b mg ac (nb-k) na nb out
 |_=>pure (.done (some (DB a b out na nb),na,nb,out,mg,ac,bc))
def kK(a b:Array Keyed)(mg ac bc na nb:Nat)(out:Array Keyed):SM (ForInStep S3):=elem' b (nb-1) >>= fun p =>
 if (nb-1 == 1)=true then pure (.done (some (Qr a b (out.push p) na (nb-1)),na,nb-1,out.push p,mg,ac,bc)) else ic a b mg ac bc na (nb-1) (out.push p)
def vw(a b:Array Keyed)(mg ac bc na nb:Nat)(out:Array Keyed):SM (ForInStep S3):=bV mg >>= fun _=>elem' b (nb-1) >>= fun p=>lB false p a 0 na (na-1) >>= fun x=>match x with
 |some k=>if na-k>0 then
   if (k == 0)=true then pure (.done (some (DB a b (out++(a.extract k na).reverse) k nb),k,nb,out++(a.extract k na).reverse,mg,na-k,bc))
   else kK a b mg (na-k) bc k nb (out++(a.extract k na).reverse)
  else kK a b mg (na-k) bc na nb out
 |_=>pure (.done (some (DB a b out na nb),na,nb,out,mg,ac,bc))
def Xe(a b:Array Keyed)(_:Nat)(s:S3):SM (ForInStep S3) :=
 if s.2.2.2.2.1>1 then vw a b (s.2.2.2.2.1-1) s.2.2.2.2.2.1 s.2.2.2.2.2.2 s.2.1 s.2.2.1 s.2.2.2.1 else vw a b s.2.2.2.2.1 s.2.2.2.2.2.1 s.2.2.2.2.2.2 s.2.1 s.2.2.1 s.2.2.2.1
def Xf(a b:Array Keyed)(mg ac na nb:Nat)(out:Array Keyed):SM (ForInStep S2):=elem' a (na-1) >>= fun p =>
 if (na-1 == 0)=true then pure (.done (some (DB a b (out.push p) (na-1) nb),na-1,nb,out.push p,ac+1,0))
 else if ac+1 >= mg then pure (.done (none,na-1,nb,out.push p,ac+1,0)) else pure (.yield (none,na-1,nb,out.push p,ac+1,0))
def Xg(a b:Array Keyed)(mg bc na nb:Nat)(out:Array Keyed):SM (ForInStep S2):=elem' b (nb-1) >>= fun p =>
 if (nb-1 == 1)=true then pure (.done (some (Qr a b (out.push p) na (nb-1)),na,nb-1,out.push p,0,bc+1))
 else if bc+1 >= mg then pure (.done (none,na,nb-1,out.push p,0,bc+1)) else pure (.yield (none,na,nb-1,out.push p,0,bc+1))
def Xh(a b:Array Keyed)(mg:Nat)(_:Nat)(s:S2):SM (ForInStep S2):=elem' b (s.2.2.1-1) >>= fun pb=>elem' a (s.2.1-1) >>= fun pa=>lt' pb pa >>= fun x=>match x with
 |some w=>if w=true then Xf a b mg s.2.2.2.2.1 s.2.1 s.2.2.1 s.2.2.2.1 else Xg a b mg s.2.2.2.2.2 s.2.1 s.2.2.1 s.2.2.2.1
 |_=>pure (.done (some (DB a b s.2.2.2.1 s.2.1 s.2.2.1),s.2.1,s.2.2.1,s.2.2.2.1,s.2.2.2.2.1,s.2.2.2.2.2))
def Xi (a b:Array Keyed) (mg:Nat) (t:S2):SM (ForInStep S1):=(liftM (rule "list.sort.gallop"):SM Unit) >>= fun _ =>
 forIn [:a.size+b.size] ((none,t.2.1,t.2.2.1,t.2.2.2.1,mg+1,t.2.2.2.2.1,t.2.2.2.2.2):S3) (Xe a b) >>= fun u=>match u.1 with
 |some r=>pure (.done (some r,u.2.1,u.2.2.1,u.2.2.2.1,u.2.2.2.2.1))
 |none=>bV (u.2.2.2.2.1+1) >>= fun _=>pure (.yield (none,u.2.1,u.2.2.1,u.2.2.2.1,u.2.2.2.2.1+1))
def Xj(a b:Array Keyed)(_:Nat)(s:S1):SM (ForInStep S1):=forIn [:a.size+b.size] ((none,s.2.1,s.2.2.1,s.2.2.2.1,0,0):S2) (Xh a b s.2.2.2.2) >>= fun t=>match t.1 with
 |some r=>pure (.done (some r,t.2.1,t.2.2.1,t.2.2.2.1,s.2.2.2.2))
 |none=>Xi a b s.2.2.2.2 t
def hiM (a b:Array Keyed):SM (Array Keyed):=(liftM (rule "list.sort.merge-hi"):SM Unit) >>= fun _=>elem' a (a.size-1) >>= fun y =>
 if (a.size-1 == 0)=true then pure (DB a b #[y] (a.size-1) b.size)
 else if (b.size == 1)=true then pure (Qr a b #[y] (a.size-1) b.size)
 else get >>= fun st=>forIn [:a.size+b.size] ((none,a.size-1,b.size,#[y],gallopOf st):S1) (Xj a b) >>= fun t=>match t.1 with
 |some r=>pure r
 |none=>(liftM (unsupported (α:=Array Keyed) "internal:list.sort.merge-bound"):SM (Array Keyed))
set_option smartUnfolding false in
theorem wG:uT=hiM:=rfl
section
variable {prog:Program}{w:World}{A:Around}{E:Value->Shared->Prop}{s:Shared}{κ:SortKind}{r:Value->Int}{P:Value->Prop}{a b out:Array Keyed}{mg ac bc na nb N:Nat}{st:SortSt}{Q:ForInStep S3->SortSt->Prop}
def HD(r:Value->Int)(a b:Array Keyed)(Q:ForInStep S3->SortSt->Prop)(st:SortSt):Prop:=∀ o rest,cP r a b o->Q (.done (some o,rest)) st
def HY(r:Value->Int)(a b:Array Keyed)(N:Nat)(Q:ForInStep S3->SortSt->Prop)(st:SortSt):Prop :=
 ∀ o na nb mg ac bc,MH r a b o na nb->1<=na->2<=nb->na+nb<=N->Q (.done (none,na,nb,o,mg,ac,bc)) st/\Q (.yield (none,na,nb,o,mg,ac,bc)) st
theorem Ck(c:MC prog w A s κ r P a b)(M:MH r a b out na nb)(h1:0<na)(lt:R r b (nb-1)<=R r a (na-1))(h2:2<=nb)(hN:na+nb<=N)(D:HD r a b Q st)(Y:HY r a b N Q st):wpS (model prog w) A E s (To a b mg ac bc na nb out) Q st:=by
 have ha:=M.ha
 refine wpS_bind (aL (by lia) fun p e=>?_)
 have M2:=M.sG c.hA c.hB h1 e fun _=>lt
 by_cases z:na-1=0
 ·rw[if_pos (by simpa using z)]
  exact wpS_pure (D _ _ (M2.IC c.hA c.hB z))
 ·rw[if_neg (by simpa using z)]
  have y:=Y _ _ _ mg ac bc M2 (by lia) h2 (by lia)
  split
  ·exact wpS_pure y.1
  ·exact wpS_pure y.2
theorem Ii(c:MC prog w A s κ r P a b)(hk:kindOf st=κ)(M:MH r a b out na nb)(h1:0<na)(h2:2<=nb)(hN:na+nb<=N)(D:HD r a b Q st)(Y:HY r a b N Q st):wpS (model prog w) A E s (ic a b mg ac bc na nb out) Q st:=by
 have ha:=M.ha
 have hb:=M.hb
 refine wpS_bind (aL (by lia) fun p e=>wpS_bind (dI c.C hk c.pb (c.pa.at e) (by lia) (by lia) (fun i j u v w=>c.hB i j u v (by lia)) fun l IE vk IG=>?_))
 have ra:=n9 (r:=r) e
 dsimp only
 have lt:0<l->R r b (l-1)<=R r a (na-1):=fun z=>by have:=Em (vk (l-1) (by exact D7 ‹_› D6));rw[tj] at this;lia
 by_cases l0:nb-l>0
 ·have M5:=MH.A4 c.hA c.hB (nb-l) (p:=l) M (by exact LS ‹_›) fun _ i kK ic=>by have:=vg (IG i kK ic);rw[tj] at this;lia
  rw[if_pos l0]
  by_cases z4:l=1
  ·rw[if_pos (by simpa using z4)]
   exact wpS_pure (D _ _ (M5.vf c.hA c.hB z4 c.hl))
  ·rw[if_neg (by simpa using z4)]
   by_cases z6:l=0
   ·rw[if_pos (by simpa using z6)]
    exact wpS_pure (D _ _ (M5.IB c.hA c.hB z6))
   ·rw[if_neg (by simpa using z6)]
    exact Ck c M5 h1 (lt (by lia)) (by lia) (by lia) D Y
 ·rw[if_neg l0]
  obtain rfl:l=nb:=by lia
  exact Ck c M h1 (lt (by exact RA ‹_›)) h2 hN D Y
theorem Dc(c:MC prog w A s κ r P a b)(hk:kindOf st=κ)(M:MH r a b out na nb)(h1:0<na)(h2:2<=nb)(lt:R r a (na-1)<=R r b (nb-1))(hN:na+nb<=N)(D:HD r a b Q st)(Y:HY r a b N Q st):wpS (model prog w) A E s (kK a b mg ac bc na nb out) Q st:=by
 have hb:=M.hb
 refine wpS_bind (aL (by lia) fun p e=>?_)
 have M4:=M.rB c.hA c.hB (by exact RA ‹_›) e fun _=>lt
 by_cases z:nb-1=1
 ·rw[if_pos (by simpa using z)]
  exact wpS_pure (D _ _ (M4.vf c.hA c.hB z c.hl))
 ·rw[if_neg (by simpa using z)]
  exact Ii c hk M4 h1 (by lia) (by lia) D Y
theorem Hg(c:MC prog w A s κ r P a b)(hk:kindOf st=κ)(M:MH r a b out na nb)(h1:0<na)(h2:2<=nb)(hN:na+nb<=N)(D:∀ ah,Mg st ah->HD r a b Q ah)(Y:∀ ah,Mg st ah->HY r a b N Q ah):wpS (model prog w) A E s (vw a b mg ac bc na nb out) Q st:=by
 have ha:=M.ha
 have hb:=M.hb
 have g:=(Mg.refl st).set mg
 refine wpS_bind (iD ?_)
 refine wpS_bind (aL (by lia) fun p e=>wpS_bind (dI c.C (g.kind.trans hk) c.pa (c.pb.at e) (by lia) (by exact D7 ‹_› D6) (fun i j u v w=>c.hA i j u v (by lia)) fun k Xd qk EZ=>?_))
 have rb:=n9 (r:=r) e
 dsimp only
 have lt:0<k->R r a (k-1)<=R r b (nb-1):=fun z=>by have:=Bu (qk (k-1) (by exact D7 ‹_› D6));rw[tj] at this;lia
 by_cases k0:na-k>0
 ·have M3:=MH.A3 c.hA c.hB (na-k) (p:=k) M (by exact LS ‹_›) fun _ i kK ic=>by have:=yS (EZ i kK ic);rw[tj] at this;lia
  rw[if_pos k0]
  by_cases z:k=0
  ·rw[if_pos (by simpa using z)]
   exact wpS_pure (D _ g _ _ (M3.IC c.hA c.hB z))
  ·rw[if_neg (by simpa using z)]
   exact Dc c (g.kind.trans hk) M3 (by lia) h2 (lt (by lia)) (by lia) (D _ g) (Y _ g)
 ·rw[if_neg k0]
  obtain rfl:k=na:=by lia
  exact Dc c (g.kind.trans hk) M h1 h2 (lt h1) hN (D _ g) (Y _ g)
def HI(r:Value->Int)(a b:Array Keyed)(N:Nat)(c:S2):Prop:=∃ na nb out ac bc,c=(none,na,nb,out,ac,bc)/\MH r a b out na nb/\1<=na/\2<=nb/\na+nb<=N
theorem IV{Q:ForInStep S2->SortSt->Prop}(c:MC prog w A s κ r P a b)(M:MH r a b out na nb)(h1:0<na)(lt:R r b (nb-1)<=R r a (na-1))(h2:2<=nb)(hN:na+nb<=N+1)(D:∀ c,HS r a b c->Q (.done c) st)(Y:∀ c,HI r a b N c->Q (.done c) st/\Q (.yield c) st):wpS (model prog w) A E s (Xf a b mg ac na nb out) Q st:=by
 have ha:=M.ha
 refine wpS_bind (aL (by lia) fun p e=>?_)
 have M2:=M.sG c.hA c.hB h1 e fun _=>lt
 by_cases z:na-1=0
 ·rw[if_pos (by simpa using z)]
  exact wpS_pure (D _ ⟨_,_,rfl,M2.IC c.hA c.hB z⟩)
 ·rw[if_neg (by simpa using z)]
  have y:=Y _ ⟨_,_,_,ac+1,0,rfl,M2,by lia,h2,by lia⟩
  split
  ·exact wpS_pure y.1
  ·exact wpS_pure y.2
theorem Hq{Q:ForInStep S2->SortSt->Prop}(c:MC prog w A s κ r P a b)(M:MH r a b out na nb)(h1:0<na)(lt:R r a (na-1)<=R r b (nb-1))(h2:2<=nb)(hN:na+nb<=N+1)(D:∀ c,HS r a b c->Q (.done c) st)(Y:∀ c,HI r a b N c->Q (.done c) st/\Q (.yield c) st):wpS (model prog w) A E s (Xg a b mg bc na nb out) Q st:=by
 have hb:=M.hb
 refine wpS_bind (aL (by lia) fun p e=>?_)
 have M2:=M.rB c.hA c.hB (by exact RA ‹_›) e fun _=>lt
 by_cases z:nb-1=1
 ·rw[if_pos (by simpa using z)]
  exact wpS_pure (D _ ⟨_,_,rfl,M2.vf c.hA c.hB z c.hl⟩)
 ·rw[if_neg (by simpa using z)]
  have y:=Y _ ⟨_,_,_,0,bc+1,rfl,M2,h1,by lia,by lia⟩
  split
  ·exact wpS_pure y.1
  ·exact wpS_pure y.2
theorem Hc{Q:ForInStep S2->SortSt->Prop}{x:Nat}(c:MC prog w A s κ r P a b)(hk:kindOf st=κ)(M:MH r a b out na nb)(h1:0<na)(h2:2<=nb)(hN:na+nb<=N+1)(D:∀ c,HS r a b c->Q (.done c) st)(Y:∀ c,HI r a b N c->Q (.done c) st/\Q (.yield c) st):wpS (model prog w) A E s (Xh a b mg x (none,na,nb,out,ac,bc)) Q st:=by
 have ha:=M.ha
 have hb:=M.hb
 refine wpS_bind (aL (show nb-1<b.size by lia) fun pb eb=>wpS_bind (aL (show na-1<a.size by lia) fun pa ea=>wpS_bind (rJ c.C hk (c.pb.at eb) (c.pa.at ea) ?_)))
 have rb:R r b (nb-1)=r pb.1:=n9 eb
 have ra:R r a (na-1)=r pa.1:=n9 ea
 dsimp only
 by_cases hw:r pb.1<r pa.1
 ·rw[if_pos (decide_eq_true hw)]
  exact IV c M h1 (by lia) h2 hN D Y
 ·rw[if_neg (by simpa using hw)]
  exact Hq c M h1 (by lia) h2 hN D Y
theorem Hx{Q:ForInStep S1->SortSt->Prop}(c:MC prog w A s κ r P a b)(hk:kindOf st=κ)(M:MH r a b out na nb)(h1:0<na)(h2:2<=nb)(hN:na+nb<=N)(D:∀ ah,Mg st ah->∀ c,HS r a b c->Q (.done c) ah)
  (Y:∀ ah,Mg st ah->∀ out na nb mg,MH r a b out na nb->1<=na->2<=nb->na+nb<=N->Q (.yield (none,na,nb,out,mg)) ah):wpS (model prog w) A E s (Xi a b mg (none,na,nb,out,ac,bc)) Q st:=by
 refine wpS_bind (wpS_lift (wpAny_rule ⟨rfl,?_⟩))
 refine wpS_bind (wpS_mono (wpS_forRange (I:=fun _ c ah=>Mg st ah/\∃ na nb out mg ac bc,c=(none,na,nb,out,mg,ac,bc)/\MH r a b out na nb/\1<=na/\2<=nb/\na+nb<=N)
  (Q:=fun c ah=>Mg st ah/\(HS r a b c\/∃ na nb out mg ac bc,c=(none,na,nb,out,mg,ac,bc)/\MH r a b out na nb/\1<=na/\2<=nb/\na+nb<=N)) ?step ?fin ⟨.refl st,_,_,_,_,_,_,rfl,M,h1,h2,hN⟩) ?post)
 case fin =>
  rintro c ah ⟨hm,q⟩
  exact⟨hm,.inr q⟩
 case step =>
  rintro y c1 A5 _ _ ⟨hm,na,nb,out,mg,ac,bc,rfl,M,h1,h2,hN⟩
  unfold Xe
  dsimp only
  split<;>exact Hg c (hm.kind.trans hk) M h1 h2 hN (fun ah g o rest hM=>⟨hm.trans g,.inl ⟨o,rest,rfl,hM⟩⟩) fun ah g o na nb mg ac bc M h1 h2 hN=>⟨⟨hm.trans g,.inr ⟨_,_,_,_,_,_,rfl,M,h1,h2,hN⟩⟩,hm.trans g,_,_,_,_,_,_,rfl,M,h1,h2,hN⟩
 case post =>
  rintro c ah ⟨hm,⟨o,rest,rfl,hM⟩|⟨na,nb,out,mg,ac,bc,rfl,M,h1,h2,hN⟩⟩
  ·exact wpS_pure (D _ hm _ ⟨_,_,rfl,hM⟩)
  ·exact wpS_bind (iD (wpS_pure (Y _ (hm.set _) _ _ _ _ M h1 h2 hN)))
theorem G3{Q:ForInStep S1->SortSt->Prop}{x:Nat}(c:MC prog w A s κ r P a b)(hk:kindOf st=κ)(M:MH r a b out na nb)(h1:0<na)(h2:2<=nb)(hN:na+nb<=N+1)(D:∀ ah,Mg st ah->∀ c,HS r a b c->Q (.done c) ah)
  (Y:∀ ah,Mg st ah->∀ out na nb mg,MH r a b out na nb->1<=na->2<=nb->na+nb<=N->Q (.yield (none,na,nb,out,mg)) ah):wpS (model prog w) A E s (Xj a b x (none,na,nb,out,mg)) Q st:=by
 have ha:=M.ha
 have hb:=M.hb
 refine wpS_bind (wpS_mono (wpS_forRange (I:=fun y c ah=>ah=st/\HI r a b (N+1-y) c) (Q:=fun c ah=>ah=st/\(HS r a b c\/HI r a b N c)) ?step ?fin ⟨rfl,_,_,_,_,_,rfl,M,h1,h2,hN⟩) ?post)
 case fin =>
  rintro c ah ⟨rfl,na',oa,o,ac,bc,rfl,M',q1,q2,q3⟩
  exact⟨rfl,.inr ⟨_,_,_,_,_,rfl,M',q1,q2,by lia⟩⟩
 case step =>
  rintro y c1 A5 _ hy ⟨rfl,na',oa,o,ac,bc,rfl,M',q1,q2,q3⟩
  exact Hc (N:=N-y) c hk M' q1 q2 (by lia) (fun c q=>⟨rfl,.inl q⟩) fun c q=>by
   obtain⟨na,nb,o,ac,bc,rfl,M,h1,h2,h3⟩:=q
   exact⟨⟨rfl,.inr ⟨_,_,_,_,_,rfl,M,h1,h2,by walk_at "s4"⟩⟩,rfl,_,_,_,_,_,rfl,M,h1,h2,by lia⟩
 case post =>
  rintro c1 ah ⟨rfl,⟨o,rest,rfl,hM⟩|⟨na,nb,o,ac,bc,rfl,M',q1,q2,q3⟩⟩
  ·exact wpS_pure (D _ (.refl _) _ ⟨_,_,rfl,hM⟩)
  ·exact Hx c hk M' q1 q2 q3 D Y
theorem uh{st:SortSt}{a b:Array Keyed}{Q:Array Keyed->SortSt->Prop}(C:mE prog w A s κ r P)(hk:kindOf st=κ)(Tj:AllP P a)(Tn:AllP P b)(hA:Up r a 0 a.size)(hB:Up r b 0 b.size)(na:1<=a.size)(nb:1<=b.size)
  (h0:R r b 0<=R r a 0) (hg:∀ j,j<b.size->R r b j<=R r a (a.size-1)) (h:∀ out ah,cP r a b out->Mg st ah->Q out ah):wpS (model prog w) A E s (uT a b) Q st:=by
 have c:MC prog w A s κ r P a b:=⟨C,Tj,Tn,hA,hB,fun i hi=>wm h0 (hA 0 i (bX _) (eK _) hi),hg⟩
 rw[wG]
 refine wpS_bind (wpS_lift (wpAny_rule ⟨rfl,?_⟩))
 refine wpS_bind (aL (by exact D7 ‹_› D6) fun y0 e0=>?_)
 have M1:MH r a b #[y0] (a.size-1) b.size:=MH.start.sG hA hB na e0 fun _=>hg _ (by exact D7 ‹_› D6)
 by_cases c1:a.size-1=0
 ·rw[if_pos (by simpa using c1)]
  exact wpS_pure (h _ _ (M1.IC hA hB c1) (.refl st))
 ·rw[if_neg (by simpa using c1)]
  by_cases c2:b.size=1
  ·rw[if_pos (by simpa using c2)]
   exact wpS_pure (h _ _ (M1.vf hA hB c2 c.hl) (.refl st))
  ·rw[if_neg (by simpa using c2)]
   refine wpS_bind (wpS_get ?_)
   refine wpS_bind (wpS_mono (wpS_forRange (I:=fun x c ah=>Mg st ah/\∃ na nb out mg,c=(none,na,nb,out,mg)/\MH r a b out na nb/\1<=na/\2<=nb/\na+nb<=a.size+b.size-x)
    (Q:=fun c ah=>Mg st ah/\HS r a b c) ?step ?fin ⟨.refl st,_,_,_,_,rfl,M1,by lia,by lia,by lia⟩) ?post)
   case fin =>
    rintro c ah ⟨_,na,nb,out,mg,rfl,M,h1,h2,h3⟩
    lia
   case post =>
    rintro c ah ⟨hm,out,rest,rfl,hM⟩
    exact wpS_pure (h out ah hM hm)
   case step =>
    rintro x c1 A5 _ hx ⟨tF,na,nb,out,mg,rfl,M,h1,h2,h3⟩
    exact G3 (N:=a.size+b.size-(x+1)) c (tF.kind.trans hk) M h1 h2 (by lia) (fun ah g c q=>⟨tF.trans g,q⟩) fun ah g out na nb mg M h1 h2 h3=>⟨tF.trans g,_,_,_,_,rfl,M,h1,h2,h3⟩
end
def wr(p:Nat)(m:List Keyed)(n:Nat)(xs:Array Keyed):Array Keyed:=(m.zipIdx n).foldl (fun a (q:Keyed × Nat)=>a.setIfInBounds (p+q.2) q.1) xs
theorem yR(p:Nat):∀ (m:List Keyed) (n:Nat) (xs:Array Keyed),p+n+m.length<=xs.size->∀ k:Nat,(wr p m n xs)[k]? = if p+n<=k/\k<p+n+m.length then m[k-(p+n)]? else xs[k]?
 |[],n,xs,h,k=>by
  rw[if_neg (by simp only[List.length_nil];lia)];rfl
 |q :: m,n,xs,h,k=>by
  have ih:=yR p m (n+1) (xs.setIfInBounds (p+n) q) (by rw[Array.size_setIfInBounds];simp only[oz] at h;lia) k
  have e:wr p (q :: m) n xs=wr p m (n+1) (xs.setIfInBounds (p+n) q):=by unfold wr;rw[List.zipIdx_cons,List.foldl_cons]
  simp only[oz] at h ⊢
  rw[e,ih]
  by_cases h1:p+(n+1)<=k/\k<p+(n+1)+m.length
  ·rw[if_pos h1,if_pos (by lia),show k-(p+n)=(k-(p+(n+1)))+1 by lia,List.getElem?_cons_succ]
  ·rw[if_neg h1]
   by_cases h2:k=p+n
   ·subst h2
    rw[if_pos (by walk_at "s4"),Nat.sub_self,Rq,Array.getElem?_setIfInBounds_self_of_lt (by lia)]
   ·rw[if_neg (by lia),Array.getElem?_setIfInBounds_ne (by walk_at "s1")]
theorem GF(h:p+m.length<=xs.size):(wr p m 0 xs).toList=xs.toList.take p++m++xs.toList.drop (p+m.length):=by
 have hl:xs.toList.length=xs.size:=by simp
 apply AH
 intro k
 have e:=yR p m 0 xs h k
 rw[GA] at e
 rw[ly,e]
 by_cases h1:k<p
 ·rw[if_neg (by lia),xo,DV (by rw[lh];lia),List.getElem?_take_of_lt h1,ly]
 ·by_cases h2:k<p+m.length
  ·rw[if_pos (by lia),xo,yA (by rw[lh];lia),lh,show min p xs.toList.length=p by lia,DV (by lia)]
  ·rw[if_neg (by lia),xo,yA (by rw[lh];lia),lh,show min p xs.toList.length=p by lia,yA (by lia),List.getElem?_drop,
    show p+m.length+(k-p-m.length)=k by lia,ly]
theorem Jk{p q:Nat}{xs:Array Keyed}(h:p<=q)(h2:q<=xs.size):xs.toList=xs.toList.take p++(xs.extract p q).toList++xs.toList.drop q:=by
 rw[RH,Rp]
 have e1:xs.toList.take p++(xs.toList.drop p).take (q-p)=xs.toList.take q:=by
  rw[<- Pa p (xs.toList.take q),List.take_take,List.drop_take,Nat.min_eq_left h]
 rw[e1,Pa]
theorem Eg{p q:Nat}{m:List Keyed}{xs:Array Keyed}(h:p<=q)(h2:q<=xs.size)(hm:m.Perm (xs.extract p q).toList):(wr p m 0 xs).Perm xs:=by
 have hl:m.length=q-p:=by rw[hm.length_eq];simp;lia
 rw[RG,GF (by lia),show p+m.length=q by lia]
 have e:=Jk (xs:=xs) h h2
 exact(List.Perm.append_right _ (List.Perm.append_left _ hm)).trans (by rw[<- e])
def Runs(r:Value->Int)(xs:Array Keyed):List (Nat × Nat × Nat)->Nat->Nat->Prop
 |[],a,b=>a=b
 | (s,n,_) :: rest,a,b=>s=a/\1<=n/\Up r xs s (s+n)/\Runs r xs rest (s+n) b
section
variable {r:Value->Int}{xs ys:Array Keyed}
theorem Runs.le:∀ {ps:List (Nat × Nat × Nat)} {a b:Nat},Runs r xs ps a b->a+ps.length<=b
 |[],a,b,h=>by simp only[Runs] at h;simp;lia
 | (s,n,p) :: rest,a,b,h=>by
  obtain⟨rfl,h1,_,h3⟩:=h
  have:=Runs.le h3
  simp only[oz];lia
theorem Runs.append:∀ {ps qs:List (Nat × Nat × Nat)} {a b:Nat},Runs r xs (ps++qs) a b↔∃ c,Runs r xs ps a c/\Runs r xs qs c b
 |[],qs,a,b=>by simp[Runs]
 | (s,n,p) :: rest,qs,a,b=>by
  simp only[Pj,Runs]
  constructor
  ·rintro⟨h1,h2,h3,h4⟩
   obtain⟨c,h5,h6⟩:=Runs.append.mp h4
   exact⟨c,⟨h1,h2,h3,h5⟩,h6⟩
  ·rintro⟨c,⟨h1,h2,h3,h5⟩,h6⟩
   exact⟨h1,h2,h3,Runs.append.mpr ⟨c,h5,h6⟩⟩
theorem Up.congr(h:Up r xs a b)(e:∀ k,a<=k->k<b->ys[k]? = xs[k]?):Up r ys a b:=fun i j h1 h2 h3=>by
 rw[dJ (e i h1 (by lia)),dJ (e j (by lia) h3)];exact h i j h1 h2 h3
theorem Runs.congr:∀ {ps:List (Nat × Nat × Nat)} {a b:Nat},Runs r xs ps a b->(∀ k,a<=k->k<b->ys[k]? = xs[k]?)->Runs r ys ps a b
 |[],a,b,h,_=>h
 | (s,n,p) :: rest,a,b,h,e=>by
  obtain⟨rfl,h1,h2,h3⟩:=h
  have l:=h3.le
  exact⟨rfl,h1,h2.congr fun k u v=>e k u (by lia),Runs.congr h3 fun k u v=>e k (by walk_at "s4") v⟩
theorem Up.glue(h1:Up r xs a b)(h2:Up r xs b c)(h:∀ i j,a<=i->i<b->b<=j->j<c->R r xs i<=R r xs j):Up r xs a c:=fun i j u v w=>by
 by_cases hj:j<b
 ·exact h1 i j u v hj
 ·by_cases hi:i<b
  ·exact h i j u hi (by lia) w
  ·exact h2 i j (by lia) v w
end
section
variable {prog:Program}{w:World}{A:Around}{E:Value->Shared->Prop}{s:Shared}{κ:SortKind}{r:Value->Int}{P:Value->Prop}
theorem AllP.extract(h:AllP P xs)(i j:Nat):AllP P (xs.extract i j):=fun p hp=>h p (by
 rw[RH,Rp] at hp
 exact FK (DZ hp))
theorem eV(h:i+k<j)(hj:j<=xs.size):R r (xs.extract i j) k=R r xs (i+k):=by
 apply dJ
 rw[Pz,if_pos (by lia)]
theorem Up.extract(h:Up r xs i j)(i5:i<=j)(hj:j<=xs.size):Up r (xs.extract i j) 0 (xs.extract i j).size:=fun a b _ h2 h3=>by
 have e:(xs.extract i j).size=j-i:=by simp only[D8];lia
 rw[e] at h3
 rw[eV (by lia) hj,eV (by lia) hj]
 exact h _ _ (by lia) (by lia) (by lia)
theorem zb(hz:sa+na+nb<=xs.size)(hk:k<na)(hnb:oa<=nb)(hA:Up r xs sa (sa+na))(hB:Up r xs (sa+na) (sa+na+nb))
  (lo1:∀ i,i<k->R r xs (sa+i)<=R r xs (sa+na)) (EX:R r xs (sa+na)<R r xs (sa+k)) (kK:∀ i,i<oa->R r xs (sa+na+i)<R r xs (sa+na-1)) (ic:∀ i,oa<=i->i<nb->R r xs (sa+na-1)<=R r xs (sa+na+i))
  (hm:cP r (xs.extract (sa+k) (sa+na)) (xs.extract (sa+na) (sa+na+oa)) m) :
  Up r (wr (sa+k) m.toList 0 xs) sa (sa+na+nb)/\(wr (sa+k) m.toList 0 xs).Perm xs/\∀ j,j<sa\/sa+na+nb<=j->(wr (sa+k) m.toList 0 xs)[j]? = xs[j]? := by
 obtain⟨mp,mu⟩:=hm
 have eab:(xs.extract (sa+k) (sa+na)).toList++(xs.extract (sa+na) (sa+na+oa)).toList=(xs.extract (sa+k) (sa+na+oa)).toList:=by
  rw[<- Array.toList_append,Array.extract_append_extract,show min (sa+k) (sa+na)=sa+k by lia,show max (sa+na) (sa+na+oa)=sa+na+oa by lia]
 rw[eab] at mp
 have ml:m.toList.length=na+oa-k:=by rw[mp.length_eq];simp;lia
 have hw:sa+k+m.toList.length<=xs.size:=by lia
 have get:=yR (sa+k) m.toList 0 xs (by lia)
 rw[GA,ml] at get
 -- every merged item is one of the hr'
 have mem:∀ (j:Nat) (p:Keyed),m.toList[j]? = some p->∃ i,sa+k<=i/\i<sa+na+oa/\r p.1=R r xs i:=fun j p e=>by
  have hp:p∈(xs.extract (sa+k) (sa+na+oa)).toList:=mp.mem_iff.mp (nL e)
  obtain⟨i,hi⟩:=List.getElem?_of_mem hp
  rw[ly,Pz] at hi
  split at hi
  ·exact⟨sa+k+i,by lia,by lia,(n9 hi).symm⟩
  ·cases hi
 have low:∀ i,sa+k<=i->i<sa+na+oa->R r xs (sa+na)<=R r xs i:=fun i h1 h2=>by
  by_cases h3:i<sa+na
  ·exact wm (AO EX) (hA (sa+k) i (by lia) h1 h3)
  ·exact hB (sa+na) i (bX _) (by lia) (by lia)
 have high:∀ i,sa+k<=i->i<sa+na+oa->R r xs i<=R r xs (sa+na-1):=fun i h1 h2=>by
  by_cases h3:i<sa+na
  ·exact hA i (sa+na-1) (by lia) (by lia) (by lia)
  ·have:=kK (i-(sa+na)) (by lia)
   rw[show sa+na+(i-(sa+na))=i by lia] at this
   lia
 have Xk:∀ j,j<na+oa-k->∃ i,sa+k<=i/\i<sa+na+oa/\R r (wr (sa+k) m.toList 0 xs) (sa+k+j)=R r xs i:=fun j hj=>by
  have e:=get (sa+k+j)
  rw[if_pos (by lia),show sa+k+j-(sa+k)=j by lia] at e
  have oq:j<m.toList.length:=by lia
  obtain⟨i,h1,h2,h3⟩:=mem j m.toList[j] (kS oq)
  rw[kS oq] at e
  exact⟨i,h1,h2,(n9 e).trans h3⟩
 have IH:∀ j,j<sa+k\/sa+na+oa<=j->(wr (sa+k) m.toList 0 xs)[j]? = xs[j]? := fun j hj=>by
  have e:=get j
  rw[if_neg (by lia)] at e
  exact e
 refine⟨?_,Eg (by lia) (by lia) mp,fun j hj=>IH j (by lia)⟩
 have U1:Up r (wr (sa+k) m.toList 0 xs) sa (sa+k):=Up.congr (xs:=xs) (fun i j h1 h2 h3=>hA i j h1 h2 (by lia)) fun j h1 h2=>IH j (.inl h2)
 have U2:Up r (wr (sa+k) m.toList 0 xs) (sa+k) (sa+na+oa):=fun i j h1 h2 h3=>by
  have ei:=get i
  have ej:=get j
  rw[if_pos (by lia)] at ei ej
  have li:i-(sa+k)<m.toList.length:=by lia
  have lj:j-(sa+k)<m.toList.length:=by lia
  rw[kS li] at ei
  rw[kS lj] at ej
  rw[n9 ei,n9 ej]
  by_cases i5:i=j
  ·subst i5;exact wo _
  ·exact(BO.mp mu) _ _ li lj (by lia)
 have U3:Up r (wr (sa+k) m.toList 0 xs) (sa+na+oa) (sa+na+nb):=Up.congr (xs:=xs) (fun i j h1 h2 h3=>hB i j (by lia) h2 h3) fun j h1 h2=>IH j (.inr h1)
 refine(U1.glue U2 fun i j h1 h2 h3 h4=>?_).glue U3 fun i j h1 h2 h3 h4=>?_
 ·obtain⟨q,q1,q2,q3⟩:=Xk (j-(sa+k)) (by lia)
  rw[show sa+k+(j-(sa+k))=j by lia] at q3
  rw[q3,dJ (IH i (.inl h2))]
  have:=lo1 (i-sa) (by lia)
  rw[show sa+(i-sa)=i by lia] at this
  exact wm this (low q q1 q2)
 ·have e2:=ic (j-(sa+na)) (by lia) (by lia)
  rw[show sa+na+(j-(sa+na))=j by lia] at e2
  rw[dJ (IH j (.inr h3))]
  by_cases hi:i<sa+k
  ·rw[dJ (IH i (.inl hi))]
   have:=lo1 (i-sa) (by lia)
   rw[show sa+(i-sa)=i by lia] at this
   have:=low (sa+na-1) (by lia) (by lia)
   lia
  ·obtain⟨q,q1,q2,q3⟩:=Xk (i-(sa+k)) (by lia)
   rw[show sa+k+(i-(sa+k))=i by lia] at q3
   rw[q3]
   exact wm (high q q1 q2) e2
structure St(r:Value->Int)(κ:SortKind)(eM:Array Keyed)(st:SortSt)(ps:List (Nat × Nat × Nat))(lo:Nat):Prop where
 kind:kindOf st=κ
 failed:failedOf st=none
 perm:(arrOf st).Perm eM
 pend:pendingOf st=ps.toArray
 runs:Runs r (arrOf st) ps 0 lo
theorem St.size{st:SortSt}{ps:List (Nat × Nat × Nat)}{lo:Nat}(h:St r κ eM st ps lo):(arrOf st).size=eM.size:=h.perm.size_eq
theorem BV{ps:List (Nat × Nat × Nat)}(h:i+1<ps.length):∃ pre x y post,ps=pre++x :: y :: post/\pre.length=i:=by
 refine⟨ps.take i,ps[i],ps[i+1],ps.drop (i+2),?_,by rw[lh];lia⟩
 rw[<- wd (by lia),<- wd (by lia),Pa]
theorem lQ{st:SortSt}{ps:List (Nat × Nat × Nat)}{lo i:Nat}(C:mE prog w A s κ r P)(hP:AllP P eM)(H:St r κ eM st ps lo)(CY:lo<=eM.size)(hi:i+1<ps.length)
  (h:∀ ah g0,St r κ eM ah g0 lo->g0.length+1=ps.length->g0≠[]->(∀ k,lo<=k->(arrOf ah)[k]? = (arrOf st)[k]?)->Q true ah):wpS (model prog w) A E s (mergeAt' i) Q st:=by
 obtain⟨pre,⟨sa,na,pa⟩,⟨sb,nb,pb⟩,post,rfl,CM⟩:=BV hi
 have hz:=H.size
 have qf:AllP P (arrOf st):=hP.perm H.perm
 obtain⟨c,Xl,Tp⟩:=Runs.append.mp H.runs
 obtain⟨rfl,n1,u1,rfl,n2,u2,Xm⟩:=Tp
 have le3:=Xm.le
 have le1:=Xl.le
 -- the new pending list
 have dJ':((pendingOf st).setIfInBounds i (sa,na+nb,pa)).eraseIdxIfInBounds (i+1)=(pre++(sa,na+nb,pa) :: post).toArray:=by
  rw[H.pend]
  apply PD.mp
  simp[<- CM,List.eraseIdx_append_of_length_le]
 have new:∀ (xs:Array Keyed) (g:Nat),xs.Perm (arrOf st)->(∀ j,j<sa\/sa+na+nb<=j->xs[j]? = (arrOf st)[j]?)->Up r xs sa (sa+(na+nb)) ->
   St r κ eM (SortSt.mk' (kindOf st) xs (pre++(sa,na+nb,pa) :: post).toArray g (failedOf st)) (pre++(sa,na+nb,pa) :: post) lo:=fun xs g hp ho hu =>
  ⟨H.kind,H.failed,hp.trans H.perm,rfl,Runs.append.mpr ⟨sa,Xl.congr fun k _ hk=>ho k (.inl hk),rfl,by lia,hu,by
   rw[show sa+(na+nb)=sa+na+nb by lia]
   exact Xm.congr fun k hk _=>ho k (.inr hk)⟩⟩
 have len:(pre++(sa,na+nb,pa) :: post).length+1=(pre++(sa,na,pa) :: (sa+na,nb,pb) :: post).length:=by simp;lia
 have e0:(pendingOf st)[i]? = some (sa,na,pa):=by rw[H.pend,<- CM];simp
 have e1:(pendingOf st)[i+1]? = some (sa+na,nb,pb):=by rw[H.pend,<- CM];simp
 refine wpS_bind (wpS_get ?_)
 rw[e0,e1]
 dsimp only
 refine wpS_bind (wpS_modify (f:=fun _=>SortSt.mk' (kindOf st) (arrOf st) (((pendingOf st).setIfInBounds i (sa,na+nb,pa)).eraseIdxIfInBounds (i+1)) (gallopOf st) (failedOf st)) ?_)
 rw[dJ']
 refine wpS_bind (aL (xs:=arrOf st) (by lia) fun kb Xn=>wpS_bind (dI (arr:=arrOf st) C H.kind qf (qf.at Xn) (by lia) (by lia) u1 fun k Xd qk EZ=>?_))
 have rkb:=n9 (r:=r) Xn
 dsimp only
 by_cases z:na-k=0
 ·rw[if_pos (by simpa using z)]
  refine wpS_pure (h _ _ (new (arrOf st) (gallopOf st) (Array.Perm.refl _) (fun _ _=>rfl) ?_) len (by simp) fun _ _=>rfl)
  rw[show sa+(na+nb)=sa+na+nb by lia]
  refine u1.glue u2 fun i j h1 h2 h3 h4=>?_
  have:=Bu (qk (i-sa) (by lia))
  rw[show sa+(i-sa)=i by lia] at this
  have:=u2 (sa+na) j (bX _) h3 h4
  lia
 ·rw[if_neg (by simpa using z)]
  refine wpS_bind (aL (xs:=arrOf st) (by lia) fun ka Xo=>wpS_bind (dI (arr:=arrOf st) C H.kind qf (qf.at Xo) (by lia) (by lia) u2 fun l IE vk IG=>?_))
  have rka:=n9 (r:=r) Xo
  rw[show sa+k+(na-k)-1=sa+na-1 by lia] at rka
  dsimp only
  by_cases z2:l=0
  ·rw[if_pos (by simpa using z2)]
   refine wpS_pure (h _ _ (new (arrOf st) (gallopOf st) (Array.Perm.refl _) (fun _ _=>rfl) ?_) len (by simp) fun _ _=>rfl)
   rw[show sa+(na+nb)=sa+na+nb by lia]
   refine u1.glue u2 fun i j h1 h2 h3 h4=>?_
   have:=vg (IG (j-(sa+na)) (by lia) (by lia))
   rw[show sa+na+(j-(sa+na))=j by lia] at this
   have:=u1 i (sa+na-1) h1 (by lia) (by lia)
   lia
  ·rw[if_neg (by simpa using z2)]
   have lo1:∀ i,i<k->R r (arrOf st) (sa+i)<=R r (arrOf st) (sa+na):=fun i hi=>by have:=Bu (qk i hi);lia
   have EX:R r (arrOf st) (sa+na)<R r (arrOf st) (sa+k):=by have:=yS (EZ k (bX _) (by lia));lia
   have kK:∀ i,i<l->R r (arrOf st) (sa+na+i)<R r (arrOf st) (sa+na-1):=fun i hi=>by have:=Em (vk i hi);lia
   have ic:∀ i,l<=i->i<nb->R r (arrOf st) (sa+na-1)<=R r (arrOf st) (sa+na+i):=fun i h1 h2=>by have:=vg (IG i h1 h2);lia
   have sx:((arrOf st).extract (sa+k) (sa+na)).size=na-k:=by simp only[D8];lia
   have sy:((arrOf st).extract (sa+na) (sa+na+l)).size=l:=by simp only[D8];lia
   have ux:Up r ((arrOf st).extract (sa+k) (sa+na)) 0 ((arrOf st).extract (sa+k) (sa+na)).size:=Up.extract (fun i j h1 h2 h3=>u1 i j (by lia) h2 h3) (by lia) (by lia)
   have uy:Up r ((arrOf st).extract (sa+na) (sa+na+l)) 0 ((arrOf st).extract (sa+na) (sa+na+l)).size:=Up.extract (fun i j h1 h2 h3=>u2 i j h1 h2 (by lia)) (by lia) (by lia)
   have Xp:R r ((arrOf st).extract (sa+na) (sa+na+l)) 0<=R r ((arrOf st).extract (sa+k) (sa+na)) 0:=by
    rw[eV (by lia) (by lia),eV (by lia) (by lia)]
    exact AO EX
   have Xq:∀ j,j<((arrOf st).extract (sa+na) (sa+na+l)).size->R r ((arrOf st).extract (sa+na) (sa+na+l)) j<=R r ((arrOf st).extract (sa+k) (sa+na)) (((arrOf st).extract (sa+k) (sa+na)).size-1):=fun j hj=>by
    rw[sx,eV (by lia) (by lia),eV (by lia) (by lia),show sa+k+(na-k-1)=sa+na-1 by lia]
    exact AO (kK j (by lia))
   have fin:∀ out ah,cP r ((arrOf st).extract (sa+k) (sa+na)) ((arrOf st).extract (sa+na) (sa+na+l)) out->Mg (SortSt.mk' (kindOf st) (arrOf st) (pre++(sa,na+nb,pa) :: post).toArray (gallopOf st) (failedOf st)) ah ->
     Q true (SortSt.mk' (kindOf ah) (wr (sa+k) out.toList 0 (arrOf ah)) (pendingOf ah) (gallopOf ah) (failedOf ah)):=fun out ah hm hg=>by
    obtain⟨g,rfl⟩:=hg
    obtain⟨m1,m2,m3⟩:=zb (by lia) (by lia) IE u1 u2 lo1 EX kK ic hm
    exact h _ _ (new _ g m2 m3 (by rw[show sa+(na+nb)=sa+na+nb by lia];exact m1)) len (by simp) fun k hk=>m3 k (.inr (by lia))
   have fin2:∀ out ah,cP r ((arrOf st).extract (sa+k) (sa+na)) ((arrOf st).extract (sa+na) (sa+na+l)) out->Mg (SortSt.mk' (kindOf st) (arrOf st) (pre++(sa,na+nb,pa) :: post).toArray (gallopOf st) (failedOf st)) ah ->
     failedOf ah=none:=fun out ah _ hg=>by
    obtain⟨g,rfl⟩:=hg
    exact H.failed
   by_cases z3:na-k<=l
   ·rw[if_pos z3]
    refine wpS_bind (ug (a:=(arrOf st).extract (sa+k) (sa+na)) (b:=(arrOf st).extract (sa+na) (sa+na+l)) C H.kind (qf.extract _ _) (qf.extract _ _) ux uy (by lia) (by lia) Xp Xq fun out ah hm hg=>?_)
    refine wpS_bind (wpS_modify (wpS_bind (wpS_get ?_)))
    have f:=fin out ah hm hg
    have f2:=fin2 out ah hm hg
    refine wpS_pure ?_
    show Q (failedOf ah).isNone _
    rw[f2]
    exact f
   ·rw[if_neg z3]
    refine wpS_bind (uh (a:=(arrOf st).extract (sa+k) (sa+na)) (b:=(arrOf st).extract (sa+na) (sa+na+l)) C H.kind (qf.extract _ _) (qf.extract _ _) ux uy (by lia) (by lia) Xp Xq fun out ah hm hg=>?_)
    refine wpS_bind (wpS_modify (wpS_bind (wpS_get ?_)))
    have f:=fin out ah hm hg
    have f2:=fin2 out ah hm hg
    refine wpS_pure ?_
    show Q (failedOf ah).isNone _
    rw[f2]
    exact f
theorem Runs.modify(hf:∀ x,(f x).1=x.1/\(f x).2.1=x.2.1):∀ {ps:List (Nat × Nat × Nat)} {i a b:Nat},Runs r xs ps a b->Runs r xs (ps.modify i f) a b
 |[],_,_,_,h=>by simpa using h
 | (s,n,p) :: rest,0,a,b,h=>by
  obtain⟨h1,h2⟩:=hf (s,n,p)
  rw[List.modify_zero_cons]
  have e:f (s,n,p)=(s,n,(f (s,n,p)).2.2):=Prod.ext h1 (Prod.ext h2 rfl)
  rw[e]
  exact h
 | (s,n,p) :: rest,i+1,a,b,h=>by
  rw[List.modify_succ_cons]
  obtain⟨h1,h2,h3,h4⟩:=h
  exact⟨h1,h2,h3,Runs.modify hf h4⟩
theorem St.win{st ah:SortSt}{ps:List (Nat × Nat × Nat)}{lo hi:Nat}(H:St r κ eM st ps lo)(hw:lT lo hi st ah):St r κ eM ah ps lo :=
 ⟨hw.kind.trans H.kind,hw.failed.trans H.failed,hw.perm.trans H.perm,hw.pend.trans H.pend,H.runs.congr fun k _ hk=>hw.out k (.inl hk)⟩
theorem wpS_sortRuns{st:SortSt}(C:mE prog w A s κ r P)(hk:kindOf st=κ)(hP:AllP P (arrOf st))(hp:pendingOf st = #[])(hf:failedOf st=none)
  (h:∀ ah,(arrOf ah).Perm (arrOf st)->failedOf ah=none->Up r (arrOf ah) 0 (arrOf st).size->Q () ah):wpS (model prog w) A E s sortRuns' Q st:=by
 rw[sortRuns'_eq]
 refine wpS_bind (wpS_get ?_)
 dsimp only
 generalize ha:arrOf st=eM at *
 have H0:St r κ eM st [] 0:=⟨hk,hf,by rw[ha],by rw[hp],rfl⟩
 refine wpS_bind (wpS_mono (wpS_forRange (I:=fun x c ah=>∃ ps lo,c=(none,lo)/\St r κ eM ah ps lo/\lo<=eM.size/\x<=lo)
  (Q:=fun c ah=>∃ ps,c=(none,eM.size)/\St r κ eM ah ps eM.size) ?step ?fin ⟨[],0,rfl,H0,eK _,bX _⟩) ?post)
 case fin =>
  rintro c ah ⟨ps,lo,rfl,H,h1,h2⟩
  have:lo=eM.size:=by lia
  subst this
  exact⟨ps,rfl,H⟩
 case post =>
  rintro c ah ⟨ps,rfl,H⟩
  dsimp only
  have l0:=H.runs.le
  refine wpS_bind (wpS_mono (wpS_forRange (I:=fun y c ah=>c=(none,())/\∃ g0,St r κ eM ah g0 eM.size/\g0.length+y<=eM.size)
   (Q:=fun c ah=>c=(none,())/\∃ g0,St r κ eM ah g0 eM.size/\g0.length<=1) ?dL' ?Qs ⟨rfl,ps,H,by lia⟩) ?dM')
  case Qs =>
   rintro c ah ⟨rfl,g0,H',hl⟩
   exact⟨rfl,g0,H',by lia⟩
  case dM' =>
   rintro c ah ⟨rfl,g0,H',hl⟩
   refine wpS_pure (h ah H'.perm H'.failed ?_)
   have q:=H'.runs
   match g0,hl,q with
   |[],_,q =>
    have q:0=eM.size:=q
    intro i j _ _ hj
    lia
   |[(s',n',p')],_,q =>
    obtain⟨rfl,_,hu,e⟩:=q
    have e:0+n'=eM.size:=e
    rw[<- e]
    exact hu
  case dL' =>
   rintro y c A5 _ hy ⟨rfl,g0,H',hl⟩
   refine wpS_bind (wpS_get ?_)
   have ep:(pendingOf A5).size=g0.length:=by rw[H'.pend];simp
   by_cases z:(pendingOf A5).size<=1
   ·rw[if_pos z]
    exact wpS_pure ⟨rfl,g0,H',by lia⟩
   ·rw[if_neg z]
    refine wpS_bind (lQ C hP H' (bX _) (by(repeat' split)<;>lia) fun wx ps2 H2 hlen _ _=>?_)
    rw[if_neg (by simp)]
    exact wpS_pure ⟨rfl,ps2,H2,by lia⟩
 case step =>
  rintro x c A5 _ hx ⟨ps,lo,rfl,H,h1,h2⟩
  dsimp only
  by_cases z:lo >= eM.size
  ·rw[if_pos z]
   have:lo=eM.size:=by lia
   subst this
   exact wpS_pure ⟨ps,rfl,H⟩
  ·rw[if_neg z]
   have hz:=H.size
   refine wpS_bind (wpS_countRun C H.kind (hP.perm H.perm) (by lia) (by lia) fun m wx hw tF sA hu=>?_)
   have H2:=H.win hw
   dsimp only
   refine Fg (K:=?K) ?pk fun key=>?main
   case main =>
    by_cases z2:m<minRun' eM.size eM.size 0
    ·rw[if_pos z2]
     refine wpS_bind (wpS_lift (wpAny_rule ⟨rfl,?_⟩))
     refine wpS_bind (wpS_binarySort C H2.kind (hP.perm H2.perm) (by clear key;have:=H2.size;lia) (by clear key;lia) hu fun w4 Xr Tq=>?_)
     have H3:=H2.win Xr
     rw[if_neg (by simp)]
     have b1:1<=min (eM.size-lo) (minRun' eM.size eM.size 0):=by clear key;lia
     have b2:lo+min (eM.size-lo) (minRun' eM.size eM.size 0)<=eM.size:=by clear key;lia
     clear Xr
     generalize min (eM.size-lo) (minRun' eM.size eM.size 0)=nn at *
     revert nn w4
     exact key
    ·rw[if_neg z2]
     exact key _ H2 _ hu tF (by lia)
   intro w4 H3 nn Tq b1 b2
   refine wpS_bind (wpS_get ?_)
   have push:∀ (ah:SortSt) (g0:List (Nat × Nat × Nat)),St r κ eM ah g0 lo->Up r (arrOf ah) lo (lo+nn)->∃ ps EL,((none:Option Unit),lo+nn)=(none,EL)/\St r κ eM (setPending ah ((pendingOf ah).push (lo,nn,0))) ps EL/\EL<=eM.size/\x+1<=EL:=fun ah g0 G u =>
    ⟨g0++[(lo,nn,0)],lo+nn,rfl,⟨G.kind,G.failed,G.perm,by show(pendingOf ah).push _=_;rw[G.pend];simp,Runs.append.mpr ⟨lo,G.runs,rfl,b1,u,rfl⟩⟩,b2,by lia⟩
   cases hb:(pendingOf w4).back? with
   |none =>
    dsimp only
    exact wpS_bind (wpS_modify (wpS_pure (push w4 ps H3 Tq)))
   |some t =>
    obtain⟨s1,n1,p1⟩:=t
    dsimp only
    generalize power' eM.size (2*s1+n1) (2*s1+n1+n1+nn) eM.size=pw
    refine wpS_bind (wpS_mono (wpS_forRange (I:=fun y c ah=>c=(none,())/\∃ g0,St r κ eM ah g0 lo/\Up r (arrOf ah) lo (lo+nn))
     (Q:=fun c ah=>c=(none,())/\∃ g0,St r κ eM ah g0 lo/\Up r (arrOf ah) lo (lo+nn)) ?_ (fun _ _ q=>q) ⟨rfl,ps,H3,Tq⟩) ?_)
    ·rintro y c vv _ hy ⟨rfl,g0,H4,NH⟩
     refine wpS_bind (wpS_get ?_)
     have ep:(pendingOf vv).size=g0.length:=by rw[H4.pend];simp
     by_cases z3:(pendingOf vv).size>1
     ·rw[if_pos z3]
      have e4:(pendingOf vv)[(pendingOf vv).size-2]? = some ((pendingOf vv)[(pendingOf vv).size-2]'(by lia)):=getElem?_pos _ _ (by lia)
      rw[e4]
      generalize (pendingOf vv)[(pendingOf vv).size-2]'(by lia)=tt
      obtain⟨t1,t2,dN'⟩:=tt
      dsimp only
      by_cases z4:dN'<=pw
      ·rw[if_pos z4]
       exact wpS_pure ⟨rfl,g0,H4,NH⟩
      ·rw[if_neg z4]
       refine wpS_bind (lQ C hP H4 h1 (by lia) fun EB ps5 H5 hlen _ mG=>?_)
       rw[if_neg (by simp)]
       exact wpS_pure ⟨rfl,ps5,H5,NH.congr fun k hk _=>mG k hk⟩
     ·rw[if_neg z3]
      exact wpS_pure ⟨rfl,g0,H4,NH⟩
    ·rintro c vv ⟨rfl,g0,H4,NH⟩
     dsimp only
     refine wpS_bind (wpS_modify (wpS_bind (wpS_modify (wpS_pure ?_))))
     refine push _ (g0.modify (g0.length-1) fun x=>(x.1,x.2.1,pw)) ⟨H4.kind,H4.failed,H4.perm,?_,Runs.modify (f:=fun x=>(x.1,x.2.1,pw)) (fun _=>⟨rfl,rfl⟩) H4.runs⟩ NH
     show(pendingOf vv).modify ((pendingOf vv).size-1) (fun x=>(x.1,x.2.1,pw))=_
     rw[H4.pend]
     simp
def dU (h:Heap) (a:Addr) (vs:List Value):Heap:=((h.update a (Obj.mapSeq fun _=>#[])).push (seqObj "tuple" vs.toArray 0)).push (seqObj "list" #[] 0)
theorem ie(hb:b≠a)(df:b<h.objs.size):(dU h a vs).get? b=h.get? b:=by
 unfold dU
 rw[FU _ _ _ (by rw[size_push',FV];exact fo (ui df)),
  FU _ _ _ (by rw[FV];exact fo df),Heap.get?_update_ne _ _ _ _ hb]
theorem sX(hp:xs.Perm (pairsOf vs))(hs:Up r xs 0 vs.length):(xs.map (·.2)).toList.Perm vs/\(xs.map (·.2)).toList.Pairwise fun x y=>r x<=r y:=by
 have hl:xs.toList.Perm (vs.zip vs):=by rw[<- pairsOf_toList];exact RG.mp hp
 have NJ:∀ p,p∈xs.toList->p.1=p.2:=fun p g7=>(mem_zip_self (hl.mem_iff.mp g7)).1
 have e:(xs.map (·.2)).toList=xs.toList.map (·.1):=by
  rw[Array.toList_map];exact FL fun p g7=>(NJ p g7).symm
 have hsz:xs.size=vs.length:=by rw[hp.size_eq,pairsOf_size]
 rw[e]
 refine⟨?_,?_⟩
 ·have h1:=hl.map (·.1)
  rwa[D2 (bX _)] at h1
 ·rw[BO]
  intro i j hi hj i5
  have hX:i<xs.size:=by simpa using hi
  have oq:j<xs.size:=by simpa using hj
  have h1:=hs i j (eK _) (ll i5) (by lia)
  rw[Jd hX,Jd oq] at h1
  simpa using h1
theorem fX {F:PySem.Fin->Shared->Prop} (ho:s.heap.get? a=some (seqObj "list" vs.toArray n)) (hsz:vs.length<=sizeLine) (hP:∀ v∈vs,P v)
  (hk:2<=vs.length->∀ (Q:SortKind->Shared->Prop),Q κ { s with heap:=dU s.heap a vs }->wpAny (model prog w) A (keyKind' vs.toArray) Q E { s with heap:=dU s.heap a vs })
  (C:2<=vs.length->mE prog w A { s with heap:=dU s.heap a vs } κ r P)
  (h:∀ out:Array Value,out.toList.Perm vs->(out.toList.Pairwise fun x y=>r x<=r y)->F (.done (.ret .none)) { s with heap:=sortedHeap s.heap a vs out }) :
  wpAny (model prog w) A (Builtin.«list.sort» ⟨[.ref a],[]⟩) F E s:=by
 rw[list_sort_plain]
 have ha:a<s.heap.objs.size:=dQ ho
 refine ai (listItems_at ho rfl ?_)
 refine ai (listUpdate_at ho rfl ?_ (by simpa using hsz) (eK _))
 obtain⟨e1,zv⟩:∃ e1,(s.heap.update a (Obj.mapSeq fun _=>#[])).get? a=some (seqObj "list" #[] e1):=⟨_,get?_update_seq ho (fun _=>#[])⟩
 refine ai (seqEpoch_at zv rfl ?_)
 refine ai (wpAny_newTuple ?_ (by simpa using hsz))
 refine ai (wpAny_newList ?_ (eK _))
 refine wpAny_holding ?_
 have Qt:(dU s.heap a vs).get? a=some (seqObj "list" #[] e1):=by
  unfold dU
  rw[FU _ _ _ (by rw[size_push',FV];exact fo (ui ha)),FU _ _ _ (by rw[FV];exact fo ha)]
  exact zv
 show wpAny (model prog w) A _ F E { s with heap:=dU s.heap a vs }
 dsimp only
 have hvz:vs.toArray.size=vs.length:=by simp
 have fin:∀ ah:SortSt,(arrOf ah).Perm (pairsOf vs)->Up r (arrOf ah) 0 vs.length->F (.done (.ret .none)) { s with heap:=sortedHeap s.heap a vs ((arrOf ah).map (·.2)) }:=by
  intro ah hp hs
  obtain⟨h1,h2⟩:=sX hp hs
  exact h _ h1 h2
 by_cases h2:vs.toArray.size<2
 ·rw[if_pos h2,if_pos h2]
  refine ai (aS ?_)
  rw[StateT.run_pure]
  refine ai (aS ?_)
  dsimp only
  refine ai (seqEpoch_at Qt rfl ?_)
  refine ai (listUpdate_at Qt rfl ?_ (eK _) (by rw[Array.size_map];show(pairsOf vs).size<=_;rw[pairsOf_size];lia))
  simp only[bne_self_eq_false,gE,if_false]
  refine aS (fin (SortSt.mk' general' (vs.toArray.zip vs.toArray) #[] 7 none) (Array.Perm.refl _) ?_)
  intro i j _ i5 hj
  have:i=j:=by lia
  subst this;exact wo _
 ·rw[if_neg h2,if_neg h2]
  refine ai (hk (by lia) _ ?_)
  refine ai (sP (wpS_sortRuns (st:=SortSt.mk' κ (vs.toArray.zip vs.toArray) #[] 7 none)
   (Q:=fun _ ah=>(arrOf ah).Perm (pairsOf vs)/\failedOf ah=none/\Up r (arrOf ah) 0 vs.length)
   (C (by lia)) rfl (fun p hp=>?_) rfl rfl fun ah a1 a2 a3=>⟨a1,a2,?_⟩) ?_ fun _ _ e=>e)
  ·have g7:p∈(pairsOf vs).toList:=hp
   rw[pairsOf_toList] at g7
   exact hP _ (mem_zip_self g7).2
  ·have e:(arrOf (SortSt.mk' κ (vs.toArray.zip vs.toArray) #[] 7 none)).size=vs.length:=pairsOf_size vs
   rw[e] at a3
   exact a3
  ·rintro⟨⟨⟩,ah⟩ s' ⟨rfl,hp,hf,hs⟩
   dsimp only
   refine ai (seqEpoch_at Qt rfl ?_)
   refine ai (listUpdate_at Qt rfl ?_ (eK _) (by refine iO (B1 ((Array.size_map ..).trans (hp.size_eq.trans (pairsOf_size _)))) ?_;lia))
   rw[hf]
   simp only[bne_self_eq_false,gE,if_false]
   exact aS (fin ah hp hs)
def ir (h:Heap) (vs:List Value):Heap:=((h.push (seqObj "list" #[] 0)).update h.objs.size (Obj.mapSeq (· ++ vs.toArray))).push (seqObj "list" vs.toArray 0)
theorem mK(hb:h.get? b=some o):(dU (ir h vs) (h.objs.size+1) vs).get? b=some o:=by
 have df:b<h.objs.size:=dQ hb
 have e:(ir h vs).get? b=some o:=by
  unfold ir
  rw[FU _ _ _ (by rw[FV,size_push'];exact fo (ui df)),Heap.get?_update_ne _ _ _ _ (fo df),FU _ _ _ (fo df)]
  exact hb
 rw[ie (fo (ui df)) (dQ e)]
 exact e
theorem zL(hl:s.heap.IsList l vs.toArray)(hsz:vs.length<=sizeLine)(hP:∀ v∈vs,P v)
  (hk:2<=vs.length->∀ (A':Around) (E':Value->Shared->Prop) (s':Shared),(∀ b o,s.heap.get? b=some o->s'.heap.get? b=some o)->∀ (Q:SortKind->Shared->Prop),Q κ s'->wpAny (model prog w) A' (keyKind' vs.toArray) Q E' s')
  (C:2<=vs.length->∀ (s':Shared),(∀ b o,s.heap.get? b=some o->s'.heap.get? b=some o)->mE prog w A.in1.in1 s' κ r P)
  (h:∀ (h':Heap) (out:List Value) (n:Nat),out.Perm vs->(out.Pairwise fun x y=>r x<=r y)->(∀ b o,s.heap.get? b=some o->h'.get? b=some o)->h'.get? (s.heap.objs.size+1)=some (seqObj "list" out.toArray n)->Q (.ref (s.heap.objs.size+1)) { s with heap:=h' }) :
  wpAny (model prog w) A (call (.builtin "sorted") [.ref l]) Q E s:=by
 refine Calls.call_function_entry kind_sorted plain_sorted entry_sorted (args_sorted1 _) ?_
 unfold Builtin.«sorted»
 refine ai (m:=checkCount "sorted" 1 1 _) (aS ?_)
 refine ai (collect_list hl ?_ hsz)
 refine ai (wpAny_newList ?_ (by simpa using hsz))
 have Xu:((s.heap.push (seqObj "list" #[] 0)).update s.heap.objs.size (Obj.mapSeq (· ++ vs.toArray))).objs.size=s.heap.objs.size+1:=by
  rw[FV,size_push']
 have wt:(ir s.heap vs).get? (s.heap.objs.size+1)=some (seqObj "list" vs.toArray 0):=by
  unfold ir
  rw[<- Xu];exact jv _ rfl
 show wpAny _ _ _ _ _ { s with heap:=ir s.heap vs }
 rw[Xu]
 refine ai (wpAny_holding (wpAny_call_entry slot_list_sort ⟨_,wt,rfl⟩ entry_list_sort (fX (r:=r) (s:={ s with heap:=ir s.heap vs }) wt hsz hP
  (fun h2=>hk h2 _ _ _ fun b o e=>mK e) (fun h2=>?_) fun out a1 a2=>⟨_,rfl,?_⟩) (args_list_sort _)))
 ·exact C h2 _ fun b o e=>mK e
 ·obtain⟨n,e⟩:=sortedAll_at s.heap vs out
  refine aS ⟨_,rfl,h (sortedAll s.heap vs out) out.toList n a1 a2 (fun b o e=>sortedAll_old e) (by rw[PB];exact e)⟩
end
end x6
namespace L2
open PySem PySem.Spec PyProof.Rows
def vE:Key->Key->Bool
 |.inl i,.inl j=>decide (i<j)
 |.inr x,.inr y=>qc x y
 |_,_=>false
def fF:List Key->List Key->Bool
 |a :: as,b :: bs=>if a=b then fF as bs else vE a b
 |_,_=>false
def zC:Key->Bool
 |.inl _=>true
 |.inr _=>false
def gL(k:List Key):List Bool:=k.map zC
theorem xQ(x:Str):qc x x=false:=by unfold qc;simp[List.lt_irrefl]
theorem Cp(h:qc x y=true)(g:qc y z=true):qc x z=true:=by
 unfold qc at *
 simp only[decide_eq_true_eq] at *
 exact List.lt_trans h g
theorem y_{x y:Str}(h:x.cps.toList=y.cps.toList):x=y:=by
 cases x;cases y
 simp only at h
 rw[PD.mp h]
theorem zq{x y:Str}(h:qc x y=false)(g:qc y x=false):x=y:=by
 unfold qc at *
 simp only[decide_eq_false_iff_not] at *
 apply y_
 exact List.le_antisymm (List.not_lt.mp g) (List.not_lt.mp h)
theorem Eh(a:Key):vE a a=false:=by cases a with|inl i=>simp[vE]|inr x=>exact xQ x
theorem G_(h:vE a b=true)(g:vE b c=true):vE a c=true:=by
 cases a<;>cases b<;>cases c<;>simp only[vE,decide_eq_true_eq] at *<;>first|lia|contradiction|exact Cp h g
theorem Fb(e:zC a=zC b)(h:vE a b=false)(g:vE b a=false):a=b:=by
 cases a<;>cases b<;>simp only[vE,zC,decide_eq_false_iff_not] at *
 ·congr 1;lia
 ·cases e
 ·cases e
 ·congr 1;exact zq h g
theorem pF:∀ a:List Key,fF a a=false
 |[]=>rfl
 |a :: as=>by unfold fF;rw[if_pos rfl];exact pF as
theorem rH:∀ {a b c:List Key},fF a b=true->fF b c=true->fF a c=true
 |[],_,_,h,_=>by simp[fF] at h
 |_ :: _,[],_,h,_=>by simp[fF] at h
 |_ :: _,_ :: _,[],_,g=>by simp[fF] at g
 |a :: as,b :: bs,c :: cs,h,g=>by
  unfold fF at h g ⊢
  by_cases e1:a=b
  ·subst e1
   rw[if_pos rfl] at h
   by_cases e2:a=c
   ·subst e2
    rw[if_pos rfl] at g ⊢
    exact rH h g
   ·rw[if_neg e2] at g ⊢
    exact g
  ·rw[if_neg e1] at h
   by_cases e2:b=c
   ·subst e2
    rw[if_neg e1]
    exact h
   ·rw[if_neg e2] at g
    have t:=G_ h g
    have ne:a≠c:=fun e=>by subst e;rw[Eh] at t;cases t
    rw[if_neg ne]
    exact t
theorem lg:∀ {a b:List Key},gL a=gL b->fF a b=false->fF b a=false->a=b
 |[],[],_,_,_=>rfl
 |[],_ :: _,e,_,_=>by simp[gL] at e
 |_ :: _,[],e,_,_=>by simp[gL] at e
 |a :: as,b :: bs,e,h,g=>by
  simp only[gL,fN,List.cons.injEq] at e
  unfold fF at h g
  by_cases e1:a=b
  ·subst e1
   rw[if_pos rfl] at h g
   rw[lg (show gL as=gL bs from e.2) h g]
  ·rw[if_neg e1] at h
   rw[if_neg (Ne.symm e1)] at g
   exact absurd (Fb e.1 h g) e1
theorem count_le(p q:α->Bool):∀ (l:List α),(∀ x∈l,p x=true->q x=true)->l.countP p<=l.countP q
 |[],_=>bX _
 |x :: l,h=>by
  have ih:=count_le p q l fun y hy=>h y (b9 _ hy)
  have h1:=h x b6
  rw[Pk,Pk]
  cases hp:p x<;>cases hq:q x<;>simp_all<;>lia
theorem qj(p q:α->Bool)(a:α)(ha:p a=false)(hb:q a=true):∀ (l:List α),a∈l->(∀ x∈l,p x=true->q x=true)->l.countP p<l.countP q
 |[],m,_=>by cases m
 |x :: l,m,h=>by
  rw[Pk,Pk]
  rcases dv.mp m with rfl|m
  ·have:=count_le p q l fun y hy=>h y (b9 _ hy)
   rw[ha,hb];simp;lia
  ·have ih:=qj p q a ha hb l m fun y hy=>h y (b9 _ hy)
   have h1:=h x b6
   cases hp:p x<;>cases hq:q x<;>simp_all<;>lia
def II(L:List (List Key))(k:List Key):Int:=(L.countP fun j=>fF j k:Nat)
theorem yw(e:gL a=gL b)(ma:a∈L):decide (II L a<II L b)=fF a b:=by
 unfold II
 cases h:fF a b with
 |true =>
  have:=qj (fun j=>fF j a) (fun j=>fF j b) a (pF a) h L ma fun x _ hx=>rH hx h
  exact decide_eq_true (by lia)
 |false =>
  apply decide_eq_false
  cases g:fF b a with
  |false=>rw[lg e h g];lia
  |true =>
   have:=count_le (fun j=>fF j b) (fun j=>fF j a) L fun x _ hx=>rH hx g
   lia
def Tr:V->Option Key
 |.int i=>some (.inl i)
 |.str x=>some (.inr x)
 |_=>none
theorem JH(k:Key):Tr (kV k)=some k:=by cases k<;>rfl
theorem CP:∀ k:List Key,(k.map kV).filterMap Tr=k
 |[]=>rfl
 |a :: as=>by rw[fN,LH,JH,CP as]
def nG(H:Hp):Value->List Key
 |.ref b=>match H b with
  |some (.tup xs)=>xs.filterMap Tr
  |_=>[]
 |_=>[]
theorem dh(h:H b=some (.tup (k.map kV))):nG H (.ref b)=k:=by
 simp only[nG,h];exact CP k
section
variable {prog:Program}{w:World}{A:Around}{E:Value->Shared->Prop}{s:Shared}{Q:Bool->Shared->Prop}
theorem Hk(ru:RelV (kV a) u)(rv:RelV (kV b) v)(e:zC a=zC b)(q:Q (vE a b) s):wpAny (model prog w) A (oneLt' false u v) Q E s:=by
 refine PySem.W.kat_one u v ?_
 cases a with
 |inl i =>
  cases b with
  |inr x=>cases e
  |inl j =>
   obtain⟨t,rfl⟩:=ru
   obtain⟨t',rfl⟩:=rv
   exact lt_int q
 |inr x =>
  cases b with
  |inl j=>cases e
  |inr y =>
   obtain⟨t,rfl⟩:=ru
   obtain⟨t',rfl⟩:=rv
   exact PySem.P.lt_str q
theorem Hl(ru:RelV (kV a) u)(rv:RelV (kV b) v)(e:zC a=zC b)(q:Q (decide (a=b)) s):wpAny (model prog w) A (eqBool u v) Q E s:=by
 cases a with
 |inl i =>
  cases b with
  |inr x=>cases e
  |inl j =>
   obtain⟨t,rfl⟩:=ru
   obtain⟨t',rfl⟩:=rv
   refine wpAny_eqBool_int ?_
   rw[<- Vv];exact q
 |inr x =>
  cases b with
  |inl j=>cases e
  |inr y =>
   obtain⟨t,rfl⟩:=ru
   obtain⟨t',rfl⟩:=rv
   refine wpAny_eqBool_str ?_
   rw[<- Vw];exact q
theorem Bd(k m:List Key)(us vs:List Value)(i:Nat)(ha:Vals (k.map kV) us)(hb:Vals (m.map kV) vs)(e:gL k=gL m)(hf:fin=false)(q:Q (fF k m) s) :
  PySem.W.KatLex prog w A true fin Q (us.zip vs) i s:=by
 induction k generalizing m us vs i with
 |nil =>
  cases m with
  |cons b m=>simp[gL] at e
  |nil =>
   rw[Paired.n0 ha,Paired.n0 hb]
   subst hf
   exact PySem.W.kat_nil q
 |cons a k ih =>
  cases m with
  |nil=>simp[gL] at e
  |cons b m =>
   obtain⟨u,us,rfl,ra,rk⟩:=Paired.c ha
   obtain⟨v,vs,rfl,rb,rm⟩:=Paired.c hb
   simp only[gL,fN,List.cons.injEq] at e
   rw[xl]
   refine PySem.W.kat_cons (Hl ra rb e.1 (PySem.W.kat_go (fun h=>PySem.W.kat_yes ?_) (fun h=>PySem.W.kat_no ?_)))
   ·have h:=of_decide_eq_true h
    subst h
    unfold fF at q
    rw[if_pos rfl] at q
    exact ih m _ _ (i+1) rk rm e.2 q
   ·have h:=of_decide_eq_false h
    unfold fF at q
    rw[if_neg h] at q
    by_cases h0:i=0
    ·subst h0
     cases a with
     |inr x =>
      cases b with
      |inl j=>cases e.1
      |inr y =>
       obtain⟨t,rfl⟩:=ra
       obtain⟨t',rfl⟩:=rb
       exact oneLt_str q
     |inl i =>
      cases b with
      |inr x=>cases e.1
      |inl j =>
       obtain⟨t,rfl⟩:=ra
       obtain⟨t',rfl⟩:=rb
       exact oneLt_int q
    ·rw[show(true && i == 0)=false by simp[h0]]
     exact Hk ra rb e.1 q
end
section
variable {X:Cx}{pins:List (Addr × Obj)}{σ:St}{H:Hp}{s:Shared}
theorem Inv.tup(I:Inv X pins σ H s)(h:H b=some (.tup xs)):∃ its:List Value,Vals xs its/\IsTup s.heap b its.toArray:=(I.bq b _ h).2
theorem uD(I:Inv X pins σ H s)(kp:∀ b o,s.heap.get? b=some o->s'.heap.get? b=some o) :
  x6.mE X.prog X.w A s' (tuples' true) (fun v=>II L (nG H v)) (fun v=>∃ b k,v=.ref b/\H b=some (.tup (k.map kV))/\gL k=b0 :: sh/\k∈L):=by
 rintro x y ⟨b,k,rfl,hb,hk,mk⟩ ⟨c,m,rfl,hc,hm,mm⟩ Q E q
 obtain⟨us,ru,o,e1,c1,n1,d1⟩:=I.tup hb
 obtain⟨vs,rv,o',e2,c2,n2,d2⟩:=I.tup hc
 have Ts:gL k=gL m:=hk.trans hm.symm
 simp only[dh hb,dh hc] at q
 rw[yw Ts mk] at q
 refine PySem.W.kat_lt (kp _ _ e1) d1 (kp _ _ e2) d2 (Bd k m us vs 0 ru rv Ts ?_ q)
 ·have h1:=ru.length
  have h2:=rv.length
  have h3:k.length=m.length:=by
   have:=congrArg List.length Ts
   simpa[gL] using this
  simp only[b4] at h1 h2
  exact decide_eq_false (by simp only[hG];lia)
theorem kat_tups(I:Inv X pins σ H s){s':Shared}(kp:∀ b o,s.heap.get? b=some o->s'.heap.get? b=some o){b0:Bool}{sh:List Bool}{ys:List V}{ks:List (List Key)}{vs:List Value}(ht:cM H ys ks)(hv:Vals ys vs)(hs:∀ k∈ks,gL k=b0 :: sh) :
  ∃ fs:List Value,PySem.W.KatTups s'.heap vs fs/\fs.length=vs.length/\∀ f∈fs,(b0=true->∃ i t,f=Value.int i t)/\(b0=false->∃ x t,f=Value.str x t):=by
 induction ys generalizing ks vs with
 |nil =>
  rw[Paired.n0 hv]
  exact⟨[],.nil,rfl,by simp⟩
 |cons y ys ih =>
  obtain⟨k,ks,rfl,⟨b,rfl,hb⟩,t⟩:=Paired.c ht
  obtain⟨v,vs,rfl,rfl,rs⟩:=Paired.c hv
  obtain⟨fs,f1,f2,f3⟩:=ih t rs fun j hj=>hs j (b9 _ hj)
  have hk:=hs k b6
  obtain⟨us,ru,o,e1,c1,n1,d1⟩:=I.tup hb
  cases k with
  |nil=>simp[gL] at hk
  |cons a k =>
   obtain⟨u,us,rfl,ra,rr⟩:=Paired.c ru
   simp only[gL,fN,List.cons.injEq] at hk
   refine⟨u :: fs,.cons (kp _ _ e1) c1 d1 rfl f1,by simp[f2],fun f hf=>?_⟩
   rcases dv.mp hf with rfl|hf
   ·cases a with
    |inr x =>
     obtain⟨tk,rfl⟩:=ra
     exact⟨(fun z=>by rw[<- hk.1] at z;cases z),fun _=>⟨_,_,rfl⟩⟩
    |inl i =>
     obtain⟨tk,rfl⟩:=ra
     exact⟨fun _=>⟨_,_,rfl⟩,fun z=>by rw[<- hk.1] at z;cases z⟩
   ·exact f3 f hf
end
theorem cM.keys(h:cM H ys ks)(hv:Vals ys vs):vs.map (nG H)=ks/\∀ v∈vs,∃ b k,v=.ref b/\H b=some (.tup (k.map kV))/\k∈ks:=by
 induction ys generalizing ks vs with
 |nil=>rw[Paired.n0 hv,show ks=[] from Paired.n0 h];exact⟨rfl,by simp⟩
 |cons y ys ih =>
  obtain⟨k,ks,rfl,⟨b,rfl,g⟩,t⟩:=Paired.c h
  obtain⟨v,vs,rfl,rfl,rs⟩:=Paired.c hv
  obtain⟨e,m⟩:=ih t rs
  refine⟨by rw[fN,dh g,e],fun v hv=>?_⟩
  rcases dv.mp hv with rfl|hv
  ·exact⟨b,k,rfl,g,b6⟩
  ·obtain⟨b',k',e1,e2,e3⟩:=m v hv
   exact⟨b',k',e1,e2,b9 _ e3⟩
theorem cM.of{H:Hp}{ks:List (List Key)}(vs:List Value)(h:∀ v∈vs,∃ b k,v=Value.ref b/\H b=some (.tup (k.map kV))/\k∈ks):∃ zs,cM H zs (vs.map (nG H))/\Vals zs vs:=by
 induction vs with
 |nil=>exact⟨[],.nil,.nil⟩
 |cons v vs ih =>
  obtain⟨zs,a,c⟩:=ih fun u hu=>h u (b9 _ hu)
  obtain⟨b,k,rfl,e,_⟩:=h v b6
  exact⟨.ref b :: zs,.cons ⟨b,rfl,by rw[dh e];exact e⟩ a,.cons rfl c⟩
end L2
namespace x6
open PySem PyProof.Rows
section
variable {prog:Program}{w:World}{A:Around}{E:Value->Shared->Prop}{s:Shared}{κ:SortKind}{r:Value->Int}{P:Value->Prop}
theorem qX{T:String}{r d:Addr}{n:Nat}{P:Nat->Value->Prop}{OK:Heap->Prop}{R:Result->Shared->Prop}(K:PySem.W.KdlSrc prog w T r d n P OK)(hh:A.handled=none)(bq:OK s.heap)(hn:n<=sizeLine)
  (hR:∀ h' tk acc c,(∀ b o,s.heap.get? b=some o->h'.get? b=some o)->h'.get? s.heap.objs.size=some { cls:=.type "list",data:=.seq acc c }->ItemsOf P acc n->R (.ok (.ret (.ref s.heap.objs.size))) { s with heap:=h',toks:=tk }) :
  codeAny (model prog w) A (.builtin "proto.collect" ⟨[.ref r],[]⟩) R s:=by
 have Xv:=K.there _ bq
 have hS:(s.heap.push { cls:=.type "list",data:=.seq ([]:List Value).toArray }).get? s.heap.objs.size=some { cls:=.type "list",data:=.seq ([]:List Value).toArray }:=jv _ rfl
 refine codeAny_builtin F.entry_proto_collect ?_
 rw[Around.under_plainId F.plain_proto_collect _]
 show wpAny _ A.in1 (newList [] >>= fun l=>again (.builtin "list.__iadd__" ⟨[l,.ref r],[]⟩)) _ _ s
 refine ai (wpAny_newObj_type ?_)
 refine aS ⟨plainId_quiet F.plain_list_iadd _,codeAny_builtin F.entry_list_iadd ?_⟩
 rw[Around.under_plainId F.plain_list_iadd _]
 show wpAny _ A.in1 (Builtin.List.listExtendWith (.ref s.heap.objs.size) (.ref r) (.ref s.heap.objs.size)) _ _ _
 exact PySem.W.kdl_extend (R:=R) (s:={ s with heap:=s.heap.push { cls:=.type "list",data:=.seq ([]:List Value).toArray } }) K hh (K.keep _ _ bq fun b _ o e=>eW _ e) s.heap.objs.size (LV Xv.1) (LV Xv.2) _ 0 hS
  (fun h' tk ya c' kp eo ia=>hR h' tk ya c' (fun b o e=>kp b o (fo (dQ e)) (eW _ e)) eo ia) hn
theorem tU{T:String}{r d:Addr}{n:Nat}{P:Nat->Value->Prop}{OK:Heap->Prop}{Q:List Value->Shared->Prop}(K:PySem.W.KdlSrc prog w T r d n P OK)(hh:A.handled=none)(bq:OK s.heap)(hn:n<=sizeLine)
  (hQ:∀ h' tk acc,(∀ b o,s.heap.get? b=some o->h'.get? b=some o)->s.heap.objs.size<=h'.objs.size->ItemsOf P acc n->Q acc.toList { s with heap:=h',toks:=tk }):wpAny (model prog w) A (collect (.ref r)) Q E s:=by
 unfold collect
 refine ai (wpAny_runValue (qX K hh bq hn fun h' tk acc c kp eo ia=>?_))
 show wpAny _ A (load s.heap.objs.size >>= _) _ _ { s with heap:=h',toks:=tk }
 refine ai (wpAny_load eo ?_)
 exact aS (hQ h' tk acc kp (ll (dQ eo)) ia)
theorem vX{R:List Value->Prop}
  (Tt:∀ (A':Around) (E':Value->Shared->Prop) (Q':List Value->Shared->Prop),A'.handled=A.handled->(∀ vs h1 tk,R vs->(∀ b o,s.heap.get? b=some o->h1.get? b=some o)->s.heap.objs.size<=h1.objs.size->Q' vs { s with heap:=h1,toks:=tk })->wpAny (model prog w) A' (collect v) Q' E' s)
  (hsz:∀ vs,R vs->vs.length<=sizeLine) (hP:∀ vs,R vs->∀ v∈vs,P v)
  (hk:∀ vs,R vs->2<=vs.length->∀ (A':Around) (E':Value->Shared->Prop) (s':Shared),(∀ b o,s.heap.get? b=some o->s'.heap.get? b=some o)->∀ (Q:SortKind->Shared->Prop),Q κ s'->wpAny (model prog w) A' (keyKind' vs.toArray) Q E' s')
  (C:∀ (s':Shared),(∀ b o,s.heap.get? b=some o->s'.heap.get? b=some o)->mE prog w A.in1.in1 s' κ r P)
  (h:∀ (vs:List Value) (h':Heap) (a:Addr) (out:List Value) (n tk:Nat),R vs->out.Perm vs->(out.Pairwise fun x y=>r x<=r y)->(∀ b o,s.heap.get? b=some o->h'.get? b=some o)->s.heap.objs.size<=a->h'.get? a=some (seqObj "list" out.toArray n)->Q (.ref a) { s with heap:=h',toks:=tk }) :
  wpAny (model prog w) A (call (.builtin "sorted") [v]) Q E s:=by
 refine Calls.call_function_entry kind_sorted plain_sorted entry_sorted (args_sorted1 _) ?_
 unfold Builtin.«sorted»
 refine ai (m:=checkCount "sorted" 1 1 _) (aS ?_)
 refine ai (Tt _ _ _ rfl fun vs h1 tk hR kp hz=>?_)
 have zD:=hsz vs hR
 refine ai (wpAny_newList ?_ (by simpa using zD))
 have wt:(h1.push (seqObj "list" vs.toArray 0)).get? h1.objs.size=some (seqObj "list" vs.toArray 0):=jv _ rfl
 have old:∀ b o,s.heap.get? b=some o->(dU (h1.push (seqObj "list" vs.toArray 0)) h1.objs.size vs).get? b=some o:=fun b o e=>by
  have df:b<h1.objs.size:=dQ (kp b o e)
  rw[ie (fo df) (by rw[size_push'];exact ui df)]
  exact eW _ (kp b o e)
 show wpAny _ _ _ _ _ { s with heap:=h1.push (seqObj "list" vs.toArray 0),toks:=tk }
 refine ai (wpAny_holding (wpAny_call_entry slot_list_sort ⟨_,wt,rfl⟩ entry_list_sort (fX (r:=r) (s:={ s with heap:=h1.push (seqObj "list" vs.toArray 0),toks:=tk }) wt zD (hP vs hR)
  (fun h2=>hk vs hR h2 _ _ _ old) (fun h2=>C _ old) fun out a1 a2=>⟨_,rfl,?_⟩) (args_list_sort _)))
 obtain⟨n,e⟩:=sortedHeap_at (out:=out) wt
 refine aS ⟨_,rfl,h vs _ h1.objs.size out.toList n tk hR a1 a2 (fun b o e=>?_) hz (by rw[PB];exact e)⟩
 have df:b<h1.objs.size:=dQ (kp b o e)
 rw[sortedHeap_old (fo df) (by rw[size_push'];exact ui df)]
 exact eW _ (kp b o e)
end
end x6
namespace L2
open PySem PySem.Spec PyProof.Rows
def jK:HO->Prop
 |.dK _=>True
 |.dT _=>True
 |_=>False
section
variable {X:Cx}{pins:List (Addr × Obj)}{σ:St}{H:Hp}{s:Shared}
theorem Inv.qU(I:Inv X pins σ H s)(e:H p=some u)(nt:∀ xs,u≠.tup xs)(no:∀ y,u≠.own y)(nf:∀ o w,X.nV p≠some (.eu o w))(nb:∀ ps,X.nV p≠some (.pT ps))(new:fe X.prog X.w (upd H p v) s.heap p v):Inv X pins σ (upd H p v) s:=by
 have ne:∀ {b:Addr},H b=none->b≠p:=fun h z=>by subst z;rw[e] at h;cases h
 have ht:∀ b xs,H b=some (.tup xs)->upd H p v b=some (.tup xs):=fun b xs q=>by
  rw[cf fun z=>by subst z;rw[e] at q;cases q;exact nt _ rfl];exact q
 refine⟨I.ok,I.os,I.bare,⟨I.base.keep,I.base.slot,fun b o q n hx=>?_,I.base.there,fun b xs q=>ht b xs (I.base.jI b xs q),fun b o w q=>?_,fun b ps q=>?_⟩,I.loc,I.cell,?_,fun x c q=>?_,fun q hq=>?_,fun b o q=>?_,I.len⟩
 ·have:=I.base.free b o q n hx
  rw[cf (ne this)];exact this
 ·rw[cf fun z=>by subst z;exact nf _ _ q];exact I.base.xD b o w q
 ·rw[cf fun z=>by subst z;exact nb _ q];exact I.base.y3 b ps q
 ·rw[cf (ne I.free)];exact I.free
 ·rw[cf (ne (I.uk x c q))];exact I.uk x c q
 ·obtain⟨a,b,c⟩:=I.pin q hq
  exact⟨a,by rw[cf (ne b)];exact b,c⟩
 ·by_cases z:b=p
  ·subst z;rw[fE] at q;cases q;exact new
  ·rw[cf z] at q
   refine(I.bq b o q).fh (fun _ _ _ h=>h) (fun c h=>?_) ht
   rw[cf fun z=>by subst z;rw[e] at h;cases h;exact no _ rfl];exact h
theorem Inv.Hr(I:Inv X pins σ H s)(e:H p=some u)(hu:jK u):(∀ o w,X.nV p≠some (.eu o w))/\∀ ps,X.nV p≠some (.pT ps) :=
 ⟨fun o w z=>by have:=I.base.xD p o w z;rw[e] at this;cases this;exact hu,fun ps z=>by obtain⟨m,this⟩:=I.base.y3 p ps z;rw[e] at this;cases this;exact hu⟩
theorem Inv.freeze(I:Inv X pins σ H s)(e:H p=some u)(hu:jK u)(ho:s.heap.get? p=some o):Inv X pins σ (upd H p (.eu o u)) s:=by
 obtain⟨nf,nb⟩:=I.Hr e hu
 refine I.qU e (fun xs z=>by subst z;exact hu) (fun y z=>by subst z;exact hu) nf nb ⟨ho,(I.bq p u e).fh (fun _ _ _ h=>h) (fun c h=>?_) fun c xs h=>?_⟩
 ·rw[cf fun z=>by subst z;rw[e] at h;cases h;exact hu];exact h
 ·rw[cf fun z=>by subst z;rw[e] at h;cases h;exact hu];exact h
theorem Inv.Qu(I:Inv X pins σ H s)(e:H p=some (.eu o u))(nf:∀ o w,X.nV p≠some (.eu o w))(nb:∀ ps,X.nV p≠some (.pT ps)):Inv X pins σ (upd H p u) s:=by
 have ob:fe X.prog X.w H s.heap p (.eu o u):=I.bq p _ e
 refine I.qU e (fun xs z=>nomatch z) (fun y z=>nomatch z) nf nb (ob.2.fh (fun _ _ _ h=>h) (fun c h=>?_) fun c xs h=>?_)
 ·rw[cf fun z=>by subst z;rw[e] at h;cases h];exact h
 ·rw[cf fun z=>by subst z;rw[e] at h;cases h];exact h
def A6(X:Cx)(N:St->Hp->Prop):St->Hp->Prop:=fun σ H=>N σ H\/∃ p u o,H p=some (.eu o u)/\(∀ o w,X.nV p≠some (.eu o w))/\(∀ ps,X.nV p≠some (.pT ps))/\N σ (upd H p u)
def Tv(X:Cx)(N:V->Hp->Prop):V->Hp->Prop:=fun v H=>N v H\/∃ p u o,H p=some (.eu o u)/\(∀ o w,X.nV p≠some (.eu o w))/\(∀ ps,X.nV p≠some (.pT ps))/\N v (upd H p u)
theorem Ei{st:Stmt}(h:PS X st t):PS X st (fun D σ H=>t { D with nx:=A6 X D.nx,bk:=A6 X D.bk,ct:=A6 X D.ct,rt:=Tv X D.rt } σ H):=by
 intro pins s σ H D I q
 refine ck (h pins s σ H _ I q) fun f s1 z=>?_
 cases f with
 |next =>
  obtain⟨om,H1,I1,n|⟨p,u,o,e,nf,nb,n⟩⟩:=z
  ·exact⟨om,H1,I1,n⟩
  ·exact⟨om,_,I1.Qu e nf nb,n⟩
 |cont =>
  obtain⟨om,H1,I1,n|⟨p,u,o,e,nf,nb,n⟩⟩:=z
  ·exact⟨om,H1,I1,n⟩
  ·exact⟨om,_,I1.Qu e nf nb,n⟩
 |brk =>
  obtain⟨om,H1,I1,n|⟨p,u,o,e,nf,nb,n⟩⟩:=z
  ·exact⟨om,H1,I1,n⟩
  ·exact⟨om,_,I1.Qu e nf nb,n⟩
 |ret v =>
  obtain⟨x1,om,H1,I1,r1,n|⟨p,u,o,e,nf,nb,n⟩⟩:=z
  ·exact⟨x1,om,H1,I1,r1,n⟩
  ·exact⟨x1,om,_,I1.Qu e nf nb,r1,n⟩
end
def E1(p:Addr)(o:Obj)(ks:List V):It :=
 ⟨fun i H=>i<ks.length/\∃ u,H p=some (.eu o u),fun i H x H'=>H'=H/\ks[i]? = some x,fun i H=>i=ks.length/\∃ u,H p=some (.eu o u)⟩
theorem yt{P:Program}{K:PySem.W.Frag}(p it:Addr)(hx:o.ExactDict)(hd:o.data=.dict es ep)(hl:es.size=ks.length)
  (hk:∀ (i:Nat) x,ks[i]? = some x->∃ e,es[i]? = some e/\RelV x e.key):Turn P w K tg (E1 p o ks) [it] it (fun i h=>h.IsKeyIter it p i es.size ep) where
 mem:=by simp
 obj:=fun i h st b hb=>by
  have e:b=it:=by simpa using hb
  subst e
  obtain⟨o,e,c,d⟩:=st
  exact⟨o,e,fun v z=>by rw[d] at z;cases z⟩
 keep:=fun i h h' st k=>st.at fun o e=>k it (by simp) o e
 item:=by
  intro X hP hw hK hc i pins s σ H E I hf st hg
  subst hP hw hK
  obtain⟨hi,u,Tw⟩:=hg
  have ob:fe X.prog X.w H s.heap p (.eu o u):=I.bq p _ Tw
  obtain⟨e,he,rk⟩:=hk i ks[i] (kS hi)
  obtain⟨f0,f1,f2,f3,f4,f5⟩:=hf it (by simp)
  have hX:i<es.size:=by lia
  have Iq:es[i]=e:=by rw[xv hX] at he;exact Option.some.inj he
  refine ur st ⟨o,ob.1,hx,hd⟩ hX fun h' ah sb=>?_
  have I1:Inv X pins σ H { s with heap:=h' }:=I.turned (t':=s.toks) (fun b o hb e=>(sb.2 b hb).trans e) f0 f1 f3 f4 f5
  obtain⟨o2,e2,c2,d2⟩:=id ah
  exact⟨_,rfl,R8 (s:={ s with heap:=h' }) e2 c2 d2 (by decide) ⟨ks[i],H,I1,by rw[Iq];exact rk,⟨rfl,kS hi⟩,ah,fun b hb=>(hf b hb).1⟩⟩
 done:=by
  intro X hP hw hK hc i pins s σ H E I hf st hg
  subst hP hw hK
  obtain⟨hi,u,Tw⟩:=hg
  have ob:fe X.prog X.w H s.heap p (.eu o u):=I.bq p _ Tw
  obtain⟨f0,f1,f2,f3,f4,f5⟩:=hf it (by simp)
  have hX:i=es.size:=by lia
  subst hX
  exact uK (I.ok.hd hc) st ⟨o,ob.1,hx,hd⟩ fun h' eb=>⟨rfl,I.turned (t':=s.toks) (fun b o hb e=>eb b o hb e) f0 f1 f3 f4 f5⟩
 self:=fun _ _ _ _ _ st h=>wpAny_pyIter_keyiter st h
theorem vH:∀ {el:List DictEntry} {vs:List (Key × Value)},Pairs (kG prog w) el vs->∀ {kvs:List (Key × V)},KV kvs vs->el.length=kvs.length/\∀ (i:Nat) x,(kvs.map fun kv=>kV kv.1)[i]? = some x->∃ e,el[i]? = some e/\RelV x e.key:=by
 intro el vs h
 induction h with
 |nil =>
  intro kvs r
  cases r
  exact⟨rfl,fun i x hx=>by simp at hx⟩
 |@cons e kv es vs hk hv _ ih =>
  intro kvs r
  cases r with
  |@cons p q l1 l2 r1 rs =>
   obtain⟨a,b⟩:=ih rs
   refine⟨by rw[oz,oz,a],fun i x hx=>?_⟩
   cases i with
   |zero =>
    simp only[fN,Rq,Option.some.injEq] at hx
    subst hx
    refine⟨e,rfl,?_⟩
    rw[r1.1]
    rcases xC hk with⟨i,t,e1,e2⟩|⟨x,t,e1,e2⟩<;>rw[e1,e2]<;>exact⟨t,rfl⟩
   |succ i=>exact b i x (by simpa using hx)
def ou(H:Hp)(u:HO)(ks:List V):Prop:=match u with
 |.dK kvs=>ks=kvs.map fun kv=>kV kv.1
 |.dT kvs=>cM H ks (kvs.map (·.1))
 |_=>False
def Kv(X:Cx)(tl:TE):TI:=fun σ H R=>tl σ H fun x H1=>∃ p u,x=.ref p/\jK u /\
 ((H1 p=some u/\∀ o ks,(∀ o' w,X.nV p≠some (.eu o' w))->(∀ ps,X.nV p≠some (.pT ps))->ou H1 u ks->R (E1 p o ks) (upd H1 p (.eu o u)))\/∃ o,H1 p=some (.eu o u)/\∀ ks,ou H1 u ks->R (E1 p o ks) H1)
theorem uQ{P:Program}(hu:jK u)(ob:fe P w H h p u):∃ o es ep ks,h.get? p=some o/\o.ExactDict/\o.data=.dict es ep/\(p == sysModules)=false/\es.size=ks.length/\(∀ (i:Nat) x,ks[i]? = some x->∃ e,es[i]? = some e/\RelV x e.key)/\ou H u ks:=by
 cases u with
 |dK kvs =>
  obtain⟨z,y,vs,rel,o,es,ep,h1,h2,h3,h4,h5,h6⟩:=ob
  obtain⟨a,b⟩:=vH h5 rel
  refine⟨o,es,ep,_,h1,h2,h3,y,?_,fun i x hx=>?_,rfl⟩
  ·rw[b4,<- a,xA]
  ·obtain⟨e,he,r⟩:=b i x hx
   exact⟨e,by rw[<- ly];exact he,r⟩
 |dT kvs =>
  obtain⟨z,y,ps,rel,o,es,ep,h1,h2,h3,h4,h5⟩:=ob
  obtain⟨ta,va⟩:=tQ (prog:=P) (w:=w) rel
  refine⟨o,es,ep,_,h1,h2,h3,y,?_,fun i x hx=>?_,ta⟩
  ·have:=congrArg List.length h4
   rw[xA,b4] at this
   rw[this,b4]
  ·obtain⟨w,hw,lP⟩:=va.get hx
   rw[kX,<- h4,ly] at hw
   obtain⟨e,he,rfl⟩:=LX.mp hw
   exact⟨e,he,lP⟩
 |_=>exact hu.elim
theorem Fj{X:Cx}(he:PE X e tl):PI X tg e (Kv X tl):=by
 intro pins s σ H R I h
 refine ck (he pins s σ H _ I h) fun v s1 cx=>L2.gu cx fun x H1 I1 r1 q1=>?_
 obtain⟨p,u,e,hu,q⟩:=q1
 subst e
 cases r1
 have fin:∀ {H2:Hp} {o:Obj} {es:Qo} {ep:Nat} {ks:List V},s1.heap.get? p=some o->o.ExactDict->o.data=.dict es ep->(p == sysModules)=false->es.size=ks.length->(∀ (i:Nat) x,ks[i]? = some x->∃ e,es[i]? = some e/\RelV x e.key)->Inv X pins σ H2 s1->R (E1 p o ks) H2 ->
   wpAny (model X.prog X.w) X.A (pyIter (.ref p)) (R6 X pins σ tg R) X.xe s1:=by
  intro H2 o es ep ks ho hx hd lo hl hk I2 q
  refine uB lo ⟨o,ho,hx,hd⟩ ?_
  refine⟨s1.heap.objs.size,[s1.heap.objs.size],_,_,_,rfl,I2.kept (t':=s1.toks) fun b o e=>eW _ e,yt p _ hx hd hl hk,⟨_,jv _ rfl,rfl,rfl⟩,fun b hb=>?_,q⟩
  have e:b=s1.heap.objs.size:=by simpa using hb
  subst e
  exact I2.PY (bX _) (I2.bq.fresh (bX _))
 rcases q with⟨hp,q⟩|⟨o,hp,q⟩
 ·obtain⟨o,es,ep,ks,ho,hx,hd,lo,hl,hk,EV⟩:=uQ hu (I1.bq p u hp)
  obtain⟨nf,nb⟩:=I1.Hr hp hu
  exact fin ho hx hd lo hl hk (I1.freeze hp hu ho) (q o ks nf nb EV)
 ·have ob:fe X.prog X.w H1 s1.heap p (.eu o u):=I1.bq p _ hp
  obtain⟨o',es,ep,ks,ho,hx,hd,lo,hl,hk,EV⟩:=uQ hu ob.2
  have e:o'=o:=by have:=ob.1;rw[ho] at this;exact Option.some.inj this
  subst e
  exact fin ho hx hd lo hl hk I1 (q ks EV)
end L2
namespace L2.Q
open PySem PySem.Spec PyProof.Rows
inductive D where
 |non|bl (b:Bool)|int (i:Int)|str (x:Str)
 |list (xs:List D)|tup (xs:List D)|dK (kvs:List (Key × D))|dT (kvs:List (List Key × D))
mutual
/-- nothing in it can be changed -/
def D.flat:D->Bool
 |.list _=>false
 |.dK _=>false
 |.dT _=>false
 |.tup xs=>cw xs
 |_=>true
def cw:List D->Bool
 |[]=>true
 |x :: xs=>x.flat && cw xs
end
theorem mO:∀ {xs:List D},cw xs=true↔∀ x∈xs,x.flat=true
 |[]=>by simp[cw]
 |x :: xs=>by simp[cw,mO (xs:=xs)]
theorem gk:cw (xs++ys)=(cw xs && cw ys):=by
 induction xs with
 |nil=>simp[cw]
 |cons x xs ih=>simp[cw,ih,Bool.and_assoc]
def yb:Key->Bool
 |.inl _=>true
 |.inr x=>decide (x.length<=sizeLine)
def Qw(kvs:List (Key × D)):Prop:=kvs.length<=sizeLine/\∀ p∈kvs,yb p.1=true
def Qx(kvs:List (List Key × D)):Prop:=kvs.length<=sizeLine/\∀ p∈kvs,p.1.length<=sizeLine/\∀ k∈p.1,yb k=true
mutual
inductive Rep(K:PySem.W.Frag)(H:Hp):D->V->Prop
 |non:Rep K H .non .non
 |bl (b:Bool):Rep K H (.bl b) (.bl b)
 |int (i:Int):Rep K H (.int i) (.int i)
 |str {x:Str}:x.length<=sizeLine->Rep K H (.str x) (.str x)
 |list {a:Addr} {vs:List V} {ds:List D}:vs.length<=sizeLine->eL K H a vs->aI K H ds vs->Rep K H (.list ds) (.ref a)
 |tup {a:Addr} {vs:List V} {ds:List D}:vs.length<=sizeLine->H a=some (.tup vs)->aI K H ds vs->Rep K H (.tup ds) (.ref a)
 |dK {a:Addr} {vs:List V} {kvs:List (Key × D)}:Qw kvs->Rd H a (.dK ((kvs.map (·.1)).zip vs))->aI K H (kvs.map (·.2)) vs->Rep K H (.dK kvs) (.ref a)
 |dT {a:Addr} {vs:List V} {kvs:List (List Key × D)}:Qx kvs->Rd H a (.dT ((kvs.map (·.1)).zip vs))->aI K H (kvs.map (·.2)) vs->Rep K H (.dT kvs) (.ref a)
inductive aI(K:PySem.W.Frag)(H:Hp):List D->List V->Prop
 |nil:aI K H [] []
 |cons {d:D} {v:V} {ds:List D} {vs:List V}:Rep K H d v->aI K H ds vs->aI K H (d :: ds) (v :: vs)
end
theorem Rep.ind{K:PySem.W.Frag}{H:Hp}{m1:D->V->Prop}{m2:List D->List V->Prop}(h0:m1 .non .non)(hb:∀ b,m1 (.bl b) (.bl b))(hi:∀ i,m1 (.int i) (.int i))(hs:∀ x,x.length<=sizeLine->m1 (.str x) (.str x))
  (hl:∀ a vs ds,vs.length<=sizeLine->eL K H a vs->aI K H ds vs->m2 ds vs->m1 (.list ds) (.ref a)) (ht:∀ a vs ds,vs.length<=sizeLine->H a=some (.tup vs)->aI K H ds vs->m2 ds vs->m1 (.tup ds) (.ref a))
  (hk:∀ a vs kvs,Qw kvs->Rd H a (.dK ((kvs.map (·.1)).zip vs))->aI K H (kvs.map (·.2)) vs->m2 (kvs.map (·.2)) vs->m1 (.dK kvs) (.ref a)) (hT:∀ a vs kvs,Qx kvs->Rd H a (.dT ((kvs.map (·.1)).zip vs))->aI K H (kvs.map (·.2)) vs->m2 (kvs.map (·.2)) vs->m1 (.dT kvs) (.ref a))
  (hn:m2 [] []) (hc:∀ d v ds vs,Rep K H d v->aI K H ds vs->m1 d v->m2 ds vs->m2 (d :: ds) (v :: vs)):(∀ {d v},Rep K H d v->m1 d v)/\∀ {ds vs},aI K H ds vs->m2 ds vs :=
 ⟨fun r=>Rep.rec (motive_1:=fun d v _=>m1 d v) (motive_2:=fun ds vs _=>m2 ds vs) h0 hb hi (fun h=>hs _ h) (fun z s r ih=>hl _ _ _ z s r ih) (fun z s r ih=>ht _ _ _ z s r ih) (fun z s r ih=>hk _ _ _ z s r ih) (fun z s r ih=>hT _ _ _ z s r ih) hn (fun r s a b=>hc _ _ _ _ r s a b) r,
  fun r=>aI.rec (motive_1:=fun d v _=>m1 d v) (motive_2:=fun ds vs _=>m2 ds vs) h0 hb hi (fun h=>hs _ h) (fun z s r ih=>hl _ _ _ z s r ih) (fun z s r ih=>ht _ _ _ z s r ih) (fun z s r ih=>hk _ _ _ z s r ih) (fun z s r ih=>hT _ _ _ z s r ih) hn (fun r s a b=>hc _ _ _ _ r s a b) r⟩
theorem kP.k'(e:Rd H a (.dK kvs)):kP H a (kV k) (fP kvs k):=.inl ⟨kvs,k,e,rfl,rfl⟩
theorem kP.t'(e:Rd H a (.dT kvs))(eb:H b=some (.tup (k.map kV))):kP H a (.ref b) (fP kvs k):=.inr ⟨kvs,k,b,e,rfl,eb,rfl⟩
theorem ax.rd(s:ax H H')(h:Rd H a u):Rd H' a u:=h.imp (s _ _) fun⟨o,e⟩=>⟨o,s _ _ e⟩
theorem Rep.Hy{K:PySem.W.Frag}(s:ax H H'):(∀ {d:D} {v:V},Rep K H d v->Rep K H' d v)/\∀ {ds:List D} {vs:List V},aI K H ds vs->aI K H' ds vs :=
 Rep.ind .non .bl .int (fun _ h=>.str h) (fun _ _ _ z h _ ih=>.list z (s.lst h) ih) (fun _ _ _ z h _ ih=>.tup z (s _ _ h) ih) (fun _ _ _ kk h _ ih=>.dK kk (ax.rd s h) ih) (fun _ _ _ kk h _ ih=>.dT kk (ax.rd s h) ih) .nil fun _ _ _ _ _ _ a b=>.cons a b
theorem Rep.same{K:PySem.W.Frag}(s:ax H H')(r:Rep K H d v):Rep K H' d v:=(Rep.Hy s).1 r
theorem aI.same{K:PySem.W.Frag}(s:ax H H')(r:aI K H ds vs):aI K H' ds vs:=(Rep.Hy s).2 r
theorem aI.ind{K:PySem.W.Frag}{H:Hp}{m:List D->List V->Prop}(hn:m [] [])(hc:∀ d v ds vs,Rep K H d v->aI K H ds vs->m ds vs->m (d :: ds) (v :: vs)):∀ {ds vs},aI K H ds vs->m ds vs :=
 fun r=>(Rep.ind (m1:=fun _ _=>True) (m2:=m) trivial (fun _=>trivial) (fun _=>trivial) (fun _ _=>trivial) (fun _ _ _ _ _ _ _=>trivial) (fun _ _ _ _ _ _ _=>trivial) (fun _ _ _ _ _ _ _=>trivial) (fun _ _ _ _ _ _ _=>trivial) hn fun d v ds vs r s _ b=>hc d v ds vs r s b).2 r
theorem aI.length{K:PySem.W.Frag}(r:aI K H ds vs):ds.length=vs.length :=
 aI.ind (m:=fun ds vs=>ds.length=vs.length) rfl (fun _ _ _ _ _ _ ih=>by rw[oz,oz,ih]) r
theorem aI.append{K:PySem.W.Frag}(r:aI K H ds vs)(t:aI K H es ws):aI K H (ds++es) (vs++ws) :=
 aI.ind (m:=fun ds vs=>aI K H (ds++es) (vs++ws)) t (fun _ _ _ _ h _ ih=>.cons h ih) r
theorem aI.get{K:PySem.W.Frag}{H:Hp}{ds:List D}{vs:List V}{i:Nat}{d:D}(r:aI K H ds vs)(e:ds[i]? = some d):∃ v,vs[i]? = some v/\Rep K H d v :=
 aI.ind (m:=fun ds vs=>∀ i d,ds[i]? = some d->∃ v,vs[i]? = some v/\Rep K H d v) (fun i d e=>by simp at e) (fun _ _ _ _ h _ ih i d e=>by
  cases i with
  |zero=>simp at e;subst e;exact⟨_,rfl,h⟩
  |succ i =>
   obtain⟨v,e1,r⟩:=ih i d (by simpa using e)
   exact⟨v,by simpa using e1,r⟩) r i d e
theorem aI.Xw{K:PySem.W.Frag}{H:Hp}{ds:List D}{vs:List V}{i:Nat}{v:V}(r:aI K H ds vs)(e:vs[i]? = some v):∃ d,ds[i]? = some d/\Rep K H d v :=
 aI.ind (m:=fun ds vs=>∀ i v,vs[i]? = some v->∃ d,ds[i]? = some d/\Rep K H d v) (fun i d e=>by simp at e) (fun _ _ _ _ h _ ih i d e=>by
  cases i with
  |zero=>simp at e;subst e;exact⟨_,rfl,h⟩
  |succ i =>
   obtain⟨v,e1,r⟩:=ih i d (by simpa using e)
   exact⟨v,by simpa using e1,r⟩) r i v e
theorem aI.drop{K:PySem.W.Frag}(n:Nat)(r:aI K H ds vs):aI K H (ds.drop n) (vs.drop n) :=
 aI.ind (m:=fun ds vs=>∀ n,aI K H (ds.drop n) (vs.drop n)) (fun n=>by rw[List.drop_nil,List.drop_nil];exact .nil) (fun _ _ _ _ h hs ih n=>by
  cases n with
  |zero=>exact .cons h hs
  |succ n=>exact ih n) r n
theorem aI.n0{K:PySem.W.Frag}(h:aI K H [] vs):vs=[]:=by cases h;rfl
theorem aI.c{K:PySem.W.Frag}(h:aI K H (d :: ds) vs):∃ u us,vs=u :: us/\Rep K H d u/\aI K H ds us:=by
 cases h with
 |cons r rs=>exact⟨_,_,rfl,r,rs⟩
theorem aI.take{K:PySem.W.Frag}(n:Nat)(r:aI K H ds vs):aI K H (ds.take n) (vs.take n) :=
 aI.ind (m:=fun ds vs=>∀ n,aI K H (ds.take n) (vs.take n)) (fun n=>by rw[List.take_nil,List.take_nil];exact .nil) (fun _ _ _ _ h hs ih n=>by
  cases n with
  |zero=>exact .nil
  |succ n=>exact .cons h (ih n)) r n
mutual
/-- what is owned: a tree whose lists and hE' stand at As,hF' hG';its leaves shared (fl: and flat) -/
inductive bE(K:PySem.W.Frag)(Hs H:Hp)(fl:Bool):D->V->List Addr->Prop
 |sh {d:D} {v:V}:(fl=true->d.flat=true)->Rep K Hs d v->bE K Hs H fl d v []
 |list {a:Addr} {vs:List V} {ds:List D} {As:List Addr}:vs.length<=sizeLine->H a=some (.lst vs)->aD K Hs H fl ds vs As->bE K Hs H fl (.list ds) (.ref a) (a :: As)
 |tup {a:Addr} {vs:List V} {ds:List D} {As:List Addr}:vs.length<=sizeLine->Hs a=some (.tup vs)->cw ds=false->aD K Hs H fl ds vs As->bE K Hs H fl (.tup ds) (.ref a) As
 |dK {a:Addr} {vs:List V} {kvs:List (Key × D)} {As:List Addr}:Qw kvs->H a=some (.dK ((kvs.map (·.1)).zip vs))->aD K Hs H fl (kvs.map (·.2)) vs As->bE K Hs H fl (.dK kvs) (.ref a) (a :: As)
 |dT {a:Addr} {vs:List V} {kvs:List (List Key × D)} {As:List Addr}:Qx kvs->H a=some (.dT ((kvs.map (·.1)).zip vs))->aD K Hs H fl (kvs.map (·.2)) vs As->bE K Hs H fl (.dT kvs) (.ref a) (a :: As)
inductive aD(K:PySem.W.Frag)(Hs H:Hp)(fl:Bool):List D->List V->List Addr->Prop
 |nil:aD K Hs H fl [] [] []
 |cons {d:D} {v:V} {ds:List D} {vs:List V} {As Bs:List Addr}:bE K Hs H fl d v As->aD K Hs H fl ds vs Bs->aD K Hs H fl (d :: ds) (v :: vs) (As++Bs)
end
def Own(H:Hp)(a:Addr):Prop:=(∃ vs,H a=some (.lst vs))\/(∃ kvs,H a=some (.dK kvs))\/∃ kvs,H a=some (.dT kvs)
section
variable {K:PySem.W.Frag}{Hs av H H':Hp}{fl:Bool}
theorem Own.ne(h:Own H a):H a≠none:=by
 rcases h with⟨_,e⟩|⟨_,e⟩|⟨_,e⟩<;>rw[e]<;>exact fun z=>nomatch z
theorem Own.CW(h:Own H a):H a≠some (.tup vs):=by
 rcases h with⟨_,e⟩|⟨_,e⟩|⟨_,e⟩<;>rw[e]<;>exact fun z=>nomatch z
theorem bE.ind{m1:D->V->List Addr->Prop}{m2:List D->List V->List Addr->Prop}(hs:∀ d v,(fl=true->d.flat=true)->Rep K Hs d v->m1 d v [])
  (hl:∀ a vs ds As,vs.length<=sizeLine->H a=some (.lst vs)->aD K Hs H fl ds vs As->m2 ds vs As->m1 (.list ds) (.ref a) (a :: As)) (ht:∀ a vs ds As,vs.length<=sizeLine->Hs a=some (.tup vs)->cw ds=false->aD K Hs H fl ds vs As->m2 ds vs As->m1 (.tup ds) (.ref a) As)
  (hk:∀ a vs kvs As,Qw kvs->H a=some (.dK ((kvs.map (·.1)).zip vs))->aD K Hs H fl (kvs.map (·.2)) vs As->m2 (kvs.map (·.2)) vs As->m1 (.dK kvs) (.ref a) (a :: As)) (hT:∀ a vs kvs As,Qx kvs->H a=some (.dT ((kvs.map (·.1)).zip vs))->aD K Hs H fl (kvs.map (·.2)) vs As->m2 (kvs.map (·.2)) vs As->m1 (.dT kvs) (.ref a) (a :: As))
  (hn:m2 [] [] []) (hc:∀ d v ds vs As Bs,bE K Hs H fl d v As->aD K Hs H fl ds vs Bs->m1 d v As->m2 ds vs Bs->m2 (d :: ds) (v :: vs) (As++Bs)):(∀ {d v As},bE K Hs H fl d v As->m1 d v As)/\∀ {ds vs As},aD K Hs H fl ds vs As->m2 ds vs As :=
 ⟨fun r=>bE.rec (motive_1:=fun d v As _=>m1 d v As) (motive_2:=fun ds vs As _=>m2 ds vs As) (fun f r=>hs _ _ f r) (fun z s r ih=>hl _ _ _ _ z s r ih) (fun z s n r ih=>ht _ _ _ _ z s n r ih) (fun z s r ih=>hk _ _ _ _ z s r ih) (fun z s r ih=>hT _ _ _ _ z s r ih) hn (fun r s a b=>hc _ _ _ _ _ _ r s a b) r,
  fun r=>aD.rec (motive_1:=fun d v As _=>m1 d v As) (motive_2:=fun ds vs As _=>m2 ds vs As) (fun f r=>hs _ _ f r) (fun z s r ih=>hl _ _ _ _ z s r ih) (fun z s n r ih=>ht _ _ _ _ z s n r ih) (fun z s r ih=>hk _ _ _ _ z s r ih) (fun z s r ih=>hT _ _ _ _ z s r ih) hn (fun r s a b=>hc _ _ _ _ _ _ r s a b) r⟩
theorem A7{a:Addr}{p:Prop}(h:a∈([]:List Addr)):p:=absurd h LJ
theorem bE.Xx:(∀ {d:D} {v:V} {As:List Addr},bE K Hs H fl d v As->∀ a∈As,Own H a)/\∀ {ds:List D} {vs:List V} {As:List Addr},aD K Hs H fl ds vs As->∀ a∈As,Own H a :=
 bE.ind (m1:=fun _ _ As=>∀ a∈As,Own H a) (m2:=fun _ _ As=>∀ a∈As,Own H a) (fun _ _ _ _ a h=>A7 h) (fun _ _ _ _ _ e _ ih a h=>(dv.mp h).elim (fun z=>z ▸ .inl ⟨_,e⟩) (ih a)) (fun _ _ _ _ _ _ _ _ ih=>ih)
  (fun _ _ _ _ _ e _ ih a h=>(dv.mp h).elim (fun z=>z ▸ .inr (.inl ⟨_,e⟩)) (ih a)) (fun _ _ _ _ _ e _ ih a h=>(dv.mp h).elim (fun z=>z ▸ .inr (.inr ⟨_,e⟩)) (ih a)) (fun a h=>A7 h) fun _ _ _ _ _ _ _ _ i1 i2 a h=>(dP.mp h).elim (i1 a) (i2 a)
theorem bE.own(r:bE K Hs H fl d v As):∀ a∈As,Own H a:=bE.Xx.1 r
theorem aD.own(r:aD K Hs H fl ds vs As):∀ a∈As,Own H a:=bE.Xx.2 r
theorem bE.Ip(s:ax Hs av):(∀ {d:D} {v:V} {As:List Addr},bE K Hs H fl d v As->(∀ a∈As,H' a=H a)->bE K av H' fl d v As)/\∀ {ds:List D} {vs:List V} {As:List Addr},aD K Hs H fl ds vs As->(∀ a∈As,H' a=H a)->aD K av H' fl ds vs As :=
 bE.ind (m1:=fun d v As=>(∀ a∈As,H' a=H a)->bE K av H' fl d v As) (m2:=fun ds vs As=>(∀ a∈As,H' a=H a)->aD K av H' fl ds vs As) (fun _ _ f r _=>.sh f (r.same s))
  (fun _ _ _ _ z e _ ih k=>.list z ((k _ b6).trans e) (ih fun a h=>k a (b9 _ h))) (fun _ _ _ _ z e n _ ih k=>.tup z (s _ _ e) n (ih k)) (fun _ _ _ _ z e _ ih k=>.dK z ((k _ b6).trans e) (ih fun a h=>k a (b9 _ h)))
  (fun _ _ _ _ z e _ ih k=>.dT z ((k _ b6).trans e) (ih fun a h=>k a (b9 _ h))) (fun _=>.nil) fun _ _ _ _ _ _ _ _ i1 i2 k=>.cons (i1 fun a h=>k a (kF _ h)) (i2 fun a h=>k a (eT _ h))
theorem bE.fh(s:ax Hs av)(r:bE K Hs H fl d v As)(k:∀ a∈As,H' a=H a):bE K av H' fl d v As:=(bE.Ip s).1 r k
theorem aD.fh(s:ax Hs av)(r:aD K Hs H fl ds vs As)(k:∀ a∈As,H' a=H a):aD K av H' fl ds vs As:=(bE.Ip s).2 r k
theorem bE.grow(s:ax Hs av)(t:ax H H')(r:bE K Hs H fl d v As):bE K av H' fl d v As :=
 r.fh s fun a h=>by
  cases e:H a with
  |none=>exact absurd e (r.own a h).ne
  |some o=>exact t a o e
theorem aD.grow(s:ax Hs av)(t:ax H H')(r:aD K Hs H fl ds vs As):aD K av H' fl ds vs As :=
 r.fh s fun a h=>by
  cases e:H a with
  |none=>exact absurd e (r.own a h).ne
  |some o=>exact t a o e
theorem bE.rep2{G:Hp}(s:ax Hs G):(∀ {d:D} {v:V} {As:List Addr},bE K Hs H fl d v As->(∀ a∈As,G a=H a)->Rep K G d v)/\∀ {ds:List D} {vs:List V} {As:List Addr},aD K Hs H fl ds vs As->(∀ a∈As,G a=H a)->aI K G ds vs :=
 bE.ind (m1:=fun d v As=>(∀ a∈As,G a=H a)->Rep K G d v) (m2:=fun ds vs As=>(∀ a∈As,G a=H a)->aI K G ds vs) (fun _ _ _ r _=>r.same s)
  (fun _ _ _ _ z e _ ih k=>.list z (.inl (.inl ((k _ b6).trans e))) (ih fun a h=>k a (b9 _ h))) (fun _ _ _ _ z e n _ ih k=>.tup z (s _ _ e) (ih k)) (fun _ _ _ _ z e _ ih k=>.dK z (.inl ((k _ b6).trans e)) (ih fun a h=>k a (b9 _ h)))
  (fun _ _ _ _ z e _ ih k=>.dT z (.inl ((k _ b6).trans e)) (ih fun a h=>k a (b9 _ h))) (fun _=>.nil) fun _ _ _ _ _ _ _ _ i1 i2 k=>.cons (i1 fun a h=>k a (kF _ h)) (i2 fun a h=>k a (eT _ h))
theorem bE.rep(s:ax Hs G)(r:bE K Hs H fl d v As)(k:∀ a∈As,G a=H a):Rep K G d v:=(bE.rep2 s).1 r k
theorem aD.reps(s:ax Hs G)(r:aD K Hs H fl ds vs As)(k:∀ a∈As,G a=H a):aI K G ds vs:=(bE.rep2 s).2 r k
theorem Rep.zG(t:∀ a vs,H a=some (.tup vs)->G a=some (.tup vs)):(∀ {d:D} {v:V},Rep K H d v->d.flat=true->Rep K G d v)/\∀ {ds:List D} {vs:List V},aI K H ds vs->cw ds=true->aI K G ds vs :=
 Rep.ind (m1:=fun d v=>d.flat=true->Rep K G d v) (m2:=fun ds vs=>cw ds=true->aI K G ds vs) (fun _=>.non) (fun b _=>.bl b) (fun i _=>.int i) (fun _ h _=>.str h) (fun _ _ _ _ _ _ _ f=>by simp[D.flat] at f) (fun _ _ _ z e _ ih f=>.tup z (t _ _ e) (ih (by simpa[D.flat] using f)))
  (fun _ _ _ _ _ _ _ f=>by simp[D.flat] at f) (fun _ _ _ _ _ _ _ f=>by simp[D.flat] at f) (fun _=>.nil) fun _ _ _ _ _ _ i1 i2 f=>by
   simp only[cw,mw] at f
   exact .cons (i1 f.1) (i2 f.2)
theorem Rep.gr(t:∀ a vs,H a=some (.tup vs)->G a=some (.tup vs))(r:Rep K H d v)(f:d.flat=true):Rep K G d v:=(Rep.zG t).1 r f
theorem aI.gr(t:∀ a vs,H a=some (.tup vs)->G a=some (.tup vs))(r:aI K H ds vs)(f:cw ds=true):aI K G ds vs:=(Rep.zG t).2 r f
theorem aI.owned(r:aI K Hs ds vs)(f:cw ds=true):aD K Hs H fl ds vs [] :=
 aI.ind (m:=fun ds vs=>cw ds=true->aD K Hs H fl ds vs []) (fun _=>.nil) (fun _ _ _ _ h _ ih f=>by
  simp only[cw,mw] at f
  exact .cons (As:=[]) (.sh (fun _=>f.1) h) (ih f.2)) r f
theorem aI.G5(r:aI K Hs ds vs):aD K Hs H false ds vs [] :=
 aI.ind (m:=fun ds vs=>aD K Hs H false ds vs []) .nil (fun _ _ _ _ h _ ih=>.cons (As:=[]) (.sh (fun z=>Bool.noConfusion z) h) ih) r
theorem bE.Xy:(∀ {d:D} {v:V} {As:List Addr},bE K Hs H fl d v As->bE K Hs H false d v As)/\∀ {ds:List D} {vs:List V} {As:List Addr},aD K Hs H fl ds vs As->aD K Hs H false ds vs As :=
 bE.ind (fun _ _ _ r=>.sh (fun z=>Bool.noConfusion z) r) (fun _ _ _ _ z e _ ih=>.list z e ih) (fun _ _ _ _ z e n _ ih=>.tup z e n ih) (fun _ _ _ _ z e _ ih=>.dK z e ih) (fun _ _ _ _ z e _ ih=>.dT z e ih) .nil fun _ _ _ _ _ _ _ _ a b=>.cons a b
theorem bE.Qy(r:bE K Hs H fl d v As):bE K Hs H false d v As:=bE.Xy.1 r
theorem aD.Qy(r:aD K Hs H fl ds vs As):aD K Hs H false ds vs As:=bE.Xy.2 r
theorem bE.DK(t:∀ a vs,Hs a=some (.tup vs)->G a=some (.tup vs)):(∀ {d:D} {v:V} {As:List Addr},bE K Hs H true d v As->bE K G H true d v As)/\∀ {ds:List D} {vs:List V} {As:List Addr},aD K Hs H true ds vs As->aD K G H true ds vs As :=
 bE.ind (fun _ _ f r=>.sh f (r.gr t (f rfl))) (fun _ _ _ _ z e _ ih=>.list z e ih) (fun _ _ _ _ z e n _ ih=>.tup z (t _ _ e) n ih) (fun _ _ _ _ z e _ ih=>.dK z e ih) (fun _ _ _ _ z e _ ih=>.dT z e ih) .nil fun _ _ _ _ _ _ _ _ a b=>.cons a b
theorem bE.leaves(t:∀ a vs,Hs a=some (.tup vs)->G a=some (.tup vs))(r:bE K Hs H true d v As):bE K G H true d v As:=(bE.DK t).1 r
theorem aD.ind{m:List D->List V->List Addr->Prop}(hn:m [] [] [])(hc:∀ d v ds vs As Bs,bE K Hs H fl d v As->aD K Hs H fl ds vs Bs->m ds vs Bs->m (d :: ds) (v :: vs) (As++Bs)):∀ {ds vs As},aD K Hs H fl ds vs As->m ds vs As :=
 fun r=>(bE.ind (m1:=fun _ _ _=>True) (m2:=m) (fun _ _ _ _=>trivial) (fun _ _ _ _ _ _ _ _=>trivial) (fun _ _ _ _ _ _ _ _ _=>trivial) (fun _ _ _ _ _ _ _ _=>trivial) (fun _ _ _ _ _ _ _ _=>trivial) hn fun d v ds vs As Bs r s _ b=>hc d v ds vs As Bs r s b).2 r
theorem aD.append(r:aD K Hs H fl ds vs As)(t:aD K Hs H fl es ws Bs):aD K Hs H fl (ds++es) (vs++ws) (As++Bs) :=
 aD.ind (m:=fun ds vs As=>aD K Hs H fl (ds++es) (vs++ws) (As++Bs)) t (fun _ _ _ _ _ _ h _ ih=>by
  rw[xo]
  exact .cons h ih) r
theorem aD.n0(h:aD K Hs H fl [] vs As):vs=[]/\As=[]:=by cases h;exact⟨rfl,rfl⟩
theorem aD.c(h:aD K Hs H fl (d :: ds) vs As):∃ u us A B,vs=u :: us/\As=A++B/\bE K Hs H fl d u A/\aD K Hs H fl ds us B:=by
 cases h with
 |cons r rs=>exact⟨_,_,_,_,rfl,rfl,r,rs⟩
theorem aD.length(r:aD K Hs H fl ds vs As):ds.length=vs.length :=
 aD.ind (m:=fun ds vs _=>ds.length=vs.length) rfl (fun _ _ _ _ _ _ _ _ ih=>by rw[oz,oz,ih]) r
end
inductive Sl where
 /-- shared;owned;owned and walked by a loop just now (at a) -/
 |sh (d:D)|ow (fl:Bool) (d:D)|lk (a:Addr) (fl:Bool) (d:D)
 /-- an exception,at a -/
 |xc (a:Addr)
abbrev Env:=List (Option Sl)
inductive SR(K:PySem.W.Frag)(Hs H:Hp):Env->St->List Addr->Prop
 |nil:SR K Hs H [] [] []
 |non {ρ:Env} {σ:St} {ag:List Addr} {o:Option V}:SR K Hs H ρ σ ag->SR K Hs H (none :: ρ) (o :: σ) ag
 |sh {ρ:Env} {σ:St} {ag:List Addr} {d:D} {v:V}:Rep K Hs d v->SR K Hs H ρ σ ag->SR K Hs H (some (.sh d) :: ρ) (some v :: σ) ag
 |xc {ρ:Env} {σ:St} {ag:List Addr} {a:Addr}:SR K Hs H ρ σ ag->SR K Hs H (some (.xc a) :: ρ) (some (.ref a) :: σ) ag
 |ow {ρ:Env} {σ:St} {ag As:List Addr} {fl:Bool} {d:D} {v:V}:As≠[]->bE K Hs H fl d v As->SR K Hs H ρ σ ag->SR K Hs H (some (.ow fl d) :: ρ) (some v :: σ) (As++ag)
 |lk {ρ:Env} {σ:St} {ag As:List Addr} {a:Addr} {fl:Bool} {d:D}:As≠[]->bE K Hs H fl d (.ref a) As->SR K Hs H ρ σ ag->SR K Hs H (some (.lk a fl d) :: ρ) (some (.ref a) :: σ) (As++ag)
structure Wf(Hs H:Hp):Prop where
 sub:ax Hs H
 jI:∀ a vs,H a=some (.tup vs)->Hs a=some (.tup vs)
structure cy(K:PySem.W.Frag)(Hs:Hp)(ρ:Env)(σ:St)(H:Hp)(ag:List Addr):Prop where
 sr:SR K Hs H ρ σ ag
 wf:Wf Hs H
 oQ:ag.Nodup
 own:∀ a∈ag,Hs a=none
structure eP(Hs H av H':Hp):Prop where
 all:ax H H'
 sh:ax Hs av
 wf:Wf av H'
 new:∀ a,av a≠none->Hs a≠none\/H a=none
section
variable {K:PySem.W.Frag}{Hs H av H' Xz XC:Hp}
theorem eP.refl(w:Wf Hs H):eP Hs H Hs H:=⟨ax.refl _,ax.refl _,w,fun _ h=>.inl h⟩
theorem eP.trans(a:eP Hs H av H')(b:eP av H' Xz XC):eP Hs H Xz XC :=
 ⟨a.all.trans b.all,a.sh.trans b.sh,b.wf,fun c h=>by
  rcases b.new c h with h|h
  ·exact a.new c h
  ·exact .inr (a.all.free h)⟩
theorem eP.oP(g:eP Hs H av H')(h:Hs a=none)(h':H a≠none):av a=none:=by
 cases e:av a with
 |none=>rfl
 |some o =>
  rcases g.new a (by rw[e];exact fun z=>nomatch z) with z|z
  ·exact absurd h z
  ·exact absurd z h'
theorem SR.own{ρ:Env}{σ:St}{ag:List Addr}(s:SR K Hs H ρ σ ag):∀ a∈ag,Own H a:=by
 induction s with
 |nil=>exact fun a h=>A7 h
 |non _ ih=>exact ih
 |sh _ _ ih=>exact ih
 |xc _ ih=>exact ih
 |ow _ r _ ih=>exact fun a h=>(dP.mp h).elim (r.own a) (ih a)
 |lk _ r _ ih=>exact fun a h=>(dP.mp h).elim (r.own a) (ih a)
theorem SR.fh(s:ax Hs av)(r:SR K Hs H ρ σ ag):(∀ a∈ag,H' a=H a)->SR K av H' ρ σ ag:=by
 induction r with
 |nil=>exact fun _=>.nil
 |non _ ih=>exact fun k=>.non (ih k)
 |sh h _ ih=>exact fun k=>.sh (h.same s) (ih k)
 |xc _ ih=>exact fun k=>.xc (ih k)
 |ow ne h _ ih=>exact fun k=>.ow ne (h.fh s fun a m=>k a (kF _ m)) (ih fun a m=>k a (eT _ m))
 |lk ne h _ ih=>exact fun k=>.lk ne (h.fh s fun a m=>k a (kF _ m)) (ih fun a m=>k a (eT _ m))
theorem cy.grow(r:cy K Hs ρ σ H ag)(g:eP Hs H av H'):cy K av ρ σ H' ag :=
 ⟨r.sr.fh g.sh fun a h=>by
  cases e:H a with
  |none=>exact absurd e (r.sr.own a h).ne
  |some o=>exact g.all a o e,g.wf,r.oQ,fun a h=>g.oP (r.own a h) (r.sr.own a h).ne⟩
def Bo(K:PySem.W.Frag)(Hs H:Hp)(ag:List Addr)(sl:Sl)(v:V):Prop:=match sl with
 |.sh d=>Rep K Hs d v
 |.ow fl d=>∃ As,As≠[]/\bE K Hs H fl d v As/\∀ a∈As,a∈ag
 |.lk a fl d=>∃ As,As≠[]/\bE K Hs H fl d v As/\v=.ref a/\∀ a∈As,a∈ag
 |.xc a=>v=.ref a
theorem Bo.mono(h:Bo K Hs H ag sl v)(m:∀ a∈ag,a∈bG):Bo K Hs H bG sl v:=by
 cases sl with
 |sh d=>exact h
 |xc a=>exact h
 |ow fl d =>
  obtain⟨As,ne,r,q⟩:=h
  exact⟨As,ne,r,fun a ha=>m a (q a ha)⟩
 |lk a fl d =>
  obtain⟨As,ne,r,e,q⟩:=h
  exact⟨As,ne,r,e,fun a ha=>m a (q a ha)⟩
theorem SR.get{ρ:Env}{σ:St}{ag:List Addr}{i:Nat}{sl:Sl}(s:SR K Hs H ρ σ ag)(e:ρ[i]? = some (some sl)):∃ v,σ[i]? = some (some v)/\Bo K Hs H ag sl v:=by
 induction s generalizing i with
 |nil=>simp at e
 |non s ih =>
  cases i with
  |zero=>simp at e
  |succ i=>exact ih e
 |sh r s ih =>
  cases i with
  |zero=>simp at e;subst e;exact⟨_,rfl,r⟩
  |succ i=>exact ih e
 |xc s ih =>
  cases i with
  |zero=>simp at e;subst e;exact⟨_,rfl,rfl⟩
  |succ i=>exact ih e
 |ow ne r s ih =>
  cases i with
  |zero=>simp at e;subst e;exact⟨_,rfl,_,ne,r,fun a m=>kF _ m⟩
  |succ i =>
   obtain⟨v,e1,h⟩:=ih e
   exact⟨v,e1,h.mono fun a m=>eT _ m⟩
 |lk ne r s ih =>
  cases i with
  |zero=>simp at e;subst e;exact⟨_,rfl,_,ne,r,rfl,fun a m=>kF _ m⟩
  |succ i =>
   obtain⟨v,e1,h⟩:=ih e
   exact⟨v,e1,h.mono fun a m=>eT _ m⟩
end
inductive Md where
 |sh|ow (fl:Bool)|bo
def RM(K:PySem.W.Frag)(Hs H:Hp):Md->D->V->List Addr->Prop
 |.sh,d,v,As=>As=[]/\Rep K Hs d v
 |.ow fl,d,v,As=>bE K Hs H fl d v As/\As≠[]
 |.bo,d,v,As=>As=[]/\Rep K H d v
inductive zI(K:PySem.W.Frag)(Hs H:Hp):List (Md × D)->List V->List Addr->Prop
 |nil:zI K Hs H [] [] []
 |cons {m:Md} {d:D} {v:V} {ps:List (Md × D)} {vs:List V} {As Bs:List Addr}:RM K Hs H m d v As->zI K Hs H ps vs Bs->zI K Hs H ((m,d) :: ps) (v :: vs) (As++Bs)
section
variable {K:PySem.W.Frag}{Hs H av H':Hp}
theorem RM.own{m:Md}{d:D}{v:V}{As:List Addr}(r:RM K Hs H m d v As):∀ a∈As,Own H a:=by
 cases m with
 |sh=>obtain⟨rfl,_⟩:=r;exact fun a h=>A7 h
 |ow fl=>exact bE.own r.1
 |bo=>obtain⟨rfl,_⟩:=r;exact fun a h=>A7 h
theorem RM.grow(r:RM K Hs H m d v As)(g:eP Hs H av H'):RM K av H' m d v As:=by
 cases m with
 |sh=>exact⟨r.1,r.2.same g.sh⟩
 |ow fl=>exact⟨bE.grow g.sh g.all r.1,r.2⟩
 |bo=>exact⟨r.1,r.2.same g.all⟩
theorem RM.rep(w:Wf Hs H)(r:RM K Hs H m d v As):Rep K H d v:=by
 cases m with
 |sh=>exact r.2.same w.sub
 |ow fl=>exact bE.rep w.sub r.1 fun _ _=>rfl
 |bo=>exact r.2
theorem RM.flat(w:Wf Hs H)(r:RM K Hs H m d v As)(f:d.flat=true):Rep K Hs d v:=(r.rep w).gr w.jI f
theorem zI.reps(w:Wf Hs H){ps:List (Md × D)}(r:zI K Hs H ps vs As):aI K H (ps.map (·.2)) vs:=by
 induction r with
 |nil=>exact .nil
 |cons r _ ih=>exact .cons (r.rep w) ih
end
abbrev WE:=Env->(Md->D->Prop)->Prop
abbrev WT:=Env->(Bool->Prop)->Prop
abbrev WA:=Env->(List (Md × D)->Prop)->Prop
structure mX where
 nx:Env->Prop
 rt:Md->D->Prop
 bk:Env->Prop:=fun _=>False
 ct:Env->Prop:=fun _=>False
abbrev WS:=mX->Env->Prop
def dB(av H:Hp)(As:List Addr):Prop:=As.Nodup/\∀ a∈As,av a=none/\H a=none
def mI(K:PySem.W.Frag)(t:WE):TE:=fun σ H Qv=>∃ Hs ρ ag Q,cy K Hs ρ σ H ag/\t ρ Q /\
 ∀ v H' av m d As,eP Hs H av H'->RM K av H' m d v As->dB av H As->Q m d->Qv v H'
def A8(K:PySem.W.Frag)(t:WT):TT:=fun σ H Qv=>∃ Hs ρ ag Q,cy K Hs ρ σ H ag/\t ρ Q/\∀ b H' av,eP Hs H av H'->Q b->Qv b H'
def XD(K:PySem.W.Frag)(t:WA):TA:=fun σ H Qv=>∃ Hs ρ ag Q,cy K Hs ρ σ H ag/\t ρ Q /\
 ∀ vs H' av ps As,eP Hs H av H'->zI K av H' ps vs As->dB av H As->Q ps->Qv vs H'
def vF(K:PySem.W.Frag)(L:Str->Hp->Prop)(t:WS):TS:=fun D σ H=>∃ Hs ρ ag E,cy K Hs ρ σ H ag/\t E ρ /\
 (∀ bp H' av aT bG,ax Hs av->cy K av aT bp H' bG->E.nx aT->D.nx bp H') /\
 (∀ bp H' av aT bG,ax Hs av->cy K av aT bp H' bG->E.bk aT->D.bk bp H') /\
 (∀ bp H' av aT bG,ax Hs av->cy K av aT bp H' bG->E.ct aT->D.ct bp H') /\
 (∀ v H' av m d As,ax Hs av->Wf av H'->RM K av H' m d v As->As.Nodup->(∀ a∈As,av a=none)->E.rt m d->D.rt v H') /\
 ∀ n H',ax Hs H'->E.rt (.ow false) (.str n)->L n H'
theorem lK{K:PySem.W.Frag}{L:Str->Hp->Prop}{t:WS}{D:Ends}{σ:St}{H:Hp}{G:Prop}(x:vF K L t D σ H)(k:∀ Hs ρ ag E,cy K Hs ρ σ H ag->t E ρ ->
 (∀ bp H' av aT bG,ax Hs av->cy K av aT bp H' bG->E.nx aT->D.nx bp H') ->
 (∀ bp H' av aT bG,ax Hs av->cy K av aT bp H' bG->E.bk aT->D.bk bp H') ->
 (∀ bp H' av aT bG,ax Hs av->cy K av aT bp H' bG->E.ct aT->D.ct bp H') ->
 (∀ v H' av m d As,ax Hs av->Wf av H'->RM K av H' m d v As->As.Nodup->(∀ a∈As,av a=none)->E.rt m d->D.rt v H') ->
 (∀ n H',ax Hs H'->E.rt (.ow false) (.str n)->L n H')->G):G :=
 by
 obtain⟨Hs,ρ,ag,E,sr,h,k1,k2,k3,k4,kx⟩:=x
 exact k Hs ρ ag E sr h k1 k2 k3 k4 kx
theorem d_{K:PySem.W.Frag}{L:Str->Hp->Prop}{t:WS}{D:Ends}{σ:St}{H:Hp}{G:Prop}(x:vF K L t D σ H)(k:∀ Hs ρ ag E,cy K Hs ρ σ H ag->t E ρ ->
 (∀ bp H' av aT bG,ax Hs av->cy K av aT bp H' bG->E.nx aT->D.nx bp H') ->
 (∀ bp H' av aT bG,ax Hs av->cy K av aT bp H' bG->E.bk aT->D.bk bp H') ->
 (∀ bp H' av aT bG,ax Hs av->cy K av aT bp H' bG->E.ct aT->D.ct bp H') ->
 (∀ v H' av m d As,ax Hs av->Wf av H'->RM K av H' m d v As->As.Nodup->(∀ a∈As,av a=none)->E.rt m d->D.rt v H')->G):G :=
 lK x fun Hs ρ ag E sr h k1 k2 k3 k4 _=>k Hs ρ ag E sr h k1 k2 k3 k4
theorem kL{α β γ δ:Type _}{A B C:α->β->γ->δ->Prop}{G:Prop}(x:∃ a b c d,A a b c d/\B a b c d/\C a b c d)(k:∀ a b c d,A a b c d->B a b c d->C a b c d->G):G :=
 by
 obtain⟨a,b,c,d,p,q,r⟩:=x
 exact k a b c d p q r
abbrev QE(X:Cx)(K:PySem.W.Frag)(e:Expr)(t:WE):Prop:=PE X e (mI K t)
abbrev QT(X:Cx)(K:PySem.W.Frag)(e:Expr)(t:WT):Prop:=PT X e (A8 K t)
abbrev QW(X:Cx)(K:PySem.W.Frag)(e:Expr)(t:WT):Prop:=PW X e (A8 K t)
abbrev QA(X:Cx)(K:PySem.W.Frag)(es:List Expr)(t:WA):Prop:=PA X es (XD K t)
abbrev QS(X:Cx)(K:PySem.W.Frag)(L:Str->Hp->Prop)(st:Stmt)(t:WS):Prop:=PS X st (vF K L t)
abbrev xi(X:Cx)(K:PySem.W.Frag)(L:Str->Hp->Prop)(st:List Stmt)(t:WS):Prop:=lI X st (vF K L t)
abbrev L0:Str->Hp->Prop:=fun _ _=>True
end L2.Q
namespace L2.Q
open PySem PySem.Spec PyProof.Rows
structure Kt{α:Type}(f:α->Prop):Type where
def bP{α:Type}(a:α){f:α->Prop}(_:Kt f):Prop:=f a
mutual
def D.py:D->PyData
 |.non=>.none
 |.bl b=>.bool b
 |.int i=>.int i
 |.str x=>.str x
 |.list xs=>.list (mh xs)
 |.tup xs=>.tuple (mh xs)
 |.dK _=>.none
 |.dT _=>.none
def mh:List D->List PyData
 |[]=>[]
 |x :: xs=>x.py :: mh xs
end
def cv:Nat->D->Bool
 |_,.non=>true
 |_,.bl _=>true
 |_,.int _=>true
 |_,.str x=>PyData.strOk x
 |n+1,.list xs=>xs.all (cv n)
 |n+1,.tup xs=>xs.all (cv n)
 |_,_=>false
def gS(x y:D):Bool:=PyData.eqv x.py y.py
def D.ty:D->String
 |.non => "NoneType"
 |.bl _ => "bool"
 |.int _ => "int"
 |.str _ => "str"
 |.list _ => "list"
 |.tup _ => "tuple"
 |.dK _ => "dict"
 |.dT _ => "dict"
def D.key1:D->Option Key
 |.int i=>some (.inl i)
 |.str x=>some (.inr x)
 |_=>none
def eO:List D->Option (List Key)
 |[]=>some []
 |x :: xs=>match x.key1,eO xs with
  |some k,some ks=>some (k :: ks)
  |_,_=>none
section
variable {κ:Type}[DecidableEq κ]{β:Type}
def eC(kvs:List (κ × β))(k:κ):Option β:=(kvs.find? fun kv=>decide (kv.1=k)).map (·.2)
def mM(kvs:List (κ × β))(k:κ)(v:β):List (κ × β) :=
 if (kvs.any fun kv=>decide (kv.1=k))=true then kvs.map (fun kv=>if kv.1=k then (kv.1,v) else kv) else kvs++[(k,v)]
end
theorem Rep.Tx{K:PySem.W.Frag}:(∀ {d:D} {v:V},Rep K H d v->∀ n,cv n d=true->L2.Rep K H d.py v)/\∀ {ds:List D} {vs:List V},aI K H ds vs->∀ n,(∀ d∈ds,cv n d=true)->L2.aI K H (mh ds) vs :=
 Rep.ind (m1:=fun d v=>∀ n,cv n d=true->L2.Rep K H d.py v) (m2:=fun ds vs=>∀ n,(∀ d∈ds,cv n d=true)->L2.aI K H (mh ds) vs) (fun _ _=>.none) (fun b _ _=>.bool b) (fun i _ _=>.int i) (fun _ _ _ _=>.str _)
  (fun _ _ _ _ h _ ih n o=>by
   cases n with
   |zero=>simp[cv] at o
   |succ n=>exact .list h (ih n (by simpa[cv] using o)))
  (fun _ _ _ _ h _ ih n o=>by
   cases n with
   |zero=>simp[cv] at o
   |succ n=>exact .tuple (.inl (.inl h)) (ih n (by simpa[cv] using o)))
  (fun _ _ _ _ _ _ _ n o=>by cases n<;>simp[cv] at o) (fun _ _ _ _ _ _ _ n o=>by cases n<;>simp[cv] at o) (fun _ _=>.nil)
  fun _ _ _ _ _ _ i1 i2 n o=>.cons (i1 n (o _ b6)) (i2 n fun d m=>o d (b9 _ m))
theorem Rep.l2{K:PySem.W.Frag}(r:Rep K H d v)(o:cv n d=true):L2.Rep K H d.py v:=Rep.Tx.1 r n o
theorem wW(ih:∀ d,cv n d=true->d.py.canLay0=true/\d.py.depth<=n)(xs:List D)(h:∀ x∈xs,cv n x=true):PyData.canLayAll0 (mh xs)=true/\PyData.depthAll (mh xs)<=n:=by
 induction xs with
 |nil=>exact⟨rfl,eK _⟩
 |cons x xs Tz =>
  have h1:=ih x (h x b6)
  have h2:=Tz fun y hy=>h y (b9 _ hy)
  simp only[mh,PyData.canLayAll0,PyData.depthAll,h1.1,h2.1,Bool.and_self,true_and]
  lia
theorem jE(n:Nat):∀ (d:D),cv n d=true->d.py.canLay0=true/\d.py.depth<=n:=by
 have st:∀ (n:Nat) (x:Str),cv n (.str x)=true->(D.str x).py.canLay0=true/\(D.str x).py.depth<=n:=fun n x h=>by
  have h:PyData.strOk x=true:=by cases n<;>simpa[cv] using h
  exact⟨by simpa[D.py,PyData.canLay0] using h,eK _⟩
 induction n with
 |zero =>
  intro d h
  cases d with
  |str x=>exact st _ x h
  |non=>exact⟨rfl,eK _⟩
  |bl _=>exact⟨rfl,eK _⟩
  |int _=>exact⟨rfl,eK _⟩
  |_=>simp[cv] at h
 |succ n ih =>
  intro d h
  cases d with
  |str x=>exact st _ x h
  |non=>exact⟨rfl,eK _⟩
  |bl _=>exact⟨rfl,eK _⟩
  |int _=>exact⟨rfl,eK _⟩
  |list xs =>
   have h:∀ x∈xs,cv n x=true:=by simpa[cv] using h
   have:=wW ih xs h
   simp only[D.py,PyData.canLay0,PyData.depth]
   exact⟨this.1,by lia⟩
  |tup xs =>
   have h:∀ x∈xs,cv n x=true:=by simpa[cv] using h
   have:=wW ih xs h
   simp only[D.py,PyData.canLay0,PyData.depth]
   exact⟨this.1,by lia⟩
  |dK _=>simp[cv] at h
  |dT _=>simp[cv] at h
mutual
def D.nb:D->Bool
 |.bl _=>false
 |.list xs=>tI xs
 |.tup xs=>tI xs
 |.dK _=>false
 |.dT _=>false
 |_=>true
def tI:List D->Bool
 |[]=>true
 |x :: xs=>x.nb && tI xs
end
mutual
theorem oW:∀ (x y:D),x.nb=true->y.nb=true->(gS x y=true↔x=y)
 |.non,y,_,hy=>by cases y<;>simp_all [gS,D.py,PyData.eqv,D.nb]
 |.bl _,y,hx,_=>by simp[D.nb] at hx
 |.int i,y,_,hy=>by cases y<;>simp_all [gS,D.py,PyData.eqv,D.nb]
 |.str i,y,_,hy=>by cases y<;>simp_all [gS,D.py,PyData.eqv,D.nb]
 |.dK _,y,hx,_=>by simp[D.nb] at hx
 |.dT _,y,hx,_=>by simp[D.nb] at hx
 |.list xs,y,hx,hy=>by
  cases y with
  |list ys =>
   have:=pQ xs ys (by simpa[D.nb] using hx) (by simpa[D.nb] using hy)
   simp only[gS,D.py,PyData.eqv,D.list.injEq]
   exact this
  |_=>simp_all [gS,D.py,PyData.eqv,D.nb]
 |.tup xs,y,hx,hy=>by
  cases y with
  |tup ys =>
   have:=pQ xs ys (by simpa[D.nb] using hx) (by simpa[D.nb] using hy)
   simp only[gS,D.py,PyData.eqv,D.tup.injEq]
   exact this
  |_=>simp_all [gS,D.py,PyData.eqv,D.nb]
theorem pQ:∀ (xs ys:List D),tI xs=true->tI ys=true->(PyData.eqvAll (mh xs) (mh ys)=true↔xs=ys)
 |[],[],_,_=>by simp[mh,PyData.eqvAll]
 |[],_ :: _,_,_=>by simp[mh,PyData.eqvAll]
 |_ :: _,[],_,_=>by simp[mh,PyData.eqvAll]
 |x :: xs,y :: ys,hx,hy=>by
  simp only[tI,mw] at hx hy
  have h1:=oW x y hx.1 hy.1
  have h2:=pQ xs ys hx.2 hy.2
  simp only[mh,PyData.eqvAll,mw,List.cons.injEq]
  exact and_congr h1 h2
end
section
variable {K:PySem.W.Frag}{H:Hp}
theorem Rep.key(r:Rep K H d v)(h:d.key1=some k):v=kV k:=by
 cases r<;>simp[D.key1] at h<;>subst h<;>rfl
theorem aI.keys(r:aI K H ds vs)(h:eO ds=some ks):vs=ks.map kV:=by
 induction ds generalizing vs ks with
 |nil=>simp[eO] at h;subst h;exact r.n0
 |cons d ds ih =>
  obtain⟨u,us,rfl,r,rs⟩:=r.c
  unfold eO at h
  cases e1:d.key1 with
  |none=>rw[e1] at h;simp at h
  |some k =>
   cases e2:eO ds with
   |none=>rw[e1,e2] at h;simp at h
   |some fq =>
    rw[e1,e2] at h
    simp at h
    subst h
    rw[fN,r.key e1,ih rs e2]
theorem Rep.kc(r:Rep K H (.tup ds) v)(h:eO ds=some ks):∃ b,v=.ref b/\H b=some (.tup (ks.map kV)):=by
 cases r with
 |tup _ e rs=>exact⟨_,rfl,by rw[e,rs.keys h]⟩
end
section
variable {κ:Type}[DecidableEq κ]{K:PySem.W.Frag}{H:Hp}
theorem zip_get{k:κ}{kvs:List (κ × D)}{vs:List V}(h:aI K H (kvs.map (·.2)) vs):match eC kvs k with
  |some d=>∃ v,fP ((kvs.map (·.1)).zip vs) k=some v/\Rep K H d v
  |none=>fP ((kvs.map (·.1)).zip vs) k=none:=by
 induction kvs generalizing vs with
 |nil=>rfl
 |cons p kvs ih =>
  obtain⟨u,us,rfl,r,rs⟩:=aI.c (d:=p.2) h
  by_cases e:p.1=k
  ·have e1:eC (p :: kvs) k=some p.2:=by simp[eC,e]
   rw[e1]
   exact⟨_,by simp only[fN,xl];exact vn e,r⟩
  ·have e1:eC (p :: kvs) k=eC kvs k:=by simp[eC,e]
   rw[e1]
   have:=ih rs
   simp only[fN,xl,vt (p:=(p.1,_)) e]
   exact this
theorem Du{k:κ}{kvs:List (κ × D)}{vs:List V}(h:kvs.length=vs.length):((kvs.map (·.1)).zip vs).any (fun kv=>decide (kv.1=k))=kvs.any fun kv=>decide (kv.1=k):=by
 induction kvs generalizing vs with
 |nil=>rfl
 |cons p kvs ih =>
  cases vs with
  |nil=>simp at h
  |cons v vs =>
   simp only[fN,xl,AK]
   rw[ih (vs:=vs) (by simpa using h)]
end
section
variable {K:PySem.W.Frag}{Hs H:Hp}
theorem Qz(w:Wf Hs H)(hp:H p=none)(ho:∀ vs,o≠.tup vs):eP Hs H Hs (upd H p o) :=
 ⟨(ax.refl H).upd hp,ax.refl _,⟨w.sub.upd hp,fun a vs e=>by
  by_cases h:a=p
  ·subst h;rw[fE] at e;exact absurd (Option.some.inj e) (ho vs)
  ·rw[cf h] at e;exact w.jI a vs e⟩,fun _ h=>.inl h⟩
theorem XF(w:Wf Hs H)(hp:H p=none):eP Hs H (upd Hs p (.tup vs)) (upd H p (.tup vs)) :=
 ⟨(ax.refl H).upd hp,(ax.refl Hs).upd (w.sub.free hp),⟨fun a o e=>by
  by_cases h:a=p
  ·subst h;rw[fE] at e ⊢;exact e
  ·rw[cf h] at e ⊢;exact w.sub a o e,fun a vs e=>by
  by_cases h:a=p
  ·subst h;rw[fE] at e ⊢;exact e
  ·rw[cf h] at e ⊢;exact w.jI a vs e⟩,fun a h=>by
  by_cases e:a=p
  ·subst e;exact .inr hp
  ·rw[cf e] at h;exact .inl h⟩
theorem dB.nil:dB Hs H []:=⟨sT,fun a h=>nomatch h⟩
theorem dB.of(s:ax H H')(f:dB Hs H' As):dB Hs H As:=⟨f.1,fun a h=>⟨(f.2 a h).1,s.free (f.2 a h).2⟩⟩
abbrev Fin(K:PySem.W.Frag)(Hs H:Hp)(Qd:Md->D->Prop)(Qv:VK):Prop:=∀ v H' av m d As,eP Hs H av H'->RM K av H' m d v As->dB av H As->Qd m d->Qv v H'
theorem Fin.after(f:Fin K Hs H Qd Qv)(g:eP Hs H av H'):Fin K av H' Qd Qv:=fun v H2 ay m d As g2 r fr q=>f v H2 ay m d As (g.trans g2) r (fr.of g.all) q
theorem Fin.sh(f:Fin K Hs H Qd Qv)(w:Wf Hs H)(r:Rep K Hs d v)(q:Qd .sh d):Qv v H:=f v H Hs .sh d [] (eP.refl w) ⟨rfl,r⟩ dB.nil q
theorem Fin.flat(f:Fin K Hs H Qd Qv)(w:Wf Hs H)(r:Rep K H d v)(hf:d.flat=true)(q:Qd .sh d):Qv v H:=f.sh w (r.gr w.jI hf) q
theorem Fin.bo(f:Fin K Hs H Qd Qv)(w:Wf Hs H)(r:Rep K H d v)(q:Qd .bo d):Qv v H:=f v H Hs .bo d [] (eP.refl w) ⟨rfl,r⟩ dB.nil q
def ny(m:Md)(d:D):Md:=match m with
 |.sh=>.sh
 |_=>bif d.flat then .sh else .bo
theorem Fin.ny(f:Fin K Hs H Qd Qv)(w:Wf Hs H)(r:Rep K H d v)(rs:m=.sh->Rep K Hs d v)(q:Qd (ny m d) d):Qv v H:=by
 cases m with
 |sh=>exact f.sh w (rs rfl) q
 |ow fl =>
  cases hf:d.flat with
  |true=>exact f.flat w r hf (by simpa[Q.ny,hf] using q)
  |false=>exact f.bo w r (by simpa[Q.ny,hf] using q)
 |bo =>
  cases hf:d.flat with
  |true=>exact f.flat w r hf (by simpa[Q.ny,hf] using q)
  |false=>exact f.bo w r (by simpa[Q.ny,hf] using q)
theorem Fin.lst(f:Fin K Hs H Qd Qv)(w:Wf Hs H)(hz:ds.length<=sizeLine)(r:aI K H ds vs)(hf:cw ds=true)(q:Qd (.ow true) (.list ds)):∀ p,H p=none->Qv (.ref p) (upd H p (.lst vs)):=fun p hp =>
 f _ _ Hs (.ow true) (.list ds) [p] (Qz w hp fun _ z=>nomatch z) ⟨.list (by rw[<- r.length];exact hz) fE ((r.gr w.jI hf).owned hf),by simp⟩ ⟨by simp,fun a h=>by
  obtain rfl:a=p:=by simpa using h
  exact⟨w.sub.free hp,hp⟩⟩ q
theorem Fin.NM(f:Fin K Hs H Qd Qv)(w:Wf Hs H)(hz:ds.length<=sizeLine)(r:aI K Hs ds vs)(q:Qd (.ow false) (.list ds)):∀ p,H p=none->Qv (.ref p) (upd H p (.lst vs)):=fun p hp =>
 f _ _ Hs (.ow false) (.list ds) [p] (Qz w hp fun _ z=>nomatch z) ⟨.list (by rw[<- r.length];exact hz) fE r.G5,by simp⟩ ⟨by simp,fun a h=>by
  obtain rfl:a=p:=by simpa using h
  exact⟨w.sub.free hp,hp⟩⟩ q
theorem Fin.tup(f:Fin K Hs H Qd Qv)(w:Wf Hs H)(hz:ds.length<=sizeLine)(r:aI K H ds vs)(hf:cw ds=true)(q:Qd .sh (.tup ds)):∀ p,H p=none->Qv (.ref p) (upd H p (.tup vs)):=fun p hp =>
 f _ _ (upd Hs p (.tup vs)) .sh (.tup ds) [] (XF w hp) ⟨rfl,.tup (by rw[<- r.length];exact hz) fE ((r.gr w.jI hf).same ((ax.refl Hs).upd (w.sub.free hp)))⟩ dB.nil q
end
section
variable {X:Cx}{K:PySem.W.Frag}
theorem PE.imp(h:PE X e te)(i:∀ σ H Q,vS σ H Q->te σ H Q):PE X e vS:=fun pins s σ H Q I q=>h pins s σ H Q I (i σ H Q q)
theorem PT.imp(h:PT X e te)(i:∀ σ H Q,vS σ H Q->te σ H Q):PT X e vS:=fun pins s σ H Q I q=>h pins s σ H Q I (i σ H Q q)
theorem PW.imp(h:PW X e te)(i:∀ σ H Q,vS σ H Q->te σ H Q):PW X e vS:=fun wh pins s σ H Q I q=>h wh pins s σ H Q I (i σ H Q q)
theorem PA.imp(h:PA X e te)(i:∀ σ H Q,vS σ H Q->te σ H Q):PA X e vS:=fun p pins s σ H Q I q=>h p pins s σ H Q I (i σ H Q q)
def NR:Option (Option Sl)->(Md->D->Prop)->Prop
 |some (some (.sh d)),Q=>Q .sh d
 |some (some (.ow _ d)),Q=>Q .bo d
 |some (some (.lk _ _ d)),Q=>Q .bo d
 |_,_=>False
def ae(i:Nat):WE:=fun ρ Q=>NR ρ[i]? Q
theorem J0(h:PE X e (B7 i)):QE X K e (ae i):=by
 refine PE.imp h fun σ H Qv hx=>kL hx fun Hs ρ ag Q sr h f=>?_
 unfold ae at h
 cases e:ρ[i]? with
 |none=>rw[e] at h;exact h.elim
 |some o =>
  cases o with
  |none=>rw[e] at h;exact h.elim
  |some sl =>
   obtain⟨v,e1,r⟩:=sr.sr.get e
   rw[e] at h
   cases sl with
   |sh d=>exact⟨v,e1,Fin.sh f sr.wf r h⟩
   |xc a=>exact h.elim
   |ow fl d =>
    obtain⟨As,_,r,_⟩:=r
    exact⟨v,e1,Fin.bo f sr.wf (r.rep sr.wf.sub fun _ _=>rfl) h⟩
   |lk a fl d =>
    obtain⟨As,_,r,_⟩:=r
    exact⟨v,e1,Fin.bo f sr.wf (r.rep sr.wf.sub fun _ _=>rfl) h⟩
theorem qv (i:Nat) (hN:X.N[i]? = some x:=by rfl) (hv:PK X.env.scope x:=by first|exact Or.inl rfl|exact Or.inr (Or.inl rfl)|exact Or.inr (Or.inr rfl)) (hd:(x == ("__debug__" : Str))=false:=by decide)
  (rp:(x == ("__classdict__" : Str))=false:=by decide):QE X K (.Name x pos) (ae i):=J0 (VM hN hv hd rp)
def wC(d:D):WE:=fun _ Q=>Q .sh d
theorem zT(h:PE X e (tC v))(r:∀ H,Rep K H d v):QE X K e (wC d) :=
 PE.imp h fun σ H Qv hx=>kL hx fun Hs ρ ag Q sr h f=>Fin.sh f sr.wf (r _) h
theorem az{i j pos}:QE X K (.Constant (.int i) j pos) (wC (.int i)):=zT ZU fun _=>.int i
theorem wy{i j pos}(h:i.length<=sizeLine:=by decide):QE X K (.Constant (.str i) j pos) (wC (.str i)):=zT ZX fun _=>.str h
theorem nE{i j pos}:QE X K (.Constant (.bool i) j pos) (wC (.bl i)):=zT ZV fun _=>.bl i
theorem IK{j pos}:QE X K (.Constant .none j pos) (wC .non):=zT ZW fun _=>.non
abbrev W2:=Md->D->Md->D->(Md->D->Prop)->Prop
abbrev W1:=Md->D->(Md->D->Prop)->Prop
def kA(K:PySem.W.Frag)(r:R2)(f:W2):Prop:=∀ Hs H m x v As n y u Bs Qd Qv,Wf Hs H->RM K Hs H m x v As->RM K Hs H n y u Bs->f m x n y Qd->Fin K Hs H Qd Qv->r v u H Qv
def TB(K:PySem.W.Frag)(r:V->Hp->VK->Prop)(f:W1):Prop:=∀ Hs H m x v As Qd Qv,Wf Hs H->RM K Hs H m x v As->f m x Qd->Fin K Hs H Qd Qv->r v H Qv
def aw(f:W2)(ta tb:WE):WE:=fun ρ Q=>ta ρ fun m x=>tb ρ fun n y=>f m x n y Q
def g9(f:W1)(ta:WE):WE:=fun ρ Q=>ta ρ fun m x=>f m x Q
variable {a b:Expr}{ta tb tc:WE}{pos:Pos}
theorem mR(br:kA K r f)(σ:St)(H:Hp)(Qv:VK)(h:mI K (aw f ta tb) σ H Qv):Mb r (mI K ta) (mI K tb) σ H Qv:=by
 obtain⟨Hs,ρ,ag,Q,sr,h,fin⟩:=h
 refine⟨Hs,ρ,ag,_,sr,h,fun v H1 aE m x As g1 r1 f1 q1=>⟨aE,ρ,ag,_,sr.grow g1,q1,fun u H2 ay n y Bs g2 r2 f2 q2=>?_⟩⟩
 exact br ay H2 m x v As n y u Bs Q Qv g2.wf (r1.grow g2) r2 q2 (Fin.after fin (g1.trans g2))
theorem IJ(ho:cE X (binaryOp op) r)(br:kA K r f)(ha:QE X K a ta)(hb:QE X K b tb):QE X K (.BinOp a op b pos) (aw f ta tb):=PE.imp (az' ho ha hb) (mR br)
theorem dP'(ho:P5 X (unaryOp op) r)(br:TB K r f)(ha:QE X K a ta):QE X K (.UnaryOp op a pos) (g9 f ta):=by
 refine PE.imp (aA' ho ha) fun σ H Qv hx=>kL hx fun Hs ρ ag Q sr h fin=>?_
 exact⟨Hs,ρ,ag,_,sr,h,fun v H1 aE m x As g1 r1 f1 q1=>br aE H1 m x v As Q Qv g1.wf r1 q1 (Fin.after fin g1)⟩
theorem mq(ho:cE X (compareOp op) r)(br:kA K r f)(ha:QE X K a ta)(hb:QE X K b tb)(hm:behindInMarks op b=false):QE X K (.Compare a [op] [b] pos) (aw f ta tb):=PE.imp (aU' ho ha hb hm) (mR br)
def wB(t:WE):WT:=fun ρ Q=>t ρ fun _ x=>match x with
 |.bl b=>Q b
 |_=>False
theorem zY(σ:St)(H:Hp)(Qv:Bool->Hp->Prop)(h:A8 K (wB t) σ H Qv):Sd (mI K t) σ H Qv:=by
 obtain⟨Hs,ρ,ag,Q,sr,h,fin⟩:=h
 refine⟨Hs,ρ,ag,_,sr,h,fun v H1 aE m x As g1 r1 f1 q1=>?_⟩
 have r:=r1.rep g1.wf
 cases r with
 |bl b=>exact⟨b,rfl,fin b H1 aE g1 q1⟩
 |_=>exact q1.elim
theorem bK(ho:cE X (compareOp op) r)(br:kA K r f)(ha:QE X K a ta)(hb:QE X K b tb)(hm:behindInMarks op b=false):QT X K (.Compare a [op] [b] pos) (wB (aw f ta tb)):=by
 refine PT.imp (aV' ho ha hb hm) fun σ H Qv h=>?_
 obtain⟨Hs,ρ,ag,Q,sr,h,fin⟩:=h
 refine mR br σ H _ ⟨Hs,ρ,ag,_,sr,h,fun v H1 aE m x As g1 r1 f1 q1=>?_⟩
 have r:=r1.rep g1.wf
 cases r with
 |bl b=>exact⟨b,rfl,fin b H1 aE g1 q1⟩
 |_=>exact q1.elim
theorem iM(h:QE X K a t)(he:∀ whole,isTrue a X.env whole=(do let v <- whole;standAt a.pos;holding [v] (truthy v)):=by intro _;rfl):QT X K a (wB t):=PT.imp (Z0 h he) zY
def rn(f g:W2)(ta tb tc:WE):WE:=fun ρ Q=>ta ρ fun m x=>tb ρ fun n y=>f m x n y fun _ z=>match z with
 |.bl k=>if k=true then tc ρ fun l w=>g n y l w Q else Q .sh (.bl false)
 |_=>False
end
end L2.Q
namespace L2.Q
open PySem PySem.Spec PyProof.Rows
section
variable {X:Cx}{K:PySem.W.Frag}{a b c:Expr}{ta tb tc:WE}{pos:Pos}
theorem vL(br:kA K r f)(TC:kA K r' g)(σ:St)(H:Hp)(Qv:VK)(h:mI K (rn f g ta tb tc) σ H Qv):V_ r r' (mI K ta) (mI K tb) (mI K tc) σ H Qv:=by
 obtain⟨Hs,ρ,ag,Q,sr,h,fin⟩:=h
 refine⟨Hs,ρ,ag,_,sr,h,fun v H1 aE m x As g1 r1 f1 q1=>⟨aE,ρ,ag,_,sr.grow g1,q1,fun u H2 ay n y Bs g2 r2 f2 q2=>?_⟩⟩
 refine br ay H2 m x v As n y u Bs _ _ g2.wf (r1.grow g2) r2 q2 fun z H3 dE m3 d3 NS g3 r3 f3 q3=>?_
 have rr:=r3.rep g3.wf
 cases rr with
 |bl k =>
  refine⟨k,rfl,?_⟩
  have Qs:Fin K dE H3 Q Qv:=Fin.after fin ((g1.trans g2).trans g3)
  cases k with
  |false=>exact Qs.sh g3.wf (.bl false) q3
  |true =>
   refine⟨dE,ρ,ag,_,((sr.grow g1).grow g2).grow g3,q3,fun w H4 IL l z IQ g4 r4 f4 q4=>?_⟩
   exact TC IL H4 n y u Bs l z w IQ Q Qv g4.wf ((r2.grow g3).grow g4) r4 q4 (Fin.after Qs g4)
 |_=>exact q3.elim
theorem zU(ho:cE X (compareOp op) r)(nh:cE X (compareOp op') r')(br:kA K r f)(TC:kA K r' g)(ha:QE X K a ta)(hb:QE X K b tb)(hc:QE X K c tc)
  (hm:lastMarks [op,op'] [b,c]=false:=by with_unfolding_all rfl):QT X K (.Compare a [op,op'] [b,c] pos) (wB (rn f g ta tb tc)):=by
 refine PT.imp (aW' ho nh ha hb hc hm) fun σ H Qv h=>?_
 obtain⟨Hs,ρ,ag,Q,sr,h,fin⟩:=h
 refine vL br TC σ H _ ⟨Hs,ρ,ag,_,sr,h,fun v H1 aE m x As g1 r1 f1 q1=>?_⟩
 have r:=r1.rep g1.wf
 cases r with
 |bl b=>exact⟨b,rfl,fin b H1 aE g1 q1⟩
 |_=>exact q1.elim
def TF(t u:WT):WT:=fun ρ Q=>t ρ fun c=>if c=true then u ρ Q else Q false
def IU(t u:WT):WT:=fun ρ Q=>t ρ fun c=>if c=true then Q true else u ρ Q
def yi(t:WT):WT:=fun ρ Q=>t ρ fun c=>Q (!c)
variable {tA tB:WT}{rest:List Expr}
theorem qd{t u:WT}{f:Bool->TT}{σ:St}{H:Hp}{Qv:Bool->Hp->Prop}{G:Bool->(Bool->Prop)->Env->Prop}
  (h:A8 K (fun ρ Q=>t ρ fun c=>G c Q ρ) σ H Qv)
  (i:∀ c H1 aE ρ ag Q,cy K aE ρ σ H1 ag->G c Q ρ->(∀ b H' av,eP aE H1 av H'->Q b->Qv b H')->f c σ H1 Qv):A8 K t σ H fun c H1=>f c σ H1 Qv:=by
 obtain⟨Hs,ρ,ag,Q,sr,h,fin⟩:=h
 exact⟨Hs,ρ,ag,_,sr,h,fun c H1 aE g1 q1=>i c H1 aE ρ ag Q (sr.grow g1) q1 fun b H' av g2=>fin b H' av (g1.trans g2)⟩
theorem Ff(ha:QT X K a tA):QW X K (.BoolOp .And [a] pos) tA:=pw_and1 ha
theorem uF(ha:QT X K a tA):QW X K (.BoolOp .Or [a] pos) tA:=pw_or1 ha
theorem G4(ha:QT X K a tA)(hb:QW X K (.BoolOp .And (b :: rest) pos) tB):QW X K (.BoolOp .And (a :: b :: rest) pos) (TF tA tB):=by
 refine PW.imp (pw_and ha hb) fun σ H Qv h=>?_
 refine qd (u:=tB) (f:=fun c σ H1 Q=>if c=true then A8 K tB σ H1 Q else Q false H1) h fun c H1 aE ρ ag Q sr q fin=>?_
 cases c with
 |true=>exact⟨aE,ρ,ag,Q,sr,q,fin⟩
 |false=>exact fin false H1 aE (eP.refl sr.wf) q
theorem Ae(ha:QT X K a tA)(hb:QW X K (.BoolOp .Or (b :: rest) pos) tB):QW X K (.BoolOp .Or (a :: b :: rest) pos) (IU tA tB):=by
 refine PW.imp (pw_or ha hb) fun σ H Qv h=>?_
 refine qd (u:=tB) (f:=fun c σ H1 Q=>if c=true then Q true H1 else A8 K tB σ H1 Q) h fun c H1 aE ρ ag Q sr q fin=>?_
 cases c with
 |true=>exact fin true H1 aE (eP.refl sr.wf) q
 |false=>exact⟨aE,ρ,ag,Q,sr,q,fin⟩
theorem NV(h:QW X K a tA):QT X K a tA:=h _
theorem iB(ha:QT X K a tA):QT X K (.UnaryOp .Not a pos) (yi tA):=by
 refine PT.imp (Z4 ha) fun σ H Qv h=>?_
 exact qd (u:=tA) (f:=fun c σ H1 Q=>Q (!c) H1) h fun c H1 aE ρ ag Q sr q fin=>fin _ H1 aE (eP.refl sr.wf) q
def Ak(ta tb:WE):WE:=fun ρ Q=>ta ρ fun _ x=>match x with
 |.bl c=>if c=true then tb ρ Q else Q .sh (.bl false)
 |_=>False
theorem Iu{op}(h:QE X K a ta):QE X K (.BoolOp op [a] pos) ta:=Z6 h
theorem J2(ha:QE X K a ta)(hb:QE X K (.BoolOp .And (b :: rest) pos) tb):QE X K (.BoolOp .And (a :: b :: rest) pos) (Ak ta tb):=by
 refine PE.imp (Z7 ha hb) fun σ H Qv hx=>kL hx fun Hs ρ ag Q sr h fin=>?_
 refine⟨Hs,ρ,ag,_,sr,h,fun v H1 aE m x As g1 r1 f1 q1=>?_⟩
 have r:=r1.rep g1.wf
 cases r with
 |bl c =>
  refine⟨c,rfl,?_⟩
  cases c with
  |true=>exact⟨aE,ρ,ag,Q,sr.grow g1,q1,Fin.after fin g1⟩
  |false=>exact Fin.sh (Fin.after fin g1) g1.wf (.bl false) q1
 |_=>exact q1.elim
def QB:D->Option Bool
 |.non=>some false
 |.bl b=>some b
 |.int i=>some (i != 0)
 |.str x=>some ((x.length:Int) != 0)
 |.list xs=>some !xs.isEmpty
 |.tup xs=>some !xs.isEmpty
 |.dK kvs=>none
 |.dT kvs=>none
end
def ft:W2:=fun m x n y Q=>match x,y with
 |.int i,.int j=>Q .sh (.int (i+j))
 |.str i,.str j=>i.length+j.length<=sizeLine/\Q .sh (.str (i++j))
 |.list xs,.list ys=>xs.length+ys.length<=sizeLine/\((cw xs=true/\cw ys=true/\Q (.ow true) (.list (xs++ys)))\/(m=.sh/\n=.sh/\Q (.ow false) (.list (xs++ys))))
 |.tup xs,.tup ys=>xs≠[]/\xs.length+ys.length<=sizeLine/\cw xs=true/\cw ys=true/\Q .sh (.tup (xs++ys))
 |_,_=>False
def IX(P:Int->Int->(Md->D->Prop)->Prop):W2:=fun _ x _ y Q=>match x,y with
 |.int i,.int j=>P i j Q
 |_,_=>False
def TH(P:Int->Int->(Md->D->Prop)->Prop)(S:Str->Str->(Md->D->Prop)->Prop):W2:=fun _ x _ y Q=>match x,y with
 |.int i,.int j=>P i j Q
 |.str i,.str j=>S i j Q
 |_,_=>False
def QC:W2:=IX fun i j Q=>Q .sh (.int (i-j))
def og:W2:=IX fun i j Q=>y9 i j/\Q .sh (.int (i*j))
def A9:W2:=IX fun i j Q=>(0<j/\j<1073741824)/\Q .sh (.int (i / j))
def vT:W2:=IX fun i j Q=>0<j/\Q .sh (.int (i % j))
def NW:W2:=TH (fun i j Q=>Q .sh (.bl (decide (i<j)))) fun i j Q=>Q .sh (.bl (qc i j))
def TJ:W2:=TH (fun i j Q=>Q .sh (.bl (decide (i<=j)))) fun i j Q=>Q .sh (.bl (!qc j i))
def TK:W2:=IX fun i j Q=>Q .sh (.bl (decide (j<i)))
def kQ:W2:=fun _ x _ y Q=>match x,y with
 |.int i,.int j=>Q .sh (.bl (decide (i=j)))
 |.str i,.str j=>Q .sh (.bl (decide (i=j)))
 |.bl i,.bl j=>Q .sh (.bl (decide (i=j)))
 |_,_=>cv 12 x=true/\cv 12 y=true/\Q .sh (.bl (gS x y))
def Bi:W2:=fun _ x _ y Q=>match x,y with
 |.int i,.int j=>Q .sh (.bl (!decide (i=j)))
 |.str i,.str j=>Q .sh (.bl (!decide (i=j)))
 |.bl i,.bl j=>Q .sh (.bl (!decide (i=j)))
 |_,_=>cv 12 x=true/\cv 12 y=true/\Q .sh (.bl (!gS x y))
def D.QD:D->Bool
 |.non=>true
 |_=>false
def FZ:W2:=fun _ x _ y Q=>match y with
 |.non=>Q .sh (.bl (!x.QD))
 |_=>False
def iz:D->Bool
 |.non=>true
 |.bl _=>true
 |.int _=>true
 |.str _=>true
 |_=>false
def inD(x:D)(ys:List D):Bool:=ys.any fun y=>gS y x
def zS(neg:Bool):W2:=fun _ x _ y Q=>match y with
 |.str j=>match x with
  |.str i=>Q .sh (.bl (if neg then !Qn i j else Qn i j))
  |_=>False
 |.list ys=>iz x=true/\ys.all iz=true/\Q .sh (.bl (if neg then !inD x ys else inD x ys))
 |.tup ys=>iz x=true/\ys.all iz=true/\Q .sh (.bl (if neg then !inD x ys else inD x ys))
 |.dK kvs=>∃ k,x.key1=some k/\Q .sh (.bl (if neg then !(eC kvs k).isSome else (eC kvs k).isSome))
 |.dT kvs=>match x with
  |.tup xs=>∃ ks,eO xs=some ks/\Q .sh (.bl (if neg then !(eC kvs ks).isSome else (eC kvs ks).isSome))
  |_=>False
 |_=>False
section
variable {K:PySem.W.Frag}
theorem Gm(f:Fin K Hs H Qd Qv)(w:Wf Hs H)(h:x.length<=sizeLine)(q:Qd .sh (.str x)):Qv (.str x) H:=f.sh w (.str h) q
theorem dW(i j:Str):(i++j).length=i.length+j.length:=by
 show((i++j).cps.size)=_
 show(i.cps++j.cps).size=_
 simp[Str.length]
theorem GR:kA K (fun x y H Q=>zR K x y H Q\/Sv K x y H Q) ft:=by
 intro Hs H m x v As n y u Bs Qd Qv w rx ry h f
 have r1:=rx.rep w
 have r2:=ry.rep w
 unfold ft at h
 cases r1 with
 |int i=>cases r2 with
  |int j=>exact .inl (f.sh w (.int _) h)
  |_=>exact h.elim
 |str hi=>cases r2 with
  |str hj=>exact .inl ⟨h.1,Gm f w (by rw[dW];exact h.1) h.2⟩
  |_=>exact h.elim
 |list z1 s1 q1=>cases r2 with
  |list z2 s2 q2 =>
   have l1:=q1.length
   have l2:=q2.length
   have hz:=h.1
   rcases h.2 with⟨f1,f2,q⟩|⟨rfl,rfl,q⟩
   ·refine .inl ⟨_,_,s1,s2,by lia,?_⟩
    exact f.lst w (by rw[ng];exact hz) (q1.append q2) (by rw[gk,f1,f2];rfl) q
   ·obtain⟨_,rx⟩:=rx
    obtain⟨_,ry⟩:=ry
    cases rx with
    |list z1' s1' IY=>cases ry with
     |list z2' s2' XH =>
      have l1:=IY.length
      have l2:=XH.length
      refine .inl ⟨_,_,ax.seq w.sub s1',ax.seq w.sub s2',by lia,?_⟩
      exact f.NM w (by rw[ng];exact hz) (IY.append XH) q
  |_=>exact h.elim
 |tup t1 s1 q1=>cases r2 with
  |tup t2 s2 q2 =>
   have l1:=q1.length
   have l2:=q2.length
   obtain⟨kz,hz,f1,f2,q⟩:=h
   refine .inr ⟨_,_,_,_,rfl,rfl,.inl (.inl s1),.inl (.inl s2),?_,by lia,?_⟩
   ·intro e
    subst e
    exact kz (O9.mp l1)
   ·refine⟨fun e=>?_,fun _=>f.tup w (by rw[ng];exact hz) (q1.append q2) (by rw[gk,f1,f2];rfl) q⟩
    subst e
    cases q2
    rw[pS] at q
    exact f.flat w (.tup t1 s1 q1) (by simpa[D.flat] using f1) q
  |_=>exact h.elim
 |_=>exact h.elim
theorem Dh{H:Hp}{x y:D}{v u:V}{m n:Md}{P:Int->Int->(Md->D->Prop)->Prop}{S:Str->Str->(Md->D->Prop)->Prop}{Q:Md->D->Prop}{G:Prop}(r1:Rep K H x v)(r2:Rep K H y u)(h:TH P S m x n y Q)(k:∀ i j,v=.int i->u=.int j->P i j Q->G)(ks:∀ i j,v=.str i->u=.str j->S i j Q->G):G:=by
 cases r1 with
 |int i=>cases r2 with
  |int j=>exact k i j rfl rfl h
  |_=>exact h.elim
 |str hi=>cases r2 with
  |str hj=>exact ks _ _ rfl rfl h
  |_=>exact h.elim
 |_=>exact h.elim
theorem lM{H:Hp}{x y:D}{v u:V}{m n:Md}{P:Int->Int->(Md->D->Prop)->Prop}{Q:Md->D->Prop}{G:Prop}(r1:Rep K H x v)(r2:Rep K H y u)(h:IX P m x n y Q)(k:∀ i j,v=.int i->u=.int j->P i j Q->G):G:=by
 cases r1 with
 |int i=>cases r2 with
  |int j=>exact k i j rfl rfl h
  |_=>exact h.elim
 |_=>exact h.elim
theorem HB:kA K Gv QC:=by
 intro Hs H m x v As n y u Bs Qd Qv w rx ry h f
 exact lM (rx.rep w) (ry.rep w) h fun i j e1 e2 q=>by
  subst e1 e2
  exact f.sh w (.int _) q
theorem H_:kA K Fo og:=by
 intro Hs H m x v As n y u Bs Qd Qv w rx ry h f
 exact lM (rx.rep w) (ry.rep w) h fun i j e1 e2 q=>by
  subst e1 e2
  exact⟨q.1,f.sh w (.int _) q.2⟩
theorem Io:kA K F_ A9:=by
 intro Hs H m x v As n y u Bs Qd Qv w rx ry h f
 exact lM (rx.rep w) (ry.rep w) h fun i j e1 e2 q=>by
  subst e1 e2
  exact⟨q.1,f.sh w (.int _) q.2⟩
theorem Ih:kA K Fx vT:=by
 intro Hs H m x v As n y u Bs Qd Qv w rx ry h f
 exact lM (rx.rep w) (ry.rep w) h fun i j e1 e2 q=>by
  subst e1 e2
  exact⟨q.1,f.sh w (.int _) q.2⟩
theorem JB:kA K S9 TK:=by
 intro Hs H m x v As n y u Bs Qd Qv w rx ry h f
 exact lM (rx.rep w) (ry.rep w) h fun i j e1 e2 q=>by
  subst e1 e2
  exact f.sh w (.bl _) q
theorem HF:kA K S7 NW:=by
 intro Hs H m x v As n y u Bs Qd Qv w rx ry h f
 exact Dh (rx.rep w) (ry.rep w) h (fun i j e1 e2 q=>by
  subst e1 e2
  exact f.sh w (.bl _) q) fun i j e1 e2 q=>by
  subst e1 e2
  exact f.sh w (.bl _) q
theorem JX:kA K S8 TJ:=by
 intro Hs H m x v As n y u Bs Qd Qv w rx ry h f
 exact Dh (rx.rep w) (ry.rep w) h (fun i j e1 e2 q=>by
  subst e1 e2
  exact f.sh w (.bl _) q) fun i j e1 e2 q=>by
  subst e1 e2
  exact f.sh w (.bl _) q
theorem eq_data(w:Wf Hs H)(rx:Rep K H x v)(ry:Rep K H y u)(f:Fin K Hs H Qd Qv)(h:cv 12 x=true/\cv 12 y=true/\Qd .sh (.bl (gS x y))):Ta K v u H Qv:=by
 obtain⟨h1,h2,q⟩:=h
 have l1:=jE 12 x h1
 have l2:=jE 12 y h2
 exact⟨x.py,y.py,rx.l2 h1,ry.l2 h2,l1.1,l2.1,by lia,f.sh w (.bl _) q⟩
theorem ne_data(w:Wf Hs H)(rx:Rep K H x v)(ry:Rep K H y u)(f:Fin K Hs H Qd Qv)(h:cv 12 x=true/\cv 12 y=true/\Qd .sh (.bl (!gS x y))):Tb K v u H Qv:=by
 obtain⟨h1,h2,q⟩:=h
 have l1:=jE 12 x h1
 have l2:=jE 12 y h2
 exact⟨x.py,y.py,rx.l2 h1,ry.l2 h2,l1.1,l2.1,by lia,f.sh w (.bl _) q⟩
theorem fW:kA K (Ql K) kQ:=by
 intro Hs H m x v As n y u Bs Qd Qv w rx ry h f
 have r1:=rx.rep w
 have r2:=ry.rep w
 have d:=fun h=>eq_data (Qd:=Qd) (Qv:=Qv) w r1 r2 f h
 cases r1 with
 |int i=>cases r2 with
  |int j=>exact f.sh w (.bl _) h
  |_=>exact d h
 |str i=>cases r2 with
  |str j=>exact f.sh w (.bl _) h
  |_=>exact d h
 |bl i=>cases r2 with
  |bl j=>exact f.sh w (.bl _) h
  |_=>exact d h
 |_=>exact d h
theorem yN:kA K (Qm K) Bi:=by
 intro Hs H m x v As n y u Bs Qd Qv w rx ry h f
 have r1:=rx.rep w
 have r2:=ry.rep w
 have d:=fun h=>ne_data (Qd:=Qd) (Qv:=Qv) w r1 r2 f h
 cases r1 with
 |int i=>cases r2 with
  |int j=>exact f.sh w (.bl _) h
  |_=>exact d h
 |str i=>cases r2 with
  |str j=>exact f.sh w (.bl _) h
  |_=>exact d h
 |bl i=>cases r2 with
  |bl j=>exact f.sh w (.bl _) h
  |_=>exact d h
 |_=>exact d h
theorem Ex(r:Rep K H x v):decide (v=V.non)=x.QD:=by
 cases r<;>first|rfl|exact decide_eq_false (fun z=>nomatch z)
theorem Gn:kA K (fun x y H Q=>y=.non/\Q (.bl (!decide (x=.non))) H) FZ:=by
 intro Hs H m x v As n y u Bs Qd Qv w rx ry h f
 have r1:=rx.rep w
 have r2:=ry.rep w
 have e:=Ex r1
 cases r2 with
 |non=>exact⟨rfl,by rw[e];exact f.sh w (.bl _) h⟩
 |_=>exact h.elim
theorem kO(r:Rep K H x v)(h:iz x=true):zh v=true:=by
 cases r<;>first|rfl|(simp[iz] at h)
theorem Fd(r:Rep K H x v)(s:Rep K H y u)(h:iz x=true)(g:iz y=true):AW v u=gS x y:=by
 cases r<;>simp[iz] at h<;>cases s<;>simp[iz] at g<;>rfl
theorem Iz(r:Rep K H x v)(h:iz x=true)(rs:aI K H ys us)(g:ys.all iz=true):us.all zh=true/\Qa v us=inD x ys:=by
 induction ys generalizing us with
 |nil=>rw[rs.n0];exact⟨rfl,rfl⟩
 |cons y ys ih =>
  obtain⟨u,us,rfl,s,ss⟩:=rs.c
  simp only[AJ,mw] at g
  obtain⟨e1,e2⟩:=ih ss g.2
  refine⟨by simp only[AJ,kO s g.1,e1,Bool.and_self],?_⟩
  unfold Qa inD at *
  rw[AK,AK,e2,Fd s r g.1 h]
theorem qO{κ:Type}[DecidableEq κ]{H:Hp}{k:κ}{kvs:List (κ × D)}{vs:List V}(r:aI K H (kvs.map (·.2)) vs):(fP ((kvs.map (·.1)).zip vs) k).isSome=(eC kvs k).isSome:=by
 have:=zip_get (k:=k) r
 split at this
 ·rename_i e
  obtain⟨v,e1,_⟩:=this
  rw[e1,e];rfl
 ·rename_i e
  rw[this,e];rfl
theorem vD{neg:Bool}:kA K (EJ K neg) (zS neg):=by
 intro Hs H m x v As n y u Bs Qd Qv w rx ry h f
 have r1:=rx.rep w
 have r2:=ry.rep w
 cases r2 with
 |str j=>cases r1 with
  |str i=>exact f.sh w (.bl _) h
  |_=>exact h.elim
 |list z s q =>
  obtain⟨h1,h2,h3⟩:=h
  obtain⟨e1,e2⟩:=Iz r1 h1 q h2
  have h4:=kO r1 h1
  have g:MQ K neg v (.ref _) H Qv:=⟨_,_,rfl,.inl s,h4,e1,by rw[e2];exact f.sh w (.bl _) h3⟩
  cases r1<;>exact .inr g
 |tup _ s q =>
  obtain⟨h1,h2,h3⟩:=h
  obtain⟨e1,e2⟩:=Iz r1 h1 q h2
  have h4:=kO r1 h1
  have g:MQ K neg v (.ref _) H Qv:=⟨_,_,rfl,.inr (.inl (.inl s)),h4,e1,by rw[e2];exact f.sh w (.bl _) h3⟩
  cases r1<;>exact .inr g
 |dK kk e q =>
  obtain⟨k,hk,h3⟩:=h
  have ev:=r1.key hk
  subst ev
  have eg:=qO (k:=k) q
  cases k<;>exact .inl ⟨_,kP.k' e,by rw[eg];exact f.sh w (.bl _) h3⟩
 |dT kk e q =>
  cases r1 with
  |tup t1 e1 q1 =>
   obtain⟨ks,hk,h3⟩:=h
   obtain⟨b,eb,e2⟩:=Rep.kc (.tup t1 e1 q1) hk
   cases eb
   have eg:=qO (k:=ks) q
   exact .inl ⟨_,kP.t' e e2,by rw[eg];exact f.sh w (.bl _) h3⟩
  |_=>exact h.elim
 |_=>exact h.elim
end
section
variable {X:Cx}{K:PySem.W.Frag}{a b:Expr}{ta tb:WE}{pos:Pos}
theorem Kh(hK:X.K=K:=by rfl):cE X (binaryOp .Add) (fun x y H Q=>zR K x y H Q\/Sv K x y H Q):=by subst hK;exact Ea.or bH'
theorem bY(ha:QE X K a ta)(hb:QE X K b tb)(hK:X.K=K:=by rfl):QE X K (.BinOp a .Add b pos) (aw ft ta tb):=IJ (Kh hK) GR ha hb
theorem J4(ha:QE X K a ta)(hb:QE X K b tb):QE X K (.BinOp a .Sub b pos) (aw QC ta tb):=IJ Eo HB ha hb
theorem gQ(ha:QE X K a ta)(hb:QE X K b tb):QE X K (.BinOp a .Mult b pos) (aw og ta tb):=IJ Gy H_ ha hb
theorem vN(ha:QE X K a ta)(hb:QE X K b tb):QE X K (.BinOp a .FloorDiv b pos) (aw A9 ta tb):=IJ Di Io ha hb
theorem nJ(ha:QE X K a ta)(hb:QE X K b tb):QE X K (.BinOp a .Mod b pos) (aw vT ta tb):=IJ Dt Ih ha hb
def NX:W1:=fun _ x Q=>match x with
 |.int i=>Q .sh (.int (-i))
 |_=>False
theorem Ja:TB K (rU fun i=>.int (-i)) NX:=by
 intro Hs H m x v As Qd Qv w rx h f
 have r1:=rx.rep w
 cases r1 with
 |int i=>exact⟨i,rfl,f.sh w (.int _) h⟩
 |_=>exact h.elim
theorem G8(ha:QE X K a ta):QE X K (.UnaryOp .USub a pos) (g9 NX ta):=dP' aI' Ja ha
end
def bS:WA:=fun _ Q=>Q []
def ak(te:WE)(t:WA):WA:=fun ρ Q=>te ρ fun m x=>t ρ fun ps=>Q ((m,x) :: ps)
def z5:Md × D->Bool
 | (.sh,_)=>true
 | (_,d)=>d.flat
def IZ:Md × D->Bool
 | (.bo,d)=>d.flat
 |_=>true
def E2:Md × D->Bool
 | (.ow true,_)=>true
 | (_,d)=>d.flat
def Er(ps:List (Md × D)):Md:=bif ps.all z5 then .sh else bif ps.all IZ then .ow (ps.all E2) else .bo
def Ep(ps:List (Md × D)):Md:=bif ps.all IZ then .ow (ps.all E2) else .bo
def mN(t:WA):WE:=fun ρ Q=>t ρ fun ps=>ps.length<=sizeLine/\Q (Er ps) (.tup (ps.map (·.2)))
def qq(t:WA):WE:=fun ρ Q=>t ρ fun ps=>ps.length<=sizeLine/\Q (Ep ps) (.list (ps.map (·.2)))
section
variable {X:Cx}{K:PySem.W.Frag}{e:Expr}{es:List Expr}{te:WE}{t:WA}{pos:Pos}{Hs H:Hp}
theorem aq:QA X K [] bS:=PA.imp uS fun σ H Qv hx=>kL hx fun Hs ρ ag Q sr h f=>f [] H Hs [] [] (eP.refl sr.wf) .nil dB.nil h
theorem dB.app(f1:dB aE H As)(o:∀ a∈As,H1 a≠none)(f2:dB ay H1 Bs)(s:ax H H1)(k:∀ a,aE a=none->H1 a≠none->ay a=none):dB ay H (As++Bs) :=
 ⟨iN.mpr ⟨f1.1,f2.1,fun a ha b hb e=>by subst e;exact o a ha (f2.2 a hb).2⟩,fun a h=>by
  rcases dP.mp h with h|h
  ·exact⟨k a (f1.2 a h).1 (o a h),(f1.2 a h).2⟩
  ·exact⟨(f2.2 a h).1,s.free (f2.2 a h).2⟩⟩
theorem aa(ha:QE X K e te)(hr:QA X K es t)(hs:starEach (e :: es) X.env=(false,eval e X.env) :: starEach es X.env:=by rfl):QA X K (e :: es) (ak te t):=by
 refine PA.imp (rq ha hr hs) fun σ H Qv hx=>kL hx fun Hs ρ ag Q sr h f=>?_
 refine⟨Hs,ρ,ag,_,sr,h,fun v H1 aE m x As g1 r1 f1 q1=>⟨aE,ρ,ag,_,sr.grow g1,q1,fun vs H2 ay ps Bs g2 r2 f2 q2=>?_⟩⟩
 exact f (v :: vs) H2 ay _ _ (g1.trans g2) (.cons (r1.grow g2) r2) (f1.app (fun a h=>(r1.own a h).ne) f2 g1.all fun a h1 h2=>g2.oP h1 h2) q2
theorem zI.sh(w:Wf Hs H){ps:List (Md × D)}(r:zI K Hs H ps vs As):ps.all z5=true->aI K Hs (ps.map (·.2)) vs:=by
 induction r with
 |nil=>exact fun _=>.nil
 |@cons m d v ps vs As Bs r rs ih =>
  intro h
  simp only[AJ,mw] at h
  refine .cons ?_ (ih h.2)
  cases m with
  |sh=>exact r.2
  |ow fl=>exact r.flat w h.1
  |bo=>exact r.flat w h.1
theorem zI.ow(w:Wf Hs H){ps:List (Md × D)}(r:zI K Hs H ps vs As):ps.all IZ=true->(fl=true->ps.all E2=true)->∃ Bs,Bs.Sublist As/\(ps.all z5=false->Bs≠[])/\aD K Hs H fl (ps.map (·.2)) vs Bs:=by
 induction r with
 |nil=>exact fun _ _=>⟨[],FR _,(fun z=>Bool.noConfusion z),.nil⟩
 |@cons m d v ps vs A1 Cs r rs ih =>
  intro h hf
  simp only[AJ,mw] at h hf
  obtain⟨Bs,sb,ne,q⟩:=ih h.2 fun z=>(hf z).2
  have sk:([]++Bs).Sublist (A1++Cs):=by simpa using sb.trans (pz _ _)
  have AQ:d.flat=true->z5 (m,d)=true->∃ Bs,Bs.Sublist (A1++Cs)/\(((m,d) :: ps).all z5=false->Bs≠[])/\aD K Hs H fl (((m,d) :: ps).map (·.2)) (v :: vs) Bs:=fun hd ho =>
   ⟨[]++Bs,sk,fun z=>ne (by rw[AJ,ho] at z;simpa using z),.cons (.sh (fun _=>hd) (r.flat w hd)) q⟩
  cases m with
  |sh=>exact⟨[]++Bs,sk,fun z=>ne (by simpa[z5] using z),.cons (.sh (fun z=>(hf z).1) r.2) q⟩
  |bo=>exact AQ h.1 h.1
  |ow b =>
   cases hd:d.flat with
   |true=>exact AQ hd hd
   |false =>
    refine⟨A1++Bs,sb.append_left _,fun _ z=>r.2 (LB.mp z).1,.cons ?_ q⟩
    cases fl with
    |false=>exact bE.Qy r.1
    |true =>
     have:=(hf rfl).1
     cases b with
     |true=>exact r.1
     |false=>simp[E2,hd] at this
theorem vh:∀ {ps:List (Md × D)},cw (ps.map (·.2))=true->ps.all z5=true
 |[],_=>rfl
 | (m,d) :: ps,h=>by
  simp only[fN,cw,mw] at h
  simp only[AJ,mw]
  exact⟨by cases m<;>simp[z5,h.1],vh h.2⟩
theorem fJ{x1}(h:QA X K es t):QE X K (.Tuple es x1 pos) (mN t):=by
 refine PE.imp (bg' h) fun σ H Qv hx=>kL hx fun Hs ρ ag Q sr h f=>?_
 refine⟨Hs,ρ,ag,_,sr,h,fun vs H1 aE ps As g1 r1 f1 q1=>?_⟩
 obtain⟨hz,q⟩:=q1
 have rl:=(r1.reps g1.wf)
 have hl:=rl.length
 rw[b4] at hl
 refine⟨by lia,fun p hp=>?_⟩
 have g2:=XF (vs:=vs) g1.wf hp
 have fin:=Fin.after f g1
 unfold Er at q
 cases h1:ps.all z5 with
 |true =>
  rw[h1] at q
  exact fin _ _ _ .sh _ [] g2 ⟨rfl,.tup (by lia) fE ((r1.sh g1.wf h1).same g2.sh)⟩ dB.nil q
 |false =>
  rw[h1] at q
  cases h2:ps.all IZ with
  |false =>
   rw[h2] at q
   exact fin _ _ _ .bo _ [] g2 ⟨rfl,.tup (by lia) fE (rl.same g2.all)⟩ dB.nil q
  |true =>
   rw[h2] at q
   obtain⟨Bs,sb,nz,ro⟩:=r1.ow (fl:=ps.all E2) g1.wf h2 fun z=>z
   have kz:cw (ps.map (·.2))=false:=by
    cases hf:cw (ps.map (·.2)) with
    |false=>rfl
    |true=>rw[vh hf] at h1;cases h1
   have own:=ro.own
   refine f _ _ _ (.ow _) _ Bs (g1.trans g2) ⟨.tup (by lia) fE kz (ro.grow g2.sh g2.all),nz h1⟩ ⟨sb.nodup f1.1,fun a ha=>⟨?_,(f1.2 a (sb.subset ha)).2⟩⟩ q
   exact g2.oP (f1.2 a (sb.subset ha)).1 (own a ha).ne
theorem iy(h:QA X K es t):QE X K (.List es pos) (qq t):=by
 refine PE.imp (bh' h) fun σ H Qv hx=>kL hx fun Hs ρ ag Q sr h f=>?_
 refine⟨Hs,ρ,ag,_,sr,h,fun vs H1 aE ps As g1 r1 f1 q1=>?_⟩
 obtain⟨hz,q⟩:=q1
 have rl:=(r1.reps g1.wf)
 have hl:=rl.length
 rw[b4] at hl
 refine⟨by lia,fun p hp=>?_⟩
 have g2:=Qz (o:=.lst vs) g1.wf hp fun _ z=>nomatch z
 have fin:=Fin.after f g1
 unfold Ep at q
 cases h2:ps.all IZ with
 |false =>
  rw[h2] at q
  exact fin _ _ _ .bo _ [] g2 ⟨rfl,.list (by lia) (.inl (.inl fE)) (rl.same g2.all)⟩ dB.nil q
 |true =>
  rw[h2] at q
  obtain⟨Bs,sb,nz,ro⟩:=r1.ow (fl:=ps.all E2) g1.wf h2 fun z=>z
  have own:=ro.own
  refine f _ _ _ (.ow _) _ (p :: Bs) (g1.trans g2) ⟨.list (by lia) fE (ro.grow g2.sh g2.all),by simp⟩ ⟨js.mpr ⟨fun m=>(own p m).ne hp,sb.nodup f1.1⟩,fun a ha=>?_⟩ q
  rcases dv.mp ha with rfl|ha
  ·exact⟨g1.wf.sub.free hp,g1.all.free hp⟩
  ·exact⟨g2.oP (f1.2 a (sb.subset ha)).1 (own a ha).ne,(f1.2 a (sb.subset ha)).2⟩
end
theorem aI.fi{K:PySem.W.Frag}(r:aI K H ds vs)(h:fi ds i=some d):∃ v,L2.fi vs i=some v/\Rep K H d v:=by
 unfold L2.fi at *
 rw[<- r.length]
 cases e:n5 ds.length i with
 |none=>rw[e] at h;cases h
 |some j =>
  rw[e] at h
  exact r.get h
def dn:W2:=fun m x _ y Q=>match x with
 |.list xs=>match y with
  |.int i=>∃ d,fi xs i=some d/\bP d (f:=fun d=>Q (ny m d) d) ⟨⟩
  |_=>False
 |.tup xs=>match y with
  |.int i=>∃ d,fi xs i=some d/\bP d (f:=fun d=>Q (ny m d) d) ⟨⟩
  |_=>False
 |.str z=>match y with
  |.int i=>∃ c,fi z.cps.toList i=some c/\Q .sh (.str ⟨#[c]⟩)
  |_=>False
 |.dK kvs=>∃ k d,y.key1=some k/\eC kvs k=some d/\bP d (f:=fun d=>Q (ny m d) d) ⟨⟩
 |.dT kvs=>match y with
  |.tup ys=>∃ ks d,eO ys=some ks/\eC kvs ks=some d/\bP d (f:=fun d=>Q (ny m d) d) ⟨⟩
  |_=>False
 |_=>False
def TL(K:PySem.W.Frag):R2:=fun x y H Q=>Qj K x y H Q\/∃ a v,x=.ref a/\kP H a y (some v)/\Q v H
theorem E_(c:Nat):(⟨#[c]⟩:Str).length<=sizeLine:=by show 1<=sizeLine;decide
theorem RM.here{K:PySem.W.Frag}(w:Wf Hs H)(r:RM K Hs H m d v As):(m=.sh/\Rep K Hs d v)\/(m≠.sh/\Rep K H d v):=by
 cases m with
 |sh=>exact .inl ⟨rfl,r.2⟩
 |ow fl=>exact .inr ⟨(fun z=>nomatch z),r.rep w⟩
 |bo=>exact .inr ⟨(fun z=>nomatch z),r.2⟩
section
variable {X:Cx}{K:PySem.W.Frag}
theorem JT:kA K (TL K) dn:=by
 intro Hs H m x v As n y u Bs Qd Qv w rx ry h f
 have r2:=ry.rep w
 have core:∀ G:Hp,ax G H->(∀ d v,Rep K G d v->Rep K H d v/\(m=.sh->Rep K Hs d v))->Rep K G x v->TL K v u H Qv:=by
  intro G sg up r1
  cases r1 with
  |list z s q =>
   cases r2 with
   |int i =>
    obtain⟨d,e,h⟩:=h
    obtain⟨v',e',r'⟩:=q.fi e
    obtain⟨u1,u2⟩:=up _ _ r'
    exact .inl (.inl ⟨_,v',ax.seq sg s,e',f.ny w u1 u2 h⟩)
   |_=>exact h.elim
  |tup _ s q =>
   cases r2 with
   |int i =>
    obtain⟨d,e,h⟩:=h
    obtain⟨v',e',r'⟩:=q.fi e
    obtain⟨u1,u2⟩:=up _ _ r'
    exact .inl (.inr ⟨_,v',.inl (.inl (sg _ _ s)),e',f.ny w u1 u2 h⟩)
   |_=>exact h.elim
  |str hz =>
   cases r2 with
   |int i =>
    obtain⟨c,e,h⟩:=h
    exact .inl ⟨hz,c,e,f.sh w (.str (E_ c)) h⟩
   |_=>exact h.elim
  |dK kk s q =>
   obtain⟨k,d,hk,hg,h⟩:=h
   have ev:=r2.key hk
   subst ev
   have z:=zip_get (k:=k) q
   rw[hg] at z
   obtain⟨v',e',r'⟩:=z
   obtain⟨u1,u2⟩:=up _ _ r'
   exact .inr ⟨_,v',rfl,by rw[<- e'];exact kP.k' (ax.rd sg s),f.ny w u1 u2 h⟩
  |dT kk s q =>
   cases r2 with
   |tup t2 e2 q2 =>
    obtain⟨ks,d,hk,hg,h⟩:=h
    obtain⟨b,eb,e3⟩:=Rep.kc (.tup t2 e2 q2) hk
    cases eb
    have z:=zip_get (k:=ks) q
    rw[hg] at z
    obtain⟨v',e',r'⟩:=z
    obtain⟨u1,u2⟩:=up _ _ r'
    exact .inr ⟨_,v',rfl,by rw[<- e'];exact kP.t' (ax.rd sg s) e3,f.ny w u1 u2 h⟩
   |_=>exact h.elim
  |_=>exact h.elim
 rcases rx.here w with⟨hm,r⟩|⟨hm,r⟩
 ·exact core Hs w.sub (fun d v q=>And.intro (q.same w.sub) fun _=>q) r
 ·exact core H (ax.refl H) (fun d v q=>And.intro q fun z=>absurd z hm) r
theorem XJ(hu:X.A.units+64<cLine)(hK:X.K=K:=by rfl):ve X (TL K):=by
 subst hK
 refine ve.or CZ ?_
 intro value slice pins s σ H x y v u Q I rx ry h hs
 obtain⟨a,w,rfl,g,q⟩:=h
 cases rx
 exact tail_any (cn' I g) F.slot_dict_getitem.lookup (cg' (by lia) I g ry fun w' s3 I3 lP=>⟨w,H,I3,lP,q⟩) hs
variable {a b:Expr}{ta tb:WE}{pos:Pos}
theorem eB(hu:X.A.units+64<cLine)(ha:QE X K a ta)(hb:QE X K b tb)(hs:P9 b:=by exact fun _ _=>rfl)(hK:X.K=K:=by rfl):QE X K (.Subscript a b pos) (aw dn ta tb):=PE.imp (Sy (XJ hu hK) ha hb hs) (mR JT)
end
def kB(xs:List α)(lo hi:Option Int):List α:=(xs.drop (HT.bI xs.length 0 lo)).take (HT.bI xs.length xs.length hi-HT.bI xs.length 0 lo)
abbrev WO:=Env->(Option Int->Prop)->Prop
def lC:WO:=fun _ Q=>Q none
def rE(t:WE):WO:=fun ρ Q=>t ρ fun _ x=>match x with
 |.int i=>Q (some i)
 |_=>False
def QF(m:Md)(x:D)(lo hi:Option Int)(Q:Md->D->Prop):Prop:=match x with
 |.str z=>Q .sh (.str (x5 z lo hi))
 |.list xs=>(cw xs=true/\Q (.ow true) (.list (kB xs lo hi)))\/(m=.sh/\Q (.ow false) (.list (kB xs lo hi)))
 |.tup xs=>cw xs=true/\¬ (HT.bI xs.length 0 lo=0/\HT.bI xs.length xs.length hi=xs.length)/\Q .sh (.tup (kB xs lo hi))
 |_=>False
def I0(te:WE)(tl th:WO):WE:=fun ρ Q=>te ρ fun m x=>tl ρ fun lo=>th ρ fun hi=>QF m x lo hi Q
def tpO(K:PySem.W.Frag)(t:WO):TO:=fun σ H Qv=>∃ Hs ρ ag Q,cy K Hs ρ σ H ag/\t ρ Q/\∀ o H' av,eP Hs H av H'->Q o->Qv o H'
abbrev QO(X:Cx)(K:PySem.W.Frag)(e:Option Expr)(t:WO):Prop:=PO X e (tpO K t)
theorem Aw(z:Str)(lo hi:Option Int):(x5 z lo hi).length<=z.length:=by
 unfold x5 Str.length
 simp only[hG,lh,BQ,xA]
 lia
theorem gM(xs:List α)(lo hi:Option Int):(kB xs lo hi).length<=xs.length:=by
 unfold kB
 rw[lh,BQ]
 lia
theorem qu{lo hi:Option Int}(h:cw xs=true):cw (kB xs lo hi)=true:=by
 rw[mO] at *
 intro x hx
 exact h x (FK (DZ hx))
section
variable {X:Cx}{K:PySem.W.Frag}{e:Expr}{lo hi:Option Expr}{te:WE}{tl th:WO}{pos p2:Pos}
theorem sW:QO X K none lC:=fun pins s σ H Q I h=>bC' pins s σ H Q I (by
 obtain⟨Hs,ρ,ag,Qd,sr,h,f⟩:=h
 exact f none H Hs (eP.refl sr.wf) h)
theorem lz(h:QE X K e te):QO X K (some e) (rE te):=fun pins s σ H Q I hh=>bD' h pins s σ H Q I (by
 obtain⟨Hs,ρ,ag,Qd,sr,h,f⟩:=hh
 refine⟨Hs,ρ,ag,_,sr,h,fun v H1 aE m x As g1 r1 f1 q1=>?_⟩
 have r:=r1.rep g1.wf
 cases r with
 |int i=>exact⟨i,rfl,f _ H1 aE g1 q1⟩
 |_=>exact q1.elim)
theorem mQ{lo hi:Option Int}(r:aI K H ds vs):aI K H (kB ds lo hi) (AU vs lo hi):=by
 unfold kB AU
 rw[r.length]
 exact(r.drop _).take _
theorem dT'(hK:X.K=K:=by rfl):HK X (fun x lo hi H Q=>S_ K x lo hi H Q\/Wn K x lo hi H Q):=by
 subst hK
 intro pins s σ H x v vl vu lo hi sl Q I rx hs pl pu h
 rcases h with h|h
 ·exact HJ pins s σ H x v vl vu lo hi sl Q I rx hs pl pu h
 ·exact bG' pins s σ H x v vl vu lo hi sl Q I rx hs pl pu h
theorem pq(he:QE X K e te)(hl:QO X K lo tl)(hh:QO X K hi th)(hK:X.K=K:=by rfl):QE X K (.Subscript e (.Slice lo hi none p2) pos) (I0 te tl th):=by
 refine PE.imp (bF' (dT' hK) he hl hh) fun σ H Qv hx=>kL hx fun Hs ρ ag Q sr h f=>?_
 refine⟨Hs,ρ,ag,_,sr,h,fun v H1 aE m x As g1 r1 f1 q1=>⟨aE,ρ,ag,_,sr.grow g1,q1,fun l H2 ay g2 q2=>⟨ay,ρ,ag,_,(sr.grow g1).grow g2,q2,fun u H3 dE g3 q3=>?_⟩⟩⟩
 have r3:=(r1.grow g2).grow g3
 have fin:Fin K dE H3 Q Qv:=Fin.after f ((g1.trans g2).trans g3)
 have rr:=r3.rep g3.wf
 cases rr with
 |str hz=>exact .inl ⟨hz,fin.sh g3.wf (.str (iO (Aw _ _ _) hz)) q3⟩
 |list z s q =>
  have hz:=q.length
  rcases q3 with⟨hf,q3⟩|⟨rfl,q3⟩
  ·exact .inl ⟨_,s,fin.lst g3.wf (iO (gM _ _ _) (by lia)) (mQ q) (qu hf) q3⟩
  ·obtain⟨_,r3⟩:=r3
   cases r3 with
   |list z' s' q' =>
    have hz:=q'.length
    exact .inl ⟨_,ax.seq g3.wf.sub s',fin.NM g3.wf (iO (gM _ _ _) (by lia)) (mQ q') q3⟩
 |tup z s q =>
  have hz:=q.length
  obtain⟨hf,hn,q3⟩:=q3
  exact .inr ⟨_,_,rfl,.inl (.inl s),by rw[<- hz];exact hn,fin.tup g3.wf (iO (gM _ _ _) (by lia)) (mQ q) (qu hf) q3⟩
 |_=>exact q3.elim
end
def Bn:W1:=fun _ x Q=>match x with
 |.str z=>Q .sh (.int z.length)
 |.list xs=>Q .sh (.int xs.length)
 |.tup xs=>Q .sh (.int xs.length)
 |.dK kvs=>Q .sh (.int kvs.length)
 |.dT kvs=>Q .sh (.int kvs.length)
 |_=>False
def QH(T:String):W1:=fun _ x Q=>Q .sh (.bl (Ic x.ty T))
def An(K:PySem.W.Frag)(r:List V->Hp->VK->Prop)(f:W1):Prop:=∀ Hs H m x v As Qd Qv,Wf Hs H->RM K Hs H m x v As->f m x Qd->Fin K Hs H Qd Qv->r [v] H Qv
section
variable {X:Cx}{K:PySem.W.Frag}{e:Expr}{te:WE}{pos p:Pos}{x:Str}{id T:String}
theorem oA(br:An K r f)(σ:St)(H:Hp)(Qv:VK)(h:mI K (g9 f te) σ H Qv):Sq r (Sj (mI K te) Si) σ H Qv:=by
 obtain⟨Hs,ρ,ag,Q,sr,h,fin⟩:=h
 exact⟨Hs,ρ,ag,_,sr,h,fun v H1 aE m x As g1 r1 f1 q1=>br aE H1 m x v As Q Qv g1.wf r1 q1 (Fin.after fin g1)⟩
theorem cQ(hc:kr X (.builtin id) r)(br:An K r f)(hg:Gl X x)(hm:X.mg x=none)(hv:bootBuiltins x=some (.builtin id))(he:QE X K e te)
  (hs:starEach [e] X.env=(false,eval e X.env) :: starEach [] X.env:=by rfl) (hn:x ≠ "__name__" := by decide) (rL:(x == ("__debug__" : Str))=false:=by decide):QE X K (.Call (.Name x p) [e] [] pos) (g9 f te) :=
 PE.imp (Sr hc hg hm hv (rq he uS hs) hn rL hs) (oA br)
theorem iW(hc:kr X (.type T) r)(br:An K r f)(hg:Gl X x)(hm:X.mg x=none)(hv:bootBuiltins x=some (.type T))(he:QE X K e te)
  (hs:starEach [e] X.env=(false,eval e X.env) :: starEach [] X.env:=by rfl) (hn:x ≠ "__name__" := by decide) (rL:(x == ("__debug__" : Str))=false:=by decide):QE X K (.Call (.Name x p) [e] [] pos) (g9 f te) :=
 PE.imp (bq' hc hg hm hv (rq he uS hs) hn rL hs) (oA br)
theorem FN(hd:(d == sysModules)=false)(x:tq s.heap d es ep)(XM:(es.size:Int)<2 ^ 63)
  (h:∀ t t',Q (.int es.size t) { s with toks:=t' }):wpAny (model prog w) A (call (.builtin "len") [.ref d]) Q E s:=by
 refine Calls.call_function_entry kind_len plain_len entry_len (args_len1 _) ?_
 have mt:MeetsIn prog w (Builtin.«dict.__len__» ⟨[.ref d],[]⟩) (fun _ R s=>tq s.heap d es ep/\R (.ok (.ret (.int es.size s.toks))) { s with toks:=s.toks+1 }):=.of_wp fun A R s cS=>by
  obtain⟨hm,h⟩:=cS
  obtain⟨o,ho,hc,Qp⟩:=hm
  show wpAny _ _ (dictSize d >>= _) _ _ s
  unfold dictSize
  refine ai (ai (wpAny_dictEntries ho Qp (aS ?_)))
  show wpAny _ _ (Builtin.Dict.pendingCount d >>= _) _ _ s
  refine ai (wpAny_pendingCount_other hd ?_)
  refine wpAny_ret_mkInt ?_
  rw[GA];exact h
 unfold Builtin.«len»
 refine ai (m:=oneArg "len" _) (aS ?_)
 refine ai (m:=callSpecial? (.ref d) (Str.ofString "__len__")) (wpAny_callSpecial?_slot (name:=Str.ofString "__len__") x.typ F.slot_dict_len
  (call_meetsIn F.slot_dict_len x.typ F.entry_dict_len (F.args_dict_len_1 _) mt ⟨x,?_⟩))
 show wpAny _ _ _ _ _ { s with toks:=s.toks+1 }
 refine ai (wpAny_holding (aS ?_))
 refine ai (wpAny_letGo ?_)
 show wpAny _ _ (if ((es.size:Nat):Int)<0 then _ else _) _ _ _
 rw[if_neg (by lia)]
 show wpAny _ _ (if ((es.size:Nat):Int) >= 2 ^ 63 then _ else _) _ _ _
 rw[if_neg (by lia)]
 exact ai (wpAny_mkInt (aS ⟨_,rfl,h _ _⟩))
theorem fD (hK:X.K=K:=by rfl):kr X (.builtin "len") (fun xs H Q=>Qi K xs H Q\/∃ a kvs,xs=[.ref a]/\Rd H a (.dT kvs)/\Q (.int kvs.length) H):=by
 subst hK
 intro pins s σ H xs us Q I r h
 rcases h with h|⟨a,kvs,rfl,ha,q⟩
 ·exact xT pins s σ H xs us Q I r h
 ·obtain⟨u,rfl,ru⟩:=Vals.one r
  cases ru
  obtain⟨z,hd,ys,rel,o,es,ep,h1,h2,h3,h4,h5⟩:=(show fe X.prog X.w H s.heap a (.dT kvs) from I.rd ha)
  have hl:es.size=kvs.length:=by
   have:=congrArg List.length h4
   rw[xA,b4] at this
   rw[this];exact rel.length.symm
  exact FN hd ⟨o,h1,h2,h3⟩ (by rw[sizeLine_eq] at z;lia) fun t t'=>⟨.int kvs.length,H,I.tok _,⟨t,by rw[hl]⟩,q⟩
theorem qY:An K (fun xs H Q=>Qi K xs H Q\/∃ a kvs,xs=[.ref a]/\Rd H a (.dT kvs)/\Q (.int kvs.length) H) Bn:=by
 intro Hs H m x v As Qd Qv w rx h f
 have r1:=rx.rep w
 cases r1 with
 |str hz=>exact .inl ⟨hz,f.sh w (.int _) h⟩
 |list z s q=>exact .inl (.inl ⟨_,s,by rw[<- q.length];exact f.sh w (.int _) h⟩)
 |tup _ s q=>exact .inl (.inr (.inl ⟨_,.inl (.inl s),by rw[<- q.length];exact f.sh w (.int _) h⟩))
 |dK kk s q=>exact .inl (.inr (.inr ⟨_,s,by
   have:=q.length
   rw[b4] at this
   rw[LM,b4,<- this,LW]
   exact f.sh w (.int _) h⟩))
 |dT kk s q=>exact .inr ⟨_,_,rfl,s,by
   have:=q.length
   rw[b4] at this
   rw[LM,b4,<- this,LW]
   exact f.sh w (.int _) h⟩
 |_=>exact h.elim
end
section
variable {X:Cx}{K:PySem.W.Frag}{e e2:Expr}{te:WE}{pos p:Pos}{T:String}
theorem xW (hK:X.K=K:=by rfl):kr X (.builtin "isinstance") (fun xs H Q=>∃ x d T,xs=[x,.ty T]/\Rep K H d x/\S6 T=true/\Q (.bl (Ic d.ty T)) H):=by
 subst hK
 intro pins s σ H xs us Q I r h
 obtain⟨x,d,T,rfl,rd,hT,q⟩:=h
 obtain⟨u,v,rfl,ru,rv⟩:=Vals.two r
 obtain rfl:v=Value.type T:=rv
 have hb:T∈["str", "int", "bool", "list", "tuple", "dict"]:=by simpa[S6] using hT
 have fin:∀ tk,EP X pins σ Q (.bool (Ic d.ty T)) { s with toks:=tk }:=fun tk=>⟨.bl (Ic d.ty T),H,I.tok tk,rfl,q⟩
 cases rd with
 |non=>exact My I ru .non (jB X.K _ T (by simp) hb) fin
 |bl b=>exact My I ru (.bl b) (jB X.K _ T (by simp) hb) fin
 |int i=>exact My I ru (.int i) (jB X.K _ T (by simp) hb) fin
 |str y=>exact My I ru (.str _) (jB X.K _ T (by simp) hb) fin
 |list z s' q' =>
  cases ru
  obtain⟨its,_,pl,_⟩:=I.list s'
  obtain⟨o,h1,h2,_⟩:=pl.isList
  exact PySem.W.kia_one PySem.W.kitx_list I.ki ⟨o,h1,h2⟩ (jB X.K "list" T (by simp) hb) (fun z=>nomatch z) fin
 |tup _ s' q'=>exact My I ru (.tup s') (jB X.K _ T (by simp) hb) fin
 |dK _ s' q' =>
  cases ru
  obtain⟨_,_,vs,_,p⟩:=I.rd s'
  obtain⟨o,es,ep,h1,h2,_⟩:=p
  exact PySem.W.kia_one PySem.W.kitx_dict I.ki ⟨o,h1,h2.1⟩ (jB X.K "dict" T (by simp) hb) (fun z=>nomatch z) fin
 |dT _ s' q' =>
  cases ru
  obtain⟨_,_,xs,_,o,es,ep,h1,h2,_⟩:=I.rd s'
  exact PySem.W.kia_one PySem.W.kitx_dict I.ki ⟨o,h1,h2.1⟩ (jB X.K "dict" T (by simp) hb) (fun z=>nomatch z) fin
theorem HW (hm:X.mg "isinstance" = none) (he:QE X K e te) (ht:PE X e2 (tC (.ty T))) (hT:S6 T=true:=by rfl) (hg:Gl X "isinstance" := by rfl) (hK:X.K=K:=by rfl)
  (hs:starEach (e :: [e2]) X.env=(false,eval e X.env) :: starEach [e2] X.env:=by rfl) (DC:starEach (e2 :: []) X.env=(false,eval e2 X.env) :: starEach [] X.env:=by rfl) (kN:(backTo pos (starEach [e2] X.env)).any (·.1)=false:=by rfl) :
  QE X K (.Call (.Name "isinstance" p) [e,e2] [] pos) (g9 (QH T) te):=by
 refine PE.imp (Sr (xW hK) hg hm qe (rq he (rq ht uS DC) hs) (by decide) (by decide) hs kN) fun σ H Qv hx=>kL hx fun Hs ρ ag Q sr h f=>?_
 refine⟨Hs,ρ,ag,_,sr,h,fun v H1 aE m x As g1 r1 f1 q1=>⟨v,x,T,rfl,r1.rep g1.wf,hT,Fin.sh (Fin.after f g1) g1.wf (.bl _) q1⟩⟩
theorem Dr(r:Rep K H d v)(h:QB d=some b):Se K v H b:=by
 cases r with
 |non=>cases h;rfl
 |bl b=>cases h;rfl
 |int i=>cases h;rfl
 |str hz =>
  cases h
  exact⟨hz,rfl⟩
 |list z s q =>
  cases h
  refine .inl ⟨_,s,?_⟩
  cases q<;>rfl
 |tup _ s q =>
  cases h
  refine .inr (.inl ⟨_,.inl (.inl s),?_⟩)
  cases q<;>rfl
 |dK _ s q=>cases h
 |dT _ s q=>cases h
end
def ot:Key->D
 |.inl i=>.int i
 |.inr x=>.str x
def t_:W1:=fun m x Q=>match x with
 |.list xs=>(cw xs=true/\Q (.ow true) (.list xs))\/(m=.sh/\Q (.ow false) (.list xs))
 |.tup xs=>(cw xs=true/\Q (.ow true) (.list xs))\/(m=.sh/\Q (.ow false) (.list xs))
 |.dT kvs=>Q (.ow true) (.list (kvs.map fun kv=>.tup (kv.1.map ot)))
 |_=>False
section
variable {X:Cx}{K:PySem.W.Frag}
theorem pN:∀ {ks:List Key},(∀ k∈ks,yb k=true)->aI K H (ks.map ot) (ks.map kV)
 |[],_=>.nil
 |k :: ks,h=>by
  refine .cons ?_ (pN fun j m=>h j (b9 _ m))
  have:=h k b6
  cases k with
  |inl i=>exact .int i
  |inr x=>exact .str (by simpa[yb] using this)
theorem rD:∀ (ks:List Key),cw (ks.map ot)=true
 |[]=>rfl
 |k :: ks=>by simp only[fN,cw,rD ks,Px];cases k<;>rfl
theorem jV(t:cM H ys ks)(h:∀ l∈ks,l.length<=sizeLine/\∀ k∈l,yb k=true):aI K H (ks.map fun l=>.tup (l.map ot)) ys:=by
 induction ys generalizing ks with
 |nil=>rw[show ks=[] from Paired.n0 t];exact .nil
 |cons y ys ih =>
  obtain⟨k,ks,rfl,⟨b,rfl,e⟩,t2⟩:=Paired.c t
  exact .cons (.tup (by rw[b4];exact(h _ b6).1) e (pN (h _ b6).2)) (ih t2 fun l m=>h l (b9 _ m))
theorem fY:∀ (ks:List (List Key)),cw (ks.map fun l=>.tup (l.map ot))=true
 |[]=>rfl
 |l :: ks=>by simp only[fN,cw,fY ks,Px,D.flat,rD]
theorem gJ (hc:X.calm=true:=by rfl) (hK:X.K=K:=by rfl):kr X (.type "list") (fun xs H Q=>(∃ p ys,xs=[.ref p]/\(eL K H p ys\/nX K H p ys)/\∀ l,H l=none->Q (.ref l) (upd H l (.lst ys)))\/uP xs H Q):=by
 subst hK;exact bW'.or (vO hc)
theorem pX:An K (fun xs H Q=>(∃ p ys,xs=[.ref p]/\(eL K H p ys\/nX K H p ys)/\∀ l,H l=none->Q (.ref l) (upd H l (.lst ys)))\/uP xs H Q) t_:=by
 intro Hs H m x v As Qd Qv w rx h f
 have r1:=rx.rep w
 cases r1 with
 |list z s q =>
  have hl:=q.length
  rcases h with⟨hf,h⟩|⟨rfl,h⟩
  ·exact .inl ⟨_,_,rfl,.inl s,f.lst w (by lia) q hf h⟩
  ·obtain⟨_,rx⟩:=rx
   cases rx with
   |list z' s' q' =>
    have hl:=q'.length
    exact .inl ⟨_,_,rfl,.inl (ax.seq w.sub s'),f.NM w (by lia) q' h⟩
 |tup z s q =>
  have hl:=q.length
  rcases h with⟨hf,h⟩|⟨rfl,h⟩
  ·exact .inl ⟨_,_,rfl,.inr (.inl (.inl s)),f.lst w (by lia) q hf h⟩
  ·obtain⟨_,rx⟩:=rx
   cases rx with
   |tup z' s' q' =>
    have hl:=q'.length
    exact .inl ⟨_,_,rfl,.inr (.inl (.inl (w.sub _ _ s'))),f.NM w (by lia) q' h⟩
 |@dT _ vs kvs kk s q =>
  refine .inr ⟨_,s,fun ys l ht hl=>?_⟩
  have hlen:=q.length
  rw[b4] at hlen
  have e:((kvs.map (·.1)).zip vs).map (·.1)=kvs.map (·.1):=D2 (by rw[b4];exact B1 hlen)
  rw[e] at ht
  have rr:=jV (K:=K) ht (fun l m=>by
   obtain⟨p,hp,rfl⟩:=cK.mp m
   exact kk.2 p hp)
  have ff:=fY (kvs.map (·.1))
  rw[fR] at rr ff
  exact f.lst w (by rw[b4];exact kk.1) rr ff h l hl
 |_=>exact h.elim
end
section
variable {K:PySem.W.Frag}{Hs H:Hp}
theorem SR.yr(r:Rep K Hs d v)(i:Nat)(s:SR K Hs H ρ σ ag):∃ bG,bG.Sublist ag/\SR K Hs H (ρ.set i (some (.sh d))) (σ.set i (some v)) bG:=by
 induction s generalizing i with
 |nil=>exact⟨[],FR _,.nil⟩
 |non s ih =>
  cases i with
  |zero=>exact⟨_,List.Sublist.refl _,.sh r s⟩
  |succ i=>obtain⟨t,a,b⟩:=ih i;exact⟨t,a,.non b⟩
 |sh q s ih =>
  cases i with
  |zero=>exact⟨_,List.Sublist.refl _,.sh r s⟩
  |succ i=>obtain⟨t,a,b⟩:=ih i;exact⟨t,a,.sh q b⟩
 |xc s ih =>
  cases i with
  |zero=>exact⟨_,List.Sublist.refl _,.sh r s⟩
  |succ i=>obtain⟨t,a,b⟩:=ih i;exact⟨t,a,.xc b⟩
 |ow ne q s ih =>
  cases i with
  |zero=>exact⟨_,pz _ _,.sh r s⟩
  |succ i=>obtain⟨t,a,b⟩:=ih i;exact⟨_,a.append_left _,.ow ne q b⟩
 |lk ne q s ih =>
  cases i with
  |zero=>exact⟨_,pz _ _,.sh r s⟩
  |succ i=>obtain⟨t,a,b⟩:=ih i;exact⟨_,a.append_left _,.lk ne q b⟩
theorem qN{As ag:List Addr}(nd:As.Nodup)(n:ag.Nodup)(dj:∀ a∈As,a∉ag):(As++ag).Nodup:=iN.mpr ⟨nd,n,fun a ha b hb e=>dj a ha (e ▸ hb)⟩
theorem gK{As ag B t:List Addr}(n:(B++ag).Nodup)(dj:∀ a∈As,a∉B++ag)(a:t.Nodup)(b:∀ x∈t,x∈ag\/x∈As):(B++t).Nodup/\∀ x∈B++t,x∈B++ag\/x∈As:=by
 obtain⟨n1,n2,n3⟩:=iN.mp n
 refine⟨iN.mpr ⟨n1,a,fun x hx y hy e=>?_⟩,fun x hx=>?_⟩
 ·subst e
  rcases b x hy with z|z
  ·exact n3 x hx x z rfl
  ·exact dj x z (kF _ hx)
 ·rcases dP.mp hx with z|z
  ·exact .inl (kF _ z)
  ·exact(b x z).imp (fun z=>eT _ z) fun z=>z
theorem SR.xq{d:D}{v:V}{fl:Bool}{As:List Addr}(ne:As≠[])(r:bE K Hs H fl d v As)(nd:As.Nodup){ρ:Env}{σ:St}{ag:List Addr}(i:Nat)(s:SR K Hs H ρ σ ag):ag.Nodup->(∀ a∈As,a∉ag) ->
  ∃ bG,bG.Nodup/\(∀ a∈bG,a∈ag\/a∈As)/\SR K Hs H (ρ.set i (some (.ow fl d))) (σ.set i (some v)) bG:=by
 induction s generalizing i with
 |nil=>exact fun n _=>⟨[],sT,(fun a h=>A7 h),.nil⟩
 |non s ih =>
  intro n dj
  cases i with
  |zero=>exact⟨_,qN nd n dj,fun a h=>(dP.mp h).symm,.ow ne r s⟩
  |succ i=>obtain⟨t,a,b,c⟩:=ih i n dj;exact⟨t,a,b,.non c⟩
 |sh q s ih =>
  intro n dj
  cases i with
  |zero=>exact⟨_,qN nd n dj,fun a h=>(dP.mp h).symm,.ow ne r s⟩
  |succ i=>obtain⟨t,a,b,c⟩:=ih i n dj;exact⟨t,a,b,.sh q c⟩
 |xc s ih =>
  intro n dj
  cases i with
  |zero=>exact⟨_,qN nd n dj,fun a h=>(dP.mp h).symm,.ow ne r s⟩
  |succ i=>obtain⟨t,a,b,c⟩:=ih i n dj;exact⟨t,a,b,.xc c⟩
 |ow ne' q s ih =>
  intro n dj
  obtain⟨n1,n2,n3⟩:=iN.mp n
  have N0:=fun a ha m=>dj a ha (eT _ m)
  cases i with
  |zero=>exact⟨_,qN nd n2 N0,fun a h=>(dP.mp h).symm.imp (fun z=>eT _ z) fun z=>z,.ow ne r s⟩
  |succ i=>obtain⟨t,a,b,c⟩:=ih i n2 N0;exact⟨_,(gK n dj a b).1,(gK n dj a b).2,.ow ne' q c⟩
 |lk ne' q s ih =>
  intro n dj
  obtain⟨n1,n2,n3⟩:=iN.mp n
  have N0:=fun a ha m=>dj a ha (eT _ m)
  cases i with
  |zero=>exact⟨_,qN nd n2 N0,fun a h=>(dP.mp h).symm.imp (fun z=>eT _ z) fun z=>z,.ow ne r s⟩
  |succ i=>obtain⟨t,a,b,c⟩:=ih i n2 N0;exact⟨_,(gK n dj a b).1,(gK n dj a b).2,.lk ne' q c⟩
def asg:Md->D->Option Sl
 |.sh,d=>some (.sh d)
 |.ow fl,d=>some (.ow fl d)
 |.bo,d=>bif d.flat then some (.sh d) else none
theorem cy.set(i:Nat)(s:cy K Hs ρ σ H ag)(r:RM K Hs H m d v As)(nd:As.Nodup)(dj:∀ a∈As,Hs a=none/\a∉ag)(e:asg m d=some sl) :
  ∃ bG,cy K Hs (ρ.set i (some sl)) (σ.set i (some v)) H bG:=by
 have XQ:Rep K Hs d v->∃ bG,cy K Hs (ρ.set i (some (.sh d))) (σ.set i (some v)) H bG:=fun r=>by
  obtain⟨t,a,b⟩:=s.sr.yr r i
  exact⟨t,b,s.wf,a.nodup s.oQ,fun x hx=>s.own x (a.subset hx)⟩
 cases m with
 |sh=>cases e;exact XQ r.2
 |ow fl =>
  cases e
  obtain⟨t,a,b,c⟩:=SR.xq r.2 r.1 nd i s.sr s.oQ fun a ha=>(dj a ha).2
  exact⟨t,c,s.wf,a,fun x hx=>(b x hx).elim (s.own x) fun z=>(dj x z).1⟩
 |bo =>
  cases hf:d.flat with
  |true =>
   simp only[asg,hf,cond_true,Option.some.injEq] at e
   subst e
   exact XQ (r.flat s.wf hf)
  |false=>simp[asg,hf] at e
end
section
variable {X:Cx}{K:PySem.W.Frag}{e c:Expr}{te:WE}{tc:WT}{pos:Pos}{st:Stmt}{a b rest:List Stmt}{t u:WS}
theorem PS.imp{te vS:TS}(h:PS X st te)(i:∀ D σ H,vS D σ H->te D σ H):PS X st vS:=fun pins s σ H D I q=>h pins s σ H D I (i D σ H q)
theorem lI.imp{te vS:TS}(h:lI X a te)(i:∀ D σ H,vS D σ H->te D σ H):lI X a vS:=fun pins s σ H D I q=>h pins s σ H D I (i D σ H q)
def di:WS:=fun E ρ=>E.nx ρ
def bT(t u:WS):WS:=fun E ρ=>t { E with nx:=u E } ρ
def h9(te:WE):WS:=fun E ρ=>te ρ E.rt
def tG(te:WE):WS:=fun E ρ=>te ρ fun _ _=>E.nx ρ
def dr(i:Nat)(te:WE):WS:=fun E ρ=>te ρ fun m d=>match asg m d with
 |some sl=>E.nx (ρ.set i (some sl))
 |none=>False
def kC(c:WT)(t u:WS):WS:=fun E ρ=>c ρ fun b=>if b=true then t E ρ else u E ρ
def xf:WS:=fun _ _=>False
theorem aY:xi X K L [] di:=lI.imp aa' fun D σ H hx=>d_ hx fun Hs ρ ag E sr h k1 _ _ _=>k1 σ H Hs ρ ag (ax.refl _) sr h
theorem Bh{D:Ends}(h:vF K L (bT t u) D σ H):VP (vF K L t) (vF K L u) D σ H:=by
 obtain⟨Hs,ρ,ag,E,sr,h,k1,k2,k3,k4,kx⟩:=h
 refine⟨Hs,ρ,ag,{ E with nx:=u E },sr,h,fun bp H' av aT bG s DE q=>?_,k2,k3,k4,kx⟩
 exact⟨av,aT,bG,E,DE,q,fun iP H2 ay fw dc s2=>k1 iP H2 ay fw dc (s.trans s2),fun iP H2 ay fw dc s2=>k2 iP H2 ay fw dc (s.trans s2),fun iP H2 ay fw dc s2=>k3 iP H2 ay fw dc (s.trans s2),
  fun v H2 ay m d As s2=>k4 v H2 ay m d As (s.trans s2),fun n H2 s2=>kx n H2 (s.trans s2)⟩
theorem aj(h1:QS X K L st t)(h2:xi X K L rest u):xi X K L (st :: rest) (bT t u):=lI.imp (VQ h1 h2) fun D σ H h=>Bh h
theorem ao(h1:QS X K L st t):xi X K L [st] t:=VR h1
theorem zK:xi X K L a xf:=lI.imp ag' fun D σ H hx=>d_ hx fun Hs ρ ag E sr h _ _ _ _=>h
theorem bA(he:QE X K e te):QS X K L (.Return (some e) pos) (h9 te):=PS.imp (VS he) fun D σ H hx=>d_ hx fun Hs ρ ag E sr h k1 k2 k3 k4 =>
 ⟨Hs,ρ,ag,_,sr,h,fun v H1 aE m d As g1 r1 f1 q1=>k4 v H1 aE m d As g1.sh g1.wf r1 f1.1 (fun a ha=>(f1.2 a ha).1) q1⟩
def rZ(i:Nat):WS:=fun E ρ=>match ρ[i]? with
 |some (some (.sh d))=>E.rt .sh d
 |some (some (.ow fl d))=>E.rt (.ow fl) d
 |_=>False
theorem SR.at{ρ:Env}{σ:St}{ag:List Addr}{i:Nat}{fl:Bool}{d:D}{Hs H:Hp}(s:SR K Hs H ρ σ ag)(e:ρ[i]? = some (some (.ow fl d))):∃ v As,σ[i]? = some (some v)/\As≠[]/\bE K Hs H fl d v As/\As.Sublist ag:=by
 induction s generalizing i with
 |nil=>simp at e
 |non s ih =>
  cases i with
  |zero=>simp at e
  |succ i=>exact ih e
 |sh r s ih =>
  cases i with
  |zero=>simp at e
  |succ i=>exact ih e
 |xc s ih =>
  cases i with
  |zero=>simp at e
  |succ i=>exact ih e
 |ow ne r s ih =>
  cases i with
  |zero=>simp at e;obtain⟨rfl,rfl⟩:=e;exact⟨_,_,rfl,ne,r,Lv _ _⟩
  |succ i =>
   obtain⟨v,As,a,b,c,d⟩:=ih e
   exact⟨v,As,a,b,c,d.trans (pz _ _)⟩
 |lk ne r s ih =>
  cases i with
  |zero=>simp at e
  |succ i =>
   obtain⟨v,As,a,b,c,d⟩:=ih e
   exact⟨v,As,a,b,c,d.trans (pz _ _)⟩
theorem lF{i:Nat}(he:PE X e (B7 i)):QS X K L (.Return (some e) pos) (rZ i):=PS.imp (VS he) fun D σ H hx=>d_ hx fun Hs ρ ag E sr h k1 k2 k3 k4=>by
 unfold rZ at h
 split at h
 ·rename_i d e1
  obtain⟨v,e2,r⟩:=sr.sr.get e1
  exact⟨v,e2,k4 v H Hs .sh d [] (ax.refl _) sr.wf ⟨rfl,r⟩ sT (fun a ha=>nomatch ha) h⟩
 ·rename_i fl d e1
  obtain⟨v,As,e2,ne,r,sb⟩:=sr.sr.at e1
  exact⟨v,e2,k4 v H Hs (.ow fl) d As (ax.refl _) sr.wf ⟨r,ne⟩ (sb.nodup sr.oQ) (fun a ha=>sr.own a (sb.subset ha)) h⟩
 ·exact h.elim
theorem mj(he:QE X K e te)(hs:swapsWith e none pos.line X.env=pure false:=by rfl):QS X K L (.Expr e pos) (tG te):=PS.imp (G0 he hs) fun D σ H hx=>d_ hx fun Hs ρ ag E sr h k1 k2 k3 k4 =>
 ⟨Hs,ρ,ag,_,sr,h,fun v H1 aE m d As g1 r1 f1 q1=>k1 σ H1 aE ρ ag g1.sh (sr.grow g1) q1⟩
theorem aG{i:Nat}{x:Str}{pos':Pos}(hN:X.N.Nodup)(hi:X.N[i]? = some x)(hx:Loc X.env.scope x)(he:QE X K e te)(hs:swapsWith e (some (.Name x pos')) pos.line X.env=pure false:=by rfl)
  (hf:X.fn x=true\/X.env.scope.names.lookup x=some .local:=by first|exact .inl rfl|exact .inr rfl|assumption):QS X K L (.Assign [.Name x pos'] e pos) (dr i te):=PS.imp (VY hN hi hx he hs hf) fun D σ H hx=>d_ hx fun Hs ρ ag E sr h k1 k2 k3 k4=>by
 refine⟨Hs,ρ,ag,_,sr,h,fun v H1 aE m d As g1 r1 f1 q1=>?_⟩
 have q1:match asg m d with
  |some sl=>E.nx (ρ.set i (some sl))
  |none=>False:=q1
 cases e:asg m d with
 |none=>rw[e] at q1;exact q1.elim
 |some sl =>
  rw[e] at q1
  obtain⟨bG,s'⟩:=(sr.grow g1).set i r1 f1.1 (fun a ha=>⟨(f1.2 a ha).1,fun m=>(sr.sr.own a m).ne (f1.2 a ha).2⟩) e
  exact k1 _ H1 aE _ bG g1.sh s' q1
theorem dR(hc:QT X K c tc)(ha:xi X K L a t)(hb:xi X K L b u):QS X K L (.If c a b pos) (kC tc t u):=PS.imp (ae' hc ha hb) fun D σ H hx=>lK hx fun Hs ρ ag E sr h k1 k2 k3 k4 kx=>by
 refine⟨Hs,ρ,ag,_,sr,h,fun k H1 aE g1 q1=>?_⟩
 have XR:∀ bp H' av aT bG,ax aE av->cy K av aT bp H' bG->E.nx aT->D.nx bp H':=fun iP H2 ay fw dc s2=>k1 iP H2 ay fw dc (g1.sh.trans s2)
 have XS:∀ bp H' av aT bG,ax aE av->cy K av aT bp H' bG->E.bk aT->D.bk bp H':=fun iP H2 ay fw dc s2=>k2 iP H2 ay fw dc (g1.sh.trans s2)
 have XX:∀ bp H' av aT bG,ax aE av->cy K av aT bp H' bG->E.ct aT->D.ct bp H':=fun iP H2 ay fw dc s2=>k3 iP H2 ay fw dc (g1.sh.trans s2)
 cases k with
 |true=>exact⟨aE,ρ,ag,E,sr.grow g1,q1,XR,XS,XX,(fun v H2 ay m d As s2=>k4 v H2 ay m d As (g1.sh.trans s2)),fun n H2 s2=>kx n H2 (g1.sh.trans s2)⟩
 |false=>exact⟨aE,ρ,ag,E,sr.grow g1,q1,XR,XS,XX,(fun v H2 ay m d As s2=>k4 v H2 ay m d As (g1.sh.trans s2)),fun n H2 s2=>kx n H2 (g1.sh.trans s2)⟩
def tJ(Hs H:Hp)(As:List Addr):Hp:=fun a=>if a∈As then H a else Hs a
theorem i_(n:∀ a∈As,Hs a=none):ax Hs (tJ Hs H As):=fun a o e=>by
 unfold tJ
 rw[if_neg fun m=>by rw[n a m] at e;cases e]
 exact e
theorem zj(w:Wf Hs H)(o:∀ a∈As,Own H a):Wf (tJ Hs H As) H:=⟨fun a u e=>by
  unfold tJ at e
  by_cases m:a∈As
  ·rw[if_pos m] at e;exact e
  ·rw[if_neg m] at e;exact w.sub a u e,fun a vs e=>by
  unfold tJ
  rw[if_neg fun m=>(o a m).CW e]
  exact w.jI a vs e⟩
def N3:Sl->Sl
 |.sh d=>.sh d
 |.ow _ d=>.sh d
 |.lk a fl d=>.lk a fl d
 |.xc a=>.xc a
def N4:Sl->Sl
 |.sh d=>.sh d
 |.ow _ d=>.sh d
 |.lk _ _ d=>.sh d
 |.xc a=>.xc a
def N9(i:Nat)(ρ:Env):Env:=match ρ[i]? with
 |some (some sl)=>ρ.set i (some (N3 sl))
 |_=>ρ
theorem qg{As ag B t:List Addr}(n:(B++ag).Nodup)(a:As.Sublist ag)(c:∀ x∈As,x∉t):∀ x∈As,x∉B++t:=fun x hx m=>by
 obtain⟨n1,n2,n3⟩:=iN.mp n
 rcases dP.mp m with z|z
 ·exact n3 x z x (a.subset hx) rfl
 ·exact c x hx z
theorem SR.eu(i:Nat)(s:SR K Hs H ρ σ ag):ρ[i]? = some (some (.ow fl d))->ag.Nodup ->
  ∃ (As bG:List Addr),As.Sublist ag/\bG.Sublist ag/\(∀ a∈As,a∉bG)/\∀ av,ax Hs av->(∀ a∈As,av a=H a)->SR K av H (ρ.set i (some (.sh d))) σ bG:=by
 induction s generalizing i with
 |nil=>intro e;simp at e
 |non q ih =>
  intro e n
  cases i with
  |zero=>simp at e
  |succ i =>
   obtain⟨As,t,a,b,c,d⟩:=ih i e n
   exact⟨As,t,a,b,c,fun av s k=>.non (d av s k)⟩
 |sh r q ih =>
  intro e n
  cases i with
  |zero=>simp at e
  |succ i =>
   obtain⟨As,t,a,b,c,d⟩:=ih i e n
   exact⟨As,t,a,b,c,fun av s k=>.sh (r.same s) (d av s k)⟩
 |xc q ih =>
  intro e n
  cases i with
  |zero=>simp at e
  |succ i =>
   obtain⟨As,t,a,b,c,d⟩:=ih i e n
   exact⟨As,t,a,b,c,fun av s k=>.xc (d av s k)⟩
 |ow ne r q ih =>
  intro e n
  obtain⟨n1,n2,n3⟩:=iN.mp n
  cases i with
  |zero =>
   simp at e
   obtain⟨rfl,rfl⟩:=e
   exact⟨_,_,Lv _ _,pz _ _,fun a h m=>n3 a h a m rfl,fun av s k=>.sh (r.rep s k) (q.fh s fun _ _=>rfl)⟩
  |succ i =>
   obtain⟨As,t,a,b,c,d⟩:=ih i e n2
   exact⟨As,_,a.trans (pz _ _),b.append_left _,qg n a c,fun av s k=>.ow ne (r.fh s fun _ _=>rfl) (d av s k)⟩
 |lk ne r q ih =>
  intro e n
  obtain⟨n1,n2,n3⟩:=iN.mp n
  cases i with
  |zero=>simp at e
  |succ i =>
   obtain⟨As,t,a,b,c,d⟩:=ih i e n2
   exact⟨As,_,a.trans (pz _ _),b.append_left _,qg n a c,fun av s k=>.lk ne (r.fh s fun _ _=>rfl) (d av s k)⟩
theorem cy.eu(i:Nat)(s:cy K Hs ρ σ H ag):∃ av bG,ax Hs av/\cy K av (N9 i ρ) σ H bG:=by
 unfold N9
 split
 ·rename_i sl e
  have keep:N3 sl=sl->∃ av bG,ax Hs av/\cy K av (ρ.set i (some (N3 sl))) σ H bG:=fun hs=>by
   have e2:ρ.set i (some (N3 sl))=ρ:=by
    apply AH
    intro j
    rw[List.getElem?_set]
    by_cases h:i=j
    ·subst h
     rw[if_pos rfl,e]
     have:i<ρ.length:=(iL.mp e).1
     simp[this,hs]
    ·rw[if_neg h]
   rw[e2]
   exact⟨Hs,ag,ax.refl _,s⟩
  cases sl with
  |sh d=>exact keep rfl
  |xc a=>exact keep rfl
  |lk a fl d=>exact keep rfl
  |ow fl d =>
   obtain⟨As,t,a,b,c,g⟩:=SR.eu i s.sr e s.oQ
   have hn:∀ a∈As,Hs a=none:=fun x hx=>s.own x (a.subset hx)
   have ho:∀ a∈As,Own H a:=fun x hx=>s.sr.own x (a.subset hx)
   refine⟨tJ Hs H As,t,i_ hn,g _ (i_ hn) fun x hx=>by unfold tJ;rw[if_pos hx],zj s.wf ho,b.nodup s.oQ,fun x hx=>?_⟩
   unfold tJ
   rw[if_neg fun m=>c x m hx]
   exact s.own x (b.subset hx)
 ·exact⟨Hs,ag,ax.refl _,s⟩
def fI(i:Nat)(t:WS):WS:=fun E ρ=>t E (N9 i ρ)
theorem A_{D:Ends}(h:vF K L (fI i t) D σ H):vF K L t D σ H:=by
 obtain⟨Hs,ρ,ag,E,sr,h,k1,k2,k3,k4,kx⟩:=h
 obtain⟨av,bG,s,DE⟩:=sr.eu i
 exact⟨av,_,bG,E,DE,h,fun iP H2 ay fw dc s2=>k1 iP H2 ay fw dc (s.trans s2),fun iP H2 ay fw dc s2=>k2 iP H2 ay fw dc (s.trans s2),fun iP H2 ay fw dc s2=>k3 iP H2 ay fw dc (s.trans s2),
  fun v H2 ay m d As s2=>k4 v H2 ay m d As (s.trans s2),fun n H2 s2=>kx n H2 (s.trans s2)⟩
theorem aP(i:Nat)(h:QS X K L st t):QS X K L st (fI i t):=PS.imp h fun D σ H h=>A_ h
def mL(aE H1 av H':Hp):Hp:=fun a=>match H' a with
 |some (.tup vs)=>some (.tup vs)
 |_=>match H1 a with
  |none=>av a
  |some _=>aE a
theorem iY(w:Wf aE H1)(s:ax H1 av)(w':Wf av H'):eP aE H1 (mL aE H1 av H') H':=by
 have sa:ax H1 H':=s.trans w'.sub
 have tp:∀ a vs,H' a=some (.tup vs)->mL aE H1 av H' a=some (.tup vs):=fun a vs e=>by unfold mL;rw[e]
 have nt:∀ a,(∀ vs,H' a≠some (.tup vs))->mL aE H1 av H' a=match H1 a with
  |none=>av a
  |some _=>aE a:=fun a h=>by
  unfold mL
  split
  ·rename_i vs e;exact absurd e (h vs)
  ·rfl
 refine⟨sa,fun a o e=>?_,⟨fun a o e=>?_,tp⟩,fun a h=>?_⟩
 ·have e1:=w.sub a o e
  have e2:=sa a o e1
  by_cases ht:∃ vs,o=.tup vs
  ·obtain⟨vs,rfl⟩:=ht
   exact tp a vs e2
  ·rw[nt a fun vs z=>ht ⟨vs,by rw[e2] at z;exact Option.some.inj z⟩,e1]
   exact e
 ·by_cases ht:∃ vs,H' a=some (.tup vs)
  ·obtain⟨vs,z⟩:=ht
   rw[tp a vs z] at e
   rw[z];exact e
  ·rw[nt a fun vs z=>ht ⟨vs,z⟩] at e
   cases q:H1 a with
   |none=>rw[q] at e;exact w'.sub a o e
   |some u =>
    rw[q] at e
    have:=w.sub a o e
    exact sa a o this
 ·cases q:H1 a with
  |none=>exact .inr rfl
  |some u =>
   refine .inl ?_
   by_cases ht:∃ vs,H' a=some (.tup vs)
   ·obtain⟨vs,z⟩:=ht
    have:=sa a u q
    rw[z] at this
    cases this
    rw[w.jI a vs q]
    exact fun z=>nomatch z
   ·rw[nt a fun vs z=>ht ⟨vs,z⟩,q] at h
    exact h
theorem zc{aE H1 av H':Hp}{a:Addr}(s:ax H1 av)(h:av a=none)(o:Own H' a):mL aE H1 av H' a=none/\H1 a=none:=by
 have h1:=s.free h
 refine⟨?_,h1⟩
 unfold mL
 split
 ·rename_i vs e;exact absurd e o.CW
 ·rw[h1];exact h
def DF:Md->D->Md
 |.ow true,_=>.ow true
 |_,d=>bif d.flat then .sh else .bo
theorem uq(w:Wf aE H1)(s:ax H1 av)(w':Wf av H')(r:RM K av H' m d v As)(nd:As.Nodup)(own:∀ a∈As,av a=none) :
  ∃ fS,RM K (mL aE H1 av H') H' (DF m d) d v fS/\dB (mL aE H1 av H') H1 fS:=by
 have g:=iY w s w'
 have other:∃ fS,RM K (mL aE H1 av H') H' (bif d.flat then .sh else .bo) d v fS/\dB (mL aE H1 av H') H1 fS:=by
  cases hf:d.flat with
  |true=>exact⟨[],⟨rfl,(r.rep w').gr g.wf.jI hf⟩,dB.nil⟩
  |false=>exact⟨[],⟨rfl,r.rep w'⟩,dB.nil⟩
 cases m with
 |sh=>exact other
 |bo=>exact other
 |ow fl =>
  cases fl with
  |false=>exact other
  |true=>exact⟨As,⟨bE.leaves (fun a vs e=>g.wf.jI a vs (w'.sub _ _ e)) r.1,r.2⟩,nd,fun a h=>zc s (own a h) (r.own a h)⟩
abbrev i6:=List D->(Md->D->Prop)->Prop
def au(K:PySem.W.Frag)(sp:i6):Sp:=fun vs H Qv _=>∃ ds Qd,aI K H ds vs/\sp ds Qd /\
 ∀ v H' av m d As,ax H av->Wf av H'->RM K av H' m d v As->As.Nodup->(∀ a∈As,av a=none)->Qd m d->Qv v H'
def bh(n:Nat)(ds:List D):Env:=ds.map (fun d=>some (.sh d))++List.replicate (n-ds.length) none
theorem SR.start(r:aI K H ds vs):SR K H H (ds.map (fun d=>some (.sh d))++List.replicate n none) (vs.map some++List.replicate n none) []:=by
 induction ds generalizing vs with
 |nil =>
  rw[r.n0]
  induction n with
  |zero=>exact .nil
  |succ n ih=>exact .non ih
 |cons d ds ih =>
  obtain⟨u,us,rfl,r,rs⟩:=r.c
  exact .sh r (ih rs)
theorem yu(h:au K sp vs H Qv E)(hp:∀ ds Q,sp ds Q->t { nx:=fun _=>Q .sh .non,rt:=Q } (bh N.length ds)) :
  vF K L0 t { nx:=fun _ H'=>Qv .non H',rt:=Qv } (start N vs) H:=by
 obtain⟨ds,Qd,rs,hs,fin⟩:=h
 have hl:=rs.length
 refine⟨H,bh N.length ds,[],{ nx:=fun _=>Qd .sh .non,rt:=Qd },⟨?_,⟨ax.refl _,fun _ _ e=>e⟩,sT,fun a h=>nomatch h⟩,hp ds Qd hs,?_,?_,?_,?_,fun _ _ _ _=>trivial⟩
 ·unfold bh start
  rw[hl]
  exact SR.start rs
 ·exact fun bp H' av aT bG s sr q=>fin .non H' av .sh .non [] s sr.wf ⟨rfl,.non⟩ sT (fun a h=>nomatch h) q
 ·exact fun bp H' av aT bG s sr q=>q.elim
 ·exact fun bp H' av aT bG s sr q=>q.elim
 ·exact fun v H' av m d As s w r nd own q=>fin v H' av m d As s w r nd own q
theorem mn.ok{P:Program}{st:Stmt}{N ps:List Str}(F:hV K x qual st f fd)(S:ku N ps (cp st))(len:∀ ds Q,sp ds Q->ds.length=ps.length)
  (MB:∀ (dy:Value) (A:Around) (outer:List PySem.Env) (s:Shared) (H:Hp) (E:XK),nv k (A.deeper (envOfC qual (cp st) s.heap.objs.size f dy))->xi (EE gI P w K mg base N qual (cp st) f dy A outer s H E).L8 K L0 (hU st) t)
  (hp:∀ ds Q,sp ds Q->t { nx:=fun _=>Q .sh .non,rt:=Q } (bh N.length ds)):gv P w K mg base gI (k+1) f fd ps (au K sp) :=
 F.ok S (fun vs H Q E ⟨ds,Qd,rs,hs,_⟩=>by rw[<- rs.length];exact len ds Qd hs) fun dy A outer s H vs Q E hr hs=>⟨_,MB dy A outer s H E hr,yu hs hp⟩
def aM(sp:i6)(t:WA):WE:=fun ρ Q=>t ρ fun ps=>sp (ps.map (·.2)) fun m d=>bP (m,d) (f:=fun p=>Q (DF p.1 p.2) p.2) ⟨⟩
theorem yx{sp:i6}{t:WA}{σ:St}{H:Hp}{Qv:VK}{E:XK}(h:mI K (aM sp t) σ H Qv):Sn (au K sp) [] E (XD K t) σ H Qv:=by
 obtain⟨Hs,ρ,ag,Q,sr,h,f⟩:=h
 refine⟨Hs,ρ,ag,_,sr,h,fun vs H1 aE ps As g1 r1 f1 q1=>?_⟩
 refine⟨_,_,by rw[pS];exact r1.reps g1.wf,q1,fun v H' av m d As s w r nd own q=>?_⟩
 obtain⟨fS,r',fr⟩:=uq g1.wf s w r nd own
 exact Fin.after f g1 v H' _ (DF m d) d fS (iY g1.wf s w) r' fr q
theorem aO {k:Nat} {x:Str} {ps:List Str} {sp:i6} {p:Pos} {es:List Expr} {t:WA} (C:dk X.prog X.w X.K X.mg X.base k x ps (au K sp)) (hr:nv k X.A) (ha:QA X K (e :: es) t) (hg:Gl X x:=by rfl) (rL:(x == ("__debug__" : Str))=false:=by decide) (he:starEach (e :: es) X.env=(false,eval e X.env) :: starEach es X.env:=by rfl)
  (kN:(backTo pos (starEach es X.env)).any (·.1)=false:=by rfl):QE X K (.Call (.Name x p) (e :: es) [] pos) (aM sp t):=PE.imp (Je C hr ha hg rL he kN) fun σ H Qv h=>yx h
end
abbrev WG:=D->Env->(Env->Prop)->Prop
def Oi(K:PySem.W.Frag)(g:WG):TG:=fun v σ H Qv=>∃ Hs ρ ag d Q,cy K Hs ρ σ H ag/\Rep K Hs d v/\g d ρ Q/\∀ bp aT bG,cy K Hs aT bp H bG->(∀ a∈bG,a∈ag)->Q aT->Qv bp H
abbrev QG(X:Cx)(K:PySem.W.Frag)(e:Expr)(g:WG):Prop:=PG X e (Oi K g)
def gN(i:Nat):WG:=fun d ρ Q=>Q (ρ.set i (some (.sh d)))
abbrev E3:=List D->Env->(Env->Prop)->Prop
def dU'(K:PySem.W.Frag)(g:E3):He:=fun vs σ H Qv=>∃ Hs ρ ag ds Q,cy K Hs ρ σ H ag/\aI K Hs ds vs/\g ds ρ Q/\∀ bp aT bG,cy K Hs aT bp H bG->(∀ a∈bG,a∈ag)->Q aT->Qv bp H
abbrev QJ(X:Cx)(K:PySem.W.Frag)(es:List Expr)(g:E3):Prop:=y6 X es (dU' K g)
def gP:E3:=fun ds ρ Q=>ds=[]/\Q ρ
def aX(g:WG)(gs:E3):E3:=fun ds ρ Q=>match ds with
 |d :: ds=>g d ρ fun aT=>gs ds aT Q
 |[]=>False
def gT(n:Nat)(gs:E3):WG:=fun d ρ Q=>match d with
 |.tup ds=>ds.length=n/\gs ds ρ Q
 |_=>False
section
variable {X:Cx}{K:PySem.W.Frag}{e:Expr}{es:List Expr}{g:WG}{gs:E3}{pos:Pos}
theorem PG.imp(h:PG X e t)(i:∀ v σ H Q,t' v σ H Q->t v σ H Q):PG X e t':=fun pins s σ H v u Q I r q=>h pins s σ H v u Q I r (i v σ H Q q)
theorem y6.imp(h:y6 X es t)(i:∀ v σ H Q,t' v σ H Q->t v σ H Q):y6 X es t':=fun pins s σ H v u Q I r q=>h pins s σ H v u Q I r (i v σ H Q q)
theorem cy.DG(i:Nat)(s:cy K Hs ρ σ H ag)(r:Rep K Hs d v):∃ bG,(∀ a∈bG,a∈ag)/\cy K Hs (ρ.set i (some (.sh d))) (σ.set i (some v)) H bG:=by
 obtain⟨t,a,b⟩:=s.sr.yr r i
 exact⟨t,fun x hx=>a.subset hx,b,s.wf,a.nodup s.oQ,fun x hx=>s.own x (a.subset hx)⟩
theorem aA(hN:X.N.Nodup)(hi:X.N[i]? = some x)(hx:Loc X.env.scope x)(hf:X.fn x=true\/X.env.scope.names.lookup x=some .local:=by first|exact .inl rfl|exact .inr rfl|assumption):QG X K (.Name x pos) (gN i) :=
 PG.imp (R3 hN hi hx hf) fun v σ H Qv cS=>by
  obtain⟨Hs,ρ,ag,d,Q,sr,r,h,k⟩:=cS
  obtain⟨t,m,s⟩:=sr.DG i r
  exact k _ _ t s m h
theorem dg:QJ X K [] gP:=y6.imp VW fun v σ H Qv cS=>by
 obtain⟨Hs,ρ,ag,ds,Q,sr,r,h,k⟩:=cS
 obtain⟨rfl,h⟩:=h
 cases r
 exact⟨rfl,k σ ρ ag sr (fun _ z=>z) h⟩
theorem aF(h1:QG X K e g)(h2:QJ X K es gs)(hs:(assignEach (e :: es) X.env).map (·.2)=assign e X.env :: (assignEach es X.env).map (·.2):=by rfl):QJ X K (e :: es) (aX g gs) :=
 y6.imp (R4 h1 h2 hs) fun v σ H Qv cS=>by
  obtain⟨Hs,ρ,ag,ds,Q,sr,r,h,k⟩:=cS
  cases r with
  |nil=>exact h.elim
  |cons r rs=>exact⟨_,_,rfl,Hs,ρ,ag,_,_,sr,r,h,fun iP fw dc fm m2 q2=>⟨Hs,fw,dc,_,Q,fm,rs,q2,fun n4 Jn dV' sr3 m3=>k n4 Jn dV' sr3 fun a h=>m2 a (m3 a h)⟩⟩
theorem eY(hc:X.calm=true)(h:QJ X K es gs)(hn:(assignEach es X.env).length=n:=by rfl)(pV:(assignEach es X.env).findIdx? (·.1)=none:=by rfl):QG X K (.Tuple es k pos) (gT n gs) :=
 PG.imp (VX hc h hn pV) fun v σ H Qv cS=>by
  obtain⟨Hs,ρ,ag,d,Q,sr,r,h,k⟩:=cS
  cases r with
  |tup z e rs=>exact⟨_,_,rfl,.inl (.inl (sr.wf.sub _ _ e)),by rw[<- rs.length];exact h.1,Hs,ρ,ag,_,Q,sr,rs,h.2,k⟩
  |_=>exact h.elim
end
abbrev WI:=Env->(List D->Prop)->Prop
structure m_(K:PySem.W.Frag)(J:It)(ds:List D)(C:Hp->Hp->Prop):Prop where
 go:∀ i Hs H,C Hs H->Wf Hs H->i<ds.length->J.go i H
 nr:∀ i Hs H x H' d,C Hs H->Wf Hs H->ds[i]? = some d->J.nr i H x H'->∃ av,eP Hs H av H'/\Rep K av d x
 stop:∀ Hs H,C Hs H->Wf Hs H->J.stop ds.length H
abbrev xH(K:PySem.W.Frag)(Hs:Hp)(J:It)(ds:List D):Prop:=m_ K J ds fun G _=>ax Hs G
section
variable {K:PySem.W.Frag}{Hs:Hp}{J:It}{ds:List D}{C C':Hp->Hp->Prop}{a:Addr}
theorem m_.imp(S:m_ K J ds C)(h:∀ Hs H,C' Hs H->C Hs H):m_ K J ds C':=⟨fun i Hs H c=>S.go i Hs H (h _ _ c),fun i Hs H x H' d c=>S.nr i Hs H x H' d (h _ _ c),fun Hs H c=>S.stop Hs H (h _ _ c)⟩
theorem m_.seq(rs:aI K Hs ds vs)(S:qQ J vs fun H=>ax Hs H):xH K Hs J ds where
 go:=fun i G H s w h=>S.go i H (s.trans w.sub) (by rw[<- rs.length];exact h)
 nr:=fun i G H x H' d s w h y=>by
  have hi:i<ds.length:=by
   rcases GB i ds.length with q|q
   ·exact q
   ·rw[ua q] at h;cases h
  obtain⟨e,z⟩:=S.nr i H x H' (s.trans w.sub) (by rw[<- rs.length];exact hi) y
  subst e
  obtain⟨d',ed,rd⟩:=rs.Xw z
  rw[h] at ed;cases ed
  exact⟨G,eP.refl w,rd.same s⟩
 stop:=fun G H s w=>by rw[rs.length];exact S.stop H (s.trans w.sub)
abbrev CN(K:PySem.W.Frag)(a:Addr)(ds:List D)(C:Hp->Hp->Prop):Prop:=∀ Hs H,C Hs H->Wf Hs H->∃ vs,eL K H a vs/\aI K Hs ds vs
theorem m_.list(h:CN K a ds C):m_ K (PZ K a) ds C where
 go:=fun i G H c w hi=>by
  obtain⟨vs,q,rs⟩:=h G H c w
  exact⟨vs,vs[i]'(by rw[<- rs.length];exact hi),q,by simp⟩
 nr:=fun i G H x H' d c w hd y=>by
  obtain⟨vs,q,rs⟩:=h G H c w
  obtain⟨rfl,y⟩:=y
  obtain⟨d',ed,rd⟩:=rs.Xw (y vs q)
  rw[hd] at ed;cases ed
  exact⟨G,eP.refl w,rd⟩
 stop:=fun G H c w=>by
  obtain⟨vs,q,rs⟩:=h G H c w
  exact⟨vs,q,by rw[rs.length];exact bX _⟩
theorem yX(s:eL K Hs a vs)(rs:aI K Hs ds vs):CN K a ds fun G _=>ax Hs G:=fun G H c w=>⟨vs,ax.seq (c.trans w.sub) s,rs.same c⟩
end
def tpI(K:PySem.W.Frag)(wi:WI):TI:=fun σ H R=>∃ Hs ρ ag Q,cy K Hs ρ σ H ag/\wi ρ Q/\∀ J H' av ds,eP Hs H av H'->xH K av J ds->ds.length<=sizeLine->Q ds->R J H'
abbrev QI(X:Cx)(K:PySem.W.Frag)(tg iter:Expr)(wi:WI):Prop:=PI X tg iter (tpI K wi)
def qy:Md->Prop
 |.bo=>False
 |_=>True
def cO(te:WE):WI:=fun ρ Q=>te ρ fun m d=>qy m/\match d with
 |.list xs=>Q xs
 |_=>False
def nR(lo:Int)(n:Nat):List D:=(List.range n).map fun i=>.int (lo+(i:Nat))
def cH(te:WE):WI:=fun ρ Q=>te ρ fun _ d=>match d with
 |.int j=>j<=16777216/\-(2 ^ 62)<=j/\Q (nR 0 j.toNat)
 |_=>False
section
variable {X:Cx}{K:PySem.W.Frag}{e e2 tg:Expr}{te TN:WE}{pos p:Pos}
theorem PI.imp(h:PI X tg iter t)(i:∀ σ H R,t' σ H R->t σ H R):PI X tg iter t':=fun pins s σ H R I q=>h pins s σ H R I (i σ H R q)
theorem qQ.imp{J:It}(s:qQ J vs c)(h:∀ H,c' H->c H):qQ J vs c':=⟨fun i H q=>s.go i H (h H q),fun i H x H' q=>s.nr i H x H' (h H q),fun H q=>s.stop H (h H q)⟩
theorem RM.Gk(g:eP Hs H aE H1)(r:RM K aE H1 m d v As)(f:dB aE H As)(h:qy m):∃ ay,eP Hs H ay H1/\Rep K ay d v:=by
 cases m with
 |sh=>exact⟨aE,g,r.2⟩
 |bo=>exact h.elim
 |ow fl =>
  have n:∀ a∈As,aE a=none:=fun a ha=>(f.2 a ha).1
  have o:=r.own
  refine⟨tJ aE H1 As,⟨g.all,g.sh.trans (i_ n),zj g.wf o,fun a h=>?_⟩,bE.rep (i_ n) r.1 fun a ha=>by unfold tJ;rw[if_pos ha]⟩
  unfold tJ at h
  by_cases m:a∈As
  ·exact .inr (f.2 a m).2
  ·rw[if_neg m] at h;exact g.new a h
theorem b_(he:QE X K e te)(hK:X.K=K:=by rfl):QI X K tg e (cO te):=by
 subst hK
 refine PI.imp (VZ he) fun σ H R hx=>kL hx fun Hs ρ ag Q sr h k=>⟨Hs,ρ,ag,_,sr,h,fun v H1 aE m d As g1 r1 f1 q1=>?_⟩
 obtain⟨nb,q1⟩:=q1
 obtain⟨ay,g2,r2⟩:=r1.Gk g1 f1 nb
 cases r2 with
 |list z s rs=>exact⟨_,rfl,⟨_,ax.seq g2.wf.sub s⟩,k _ H1 ay _ g2 (.seq rs (qQ.imp (BW X.K _ _) fun H' s'=>ax.seq s' s)) (by rw[rs.length];exact z) q1⟩
 |_=>exact q1.elim
theorem qC(lo:Int):∀ (l:List Nat),aI K H (l.map fun i=>.int (lo+(i:Nat))) (l.map fun i=>V.int (lo+(i:Nat)))
 |[]=>.nil
 |c :: l=>.cons (.int _) (qC lo l)
theorem bU (hm:X.mg "range" = none) (he:QE X K e te) (hg:Gl X "range" := by rfl) (hs:starEach [e] X.env=(false,eval e X.env) :: starEach [] X.env:=by rfl) (gx:starEach [e] X.env=[(false,eval e X.env)]:=by rfl):QI X K tg (.Call (.Name "range" p) [e] [] pos) (cH te):=by
 refine PI.imp (au' hg hm (rq he uS hs) gx) fun σ H R hx=>kL hx fun Hs ρ ag Q sr h k=>⟨Hs,ρ,ag,_,sr,h,fun v H1 aE m d As g1 r1 f1 q1=>?_⟩
 have r:=r1.rep g1.wf
 cases r with
 |int j =>
  obtain⟨h1,h2,q1⟩:=q1
  exact⟨j,rfl,h2,by lia,k _ H1 aE _ g1 (.seq (qC 0 _) (qQ.imp (GC _ _) fun _ _=>trivial)) (by rw[b4,Ph,sizeLine_eq];lia) q1⟩
 |_=>exact q1.elim
section
variable {X:Cx}{K:PySem.W.Frag}{e tg:Expr}{te:WE}
def X3(K:PySem.W.Frag)(wi:WI):TI:=fun σ H R=>∃ Hs ρ ag Q,cy K Hs ρ σ H ag/\wi ρ Q/\∀ J H' av ds,eP Hs H av H'->xH K H' J ds->ds.length<=sizeLine->Q ds->R J H'
abbrev QK(X:Cx)(K:PySem.W.Frag)(tg iter:Expr)(wi:WI):Prop:=PI X tg iter (X3 K wi)
theorem gW(h:QI X K tg iter wi):QK X K tg iter wi:=PI.imp h fun σ H R hx=>kL hx fun Hs ρ ag Q sr h k=>⟨Hs,ρ,ag,Q,sr,h,fun J H' av ds g w z q=>k J H' av ds g (w.imp fun G H s=>g.wf.sub.trans s) z q⟩
def gU(te:WE):WI:=fun ρ Q=>te ρ fun _ d=>match d with
 |.list xs=>Q xs
 |_=>False
theorem ig(he:QE X K e te)(hK:X.K=K:=by rfl):QK X K tg e (gU te):=by
 subst hK
 refine PI.imp (VZ he) fun σ H R hx=>kL hx fun Hs ρ ag Q sr h k=>⟨Hs,ρ,ag,_,sr,h,fun v H1 aE m d As g1 r1 f1 q1=>?_⟩
 have r:=r1.rep g1.wf
 cases r with
 |list z s rs=>exact⟨_,rfl,⟨_,s⟩,k _ H1 aE _ g1 (.list (yX s rs)) (by rw[rs.length];exact z) q1⟩
 |_=>exact q1.elim
end
def iQ(g:WG)(b:WS)(E:mX):List D->Env->Prop
 |[],ρ=>E.nx ρ
 |x :: xs,ρ=>g x ρ fun ox=>b { E with nx:=iQ g b E xs,ct:=iQ g b E xs,bk:=E.nx } ox
def kH(wi:WI)(g:WG)(b:WS):WS:=fun E ρ=>wi ρ fun ds=>iQ g b E ds ρ
variable {wi:WI}{g:WG}{b:WS}{body:List Stmt}
theorem bR(hp:PassesOwn (model X.prog X.w) X.A X.env X.xe)(hc:X.calm=true)(hi:QI X K tg iter wi)(hg:QG X K tg g)(hb:xi X K L body b)(hs:∀ x,foldedSetIterable iter X.env x=pure x:=by intro _;rfl) :
  QS X K L (.For tg iter body [] pos) (kH wi g b):=by
 refine PS.imp (V1 hp hc hi hg hb hs) fun D σ H hx=>lK hx fun Hs ρ ag E sr h k1 k2 k3 k4 kx=>?_
 rw[yG]
 refine⟨Hs,ρ,ag,_,sr,h,fun J H1 aE ds g1 S hz q1=>?_⟩
 refine⟨fun i m σ H=>m=ds.length-i/\i<=ds.length/\∃ av aT bG,ax aE av/\cy K av aT σ H bG/\iQ g b E (ds.drop i) aT,⟨ds.length,by simp,eK _,aE,ρ,ag,ax.refl _,sr.grow g1,by simpa using q1⟩,?_⟩
 rintro i m iP H2 ⟨rfl,hi,ay,fw,dc,s2,fm,q2⟩
 by_cases df:i<ds.length
 ·refine .inr ⟨S.go i ay H2 s2 fm.wf df,fun n4 H3=>∃ av aT bG,ax aE av/\cy K av aT n4 H3 bG/\iQ g b E (ds.drop (i+1)) aT,fun n4 H3 h3=>⟨ds.length-(i+1),by lia,rfl,df,h3⟩,fun x H3 y=>?_⟩
  obtain⟨dE,g3,rd⟩:=S.nr i ay H2 x H3 ds[i] s2 fm.wf (by simp[df]) y
  rw[wd df] at q2
  have s3:=s2.trans g3.sh
  refine⟨dE,fw,dc,ds[i],_,fm.grow g3,rd,q2,fun σ4 sC Oj JA _ q4=>?_⟩
  refine⟨dE,sC,Oj,_,JA,q4,?_,?_,?_,?_,fun n H5 s5=>kx n H5 ((g1.sh.trans s3).trans s5)⟩
  ·exact fun yk H5 kD oS pd s5 pe q5=>⟨kD,oS,pd,s3.trans s5,pe,q5⟩
  ·exact fun yk H5 kD oS pd s5 pe q5=>k1 yk H5 kD oS pd ((g1.sh.trans s3).trans s5) pe q5
  ·exact fun yk H5 kD oS pd s5 pe q5=>⟨kD,oS,pd,s3.trans s5,pe,q5⟩
  ·exact fun v H5 kD m d As s5=>k4 v H5 kD m d As ((g1.sh.trans s3).trans s5)
 ·have e:i=ds.length:=by lia
  subst e
  refine .inl ⟨S.stop ay H2 s2 fm.wf,?_⟩
  rw[Pl] at q2
  exact k1 iP H2 ay fw dc (g1.sh.trans s2) fm q2
theorem aR(xs:List D)(Pv:Nat->Env->Prop)(h0:Pv 0 ρ)
  (hs:∀ i x ρ,xs[i]? = some x->Pv i ρ->∀ N:Env->Prop,(∀ aT,Pv (i+1) aT->N aT)->g x ρ fun ox=>b { E with nx:=N,ct:=N,bk:=E.nx } ox)
  (hd:∀ ρ,Pv xs.length ρ->E.nx ρ):iQ g b E xs ρ:=by
 have go:∀ (k i:Nat) (ρ:Env),i+k=xs.length->Pv i ρ->iQ g b E (xs.drop i) ρ:=by
  intro k
  induction k with
  |zero =>
   intro i ρ e p
   have:i=xs.length:=by lia
   subst this
   rw[Pl]
   exact hd ρ p
  |succ k ih =>
   intro i ρ e p
   have hi:i<xs.length:=by lia
   rw[wd hi]
   exact hs i xs[i] ρ (by simp[hi]) p _ fun fw h2=>ih (i+1) fw (by lia) h2
 have:=go xs.length 0 ρ (by lia) h0
 simpa using this
def yL(c:WT)(b:WS):WS:=fun E ρ=>∃ (Pv:Env->Prop) (μ:Env->Nat),Pv ρ/\∀ ρ,Pv ρ->c ρ fun k=>if k=true then b { E with nx:=fun aT=>Pv aT/\μ aT<μ ρ,ct:=fun aT=>Pv aT/\μ aT<μ ρ,bk:=E.nx } ρ else E.nx ρ
theorem uJ(hp:PassesOwn (model X.prog X.w) X.A X.env X.xe)(hc:QT X K c tc)(hb:xi X K L body b):QS X K L (.While c body [] pos) (yL tc b):=by
 refine PS.imp (am' hp hc hb) fun D σ H hx=>lK hx fun Hs ρ ag E sr h k1 k2 k3 k4 kx=>?_
 obtain⟨Pv,μ,p0,turn⟩:=h
 refine⟨fun m σ H=>∃ av aT bG,ax Hs av/\cy K av aT σ H bG/\Pv aT/\μ aT=m,⟨_,Hs,ρ,ag,ax.refl _,sr,p0,rfl⟩,?_⟩
 rintro m iP H2 ⟨ay,fw,dc,s2,fm,p2,rfl⟩
 refine⟨ay,fw,dc,_,fm,turn fw p2,fun k H3 dE g3 q3=>?_⟩
 cases k with
 |false=>exact k1 iP H3 dE fw dc (s2.trans g3.sh) (fm.grow g3) q3
 |true =>
  refine⟨fun bp H'=>∃ av aT bG,ax Hs av/\cy K av aT bp H' bG/\Pv aT/\μ aT<μ fw,fun bp H' ⟨av,aT,bG,a,b,c,d⟩=>⟨μ aT,d,av,aT,bG,a,b,c,rfl⟩,?_⟩
  have s3:ax Hs dE:=s2.trans g3.sh
  refine⟨dE,fw,dc,_,fm.grow g3,q3,?_,?_,?_,?_,fun n H5 s5=>kx n H5 (s3.trans s5)⟩
  ·exact fun yk H5 kD oS pd s5 pe q5=>⟨kD,oS,pd,s3.trans s5,pe,q5.1,q5.2⟩
  ·exact fun yk H5 kD oS pd s5 pe q5=>k1 yk H5 kD oS pd (s3.trans s5) pe q5
  ·exact fun yk H5 kD oS pd s5 pe q5=>⟨kD,oS,pd,s3.trans s5,pe,q5.1,q5.2⟩
  ·exact fun v H5 kD m d As s5=>k4 v H5 kD m d As (s3.trans s5)
end
def sD:WT:=fun _ Q=>Q true
def QL(m:Md)(d:D):Prop:=d.flat=true\/m=.ow true
def iU(g:WG)(tc:WT)(te:WE):List D->Env->(List D->Prop)->Prop
 |[],_,k=>k []
 |x :: xs,ρ,k=>g x ρ fun ox=>tc ox fun b=>if b=true then te ox fun m d=>QL m d/\iU g tc te xs ox (fun out=>k (d :: out)) else iU g tc te xs ox k
def Dn(tn:Nat)(ix:List Nat)(ρ:Env):Env:=List.replicate tn none++ix.map fun j=>(ρ[j]?).join.map N4
def eG(wi:WI)(g:WG)(tc:WT)(te:WE)(tn:Nat)(ix:List Nat):WE:=fun ρ Q=>wi ρ fun ds=>iU g tc te ds (Dn tn ix ρ) fun out=>Q (.ow true) (.list out)
section
variable {X:Cx}{K:PySem.W.Frag}
theorem n_{Hs H G:Hp}(sr:cy K Hs ρ σ H ag)(G':Hp):∀ (ix:List Nat),SR K H G' (ix.map fun j=>(ρ[j]?).join.map N4) (ix.map fun j=>(σ[j]?).join) []
 |[]=>.nil
 |j :: ix=>by
  have ih:=n_ sr G' ix (G:=G)
  simp only[fN]
  cases e:ρ[j]? with
  |none=>exact .non ih
  |some o =>
   cases o with
   |none=>exact .non ih
   |some sl =>
    obtain⟨v,e1,r⟩:=sr.sr.get e
    rw[e1]
    cases sl with
    |sh d=>exact .sh (Rep.same sr.wf.sub r) ih
    |xc a=>subst r;exact .xc ih
    |ow fl d =>
     obtain⟨As,_,r,_⟩:=r
     exact .sh (r.rep sr.wf.sub fun _ _=>rfl) ih
    |lk a fl d =>
     obtain⟨As,_,r,_⟩:=r
     exact .sh (r.rep sr.wf.sub fun _ _=>rfl) ih
theorem sE(s:SR K H G ρ σ []):∀ (n:Nat),SR K H G (List.replicate n none++ρ) (List.replicate n none++σ) []
 |0=>s
 |n+1=>.non (sE s n)
theorem SR.heap(s:SR K Hs H ρ σ []):SR K Hs H' ρ σ []:=s.fh (ax.refl _) fun a h=>nomatch h
theorem uE(w:Wf Hs H)(n:Hs p=none)(ho:∀ vs,o≠.tup vs):Wf Hs (upd H p o):=⟨fun b u q=>by
  rw[cf (fun z=>by subst z;rw[n] at q;cases q)];exact w.sub b u q,fun b us q=>by
  by_cases hb:b=p
  ·subst hb;rw[fE] at q;exact absurd (Option.some.inj q) (ho us)
  ·rw[cf hb] at q;exact w.jI b us q⟩
structure CompI(K:PySem.W.Frag)(H1:Hp)(b:Addr)(acc:List D)(ys:List V)(As:List Addr)(Hs:Hp)(ρ:Env)(τ:St)(H:Hp):Prop where
 sm:ax H1 Hs
 sr:cy K Hs ρ τ H []
 eD:H b=some (.lst ys)
 nD:Hs b=none
 ra:aD K Hs H true acc ys As
 nd:(b :: As).Nodup
 own:∀ a∈As,Hs a=none
theorem CompI.grow(c:CompI K H1 b acc ys As Hs ρ τ H)(g:eP Hs H av H'):CompI K H1 b acc ys As av ρ τ H' :=
 ⟨c.sm.trans g.sh,c.sr.grow g,g.all _ _ c.eD,g.oP c.nD (by rw[c.eD];exact fun z=>nomatch z),c.ra.grow g.sh g.all,c.nd,fun a ha=>g.oP (c.own a ha) (c.ra.own a ha).ne⟩
theorem CompI.push(c:CompI K H1 b acc ys As Hs ρ τ H)(r:RM K Hs H m d v Bs)(ok:QL m d)(nb:Bs.Nodup)(fb:∀ a∈Bs,Hs a=none/\a∉b :: As):∃ fS,CompI K H1 b (acc++[d]) (ys++[v]) fS Hs ρ τ (upd H b (.lst (ys++[v]))):=by
 obtain⟨B,sb,rb⟩:∃ B,B.Sublist Bs/\bE K Hs H true d v B:=by
  rcases ok with hf|rfl
  ·exact⟨[],FR _,.sh (fun _=>hf) (r.flat c.sr.wf hf)⟩
  ·exact⟨Bs,List.Sublist.refl _,r.1⟩
 obtain⟨na,nA⟩:=js.mp c.nd
 have QM:=fun a ha=>fb a (sb.subset ha)
 refine⟨As++(B++[]),c.sm,⟨c.sr.sr.heap,uE c.sr.wf c.nD (fun _ z=>nomatch z),sT,fun a h=>nomatch h⟩,fE,c.nD,(c.ra.fh (H':=upd H b (.lst (ys++[v]))) (ax.refl _) fun a ha=>cf fun z=>na (by subst z;exact ha)).append (.cons (rb.fh (ax.refl _) fun a ha=>cf fun z=>(QM a ha).2 (by subst z;exact b6)) .nil),?_,?_⟩
 ·rw[pS]
  refine js.mpr ⟨fun m=>(dP.mp m).elim na fun m=>(QM b m).2 b6,iN.mpr ⟨nA,sb.nodup nb,fun x hx y hy e=>(QM y hy).2 (e ▸ b9 _ hx)⟩⟩
 ·rw[pS]
  exact fun a ha=>(dP.mp ha).elim (c.own a) fun m=>(QM a m).1
theorem rT(h:mI K (eG wi g tc te tn ix) σ H Qv):yp (X3 K wi) (Oi K g) (A8 K tc) (mI K te) tn ix σ H Qv:=by
 obtain⟨Hs,ρ,ag,Q,sr,h,f⟩:=h
 rw[Bw]
 refine⟨Hs,ρ,ag,_,sr,h,fun J H1 aE ds g1 S hz q1 b hb=>?_⟩
 have st:CompI K H1 b [] [] [] H1 (Dn tn ix ρ) (pI tn ix σ) (upd H1 b (.lst [])):=by
  refine⟨ax.refl _,⟨sE (n_ (G:=H1) (sr.grow g1) _ ix) tn,⟨(ax.refl H1).upd hb,fun a xs e=>?_⟩,sT,fun a h=>nomatch h⟩,fE,hb,.nil,by simp,fun a h=>nomatch h⟩
  by_cases ha:a=b
  ·subst ha;rw[fE] at e;cases e
  ·rw[cf ha] at e;exact e
 refine⟨fun i m τ H2=>m=ds.length-i/\i<=ds.length/\∃ ay fw acc ys As,CompI K H1 b acc ys As ay fw τ H2/\acc.length<=i/\iU g tc te (ds.drop i) fw (fun out=>Q (.ow true) (.list (acc++out))),
  ⟨ds.length,by simp,eK _,H1,_,[],[],[],st,bX _,by simpa using q1⟩,?_⟩
 rintro i m τ H2 ⟨rfl,hi,ay,fw,acc,ys,As,c,la,q2⟩
 by_cases df:i<ds.length
 ·refine .inr ⟨S.go i ay H2 c.sm c.sr.wf df,
   fun JJ v H4=>∃ IL sC d,CompI K H1 b acc ys As IL sC JJ H4/\(∃ fS,CompI K H1 b (acc++[d]) (ys++[v]) fS IL sC JJ (upd H4 b (.lst (ys++[v]))))/\iU g tc te (ds.drop (i+1)) sC (fun out=>Q (.ow true) (.list (acc++d :: out))),
   fun JJ H3=>∃ dE Jn,CompI K H1 b acc ys As dE Jn JJ H3/\iU g tc te (ds.drop (i+1)) Jn (fun out=>Q (.ow true) (.list (acc++out))),?_,?_,?_⟩
  ·rintro JJ v H4 ⟨IL,sC,d,c4,⟨fS,c5⟩,q4⟩
   have lya:=c4.ra.length
   exact⟨ys,ds.length-(i+1),c4.eD,by lia,by lia,rfl,df,IL,sC,acc++[d],ys++[v],fS,c5,by rw[ng];simpa using la,by simpa using q4⟩
  ·rintro JJ H3 ⟨dE,Jn,c3,q3⟩
   exact⟨ds.length-(i+1),by lia,rfl,df,dE,Jn,acc,ys,As,c3,by lia,q3⟩
  ·intro x H3 y
   obtain⟨dE,g3,rd⟩:=S.nr i ay H2 x H3 ds[i] c.sm c.sr.wf (by simp[df]) y
   rw[wd df] at q2
   have c3:=c.grow g3
   refine⟨dE,fw,[],ds[i],_,c3.sr,rd,q2,fun τ4 sC Oj JA m4 q4=>?_⟩
   have t4:Oj=[]:=List.eq_nil_iff_forall_not_mem.mpr fun a ha=>nomatch m4 a ha
   subst t4
   have c4:CompI K H1 b acc ys As dE sC τ4 H3:=⟨c3.sm,JA,c3.eD,c3.nD,c3.ra,c3.nd,c3.own⟩
   refine⟨dE,sC,[],_,JA,q4,fun k H5 kD g5 q5=>?_⟩
   have c5:=c4.grow g5
   cases k with
   |false=>exact⟨kD,sC,c5,q5⟩
   |true =>
    refine⟨kD,sC,[],_,c5.sr,q5,fun v H6 Hs6 m6 d6 As6 g6 r6 f6 q6=>?_⟩
    have c6:=c5.grow g6
    refine⟨Hs6,sC,d6,c6,c6.push r6 q6.1 f6.1 fun a ha=>⟨(f6.2 a ha).1,fun m=>?_⟩,q6.2⟩
    rcases dv.mp m with rfl|m
    ·have:=(f6.2 _ ha).2
     rw[c5.eD] at this;cases this
    ·exact(c5.ra.own a m).ne (f6.2 a ha).2
 ·have e:i=ds.length:=by lia
  subst e
  refine .inl ⟨S.stop ay H2 c.sm c.sr.wf,?_⟩
  rw[Pl] at q2
  have q2:Q (.ow true) (.list (acc++[])):=q2
  rw[pS] at q2
  have lya:=c.ra.length
  have rm:RM K ay H2 (.ow true) (.list acc) (.ref b) (b :: As):=⟨.list (by lia) c.eD c.ra,by simp⟩
  obtain⟨fS,r',fr⟩:=uq g1.wf c.sm c.sr.wf rm c.nd fun a ha=>(dv.mp ha).elim (fun z=>z ▸ c.nD) (c.own a)
  exact Fin.after f g1 (.ref b) H2 _ (.ow true) (.list acc) fS (iY g1.wf c.sm c.sr.wf) r' fr q2
theorem zo.imp(h:zo X ifs t)(i:∀ σ H Q,t' σ H Q->t σ H Q):zo X ifs t':=fun pins s σ H Q I q=>h pins s σ H Q I (i σ H Q q)
abbrev QN(X:Cx)(K:PySem.W.Frag)(ifs:List Expr)(t:WT):Prop:=zo X ifs (A8 K t)
theorem cW:QN X K [] sD:=zo.imp Eu fun σ H Qv hx=>kL hx fun Hs ρ ag Q sr h k=>k true H Hs (eP.refl sr.wf) h
theorem oU(h:QT X K c t):QN X K [c] t:=Ej h
theorem gf(hc:X.calm=true)(hi:QK X K tg iter wi)(O:bC X scope tn cn ix)
  (hg:∀ C fp gi gX,QG (bx X scope C (tn++cn) fp gi gX) K tg g) (oB:∀ C fp gi gX,QN (bx X scope C (tn++cn) fp gi gX) K ifs tc) (he:∀ C fp gi gX,QE (bx X scope C (tn++cn) fp gi gX) K elt te)
  (hs:∀ x,foldedSetIterable iter X.env x=pure x:=by intro _;rfl):QE X K (.ListComp elt [⟨tg,iter,ifs,0⟩] scope pos) (eG wi g tc te tn.length ix) :=
 PE.imp (Eb hc hi O hg oB he hs) fun σ H Qv h=>rT h
end
theorem cN(p:D->Bool)(f:D->D)(Iv:Env->Prop):∀ (xs:List D) (ρ:Env) (k:List D->Prop),Iv ρ ->
  (∀ x∈xs,∀ ρ,Iv ρ->∀ N1:Env->Prop,∀ N2:Env->D->Prop,(∀ aT,Iv aT->p x=false->N1 aT)->(∀ aT,Iv aT->p x=true->N2 aT (f x))->g x ρ fun ox=>tc ox fun b=>if b=true then te ox fun m d=>QL m d/\N2 ox d else N1 ox) ->
  k ((xs.filter p).map f)->iU g tc te xs ρ k
 |[],_,k,_,_,h=>h
 |x :: xs,ρ,k,iv,hs,h=>by
  refine hs x b6 ρ iv _ _ (fun aT Ol hp=>?_) (fun aT Ol hp=>?_)
  ·exact cN p f Iv xs aT k Ol (fun y hy=>hs y (b9 _ hy)) (by simpa[hp] using h)
  ·exact cN p f Iv xs aT _ Ol (fun y hy=>hs y (b9 _ hy)) (by simpa[hp] using h)
def Upd(K:PySem.W.Frag)(Hs H:Hp)(σ:St)(fl:Bool)(v:V)(up:Bool->D->Env)(fS:List Addr):Prop:=∀ ay H2 fl2 d2 fz,ax Hs ay->Wf ay H2->(∀ a,Hs a=none->H a≠none->ay a=none)->(fl2=true->fl=true) ->
  bE K ay H2 fl2 d2 v fz->fz≠[]->fz.Nodup->(∀ a∈fz,ay a=none/\(a∈fS\/H a=none))->(∀ a,H a≠none->a∉fS->H2 a=H a)->∃ dc,cy K ay (up fl2 d2) σ H2 dc
structure Place(K:PySem.W.Frag)(Hs H:Hp)(σ:St)(fl:Bool)(d:D)(v:V)(up:Bool->D->Env):Prop where
 ex:∃ fS,bE K Hs H fl d v fS/\fS≠[]/\fS.Nodup/\(∀ a∈fS,Hs a=none)/\Upd K Hs H σ fl v up fS
theorem Upd.node{K:PySem.W.Frag}(k:Upd K Hs H σ fl (.ref a) up (a :: A))(g:eP Hs H ay H2)(own:∀ x∈a :: A,Hs x=none/\H x≠none)(ho:∀ vs,o≠.tup vs)(hf:fl2=true->fl=true)
  (r:bE K ay (upd H2 a o) fl2 d2 (.ref a) (a :: C)) (nC:C.Nodup) (QQ:a∉C) (hC:∀ x∈C,x∈A\/(ay x=none/\H x=none)):∃ dc,cy K ay (up fl2 d2) σ (upd H2 a o) dc:=by
 have hn:∀ x∈a :: A,ay x=none:=fun x hx=>g.oP (own x hx).1 (own x hx).2
 refine k ay _ fl2 d2 (a :: C) g.sh (uE g.wf (hn a b6) ho) (fun b h1 h2=>g.oP h1 h2) hf r (Pm _ _) (js.mpr ⟨QQ,nC⟩) (fun b hb=>?_) fun b h1 h2=>?_
 ·rcases dv.mp hb with rfl|hb
  ·exact⟨hn _ b6,.inl b6⟩
  ·exact(hC b hb).elim (fun q=>⟨hn b (b9 _ q),.inl (b9 _ q)⟩) fun q=>⟨q.1,.inr q.2⟩
 ·rw[cf fun z=>h2 (by subst z;exact b6)]
  cases q:H b with
  |none=>exact absurd q h1
  |some o=>exact g.all b o q
abbrev WP:=Env->(Bool->D->(Bool->D->Env)->Prop)->Prop
def tpP(K:PySem.W.Frag)(t:WP):TE:=fun σ H Qv=>∃ Hs ρ ag Q,cy K Hs ρ σ H ag/\t ρ Q/\∀ v H' av fl d up,eP Hs H av H'->Place K av H' σ fl d v up->Q fl d up->Qv v H'
abbrev QP(X:Cx)(K:PySem.W.Frag)(e:Expr)(t:WP):Prop:=PE X e (tpP K t)
section
variable {K:PySem.W.Frag}{Hs H av H':Hp}{σ:St}{fl:Bool}{d:D}{v:V}{up:Bool->D->Env}
theorem Place.grow(p:Place K Hs H σ fl d v up)(g:eP Hs H av H'):Place K av H' σ fl d v up:=by
 obtain⟨fS,r,ne,nd,own,k⟩:=p.ex
 refine⟨fS,r.grow g.sh g.all,ne,nd,fun a h=>g.oP (own a h) (r.own a h).ne,fun ay H2 fl2 d2 fz s2 w2 n2 hf r2 ne2 mP o2 st=>?_⟩
 refine k ay H2 fl2 d2 fz (g.sh.trans s2) w2 (fun a h1 h2=>n2 a (g.oP h1 h2) ?_) hf r2 ne2 mP (fun a h=>⟨(o2 a h).1,(o2 a h).2.imp id g.all.free⟩) fun a h1 h2=>?_
 ·cases e:H a with
  |none=>exact absurd e h2
  |some o=>rw[g.all a o e];exact fun z=>nomatch z
 ·cases e:H a with
  |none=>exact absurd e h1
  |some o =>
   have:=g.all a o e
   rw[<- this]
   exact st a (by rw[this];exact fun z=>nomatch z) h2
theorem bE.ne2:(∀ {d:D} {v:V} {As:List Addr},bE K Hs H true d v As->d.flat=false->As≠[])/\∀ {ds:List D} {vs:List V} {As:List Addr},aD K Hs H true ds vs As->cw ds=false->As≠[] :=
 bE.ind (m1:=fun d _ As=>d.flat=false->As≠[]) (m2:=fun ds _ As=>cw ds=false->As≠[]) (fun _ _ f _ h=>by rw[f rfl] at h;cases h) (fun _ _ _ _ _ _ _ _ _=>Pm _ _) (fun _ _ _ _ _ _ n _ ih _=>ih n) (fun _ _ _ _ _ _ _ _ _=>Pm _ _) (fun _ _ _ _ _ _ _ _ _=>Pm _ _)
  (fun h=>by simp[cw] at h) fun d _ _ _ _ _ _ _ i1 i2 h=>by
   cases e:d.flat with
   |false=>exact fun z=>i1 e (LB.mp z).1
   |true =>
    simp only[cw,e,Bool.true_and] at h
    exact fun z=>i2 h (LB.mp z).2
theorem bE.ne(r:bE K Hs H true d v As)(h:d.flat=false):As≠[]:=bE.ne2.1 r h
theorem bE.nil_of(r:bE K Hs H fl d v As)(h:d.flat=true):As=[]:=by
 cases r with
 |sh _ _=>rfl
 |tup _ _ n _=>simp[D.flat,n] at h
 |_=>simp[D.flat] at h
def sF(i:Nat):WP:=fun ρ Q=>match ρ[i]? with
 |some (some (.ow fl d))=>Q fl d fun fl2 d2=>ρ.set i (some (.ow fl2 d2))
 |_=>False
theorem SR.put(i:Nat)(s:SR K Hs H ρ σ ag):ρ[i]? = some (some (.ow fl d))->ag.Nodup ->
  ∃ (v:V) (As bG:List Addr),σ[i]? = some (some v)/\As≠[]/\bE K Hs H fl d v As/\As.Sublist ag/\∀ ay H2 fl2 d2 fz,ax Hs ay->bE K ay H2 fl2 d2 v fz->fz≠[]->fz.Nodup->(∀ a∈fz,a∈ag->a∈As)->(∀ a∈ag,a∉As->H2 a=H a) ->
   ∃ dc,dc.Nodup/\(∀ a∈dc,a∈ag\/a∈fz)/\SR K ay H2 (ρ.set i (some (.ow fl2 d2))) σ dc:=by
 induction s generalizing i with
 |nil=>intro e;simp at e
 |@non ρ σ ag o q ih =>
  intro e n
  cases i with
  |zero=>simp at e
  |succ i =>
   obtain⟨v,As,t,a,b,c,d,g⟩:=ih i (by simpa using e) n
   refine⟨v,As,t,by simpa using a,b,c,d,fun ay H2 fl2 d2 fz s2 r2 ne2 mP dj st=>?_⟩
   obtain⟨t2,x,y,z⟩:=g ay H2 fl2 d2 fz s2 r2 ne2 mP dj st
   exact⟨t2,x,y,.non z⟩
 |sh r q ih =>
  intro e n
  cases i with
  |zero=>simp at e
  |succ i =>
   obtain⟨v,As,t,a,b,c,d,g⟩:=ih i (by simpa using e) n
   refine⟨v,As,t,by simpa using a,b,c,d,fun ay H2 fl2 d2 fz s2 r2 ne2 mP dj st=>?_⟩
   obtain⟨t2,x,y,z⟩:=g ay H2 fl2 d2 fz s2 r2 ne2 mP dj st
   exact⟨t2,x,y,.sh (r.same s2) z⟩
 |xc q ih =>
  intro e n
  cases i with
  |zero=>simp at e
  |succ i =>
   obtain⟨v,As,t,a,b,c,d,g⟩:=ih i (by simpa using e) n
   refine⟨v,As,t,by simpa using a,b,c,d,fun ay H2 fl2 d2 fz s2 r2 ne2 mP dj st=>?_⟩
   obtain⟨t2,x,y,z⟩:=g ay H2 fl2 d2 fz s2 r2 ne2 mP dj st
   exact⟨t2,x,y,.xc z⟩
 |@ow ρ σ t2 B fl0 d0 v ne r q ih =>
  intro e n
  obtain⟨n1,n2,n3⟩:=iN.mp n
  cases i with
  |zero =>
   simp at e
   obtain⟨rfl,rfl⟩:=e
   refine⟨v,B,t2,rfl,ne,r,Lv _ _,fun ay H2 fl2 d2 fz s2 r2 ne2 mP dj st=>⟨fz++t2,iN.mpr ⟨mP,n2,fun a ha b hb e=>?_⟩,fun a h=>?_,.ow ne2 r2 (q.fh s2 fun a h=>st a (eT _ h) fun z=>n3 a z a h rfl)⟩⟩
   ·subst e
    exact n3 a (dj a ha (eT _ hb)) a hb rfl
   ·exact(dP.mp h).symm.imp (fun z=>eT _ z) id
  |succ i =>
   obtain⟨v,As,t,a,b,c,d,g⟩:=ih i (by simpa using e) n2
   have hB:∀ x∈B,x∉As:=fun x hx m=>n3 x hx x (d.subset m) rfl
   refine⟨v,As,B++t,by simpa using a,b,c,d.trans (pz _ _),fun ay H2 fl2 d2 fz s2 r2 ne2 mP dj st=>?_⟩
   obtain⟨t2,x,y,z⟩:=g ay H2 fl2 d2 fz s2 r2 ne2 mP (fun a ha m=>dj a ha (eT _ m)) fun a ha m=>st a (eT _ ha) m
   refine⟨B++t2,iN.mpr ⟨n1,x,fun a ha b hb e=>?_⟩,fun a h=>?_,.ow ne (r.fh s2 fun a h=>st a (kF _ h) (hB a h)) z⟩
   ·subst e
    rcases y a hb with w|w
    ·exact n3 a ha a w rfl
    ·exact hB a ha (dj a w (kF _ ha))
   ·rcases dP.mp h with w|w
    ·exact .inl (kF _ w)
    ·exact(y a w).imp (fun w=>eT _ w) id
 |@lk ρ σ t2 B a0 fl0 d0 ne r q ih =>
  intro e n
  obtain⟨n1,n2,n3⟩:=iN.mp n
  cases i with
  |zero=>simp at e
  |succ i =>
   obtain⟨v,As,t,a,b,c,d,g⟩:=ih i (by simpa using e) n2
   have hB:∀ x∈B,x∉As:=fun x hx m=>n3 x hx x (d.subset m) rfl
   refine⟨v,As,B++t,by simpa using a,b,c,d.trans (pz _ _),fun ay H2 fl2 d2 fz s2 r2 ne2 mP dj st=>?_⟩
   obtain⟨t2,x,y,z⟩:=g ay H2 fl2 d2 fz s2 r2 ne2 mP (fun a ha m=>dj a ha (eT _ m)) fun a ha m=>st a (eT _ ha) m
   refine⟨B++t2,iN.mpr ⟨n1,x,fun a ha b hb e=>?_⟩,fun a h=>?_,.lk ne (r.fh s2 fun a h=>st a (kF _ h) (hB a h)) z⟩
   ·subst e
    rcases y a hb with w|w
    ·exact n3 a ha a w rfl
    ·exact hB a ha (dj a w (kF _ ha))
   ·rcases dP.mp h with w|w
    ·exact .inl (kF _ w)
    ·exact(y a w).imp (fun w=>eT _ w) id
theorem dC{X:Cx}(h:PE X e (B7 i)):QP X K e (sF i):=PE.imp h fun σ H Qv hx=>kL hx fun Hs ρ ag Q sr h f=>by
 unfold sF at h
 split at h
 ·rename_i fl d e1
  obtain⟨v,As,t,e2,ne,r,sb,g⟩:=SR.put i sr.sr e1 sr.oQ
  refine⟨v,e2,f v H Hs fl d _ (eP.refl sr.wf) ⟨As,r,ne,sb.nodup sr.oQ,fun a h=>sr.own a (sb.subset h),fun ay H2 fl2 d2 fz s2 w2 n2 _ r2 ne2 mP o2 st=>?_⟩ h⟩
  obtain⟨t2,x,y,z⟩:=g ay H2 fl2 d2 fz s2 r2 ne2 mP (fun a ha m=>(o2 a ha).2.elim id fun q=>absurd q (sr.sr.own a m).ne) fun a ha m=>st a (sr.sr.own a ha).ne m
  exact⟨t2,z,w2,x,fun a h=>(y a h).elim (fun q=>n2 a (sr.own a q) (sr.sr.own a q).ne) fun q=>(o2 a q).1⟩
 ·exact h.elim
theorem bE.wk(h:fl2=true->fl=true)(r:bE K Hs H fl d v As):bE K Hs H fl2 d v As:=by
 cases fl2 with
 |false=>exact r.Qy
 |true=>rw[h rfl] at r;exact r
theorem aD.wk{fl fl2:Bool}{d:List D}{v:List V}{As:List Addr}(h:fl2=true->fl=true)(r:aD K Hs H fl d v As):aD K Hs H fl2 d v As:=by
 cases fl2 with
 |false=>exact r.Qy
 |true=>rw[h rfl] at r;exact r
theorem aD.at(r:aD K Hs H fl ds vs As)(e:ds[j]? = some d)(n:As.Nodup) :
  ∃ (v:V) (B:List Addr),vs[j]? = some v/\bE K Hs H fl d v B/\B.Sublist As/\∀ ay H2 fl2 d2 B2,ax Hs ay->(fl2=true->fl=true)->bE K ay H2 fl2 d2 v B2->B2.Nodup->(∀ a∈B2,a∈As->a∈B)->(∀ a∈As,a∉B->H2 a=H a) ->
   ∃ fz,fz.Nodup/\(∀ a∈fz,(a∈As/\a∉B)\/a∈B2)/\(B2≠[]->fz≠[])/\aD K ay H2 fl2 (ds.set j d2) vs fz:=by
 induction ds generalizing vs As j with
 |nil=>simp at e
 |cons x ds ih =>
  obtain⟨v,us,A,B,rfl,rfl,r,rs⟩:=r.c
  obtain⟨n1,n2,n3⟩:=iN.mp n
  cases j with
  |zero =>
   simp at e
   subst e
   refine⟨v,A,rfl,r,Lv _ _,fun ay H2 fl2 d2 B2 s2 hf r2 mP dj st=>⟨B2++B,iN.mpr ⟨mP,n2,fun a ha b hb e=>?_⟩,fun a h=>?_,fun ne z=>ne (LB.mp z).1,.cons r2 ((rs.wk hf).fh s2 fun a h=>st a (eT _ h) fun z=>n3 a z a h rfl)⟩⟩
   ·subst e
    exact n3 a (dj a ha (eT _ hb)) a hb rfl
   ·rcases dP.mp h with w|w
    ·exact .inr w
    ·exact .inl ⟨eT _ w,fun z=>n3 a z a w rfl⟩
  |succ j =>
   obtain⟨v,C,a,b,c,g⟩:=ih (j:=j) rs (by simpa using e) n2
   have hA:∀ x∈A,x∉C:=fun x hx m=>n3 x hx x (c.subset m) rfl
   refine⟨v,C,by simpa using a,b,c.trans (pz _ _),fun ay H2 fl2 d2 B2 s2 hf r2 mP dj st=>?_⟩
   obtain⟨fz,x,y,w,z⟩:=g ay H2 fl2 d2 B2 s2 hf r2 mP (fun a ha m=>dj a ha (eT _ m)) fun a ha m=>st a (eT _ ha) m
   refine⟨A++fz,iN.mpr ⟨n1,x,fun a ha b hb e=>?_⟩,fun a h=>?_,fun ne q=>w ne (LB.mp q).2,.cons ((r.wk hf).fh s2 fun a h=>st a (kF _ h) (hA a h)) z⟩
   ·subst e
    rcases y a hb with q|q
    ·exact n3 a ha a q.1 rfl
    ·exact hA a ha (dj a q (kF _ ha))
   ·rcases dP.mp h with q|q
    ·exact .inl ⟨kF _ q,hA a q⟩
    ·exact(y a q).imp (fun q=>⟨eT _ q.1,q.2⟩) id
theorem Ij{α:Type}{xs:List α}{i:Int}{x:α}(h:fi xs i=some x):∃ j,n5 xs.length i=some j/\xs[j]? = some x:=by
 unfold L2.fi at h
 cases e:n5 xs.length i with
 |none=>rw[e] at h;cases h
 |some j=>rw[e] at h;exact⟨j,rfl,h⟩
def Om(p:WP)(t:WE):WP:=fun ρ Q=>p ρ fun fl d up=>t ρ fun _ y=>fl=true/\match y with
 |.int i=>match d with
  |.list ds=>∃ j d',n5 ds.length i=some j/\ds[j]? = some d'/\d'.flat=false/\Q true d' fun fl2 d2=>up fl2 (.list (ds.set j d2))
  |.tup ds=>∃ j d',n5 ds.length i=some j/\ds[j]? = some d'/\d'.flat=false/\Q true d' fun fl2 d2=>up fl2 (.tup (ds.set j d2))
  |_=>False
 |_=>False
theorem zA{α:Type}{xs:List α}{i:Int}{j:Nat}{x:α}(h:n5 xs.length i=some j)(e:xs[j]? = some x):fi xs i=some x:=by unfold L2.fi;rw[h];exact e
theorem Ax{ds:List D}{j:Nat}{d:D}(e:ds[j]? = some d)(h:d.flat=false):cw ds=false:=by
 cases q:cw ds with
 |false=>rfl
 |true=>rw[mO.mp q d (nL e)] at h;cases h
theorem yM{ds:List D}{j:Nat}{d d2:D}(e:ds[j]? = some d)(h:d2.flat=false):cw (ds.set j d2)=false:=by
 have hj:j<ds.length:=(iL.mp e).1
 exact Ax (j:=j) (d:=d2) (by simp[hj]) h
theorem GX{X:Cx}{a b:Expr}{p:WP}{t:WE}{pos:Pos}(hu:X.A.units+64<cLine)(ha:QP X K a p)(hb:QE X K b t)(hs:P9 b:=by exact fun _ _=>rfl)(hK:X.K=K:=by rfl):QP X K (.Subscript a b pos) (Om p t):=by
 refine PE.imp (Sy (XJ hu hK) ha hb hs) fun σ H Qv hx=>kL hx fun Hs ρ ag Q sr h f=>?_
 refine⟨Hs,ρ,ag,_,sr,h,fun v H1 aE fl d up g1 p1 q1=>⟨aE,ρ,ag,_,sr.grow g1,q1,fun u H2 ay m y As g2 r2 f2 q2=>?_⟩⟩
 have p2:=p1.grow g2
 have gg:=g1.trans g2
 obtain⟨rfl,q2⟩:=q2
 have ry:=r2.rep g2.wf
 cases ry with
 |int i =>
  obtain⟨fS,r,ne,nd,own,k⟩:=p2.ex
  cases r with
  |sh hf _=>exact absurd rfl ne
  |@list a0 vs0 ds0 A0 hz e rs =>
   obtain⟨j,d',e1,e2,hd,q⟩:=q2
   obtain⟨na,nb⟩:=js.mp nd
   obtain⟨w,B,e3,r3,sb,g⟩:=rs.at e2 nb
   refine .inl (.inl ⟨_,w,.inl (.inl e),zA (by rw[<- rs.length];exact e1) e3,f w H2 ay true d' _ gg ⟨B,r3,r3.ne hd,sb.nodup nb,fun a h=>own a (b9 _ (sb.subset h)),fun dE H3 Oo d3 NS s3 w3 n3 hf r4 ne3 TQ o3 st=>?_⟩ q⟩)
   have ah:∀ x∈A0,x∉B->H3 x=H2 x:=fun x hx m=>st x (rs.own x hx).ne m
   obtain⟨IQ,x4,y4,z4,r5⟩:=g dE H3 Oo d3 NS s3 hf r4 TQ (fun a ha m=>(o3 a ha).2.elim id fun q=>absurd q (rs.own a m).ne) ah
   have eA:H3 a0=H2 a0:=st a0 (by rw[e];exact fun z=>nomatch z) fun m=>na (sb.subset m)
   have cl:∀ a∈IQ,dE a=none/\(a∈a0 :: A0\/H2 a=none):=fun a h=>by
    rcases y4 a h with⟨m,_⟩|m
    ·exact⟨n3 a (own a (b9 _ m)) (rs.own a m).ne,.inl (b9 _ m)⟩
    ·exact⟨(o3 a m).1,(o3 a m).2.imp (fun q=>b9 _ (sb.subset q)) id⟩
   refine k dE H3 Oo (.list _) (_ :: IQ) s3 w3 n3 hf (.list hz (eA.trans e) r5) (by simp) (js.mpr ⟨fun m=>?_,x4⟩) (fun a h=>?_) fun a h1 h2=>st a h1 fun m=>h2 (b9 _ (sb.subset m))
   ·rcases y4 _ m with⟨q,_⟩|q
    ·exact na q
    ·rcases (o3 _ q).2 with q|q
     ·exact na (sb.subset q)
     ·rw[e] at q;cases q
   ·rcases dv.mp h with rfl|h
    ·exact⟨n3 _ (own _ b6) (by rw[e];exact fun z=>nomatch z),.inl b6⟩
    ·exact cl a h
  |tup hz e hn rs =>
   obtain⟨j,d',e1,e2,hd,q⟩:=q2
   obtain⟨w,B,e3,r3,sb,g⟩:=rs.at e2 nd
   refine .inl (.inr ⟨_,w,.inl (.inl (g2.wf.sub _ _ e)),zA (by rw[<- rs.length];exact e1) e3,f w H2 ay true d' _ gg ⟨B,r3,r3.ne hd,sb.nodup nd,fun a h=>own a (sb.subset h),fun dE H3 Oo d3 NS s3 w3 n3 hf r4 ne3 TQ o3 st=>?_⟩ q⟩)
   obtain⟨IQ,x4,y4,z4,r5⟩:=g dE H3 Oo d3 NS s3 hf r4 TQ (fun a ha m=>(o3 a ha).2.elim id fun q=>absurd q (rs.own a m).ne) (fun x hx m=>st x (rs.own x hx).ne m)
   have HV:cw (List.set _ j d3)=false:=yM e2 (by
    cases hh:d3.flat with
    |false=>rfl
    |true=>exact absurd (r4.nil_of hh) ne3)
   refine k dE H3 Oo (.tup _) IQ s3 w3 n3 hf (.tup hz (s3 _ _ e) HV r5) (z4 ne3) x4 (fun a h=>?_) fun a h1 h2=>st a h1 fun m=>h2 (sb.subset m)
   rcases y4 a h with⟨m,_⟩|m
   ·exact⟨n3 a (own a m) (rs.own a m).ne,.inl m⟩
   ·exact⟨(o3 a m).1,(o3 a m).2.imp (fun q=>sb.subset q) id⟩
  |_=>exact q2.elim
 |_=>exact q2.elim
end
section
variable {X:Cx}{K:PySem.W.Frag}{e:Expr}{p:WP}{te:WE}{apos dS pos:Pos}
def oh(fl:Bool)(m:Md)(d:D):Option Bool:=match m with
 |.sh=>some (fl && d.flat)
 |.ow b=>some (fl && b)
 |.bo=>bif d.flat then some fl else none
def DH(p:WP)(te:WE):WS:=fun E ρ=>p ρ fun fl d up=>match d with
 |.list xs=>te ρ fun m x=>xs.length<sizeLine/\match oh fl m x with
  |some fl2=>E.nx (up fl2 (.list (xs++[x])))
  |none=>False
 |_=>False
theorem By(w:Wf Hs H)(r:RM K Hs H m d v As)(h:oh fl m d=some fl2):(fl2=true->fl=true)/\∃ B,B.Sublist As/\bE K Hs H fl2 d v B:=by
 cases m with
 |sh =>
  cases h
  exact⟨fun z=>by cases fl<;>simp_all,[],FR _,.sh (fun z=>by cases fl<;>simp_all) r.2⟩
 |ow b =>
  cases h
  refine⟨fun z=>by cases fl<;>simp_all,As,List.Sublist.refl _,r.1.wk fun z=>by cases fl<;>simp_all⟩
 |bo =>
  cases hf:d.flat with
  |true =>
   simp only[oh,hf,cond_true,Option.some.injEq] at h
   subst h
   exact⟨id,[],FR _,.sh (fun _=>hf) (r.flat w hf)⟩
  |false=>simp[oh,hf] at h
theorem Place.put(pl:Place K aE H1 σ fl (.list xs) v up)(g:eP aE H1 ay H2) :
  ∃ a vs A,v=.ref a/\H2 a=some (.lst vs)/\H1 a=some (.lst vs)/\aD K ay H2 fl xs vs A/\(a :: A).Nodup/\(∀ x∈a :: A,ay x=none/\H1 x≠none) /\
   ∀ fl2 ys ws C,(fl2=true->fl=true)->aD K ay H2 fl2 ys ws C->ws.length<=sizeLine->C.Nodup->a∉C->(∀ x∈C,x∈A\/(ay x=none/\H1 x=none))->∃ dc,cy K ay (up fl2 (.list ys)) σ (upd H2 a (.lst ws)) dc:=by
 obtain⟨fS,r,ne,nd,own,k⟩:=pl.ex
 cases r with
 |sh hf _=>exact absurd rfl ne
 |@list a vs _ A hz e rs =>
  have e2:=g.all _ _ e
  have QR:=rs.grow g.sh g.all
  have hw:∀ x∈a :: A,aE x=none/\H1 x≠none:=fun x hx=>⟨own x hx,by
   rcases dv.mp hx with rfl|hx
   ·rw[e];exact fun z=>nomatch z
   ·exact(rs.own x hx).ne⟩
  exact⟨a,vs,A,rfl,e2,e,QR,nd,fun x hx=>⟨g.oP (hw x hx).1 (hw x hx).2,(hw x hx).2⟩,fun fl2 ys ws C hf lP hz ndC QQ hC=>k.node g hw (fun _ z=>by cases z) hf (.list hz fE (lP.fh (ax.refl _) fun b hb=>cf fun z=>QQ (by subst z;exact hb))) ndC QQ hC⟩
theorem Place.X4(w:Wf aE H1)(pl:Place K aE H1 σ fl (.list xs) v up):∃ a vs,v=.ref a/\eL K H1 a vs:=by
 obtain⟨fS,r,ne,nd,own,k⟩:=pl.ex
 cases r with
 |sh hf _=>exact absurd rfl ne
 |list hz e rs=>exact⟨_,_,rfl,.inl (.inl e)⟩
theorem qL (ho:QP X K e p) (he:QE X K e2 te) (hK:X.K=K:=by rfl) (hs:swapsWith (.Call (.Attribute e "append" apos) [e2] [] dS) none pos.line X.env=pure false:=by rfl)
  (vi:attributeBase e "append" X.env (eval e X.env)=eval e X.env:=by rfl)
  (sj:((backTo dS (starEach [e2] X.env)).all (fun x=>!x.1) && (backToKw dS (keywordEach [] X.env)).all (fun x=>x.1.isSome)
   && decide ([e2].length+([]:List Keyword).length+(if ([]:List Keyword).isEmpty then 0 else 1)<30))=true:=by rfl)
  (hline:(apos.endLine == dS.line)=true:=by rfl) (pf:starEach (e2 :: []) X.env=(false,eval e2 X.env) :: starEach [] X.env:=by rfl) (vj:(backTo dS (starEach [] X.env)).any (·.1)=false:=by rfl) :
  QS X K L (.Expr (.Call (.Attribute e "append" apos) [e2] [] dS) pos) (DH p te):=by
 subst hK
 refine PS.imp (G0 (EF PySem.F.plainAttrs_list PySem.F.slot_list_append PySem.F.type_list_append Qb ho (rq he uS pf) vi sj hline pf vj) hs) fun D σ H hx=>d_ hx fun Hs ρ ag E sr h k1 k2 k3 k4=>?_
 refine⟨Hs,ρ,ag,_,sr,h,fun v H1 aE fl d up g1 p1 q1=>?_⟩
 cases d with
 |list xs =>
  obtain⟨a1,vs1,e1,s1⟩:=p1.X4 g1.wf
  subst e1
  refine⟨.inl ⟨rfl,_,s1⟩,aE,ρ,ag,_,sr.grow g1,q1,fun y H2 ay m x As g2 r2 f2 q2=>?_⟩
  obtain⟨hz,q2⟩:=q2
  obtain⟨a,vs,A,ea,e2,_,rs,nd,hn,k⟩:=p1.put g2
  cases ea
  have hl:=rs.length
  refine⟨a1,vs,y,rfl,rfl,e2,by lia,?_⟩
  cases hp:oh fl m x with
  |none=>rw[hp] at q2;exact q2.elim
  |some fl2 =>
   rw[hp] at q2
   obtain⟨hf,B,sb,rb⟩:=By g2.wf r2 hp
   obtain⟨na,nA⟩:=js.mp nd
   have fB:∀ x∈B,ay x=none/\H1 x=none:=fun x hx=>f2.2 x (sb.subset hx)
   have c1:(A++(B++[])).Nodup:=by
    rw[pS]
    exact iN.mpr ⟨nA,sb.nodup f2.1,fun x hx z hz e=>by subst e;exact(hn x (b9 _ hx)).2 (fB x hz).2⟩
   have c2:a1∉A++(B++[]):=by
    rw[pS]
    intro m
    rcases dP.mp m with m|m
    ·exact na m
    ·exact(hn _ b6).2 (fB _ m).2
   have c3:∀ x∈A++(B++[]),x∈A\/(ay x=none/\H1 x=none):=by
    rw[pS]
    intro x hx
    exact(dP.mp hx).imp id fun z=>fB x z
   obtain⟨dc,fm⟩:=k fl2 (xs++[x]) (vs++[y]) (A++(B++[])) hf ((rs.wk hf).append (.cons rb .nil)) (by rw[ng];simp;lia) c1 c2 c3
   exact k1 σ _ ay _ dc (g1.sh.trans g2.sh) fm q2
 |_=>exact q1.elim
def mU:WE:=fun _ Q=>Q (.ow true) (.dT [])
theorem mH:QE X K (.Dict [] [] pos) mU:=PE.imp ct' fun σ H Qv hx=>kL hx fun Hs ρ ag Q sr h f=>fun a ha =>
 f _ _ Hs (.ow true) (.dT []) [a] (Qz sr.wf ha fun _ z=>nomatch z) ⟨.dT (vs:=[]) ⟨eK _,fun p hp=>nomatch hp⟩ fE .nil,by simp⟩ ⟨by simp,fun b hb=>by
  obtain rfl:b=a:=by simpa using hb
  exact⟨sr.wf.sub.free ha,ha⟩⟩ h
section
variable {κ:Type}[DecidableEq κ]
theorem yg{Hs H:Hp}{fl:Bool}{k:κ}{d:D}{v:V}(r:bE K Hs H fl d v []){kvs:List (κ × D)}{vs:List V}{As:List Addr}(qs:aD K Hs H fl (kvs.map (·.2)) vs As):∃ ws Bs,Bs.Sublist As /\
  aD K Hs H fl ((kvs.map fun kv=>if kv.1=k then (kv.1,d) else kv).map (·.2)) ws Bs/\((kvs.map (·.1)).zip vs).map (fun kv=>if kv.1=k then (kv.1,v) else kv)=(((kvs.map fun kv=>if kv.1=k then (kv.1,d) else kv)).map (·.1)).zip ws:=by
 induction kvs generalizing vs As with
 |nil=>exact⟨[],[],FR _,.nil,rfl⟩
 |cons p kvs ih =>
  obtain⟨u,vs,A,B,rfl,rfl,q,qs⟩:=aD.c (d:=p.2) qs
  obtain⟨ws,Bs,sb,rs,e⟩:=ih qs
  by_cases h:p.1=k
  ·refine⟨v :: ws,[]++Bs,by simpa using sb.trans (pz _ _),?_,?_⟩
   ·simp only[fN,h,if_true]
    exact .cons r rs
   ·simp only[fN,xl,h,if_true,e]
  ·refine⟨u :: ws,A++Bs,sb.append_left _,?_,?_⟩
   ·simp only[fN,h,if_false]
    exact .cons q rs
   ·simp only[fN,xl,h,if_false,e]
theorem Bc{Hs H:Hp}{fl:Bool}{k:κ}{d:D}{v:V}(r:bE K Hs H fl d v []){kvs:List (κ × D)}{vs:List V}{As:List Addr}(q:aD K Hs H fl (kvs.map (·.2)) vs As) :
  ∃ ws Bs,Bs.Sublist As/\aD K Hs H fl ((mM kvs k d).map (·.2)) ws Bs/\putK ((kvs.map (·.1)).zip vs) k v=((mM kvs k d).map (·.1)).zip ws:=by
 have hl:=q.length
 rw[b4] at hl
 unfold putK mM
 rw[Du hl]
 cases h:kvs.any fun kv=>decide (kv.1=k) with
 |true =>
  simp only[if_true]
  exact yg r q
 |false =>
  simp only[gE,if_false]
  refine⟨vs++[v],As++([]++[]),by simp,?_,?_⟩
  ·rw[sR]
   exact q.append (.cons r .nil)
  ·rw[sR,List.zip_append (by rw[b4];exact hl)]
   rfl
theorem zN{Hs H:Hp}{fl:Bool}{k:κ}{d:D}{v:V}(r:Rep K Hs d v)(hd:d.flat=true){kvs:List (κ × D)}{vs:List V}{As:List Addr}(q:aD K Hs H fl (kvs.map (·.2)) vs As) :
  ∃ ws Bs,Bs.Sublist As/\aD K Hs H fl ((mM kvs k d).map (·.2)) ws Bs/\putK ((kvs.map (·.1)).zip vs) k v=((mM kvs k d).map (·.1)).zip ws:=Bc (.sh (fun _=>hd) r) q
theorem jW{β:Type}(kvs:List (κ × β))(k:κ)(v:β):(mM kvs k v).length<=kvs.length+1:=by
 unfold mM
 split
 ·rw[b4];exact RC _ _
 ·simp
theorem pR{β:Type}{kvs:List (κ × β)}{k:κ}{v:β}{p:κ × β}(h:p∈mM kvs k v):p.1=k\/p.1∈kvs.map (·.1):=by
 unfold mM at h
 split at h
 ·obtain⟨q,hq,e⟩:=cK.mp h
  by_cases hk:q.1=k
  ·rw[if_pos hk] at e;subst e;exact .inl hk
  ·rw[if_neg hk] at e;subst e;exact .inr (cK.mpr ⟨q,hq,rfl⟩)
 ·rcases dP.mp h with h|h
  ·exact .inr (cK.mpr ⟨p,h,rfl⟩)
  ·have:p=(k,v):=by simpa using h
   subst this;exact .inl rfl
end
def qw(p:WP)(tk tv:WE):WS:=fun E ρ=>tv ρ fun _ x=>p ρ fun fl d up=>tk ρ fun _ y=>x.flat=true/\match d with
 |.dK kvs=>∃ k,y.key1=some k/\kvs.length<sizeLine/\E.nx (up fl (.dK (mM kvs k x)))
 |.dT kvs=>match y with
  |.tup ys=>∃ ks,eO ys=some ks/\kvs.length<sizeLine/\E.nx (up fl (.dT (mM kvs ks x)))
  |_=>False
 |_=>False
theorem xr(r:Rep K H d v)(h:d.key1=some k):yb k=true:=by
 cases r<;>simp[D.key1] at h<;>subst h
 ·rfl
 ·rename_i hz;simp[yb,hz]
theorem uU(r:aI K H ds vs)(h:eO ds=some ks):ks.length=ds.length/\∀ k∈ks,yb k=true:=by
 induction ds generalizing vs ks with
 |nil=>simp[eO] at h;subst h;exact⟨rfl,fun k hk=>nomatch hk⟩
 |cons d ds ih =>
  obtain⟨u,us,rfl,r,rs⟩:=r.c
  unfold eO at h
  cases e1:d.key1 with
  |none=>rw[e1] at h;simp at h
  |some k =>
   cases e2:eO ds with
   |none=>rw[e1,e2] at h;simp at h
   |some fq =>
    rw[e1,e2] at h
    simp at h
    subst h
    obtain⟨a,b⟩:=ih rs e2
    refine⟨by simp[a],fun j hj=>?_⟩
    rcases dv.mp hj with rfl|hj
    ·exact xr r e1
    ·exact b j hj
theorem k_{a b c:Expr}{tk tv:WE}{pos':Pos}(hu:X.A.units+64<cLine)(ho:QP X K a p)(hi:QE X K b tk)(hv:QE X K c tv)(hs:swapsWith c (some (.Subscript a b pos')) pos.line X.env=pure false:=by rfl) :
  QS X K L (.Assign [.Subscript a b pos'] c pos) (qw p tk tv):=by
 refine PS.imp (cp' (by lia) ho hi hv hs) fun D σ H hx=>d_ hx fun Hs ρ ag E sr h k1 k2 k3 k4=>?_
 refine⟨Hs,ρ,ag,_,sr,h,fun v H1 aE m1 x As1 g1 r1 f1 q1=>⟨aE,ρ,ag,_,sr.grow g1,q1,fun u H2 ay fl d up g2 p2 q2=>⟨ay,ρ,ag,_,(sr.grow g1).grow g2,q2,fun y H3 dE m3 yd NS g3 r3 f3 q3=>?_⟩⟩⟩
 obtain⟨hx,q3⟩:=q3
 have rx:Rep K dE x v:=((r1.grow g2).grow g3).flat g3.wf hx
 have ry:=r3.rep g3.wf
 obtain⟨fS,r,ne,nd,own,k⟩:=p2.ex
 have sm:ax Hs dE:=(g1.sh.trans g2.sh).trans g3.sh
 have lv:∀ x∈fS,ay x=none/\H2 x≠none:=fun x hx=>⟨own x hx,(r.own x hx).ne⟩
 cases r with
 |sh hf _=>exact absurd rfl ne
 |@dK a0 vs kvs A kk e rs =>
  obtain⟨key,hk,hz,q⟩:=q3
  have ey:=ry.key hk
  subst ey
  obtain⟨na,nA⟩:=js.mp nd
  obtain⟨ws,Bs,sb,lP,ew⟩:=zN (k:=key) rx hx (rs.grow g3.sh g3.all)
  have hl:kvs.length=vs.length:=by have:=rs.length;rwa[b4] at this
  refine⟨a0,_,rfl,CH.k (g3.all _ _ e) (by rw[LM,b4,<- hl,LW];exact hz),?_⟩
  rw[ew]
  have nB:a0∉Bs:=fun z=>na (sb.subset z)
  obtain⟨dc,fm⟩:=k.node (fl2:=fl) (d2:=.dK (mM kvs key x)) g3 lv (fun _ z=>by cases z) id (.dK ⟨iO (jW _ _ _) hz,fun p hp=>(pR hp).elim (fun z=>by rw[z];exact xr ry hk) fun z=>by obtain⟨p',g7,e'⟩:=cK.mp z;rw[<- e'];exact kk.2 p' g7⟩ fE (lP.fh (ax.refl _) fun b hb=>cf fun z=>nB (by subst z;exact hb)))
   (sb.nodup nA) nB fun b hb=>.inl (sb.subset hb)
  exact k1 σ _ dE _ dc sm fm q
 |@dT a0 vs kvs A kk e rs =>
  cases ry with
  |tup t1 e1 IY =>
   obtain⟨key,hk,hz,q⟩:=q3
   obtain⟨b,eb,e5⟩:=Rep.kc (.tup t1 e1 IY) hk
   cases eb
   obtain⟨kl,ko⟩:=uU IY hk
   obtain⟨na,nA⟩:=js.mp nd
   obtain⟨ws,Bs,sb,lP,ew⟩:=zN (k:=key) rx hx (rs.grow g3.sh g3.all)
   have hl:kvs.length=vs.length:=by have:=rs.length;rwa[b4] at this
   refine⟨a0,_,rfl,CH.t (g3.all _ _ e) e5 (by rw[LM,b4,<- hl,LW];exact hz),?_⟩
   rw[ew]
   have nB:a0∉Bs:=fun z=>na (sb.subset z)
   have l1:=IY.length
   obtain⟨dc,fm⟩:=k.node (fl2:=fl) (d2:=.dT (mM kvs key x)) g3 lv (fun _ z=>by cases z) id (.dT ⟨iO (jW _ _ _) hz,fun p hp=>(pR hp).elim (fun z=>by rw[z];exact⟨by lia,ko⟩) fun z=>by obtain⟨p',g7,e'⟩:=cK.mp z;rw[<- e'];exact kk.2 p' g7⟩ fE (lP.fh (ax.refl _) fun b hb=>cf fun z=>nB (by subst z;exact hb)))
    (sb.nodup nA) nB fun b hb=>.inl (sb.subset hb)
   exact k1 σ _ dE _ dc sm fm q
  |_=>exact q3.elim
 |_=>exact q3.elim
end
abbrev WJ:=Env->Str->(Str->Prop)->Prop
section
variable {X:Cx}{K:PySem.W.Frag}{e:Expr}{te:WE}{j:WJ}
def jL:List D->Option (List Str)
 |[]=>some []
 |.str x :: xs=>(jL xs).map (x :: ·)
 |_ :: _=>none
def lO(to te:WE):WE:=fun ρ Q=>to ρ fun _ x=>match x with
 |.str z=>te ρ fun _ y=>match y with
  |.list ys=>∃ zs,jL ys=some zs/\(zs.map (·.length)).sum+zs.length*z.length<=16777216/\Q .sh (.str (Str.join z zs))
  |_=>False
 |_=>False
theorem BL(r:aI K H ds vs)(q:Vals vs us)(h:jL ds=some zs):StrsAre us zs:=by
 induction ds generalizing vs us zs with
 |nil =>
  simp[jL] at h
  subst h
  have:=r.n0
  subst this
  rw[Paired.n0 q];exact .nil
 |cons d ds ih =>
  obtain⟨v,vs,rfl,r1,rs⟩:=r.c
  obtain⟨u,us,rfl,q1,qs⟩:=Paired.c q
  cases r1 with
  |str hz =>
   simp only[jL] at h
   cases e:jL ds with
   |none=>rw[e] at h;cases h
   |some ys =>
    rw[e] at h
    cases h
    obtain⟨t,rfl⟩:=q1
    exact .cons _ t (ih rs qs e)
  |_=>simp[jL] at h
theorem Fp (hK:X.K=K:=by rfl):P_ X "str.join" (fun x xs H Q=>∃ z a ds vs zs,x=.str z/\xs=[.ref a]/\eL K H a vs/\aI K H ds vs/\jL ds=some zs/\(zs.map (·.length)).sum+zs.length*z.length<=16777216/\Q (.str (Str.join z zs)) H):=by
 subst hK
 intro pins s σ H x xs v us Q I rx rs h
 obtain⟨z,a,ds,vs,zs,rfl,rfl,hs,rr,e,hz,q⟩:=h
 obtain⟨t,rfl⟩:=rx
 obtain⟨u,rfl,ru⟩:=Vals.one rs
 cases ru
 obtain⟨its,rv,pl,_⟩:=I.list hs
 exact join_list pl.isList (by simpa using BL rr rv e) hz fun t' k=>⟨.str _,H,I.tok _,⟨t',rfl⟩,by rw[show Txt.join z zs=Str.join z zs from StrLaws.glued_eq_join z zs];exact q⟩
theorem uV:∀ {zs:List Str},(Str.join z zs).length<=(zs.map (·.length)).sum+zs.length*z.length
 |[]=>by show Str.empty.length<=_;exact iO (show Str.empty.length<=0 by decide) (eK _)
 |[x]=>by simp[Str.join]
 |x :: y :: r=>by
  have ih:=uV (z:=z) (zs:=y :: r)
  show(x++z++Str.join z (y :: r)).length<=_
  rw[dW,dW]
  simp only[fN,List.sum_cons,oz,Nat.add_mul,Nat.one_mul] at ih ⊢
  lia
theorem uN(ho:QE X K o to)(he:QE X K e te)(hK:X.K=K:=by rfl)
  (vi:attributeBase o "join" X.env (eval o X.env)=eval o X.env:=by rfl)
  (sj:((backTo dS (starEach [e] X.env)).all (fun x=>!x.1) && (backToKw dS (keywordEach [] X.env)).all (fun x=>x.1.isSome)
   && decide ([e].length+([]:List Keyword).length+(if ([]:List Keyword).isEmpty then 0 else 1)<30))=true:=by rfl)
  (hline:(apos.endLine == dS.line)=true:=by rfl) (pf:starEach (e :: []) X.env=(false,eval e X.env) :: starEach [] X.env:=by rfl) (vj:(backTo dS (starEach [] X.env)).any (·.1)=false:=by rfl) :
  QE X K (.Call (.Attribute o "join" apos) [e] [] dS) (lO to te):=by
 subst hK
 refine PE.imp (EF PySem.F.plainAttrs_str PySem.F.slot_str_join PySem.F.type_str_join Fp ho (rq he uS pf) vi sj hline pf vj) fun σ H Qv hx=>kL hx fun Hs ρ ag Q sr h f=>?_
 refine⟨Hs,ρ,ag,_,sr,h,fun v H1 aE m x As g1 r1 f1 q1=>?_⟩
 have r:=r1.rep g1.wf
 cases r with
 |str hz =>
  refine⟨rfl,aE,ρ,ag,_,sr.grow g1,q1,fun y H2 ay m2 x2 fz g2 r2 f2 q2=>?_⟩
  have rr:=r2.rep g2.wf
  cases rr with
  |list z s rs =>
   obtain⟨zs,e,hz,q⟩:=q2
   exact⟨_,_,_,_,zs,rfl,rfl,s,rs,e,hz,Fin.sh (Fin.after f (g1.trans g2)) g2.wf (.str (iO uV (by rw[sizeLine_eq];exact hz))) q⟩
  |_=>exact q2.elim
 |_=>exact q1.elim
def kc(k:List Key):D:=.tup (k.map ot)
def Im:W1:=fun _ x Q=>match x with
 |.list xs=>∃ ks sh,xs=ks.map kc/\(∀ k∈ks,gL k=true :: sh)/\∀ ms:List (List Key),ms.Perm ks->(ms.Pairwise fun a b=>fF b a=false)->Q (.ow true) (.list (ms.map kc))
 |_=>False
theorem Dq{H:Hp}{ks:List Key}{vs:List V}(r:aI K H (ks.map ot) vs):vs=ks.map kV/\∀ k∈ks,yb k=true:=by
 induction ks generalizing vs with
 |nil=>exact⟨r.n0,fun k h=>nomatch h⟩
 |cons k ks ih =>
  obtain⟨u,us,rfl,r1,rs⟩:=aI.c (d:=ot k) r
  obtain⟨e,o⟩:=ih rs
  subst e
  cases k with
  |inl i=>cases r1;exact⟨rfl,fun j hj=>by rcases dv.mp hj with rfl|hj;rfl;exact o j hj⟩
  |inr x =>
   cases r1 with
   |str hz=>exact⟨rfl,fun j hj=>by rcases dv.mp hj with rfl|hj;simp[yb,hz];exact o j hj⟩
theorem DN{H:Hp}{ks:List (List Key)}{vs:List V}(r:aI K H (ks.map kc) vs):cM H vs ks/\∀ k∈ks,k.length<=sizeLine/\∀ j∈k,yb j=true:=by
 induction ks generalizing vs with
 |nil=>rw[r.n0];exact⟨.nil,fun k h=>nomatch h⟩
 |cons k ks ih =>
  obtain⟨u,us,rfl,r1,rs⟩:=aI.c (d:=kc k) r
  obtain⟨t,o⟩:=ih rs
  cases r1 with
  |tup hz e q =>
   obtain⟨e2,o2⟩:=Dq q
   subst e2
   exact⟨.cons ⟨_,rfl,e⟩ t,fun j hj=>by
    rcases dv.mp hj with rfl|hj
    ·exact⟨by simpa using hz,o2⟩
    ·exact o j hj⟩
theorem fu:bootBuiltins "sorted" = some (.builtin "sorted"):=by decide +kernel
end
def shF(A:List Addr)(F:Nat->List Addr):Nat->List Addr
 |0=>A
 |i+1=>F i
abbrev Plan:=List (WE ⊕ Nat)
def eg':Option (Option Sl)->Option (Md × D)
 |some (some (.sh d))=>some (.sh,d)
 |some (some (.ow fl d))=>some (.ow fl,d)
 |_=>none
def X5:i6:=fun ds Q=>∃ ns:List Int,ds=[.list (ns.map .int)]/\ns.length<=63/\∀ m,Q m (.bl true)
theorem ints_rep{K:PySem.W.Frag}:∀ (ns:List Int),aI K H (ns.map .int) (ns.map V.int)
 |[]=>.nil
 |n :: ns=>.cons (.int n) (ints_rep ns)
theorem Ce{K:PySem.W.Frag}{H:Hp}{a:Addr}{ns:List Int}{E:XK}(hl:ns.length<=63)(hS:eL K H a (ns.map V.int)):au K X5 [.ref a] H (fun v _=>v=.bl true) E:=by
 refine⟨[.list (ns.map .int)],fun _ d=>d=.bl true,.cons (.list (by rw[b4];exact iO hl (by decide)) hS (ints_rep ns)) .nil,⟨ns,rfl,hl,fun _=>rfl⟩,?_⟩
 intro v H' av m d As s w r nd own q
 subst q
 have:=r.rep w
 cases this
 rfl
abbrev sg(x:Str):List Nat:=x.cps.toList
theorem vA(x y:Str):sg (x++y)=sg x++sg y:=by
 show(x.cps++y.cps).toList=_
 simp[sg]
theorem empty_app(x:Str):Str.empty++x=x:=y_ (by rw[<- sg,vA];rfl)
def X6(x:Str):Prop:=∀ c∈sg x,c<0x110000
theorem Gb(x:Str):PyData.strOk x=true↔X6 x:=by
 unfold PyData.strOk X6 sg
 rw[Array.all_eq_true']
 simp
theorem eh'(x:α)(l:List α):fi (x :: l) 0=some x:=by simp[L2.fi,n5]
theorem ej'(x y:α)(l:List α):fi (x :: y :: l) 1=some y:=by
 have:=HL (xs:=x :: y :: l) (j:=1) (v:=y) rfl
 exact this
theorem ek'(x y z:α)(l:List α):fi (x :: y :: z :: l) 2=some z:=by
 have:=HL (xs:=x :: y :: z :: l) (j:=2) (v:=z) rfl
 exact this
theorem G7:Str.empty.length=0:=by decide
end L2.Q
namespace L2.Q.R
open PySem PySem.Spec PyProof.Rows L2.Q
section
variable {f:D->Prop}{k:Kt f}
theorem K9:bP .non k=f .non:=rfl
theorem Np:bP (.bl b) k=f (.bl b):=rfl
theorem KQ:bP (.int i) k=f (.int i):=rfl
theorem Mw:bP (.str x) k=f (.str x):=rfl
theorem Kz:bP (.list xs) k=f (.list xs):=rfl
theorem KJ:bP (.tup xs) k=f (.tup xs):=rfl
theorem MK:bP (.dK xs) k=f (.dK xs):=rfl
theorem Ob:bP (.dT xs) k=f (.dT xs):=rfl
end
theorem Jx{f:Bool->Prop}{k:Kt f}:bP true k=f true:=rfl
theorem Ju{f:Bool->Prop}{k:Kt f}:bP false k=f false:=rfl
theorem Lb{d:D}{f:Md × D->Prop}{k:Kt f}:bP (Md.sh,d) k=f (.sh,d):=rfl
theorem Mr{b:Bool}{d:D}{f:Md × D->Prop}{k:Kt f}:bP (Md.ow b,d) k=f (.ow b,d):=rfl
theorem Ml{d:D}{f:Md × D->Prop}{k:Kt f}:bP (Md.bo,d) k=f (.bo,d):=rfl
theorem KD{d:D}{f:Option Sl->Prop}{k:Kt f}:bP (some (.sh d)) k=f (some (.sh d)):=rfl
theorem MF{b:Bool}{d:D}{f:Option Sl->Prop}{k:Kt f}:bP (some (.ow b d)) k=f (some (.ow b d)):=rfl
theorem K1{p:Md × D}{f:Option (Md × D)->Prop}{k:Kt f}:bP (some p) k=f (some p):=rfl
theorem Nx{p:Bool}{f:Option Bool->Prop}{k:Kt f}:bP (some p) k=f (some p):=rfl
theorem Lq{d:D}{f:Option (Option Sl)->Prop}{k:Kt f}:bP (some (some (.sh d))) k=f (some (some (.sh d))):=rfl
theorem Lf{b:Bool}{d:D}{f:Option (Option Sl)->Prop}{k:Kt f}:bP (some (some (.ow b d))) k=f (some (some (.ow b d))):=rfl
section
variable {E:mX}{ρ:Env}{Q:Md->D->Prop}{B:Bool->Prop}{t u:WS}{te ta tb tc Oq:WE}{tt tu:WT}{tar:WA}{i j n:Nat}{m m':Md}{d:D}{sp:i6}{p:WP}{R:List (Md × D)->Prop}
theorem Li:di E ρ=E.nx ρ:=rfl
theorem MP:bT t u E ρ=t { E with nx:=u E } ρ:=rfl
theorem NZ:h9 te E ρ=te ρ E.rt:=rfl
theorem Ma:tG te E ρ=te ρ fun _ _=>E.nx ρ:=rfl
def put(sl:Option Sl)(k:Sl->Prop):Prop:=match sl with
 |some s=>k s
 |none=>False
theorem KZ:put (some (.sh d)) k=k (.sh d):=rfl
theorem L_:put (some (.ow b d)) k=k (.ow b d):=rfl
theorem NQ:dr i te E ρ=te ρ fun m d=>bP (asg m d) (f:=fun o=>put o fun sl=>E.nx (ρ.set i (some sl))) ⟨⟩:=rfl
theorem Nv:kC tt t u E ρ=tt ρ fun b=>bP b (f:=fun b=>if b=true then t E ρ else u E ρ) ⟨⟩:=rfl
theorem Kp:xf E ρ=False:=rfl
theorem Ms:rZ i E ρ=bP ρ[i]? (f:=fun o=>match o with
 |some (some (.sh d))=>E.rt .sh d
 |some (some (.ow fl d))=>E.rt (.ow fl) d
 |_=>False) ⟨⟩:=rfl
def mov(o:Option (Md × D))(k:Md × D->Prop):Prop:=match o with
 |some p=>k p
 |none=>False
theorem Js{p:Md × D}{k:Md × D->Prop}:mov (some p) k=k p:=rfl
theorem Nb:fI i t E ρ=t E (N9 i ρ):=rfl
-- tests
def bol(d:D)(B:Bool->Prop):Prop:=match d with
 |.bl b=>B b
 |_=>False
theorem K5:bol (.bl b) B=B b:=rfl
theorem wB_:wB te ρ B=te ρ fun _ x=>bP x (f:=fun x=>bol x B) ⟨⟩:=rfl
theorem Nh:yi tt ρ B=tt ρ fun c=>B (!c):=rfl
theorem NP:TF tt tu ρ B=tt ρ fun c=>bP c (f:=fun c=>if c=true then tu ρ B else B false) ⟨⟩:=rfl
theorem en':IU tt tu ρ B=tt ρ fun c=>bP c (f:=fun c=>if c=true then B true else tu ρ B) ⟨⟩:=rfl
theorem MN:sD ρ B=B true:=rfl
-- expressions
theorem M7:ae i ρ Q=bP ρ[i]? (f:=fun o=>NR o Q) ⟨⟩:=rfl
theorem JW:NR (some (some (.sh d))) Q=Q .sh d:=rfl
theorem J_:NR (some (some (.ow b d))) Q=Q .bo d:=rfl
theorem wC_:wC d ρ Q=Q .sh d:=rfl
theorem eq':aw f ta tb ρ Q=ta ρ fun m x=>tb ρ fun n y=>f m x n y Q:=rfl
theorem er':g9 f ta ρ Q=ta ρ fun m x=>f m x Q:=rfl
theorem Ko:rn f g ta tb tc ρ Q=ta ρ fun m x=>tb ρ fun n y=>f m x n y fun _ z=>bP z (f:=fun z=>bol z fun k=>bP k (f:=fun k=>if k=true then tc ρ fun l w=>g n y l w Q else Q .sh (.bl false)) ⟨⟩) ⟨⟩:=by
 unfold rn bP bol
 rfl
theorem Lh:Ak ta tb ρ Q=ta ρ fun _ x=>bP x (f:=fun x=>bol x fun c=>bP c (f:=fun c=>if c=true then tb ρ Q else Q .sh (.bl false)) ⟨⟩) ⟨⟩:=by unfold Ak bP bol;rfl
theorem K3:ak te tar ρ R=te ρ fun m x=>tar ρ fun ps=>R ((m,x) :: ps):=rfl
theorem Oa:bS ρ R=R []:=rfl
theorem Ni:mN tar ρ Q=tar ρ fun ps=>ps.length<=sizeLine/\Q (Er ps) (.tup (ps.map (·.2))):=rfl
theorem NB:qq tar ρ Q=tar ρ fun ps=>ps.length<=sizeLine/\Q (Ep ps) (.list (ps.map (·.2))):=rfl
theorem K7:aM sp tar ρ Q=tar ρ fun ps=>sp (ps.map (·.2)) fun m d=>bP (m,d) (f:=fun p=>Q (DF p.1 p.2) p.2) ⟨⟩:=rfl
-- operators
section
variable {x y:Str}{a b:Int}{xs ys:List D}{E4:List (List Key × D)}
theorem J9:ft m (.int a) m' (.int b) Q=Q .sh (.int (a+b)):=rfl
theorem Km:ft m (.str x) m' (.str y) Q=(x.length+y.length<=sizeLine/\Q .sh (.str (x++y))):=rfl
theorem JP:ft m (.list xs) m' (.list ys) Q=(xs.length+ys.length<=sizeLine/\((cw xs=true/\cw ys=true/\Q (.ow true) (.list (xs++ys)))\/(m=.sh/\m'=.sh/\Q (.ow false) (.list (xs++ys))))):=rfl
theorem J7:QC m (.int a) m' (.int b) Q=Q .sh (.int (a-b)):=rfl
theorem J8:og m (.int a) m' (.int b) Q=(y9 a b/\Q .sh (.int (a*b))):=rfl
theorem Ku:A9 m (.int a) m' (.int b) Q=((0<b/\b<1073741824)/\Q .sh (.int (a / b))):=rfl
theorem Kw:vT m (.int a) m' (.int b) Q=(0<b/\Q .sh (.int (a % b))):=rfl
theorem KN:NW m (.int a) m' (.int b) Q=Q .sh (.bl (decide (a<b))):=rfl
theorem Mi:NW m (.str x) m' (.str y) Q=Q .sh (.bl (qc x y)):=rfl
theorem Lg:TJ m (.int a) m' (.int b) Q=Q .sh (.bl (decide (a<=b))):=rfl
theorem LK:TK m (.int a) m' (.int b) Q=Q .sh (.bl (decide (b<a))):=rfl
theorem Mf:kQ m (.int a) m' (.int b) Q=Q .sh (.bl (decide (a=b))):=rfl
theorem Lj:kQ m (.str x) m' (.str y) Q=Q .sh (.bl (decide (x=y))):=rfl
theorem Oc:kQ m (.list xs) m' d Q=(cv 12 (.list xs)=true/\cv 12 d=true/\Q .sh (.bl (gS (.list xs) d))):=by cases d<;>rfl
theorem N_:kQ m (.tup xs) m' d Q=(cv 12 (.tup xs)=true/\cv 12 d=true/\Q .sh (.bl (gS (.tup xs) d))):=by cases d<;>rfl
theorem LR:Bi m (.int a) m' (.int b) Q=Q .sh (.bl (!decide (a=b))):=rfl
theorem N8:Bi m (.list xs) m' d Q=(cv 12 (.list xs)=true/\cv 12 d=true/\Q .sh (.bl (!gS (.list xs) d))):=by cases d<;>rfl
theorem LC:FZ m d m' .non Q=Q .sh (.bl (!d.QD)):=rfl
theorem Oe:zS neg m d m' (.list ys) Q=(iz d=true/\ys.all iz=true/\Q .sh (.bl (if neg then !inD d ys else inD d ys))):=rfl
theorem M6:zS neg m (.tup xs) m' (.dT E4) Q = ∃ ks,eO xs=some ks/\Q .sh (.bl (if neg then !(eC E4 ks).isSome else (eC E4 ks).isSome)):=rfl
theorem N6:NX m (.int a) Q=Q .sh (.int (-a)):=rfl
theorem Og:dn m (.list xs) m' (.int a) Q = ∃ d,fi xs a=some d/\bP d (f:=fun d=>Q (ny m d) d) ⟨⟩:=rfl
theorem Nm:dn m (.tup xs) m' (.int a) Q = ∃ d,fi xs a=some d/\bP d (f:=fun d=>Q (ny m d) d) ⟨⟩:=rfl
theorem Od:dn m (.str x) m' (.int a) Q = ∃ c,fi x.cps.toList a=some c/\Q .sh (.str ⟨#[c]⟩):=rfl
theorem Mu:Bn m (.list xs) Q=Q .sh (.int xs.length):=rfl
theorem K8:Bn m (.tup xs) Q=Q .sh (.int xs.length):=rfl
theorem Lp:Bn m (.dT E4) Q=Q .sh (.int E4.length):=rfl
theorem NK{T:String}:QH T m d Q=Q .sh (.bl (Ic d.ty T)):=rfl
theorem JK:t_ m (.list xs) Q=((cw xs=true/\Q (.ow true) (.list xs))\/(m=.sh/\Q (.ow false) (.list xs))):=rfl
theorem Ke:t_ m (.dT E4) Q=Q (.ow true) (.list (E4.map fun kv=>.tup (kv.1.map ot))):=rfl
theorem et':I0 te tl th ρ Q=te ρ fun m x=>tl ρ fun lo=>th ρ fun hi=>QF m x lo hi Q:=rfl
theorem Jt:lC ρ O=O none:=rfl
def int'(d:D)(k:Int->Prop):Prop:=match d with
 |.int i=>k i
 |_=>False
theorem MJ:int' (.int a) k=k a:=rfl
theorem Ly:rE te ρ O=te ρ fun _ x=>bP x (f:=fun x=>int' x fun i=>O (some i)) ⟨⟩:=by unfold rE bP int';rfl
theorem M8{lo hi:Option Int}:QF m (.str x) lo hi Q=Q .sh (.str (x5 x lo hi)):=rfl
theorem Oh{lo hi:Option Int}:QF m (.list xs) lo hi Q=((cw xs=true/\Q (.ow true) (.list (kB xs lo hi)))\/(m=.sh/\Q (.ow false) (.list (kB xs lo hi)))):=rfl
end
-- texts
def TR(d:D)(k:Str->Prop):Prop:=match d with
 |.str x=>k x
 |_=>False
theorem Lw:TR (.str x) k=k x:=rfl
def wa(d:D)(k:List D->Prop):Prop:=match d with
 |.list x=>k x
 |_=>False
theorem JV:wa (.list x) k=k x:=rfl
theorem Jy:lO Oq te ρ Q=Oq ρ fun _ x=>bP x (f:=fun x=>TR x fun z=>te ρ fun _ y=>bP y (f:=fun y=>wa y fun ys=>∃ zs,jL ys=some zs/\(zs.map (·.length)).sum+zs.length*z.length<=16777216/\Q .sh (.str (Str.join z zs))) ⟨⟩) ⟨⟩:=by unfold lO bP TR wa;rfl
-- places
theorem eu'{P:Bool->D->(Bool->D->Env)->Prop}:sF i ρ P=bP ρ[i]? (f:=fun o=>match o with
 |some (some (.ow fl d))=>P fl d fun fl2 d2=>ρ.set i (some (.ow fl2 d2))
 |_=>False) ⟨⟩:=rfl
def TV(o:Option Bool)(k:Bool->Prop):Prop:=match o with
 |some b=>k b
 |none=>False
theorem Jr:TV (some b) k=k b:=rfl
theorem N7:DH p te E ρ=p ρ fun fl d up=>bP d (f:=fun d=>wa d fun xs=>te ρ fun m x=>xs.length<sizeLine/\bP (oh fl m x) (f:=fun o=>TV o fun fl2=>E.nx (up fl2 (.list (xs++[x])))) ⟨⟩) ⟨⟩:=by unfold DH bP wa TV;rfl
theorem Jw:mU ρ Q=Q (.ow true) (.dT []):=rfl
def dct(d y:D)(k1:List (Key × D)->Prop)(k2:List (List Key × D)->List D->Prop):Prop:=match d with
 |.dK kvs=>k1 kvs
 |.dT kvs=>match y with
  |.tup ys=>k2 kvs ys
  |_=>False
 |_=>False
theorem NT:dct (.dT kvs) (.tup ys) k1 k2=k2 kvs ys:=rfl
theorem Ld:qw p tk tv E ρ=tv ρ fun _ x=>p ρ fun fl d up=>tk ρ fun _ y=>x.flat=true/\bP d (f:=fun d=>dct d y (fun kvs=>∃ k,y.key1=some k/\kvs.length<sizeLine/\E.nx (up fl (.dK (mM kvs k x)))) (fun kvs ys=>∃ ks,eO ys=some ks/\kvs.length<sizeLine/\E.nx (up fl (.dT (mM kvs ks x))))) ⟨⟩:=by
 unfold qw bP dct
 rfl
-- loops
variable {LQ:List D->Prop}
theorem MT:kH wi g b E ρ=wi ρ fun ds=>iQ g b E ds ρ:=rfl
theorem Kf:cO te ρ LQ=te ρ fun m d=>qy m/\bP d (f:=fun d=>wa d LQ) ⟨⟩:=by unfold cO bP wa;rfl
def TX(d:D)(k:List D->Prop):Prop:=match d with
 |.tup x=>k x
 |_=>False
theorem Lk:TX (.tup x) k=k x:=rfl
theorem Ka:cH te ρ LQ=te ρ fun _ d=>bP d (f:=fun d=>int' d fun j=>j<=16777216/\-(2 ^ 62)<=j/\LQ (nR 0 j.toNat)) ⟨⟩:=by unfold cH bP int';rfl
theorem Jp:qy .sh=True:=rfl
theorem Jm:qy (.ow b)=True:=rfl
theorem Jo:qy .bo=False:=rfl
theorem gN_:gN i d ρ N=N (ρ.set i (some (.sh d))):=rfl
theorem gT_:gT n gs d ρ N=bP d (f:=fun d=>TX d fun ds=>ds.length=n/\gs ds ρ N) ⟨⟩:=by unfold gT bP TX;rfl
theorem Mt:aX g gs (d :: ds) ρ N=g d ρ fun aT=>gs ds aT N:=rfl
theorem Nk:gP [] ρ N=N ρ:=by simp[gP]
theorem La:eG wi g tt te tn ix ρ Q=wi ρ fun ds=>iU g tt te ds (Dn tn ix ρ) fun out=>Q (.ow true) (.list out):=rfl
end
theorem B{c:Bool}{f:Bool->Prop}{k:Kt f}(h1:c=true->f true)(h2:c=false->f false):bP c k:=by
 cases c with
 |true=>exact h1 rfl
 |false=>exact h2 rfl
theorem D{p:Prop}[Decidable p]{f:Bool->Prop}{k:Kt f}(h1:p->f true)(h2:¬ p->f false):bP (decide p) k :=
 B (fun h=>h1 (of_decide_eq_true h)) fun h=>h2 (of_decide_eq_false h)
theorem T{c:Bool}{f:Bool->Prop}{k:Kt f}(h:c=true)(h1:f true):bP c k:=by subst h;exact h1
theorem F{c:Bool}{f:Bool->Prop}{k:Kt f}(h:c=false)(h1:f false):bP c k:=by subst h;exact h1
end L2.Q.R
namespace L2
open PySem PySem.Spec PyProof.Rows
end L2
namespace L2.Q
open PySem PySem.Spec PyProof.Rows
section
variable {K:PySem.W.Frag}{p:Pos}
def Mx:W1:=fun _ x Q=>match x with
 |.list xs=>∃ ks b,xs=ks.map ot/\(∀ k∈ks,zC k=b)/\∀ ms:List Key,ms.Perm ks->(ms.Pairwise fun a b=>vE b a=false)->Q (.ow true) (.list (ms.map ot))
 |.dK kvs=>∃ b,(∀ p∈kvs,zC p.1=b)/\∀ ms:List Key,ms.Perm (kvs.map (·.1))->(ms.Pairwise fun a b=>vE b a=false)->Q (.ow true) (.list (ms.map ot))
 |_=>False
section
variable {Hs H:Hp}{fl:Bool}
theorem aD.erase(k:Nat)(r:aD K Hs H fl ds vs As):∃ Bs,Bs.Sublist As/\aD K Hs H fl (ds.eraseIdx k) (vs.eraseIdx k) Bs:=by
 induction ds generalizing vs As k with
 |nil =>
  obtain⟨rfl,rfl⟩:=r.n0
  exact⟨[],List.Sublist.refl _,.nil⟩
 |cons d ds ih =>
  obtain⟨u,us,A,B,rfl,rfl,r,rs⟩:=r.c
  cases k with
  |zero=>exact⟨B,pz _ _,rs⟩
  |succ k =>
   obtain⟨C,sb,q⟩:=ih k rs
   exact⟨A++C,sb.append_left _,.cons r q⟩
end
end
abbrev WIL:=Env->(List D->Prop)->Prop
section
variable {X:Cx}{K:PySem.W.Frag}
theorem dG(hN:X.N.Nodup)(vw:X.N[i]? = some x)(hx:Loc X.env.scope x)(hc:X.calm=true)
  (hi:QK X K tg iter wi) (O:bC X scope tn cn ix)
  (hg:∀ C fp gi gX,QG (bx X scope C (tn++cn) fp gi gX) K tg g) (oB:∀ C fp gi gX,QN (bx X scope C (tn++cn) fp gi gX) K ifs tc) (he:∀ C fp gi gX,QE (bx X scope C (tn++cn) fp gi gX) K elt te)
  (S4:swapsWith (.ListComp elt [⟨tg,iter,ifs,0⟩] scope pos) (some (.Name x pos')) S5.line X.env=pure true:=by rfl)
  (hs:∀ x,foldedSetIterable iter X.env x=pure x:=by intro _;rfl) (hf:X.fn x=true\/X.env.scope.names.lookup x=some .local:=by first|exact .inl rfl|exact .inr rfl|assumption) :
  QS X K L (.Assign [.Name x pos'] (.ListComp elt [⟨tg,iter,ifs,0⟩] scope pos) S5) (dr i (eG wi g tc te tn.length ix)) :=
 PS.imp (vU hN vw hx hc hi O hg oB he S4 hs hf) fun D σ H hx=>d_ hx fun Hs ρ ag E sr h k1 k2 k3 k4=>by
  refine rT ⟨Hs,ρ,ag,_,sr,h,fun v H1 aE m d As g1 r1 f1 q1=>?_⟩
  have q1:match asg m d with
   |some sl=>E.nx (ρ.set i (some sl))
   |none=>False:=q1
  cases e:asg m d with
  |none=>rw[e] at q1;exact q1.elim
  |some sl =>
   rw[e] at q1
   obtain⟨bG,s'⟩:=(sr.grow g1).set i r1 f1.1 (fun a ha=>⟨(f1.2 a ha).1,fun m=>(sr.sr.own a m).ne (f1.2 a ha).2⟩) e
   exact k1 _ H1 aE _ bG g1.sh s' q1
end
end L2.Q
namespace L2.Q.R
open PySem PySem.Spec PyProof.Rows L2.Q
section
variable {ρ:Env}{Q:Md->L2.Q.D->Prop}{te:WE}{i:Nat}{d:L2.Q.D}{p:WP}{a:Addr}{b:Bool}{LQ:List L2.Q.D->Prop}
theorem Lr{f:Option Sl->Prop}{k:Kt f}:bP (some (.lk a b d)) k=f (some (.lk a b d)):=rfl
theorem Mh{f:Option (Option Sl)->Prop}{k:Kt f}:bP (some (some (.lk a b d))) k=f (some (some (.lk a b d))):=rfl
theorem JS:NR (some (some (.lk a b d))) Q=Q .bo d:=rfl
def ex'(o:Option (Option Sl))(k:Bool->L2.Q.D->Prop):Prop:=match o with
 |some (some (.ow fl d))=>k fl d
 |_=>False
theorem JC:ex' (some (some (.ow b d))) k=k b d:=rfl
theorem Kc:gU te ρ LQ=te ρ fun _ d=>bP d (f:=fun d=>wa d LQ) ⟨⟩:=by unfold gU bP wa;rfl
def wpAt(d:L2.Q.D)(i:Int)(P:Bool->L2.Q.D->(Bool->L2.Q.D->Env)->Prop)(up:Bool->L2.Q.D->Env):Prop:=match d with
 |.list ds=>∃ j d',n5 ds.length i=some j/\ds[j]? = some d'/\d'.flat=false/\bP d' (f:=fun d'=>P true d' fun fl2 d2=>up fl2 (.list (ds.set j d2))) ⟨⟩
 |.tup ds=>∃ j d',n5 ds.length i=some j/\ds[j]? = some d'/\d'.flat=false/\bP d' (f:=fun d'=>P true d' fun fl2 d2=>up fl2 (.tup (ds.set j d2))) ⟨⟩
 |_=>False
section
variable {P:Bool->L2.Q.D->(Bool->L2.Q.D->Env)->Prop}{up:Bool->L2.Q.D->Env}
theorem Nf:Om p te ρ P=p ρ fun fl d up=>te ρ fun _ y=>fl=true/\bP y (f:=fun y=>int' y fun i=>bP d (f:=fun d=>wpAt d i P up) ⟨⟩) ⟨⟩:=by
 unfold Om bP int' wpAt
 rfl
end
end
end L2.Q.R
namespace L2
open PySem PySem.Spec PyProof.Rows Builtin Builtin.Str Builtin.Int
end L2
namespace L2
open PySem PySem.Spec PyProof.Rows
end L2
namespace L2.Q
open PySem PySem.Spec PyProof.Rows
section
variable {X:Cx}{K:PySem.W.Frag}{e a b:Expr}{ta tb:WE}{p pos:Pos}{x:Str}{id:String}
theorem Ht{H:Hp}{bs:List Bool}{vs:List V}(r:aI K H (bs.map D.bl) vs):vs=bs.map V.bl:=by
 induction bs generalizing vs with
 |nil=>exact r.n0
 |cons b bs ih =>
  obtain⟨u,us,rfl,r1,rs⟩:=aI.c (d:=D.bl b) r
  cases r1
  rw[ih rs];rfl
theorem G6:bootBuiltins "min" = some (.builtin "min"):=by decide +kernel
def FQ:R2:=fun x y H Q=>match x,y with
 |.int i,.int j=>Q (.int (if j<i then j else i)) H
 |_,_=>False
def Ey:W2:=fun _ x _ y Q=>match x,y with
 |.int i,.int j=>Q .sh (.int (if j<i then j else i))
 |_,_=>False
theorem Gw:kA K FQ Ey:=by
 intro Hs H m x v As n y u Bs Qd Qv w rx ry h f
 have r1:=rx.rep w
 have r2:=ry.rep w
 cases r1 with
 |int i=>cases r2 with
  |int j=>exact f.sh w (.int _) h
  |_=>exact h.elim
 |_=>cases r2<;>exact h.elim
theorem FJ(hc:kr X (.builtin id) fun xs H Q=>∃ x y,xs=[x,y]/\r x y H Q)(br:kA K r f)(hg:Gl X x)(hm:X.mg x=none)(hv:bootBuiltins x=some (.builtin id))(ha:QE X K a ta)(hb:QE X K b tb)
  (hs:starEach [a,b] X.env=(false,eval a X.env) :: starEach [b] X.env:=by rfl) (DC:starEach [b] X.env=(false,eval b X.env) :: starEach [] X.env:=by rfl) (hn:x ≠ "__name__" := by decide) (rL:(x == ("__debug__" : Str))=false:=by decide)
  (kN:(backTo pos (starEach [b] X.env)).any (·.1)=false:=by rfl):QE X K (.Call (.Name x p) [a,b] [] pos) (aw f ta tb):=by
 refine PE.imp (Sr hc hg hm hv (rq ha (rq hb uS DC) hs) hn rL hs kN) fun σ H Qv h=>?_
 obtain⟨Hs,ρ,ag,Q,sr,h,fin⟩:=mR br σ H Qv h
 exact⟨Hs,ρ,ag,Q,sr,h,fun v H1 aE m x As g1 r1 f1 q1=>by
  obtain⟨ay,fw,dc,Q2,fm,h2,fin2⟩:=fin v H1 aE m x As g1 r1 f1 q1
  exact⟨ay,fw,dc,Q2,fm,h2,fun u H2 dE n y Bs g2 r2 f2 q2=>⟨v,u,rfl,fin2 u H2 dE n y Bs g2 r2 f2 q2⟩⟩⟩
theorem Hu (hc:X.calm=true:=by rfl):kr X (.builtin "min") fun xs H Q=>∃ x y,xs=[x,y]/\FQ x y H Q:=fun pins s σ H xs us Q I r cS=>by
 obtain⟨x,y,e,q⟩:=cS
 subst e
 unfold FQ at q
 split at q
 ·exact ba' hc pins s σ H _ us Q I r ⟨_,_,rfl,q⟩
 ·exact q.elim
end
end L2.Q
namespace L2.Q.R
open PySem PySem.Spec PyProof.Rows L2.Q
section
variable {Q:Md->L2.Q.D->Prop}{m m':Md}{a b:Int}
theorem Mm:Ey m (.int a) m' (.int b) Q=Q .sh (.int (if b<a then b else a)):=rfl
end
end L2.Q.R
namespace L2.Q
open PySem PySem.Spec PyProof.Rows
theorem cL(O:Nat->List D->Prop)(Iv:Env->Prop):∀ (xs:List D) (i:Nat) (pre:List D) (ρ:Env) (k:List D->Prop),Iv ρ->O i pre ->
  (∀ j x,xs[j]? = some x->∀ ρ,Iv ρ->∀ out,O (i+j) out->∀ N1:Env->Prop,∀ N2:Env->D->Prop,(∀ aT d,Iv aT->O (i+j+1) (out++[d])->N2 aT d)->g x ρ fun ox=>tc ox fun b=>if b=true then te ox fun m d=>QL m d/\N2 ox d else N1 ox) ->
  (∀ out,O (i+xs.length) (pre++out)->k out)->iU g tc te xs ρ k
 |[],i,pre,_,k,_,h0,_,h=>h [] (by simpa using h0)
 |x :: xs,i,pre,ρ,k,iv,h0,hs,h=>by
  refine hs 0 x rfl ρ iv pre h0 _ _ (fun aT d Ol o'=>?_)
  refine cL O Iv xs (i+1) (pre++[d]) aT _ Ol o' (fun j y hy ρ iv out ho=>?_) fun out ho=>?_
  ·have:=hs (j+1) y (by simpa using hy) ρ iv out (by rwa[show i+(j+1)=i+1+j by lia])
   rwa[show i+(j+1)+1=i+1+j+1 by lia] at this
  ·refine h (d :: out) ?_
   rw[xo] at ho
   rwa[oz,show i+(xs.length+1)=i+1+xs.length by lia]
end L2.Q
namespace TS
open PySem PySem.SetTable
def fk:Nat->Nat->Nat
 |0,s=>s
 |k+1,s=>5*fk k s+1
theorem Hw(a b s:Nat):fk (a+b) s=fk b (fk a s):=by
 induction b with
 |zero=>rfl
 |succ b ih=>show 5*fk (a+b) s+1=5*fk b (fk a s)+1;rw[ih]
theorem xm(n s:Nat):4*fk n s+1=5 ^ n*(4*s+1):=by
 induction n with
 |zero=>simp[fk]
 |succ n ih =>
  show 4*(5*fk n s+1)+1=5 ^ (n+1)*(4*s+1)
  rw[yT,Pt (5 ^ n) 5,FY,<- ih];lia
theorem B_(m:Nat):∃ q,5 ^ 2 ^ m=1+2 ^ (m+2)*q/\q % 2=1:=by
 induction m with
 |zero=>exact⟨1,by decide,by decide⟩
 |succ m ih =>
  obtain⟨q,e,o⟩:=ih
  refine⟨q+2 ^ (m+1)*(q*q),?_,?_⟩
  ·have hp:5 ^ 2 ^ (m+1)=(5 ^ 2 ^ m) ^ 2:=by rw[yT 2 m,Nat.pow_mul]
   rw[hp,e]
   clear e hp
   have e1:2 ^ (m+1+2)=2*2 ^ (m+2):=by rw[show m+1+2=(m+2)+1 by exact Nat.add_assoc ..,yT];lia
   have e2:2 ^ (m+2)=2*2 ^ (m+1):=by rw[show m+2=(m+1)+1 by rfl,yT];lia
   rw[e1,e2]
   generalize 2 ^ (m+1)=y
   rw[Nat.pow_two]
   simp only[Nat.mul_add,Nat.add_mul,Nat.one_mul,Nat.mul_one]
   have a1:2*y*q*(2*y*q)=2*(2*y)*(y*(q*q)):=by
    simp only[FY,Nat.mul_left_comm,Pt]
   have a2:2*(2*y)*q=2*y*q+2*y*q:=by
    rw[FY 2 (2*y) q];lia
   rw[a1,a2];lia
  ·have:2 ^ (m+1)*(q*q) % 2=0:=by
    rw[yT,Pt (2 ^ m) 2,FY,Nat.mul_mod_right]
   lia
theorem Gj(m x:Nat):∃ r,fk (2 ^ m) x=x+2 ^ m*r/\r % 2=1:=by
 obtain⟨q,e,o⟩:=B_ m
 have c:=xm (2 ^ m) x
 rw[e] at c
 refine⟨q*(4*x+1),?_,?_⟩
 ·have e2:2 ^ (m+2)=4*2 ^ m:=by rw[Nat.pow_add];lia
  rw[e2,Nat.add_mul,Nat.one_mul,FY,FY] at c
  lia
 ·rw[Nat.mul_mod,o,Nat.one_mul];lia
theorem Hj(m s e:Nat):∃ k,k+1<=2 ^ m/\fk k s % 2 ^ m=e % 2 ^ m:=by
 induction m with
 |zero=>exact⟨0,by decide,by simp[Nat.mod_one]⟩
 |succ m ih =>
  obtain⟨k,hk,h⟩:=ih
  have hp:2 ^ (m+1)=2 ^ m*2:=yT ..
  have ey':0<2 ^ m:=Nat.pow_pos (by decide)
  have key:∀ a:Nat,a % (2 ^ m*2)=a % 2 ^ m+2 ^ m*(a / 2 ^ m % 2):=fun a=>Nat.mod_mul
  by_cases c:fk k s / 2 ^ m % 2=e / 2 ^ m % 2
  ·exact⟨k,by walk_at "s4",by rw[hp,key,key,h,c]⟩
  ·refine⟨k+2 ^ m,by lia,?_⟩
   obtain⟨r,er,ro⟩:=Gj m (fk k s)
   rw[Hw,er,hp,key,key,Nat.add_mul_mod_self_left,h,Nat.add_mul_div_left _ _ ey']
   have:(fk k s / 2 ^ m+r) % 2=e / 2 ^ m % 2:=by lia
   rw[this]
def qA(M:Nat)(p:Probe):Probe :=
 if p.more>0 then { p with j:=p.j+1,more:=p.more-1 } else
 { p with j:=(leap M p.i p.perturb).1,more:=runEnd M (leap M p.i p.perturb).1-(leap M p.i p.perturb).1,i:=(leap M p.i p.perturb).1,perturb:=(leap M p.i p.perturb).2 }
def ps(M:Nat)(h:Int):Nat->Probe
 |0=>{ j:=bits h % (M+1),more:=runEnd M (bits h % (M+1))-bits h % (M+1),i:=bits h % (M+1),perturb:=bits h,dummy:=none }
 |n+1=>qA M (ps M h n)
def J(M:Nat)(h:Int)(n:Nat):Nat:=(ps M h n).j
theorem vo(h:i<=M):i<=runEnd M i/\runEnd M i<=M/\runEnd M i<=i+9:=by
 unfold runEnd;split<;>lia
theorem DY(M:Nat)(h:Int):∀ n,(ps M h n).i<=M/\(ps M h n).j+(ps M h n).more<=M/\(ps M h n).dummy=none/\(ps M h n).more<=9
 |0=>by
  have h0:bits h % (M+1)<=M:=Pp (GH _ (Pu _))
  have:=vo h0
  exact⟨h0,by show bits h % (M+1)+(runEnd M (bits h % (M+1))-bits h % (M+1))<=M;lia,rfl,by show runEnd M (bits h % (M+1))-bits h % (M+1)<=9;lia⟩
 |n+1=>by
  obtain⟨a,b,c,d⟩:=DY M h n
  show(qA M (ps M h n)).i<=M/\_/\(qA M (ps M h n)).dummy=none/\_
  unfold qA
  by_cases hm:(ps M h n).more>0
  ·simp only[hm,if_true]
   show _/\(qA M (ps M h n)).j+(qA M (ps M h n)).more<=M/\_/\(qA M (ps M h n)).more<=9
   simp only[qA,hm,if_true]
   exact⟨a,by lia,c,by walk_at "s4"⟩
  ·simp only[hm,if_false]
   show _/\(qA M (ps M h n)).j+(qA M (ps M h n)).more<=M/\_/\(qA M (ps M h n)).more<=9
   simp only[qA,hm,if_false]
   have h0:(leap M (ps M h n).i (ps M h n).perturb).1<=M:=Pp (GH _ (Pu _))
   have:=vo h0
   exact⟨h0,by lia,c,by lia⟩
theorem TY(M:Nat)(h:Int)(n:Nat):J M h n<=M:=by
 have:=DY M h n
 unfold J;lia
theorem xx(M:Nat)(h:Int)(n:Nat):∀ r,r<=(ps M h n).more->ps M h (n+r)={ ps M h n with j:=(ps M h n).j+r,more:=(ps M h n).more-r }
 |0,_=>rfl
 |r+1,hr=>by
  show qA M (ps M h (n+r))=_
  rw[xx M h n r (by exact ll ‹_›)]
  unfold qA
  rw[if_pos (show(ps M h n).more-r>0 by lia)]
  simp only[Probe.mk.injEq,true_and,and_true]
  walk_at "s1"
def lp(M:Nat)(h:Int):Nat->Nat × Nat
 |0=>(bits h % (M+1),bits h)
 |k+1=>leap M (lp M h k).1 (lp M h k).2
def ke(M:Nat)(h:Int):Nat->Nat
 |0=>0
 |k+1=>ke M h k+(runEnd M (lp M h k).1-(lp M h k).1)+1
theorem Dj(M:Nat)(h:Int):∀ k,(lp M h k).1<=M
 |0=>Pp (GH _ (Pu _))
 |k+1=>Pp (GH _ (Pu _))
theorem yW(M:Nat)(h:Int):∀ k,ke M h k<=10*k
 |0=>bX _
 |k+1=>by
  have:=yW M h k
  have:=vo (Dj M h k)
  show ke M h k+_+1<=_;lia
theorem vq(M:Nat)(h:Int):∀ k,ps M h (ke M h k)={ j:=(lp M h k).1,more:=runEnd M (lp M h k).1-(lp M h k).1,i:=(lp M h k).1,perturb:=(lp M h k).2,dummy:=none }
 |0=>rfl
 |k+1=>by
  have ih:=vq M h k
  have e:=xx M h (ke M h k) (runEnd M (lp M h k).1-(lp M h k).1) (by rw[ih];exact bX _)
  show qA M (ps M h (ke M h k+(runEnd M (lp M h k).1-(lp M h k).1)))=_
  rw[e,ih]
  unfold qA
  rw[if_neg (by simp)]
  rfl
theorem Cm(M:Nat)(h:Int):∀ k,(lp M h k).2=bits h / 32 ^ k
 |0=>by simp[lp]
 |k+1=>by
  show(lp M h k).2 / 32=_
  rw[Cm M h k,Nat.div_div_eq_div_mul,yT]
theorem Fv(h:Int):bits h<2 ^ 64:=by
 unfold bits
 have h1:=Int.emod_nonneg h (show(2 ^ 64:Int)≠0 by decide)
 have h2:=RK h (show(0:Int)<2 ^ 64 by decide)
 lia
theorem zE(M:Nat)(h:Int):∀ k,(lp M h (13+k)).1 % (M+1)=fk k (lp M h 13).1 % (M+1)
 |0=>rfl
 |k+1=>by
  have e:(lp M h (13+k)).2=0:=by
   rw[Cm]
   refine Nat.div_eq_of_lt (nS (Fv h) ?_)
   exact iO (by decide:2 ^ 64<=32 ^ 13) (Nat.pow_le_pow_right (by decide) (by exact RC _ _))
  show(leap M (lp M h (13+k)).1 (lp M h (13+k)).2).1 % (M+1)=_
  unfold leap
  rw[e]
  show((lp M h (13+k)).1*5+1+0 / 32) % (M+1) % (M+1)=(5*fk k (lp M h 13).1+1) % (M+1)
  rw[Nat.mod_mod,Nat.zero_div,GA,Nat.add_mod,Nat.mul_mod,zE M h k,<- Nat.mul_mod,<- Nat.add_mod,Pt]
theorem cover(hM:M+1=2 ^ m)(h:Int)(he:e<=M):∃ k,k<=M+13/\(lp M h k).1=e:=by
 obtain⟨k,hk,q⟩:=Hj m (lp M h 13).1 e
 rw[<- hM] at hk q
 refine⟨13+k,by lia,?_⟩
 have:=zE M h k
 rw[q] at this
 rwa[Nat.mod_eq_of_lt (FX (Dj M h _)),Nat.mod_eq_of_lt (FX he)] at this
theorem GZ(M:Nat)(h:Int)(k:Nat):J M h (ke M h k)=(lp M h k).1:=by unfold J;rw[vq]
theorem wM(hM:M+1=2 ^ m)(h:Int)(iA:Nat->Bool)(he:e<=M)(hf:iA e=false):∃ n,n<=10*(M+13)/\iA (J M h n)=false/\∀ k<n,iA (J M h k)=true:=by
 obtain⟨k,hk,q⟩:=cover hM h he
 have hb:=yW M h k
 have hB:iA (J M h (ke M h k))=false:=by rw[GZ,q];exact hf
 generalize ke M h k=b at hb hB
 have go:∀ b,iA (J M h b)=false->∃ n,n<=b/\iA (J M h n)=false/\∀ k<n,iA (J M h k)=true:=by
  intro b
  induction b using Nat.strongRecOn with
  |ind b ih =>
   intro hB
   by_cases c:∃ k,k<b/\iA (J M h k)=false
   ·obtain⟨k,h1,h2⟩:=c
    obtain⟨n,a1,a2,a3⟩:=ih k h1 h2
    exact⟨n,by lia,a2,a3⟩
   ·refine⟨b,bX _,hB,fun k hk=>?_⟩
    cases z:iA (J M h k) with
    |true=>rfl
    |false=>exact absurd ⟨k,hk,z⟩ c
 obtain⟨n,a1,a2,a3⟩:=go b hB
 exact⟨n,by lia,a2,a3⟩
def Up(xs:Array Nat):Prop:=∀ i j:Nat,i<j->j<xs.size->xs.getD i 0<xs.getD j 0
theorem uL{xs:Array Nat}{i d d':Nat}(h:i<xs.size):xs.getD i d=xs.getD i d':=by simp[Array.getD,h]
theorem pH{xs:Array Nat}(U:Up xs)(j:Nat):∀ (fuel lo hi:Nat),hi-lo<=fuel->lo<=hi->hi<=xs.size->(∀ i<lo,xs.getD i 0<j)->(∀ i,hi<=i->i<xs.size->j<=xs.getD i 0) ->
  below.go xs j fuel lo hi<=xs.size/\(∀ i<below.go xs j fuel lo hi,xs.getD i 0<j)/\(∀ i,below.go xs j fuel lo hi<=i->i<xs.size->j<=xs.getD i 0)
 |0,lo,hi,hf,h1,h2,h3,h4=>by
  obtain rfl:lo=hi:=by lia
  exact⟨h2,h3,h4⟩
 |fuel+1,lo,hi,hf,h1,h2,h3,h4=>by
  unfold below.go
  by_cases c:lo<hi
  ·rw[if_pos c]
   dsimp only
   have hm:(lo+hi) / 2<xs.size:=by lia
   by_cases d:xs.getD ((lo+hi) / 2) j<j
   ·rw[if_pos d]
    rw[uL (d':=0) hm] at d
    refine pH U j fuel _ _ (by lia) (by lia) h2 (fun i hX=>?_) h4
    by_cases e:i=(lo+hi) / 2
    ·rw[e];exact d
    ·exact RD (U i _ (by lia) hm) d
   ·rw[if_neg d]
    rw[uL (d':=0) hm] at d
    refine pH U j fuel _ _ (by lia) (by lia) (by exact ll ‹_›) h3 fun i hX hs=>?_
    by_cases e:i=(lo+hi) / 2
    ·rw[e];exact LP ‹_›
    ·have:=U ((lo+hi) / 2) i (by lia) hs;lia
  ·rw[if_neg c]
   obtain rfl:lo=hi:=by lia
   exact⟨h2,h3,h4⟩
theorem bJ(U:Up xs)(j:Nat):below xs j<=xs.size/\(∀ i<below xs j,xs.getD i 0<j)/\(∀ i,below xs j<=i->i<xs.size->j<=xs.getD i 0) :=
 pH U j xs.size 0 xs.size (by lia) (by lia) (bX _) (fun i h=>absurd h (D5 i)) fun i h1 h2=>by lia
theorem below_at(U:Up xs)(h:i<xs.size):below xs (xs.getD i 0)=i:=by
 obtain⟨a,b,c⟩:=bJ U (xs.getD i 0)
 by_cases h1:below xs (xs.getD i 0)<i
 ·have:=c _ (bX _) (by lia)
  have:=U _ i h1 h
  lia
 ·by_cases h2:i<below xs (xs.getD i 0)
  ·have:=b i h2;lia
  ·lia
theorem wg(U:Up xs)(h:i<xs.size):below xs (xs.getD i 0+1)=i+1:=by
 obtain⟨a,b,c⟩:=bJ U (xs.getD i 0+1)
 by_cases h1:below xs (xs.getD i 0+1)<i+1
 ·have:=c i (by lia) h;lia
 ·by_cases h2:i+1<below xs (xs.getD i 0+1)
  ·have:=b (i+1) h2
   have:=U i (i+1) (by lia) (by lia);lia
  ·lia
def taken(xs:Array Nat)(j:Nat):Bool:=xs[below xs j]? == some j
theorem wV{xs:Array Nat}{i j:Nat}(h:xs[i]? = some j):i<xs.size/\xs.getD i 0=j:=by
 obtain⟨h1,h2⟩:=GL.mp h
 exact⟨h1,by simp[Array.getD,h1,h2]⟩
theorem za{xs:Array Nat}{i:Nat}(h:i<xs.size):xs[i]? = some (xs.getD i 0):=by simp[Array.getD,h]
theorem gA{xs:Array Nat}(U:Up xs){j:Nat}:taken xs j=true↔∃ i,i<xs.size/\xs.getD i 0=j:=by
 unfold taken
 rw[beq_iff_eq]
 constructor
 ·intro h;exact⟨_,wV h⟩
 ·rintro⟨i,h,rfl⟩
  rw[below_at U h]
  exact za h
theorem jT{xs:Array Nat}(U:Up xs){j:Nat}(h:taken xs j=true):below xs j<xs.size/\xs.getD (below xs j) 0=j:=by
 unfold taken at h
 rw[beq_iff_eq] at h
 exact wV h
theorem dD(xs:Array α)(x:α)(h:p<=xs.size):(insertAt xs p x).size=xs.size+1:=by
 unfold insertAt
 simp
 lia
theorem P6(xs:Array α)(x:α)(h:p<=xs.size)(i:Nat):(insertAt xs p x)[i]? = if i<p then xs[i]? else if i=p then some x else xs[i-1]? := by
 unfold insertAt
 have hs:((xs.extract 0 p).push x).size=p+1:=by simp;lia
 by_cases h1:i<p
 ·rw[if_pos h1,Array.getElem?_append_left (by lia),Array.getElem?_push,if_neg (by simp;lia),Pz]
  rw[if_pos (by lia)];simp
 ·rw[if_neg h1]
  by_cases h2:i=p
  ·rw[if_pos h2,Array.getElem?_append_left (by lia),Array.getElem?_push,if_pos (by simp;lia)]
  ·rw[if_neg h2,Array.getElem?_append_right (by lia),hs,Pz]
   by_cases h3:i-(p+1)<min xs.size xs.size-p
   ·rw[if_pos h3]
    congr 1;lia
   ·rw[if_neg h3,B4 (by lia)]
theorem dZ(h:p<=xs.size)(i:Nat):(insertAt xs p x).getD i 0=if i<p then xs.getD i 0 else if i=p then x else xs.getD (i-1) 0:=by
 have e:∀ (ys:Array Nat) (k:Nat),ys.getD k 0=ys[k]?.getD 0:=fun ys k=>by
  simp[B3]
 rw[e,P6 xs x h]
 split
 ·rw[e]
 ·split
  ·rfl
  ·rw[e]
theorem Cz(U:Up xs)(hj:taken xs j=false):Up (insertAt xs (below xs j) j):=by
 obtain⟨a,b,c⟩:=bJ U j
 have ne:∀ i,i<xs.size->xs.getD i 0≠j:=fun i hi e=>by
  have:=(gA U (j:=j)).mpr ⟨i,hi,e⟩
  rw[hj] at this;cases this
 intro i k hik hk
 rw[dD xs j a] at hk
 rw[dZ a,dZ a]
 by_cases h1:k<below xs j
 ·rw[if_pos (by lia),if_pos h1];exact U i k hik (by lia)
 ·rw[if_neg h1]
  by_cases h2:k=below xs j
  ·rw[if_pos h2,if_pos (by lia)];exact b i (by lia)
  ·rw[if_neg h2]
   by_cases h3:i<below xs j
   ·rw[if_pos h3];exact U i (k-1) (by lia) (by lia)
   ·rw[if_neg h3]
    by_cases h4:i=below xs j
    ·rw[if_pos h4]
     have:=c (k-1) (by lia) (by lia)
     have:=ne (k-1) (by lia)
     lia
    ·rw[if_neg h4];exact U (i-1) (k-1) (by lia) (by lia)
theorem yq(U:Up xs)(hj:taken xs j=false):taken (insertAt xs (below xs j) j) k=(decide (k=j) || taken xs k):=by
 have a:=(bJ U j).1
 have U':=Cz U hj
 apply xt.mpr
 rw[gA U',Bool.or_eq_true,decide_eq_true_eq,gA U]
 rw[dD xs j a]
 constructor
 ·rintro⟨i,hi,e⟩
  rw[dZ a] at e
  by_cases h1:i<below xs j
  ·rw[if_pos h1] at e;exact .inr ⟨i,by lia,e⟩
  ·rw[if_neg h1] at e
   by_cases h2:i=below xs j
   ·rw[if_pos h2] at e;exact .inl e.symm
   ·rw[if_neg h2] at e;exact .inr ⟨i-1,by lia,e⟩
 ·rintro(rfl|⟨i,hi,e⟩)
  ·exact⟨below xs k,by lia,by rw[dZ a,if_neg (by lia),if_pos rfl]⟩
  ·by_cases h1:i<below xs j
   ·exact⟨i,by lia,by rw[dZ a,if_pos h1];exact e⟩
   ·exact⟨i+1,by lia,by rw[dZ a,if_neg (by lia),if_neg (by lia)];exact e⟩
def Reach(M:Nat)(place:Array Nat)(h:Int)(j:Nat):Prop:=∃ n,n<=10*(M+13)/\J M h n=j/\∀ k<n,taken place (J M h k)=true
structure TI{α:Type}(t:SetTable)(es:Array (Int × α)):Prop where
 pw:∃ m,t.mask+1=2 ^ m/\3<=m
 sz:t.place.size=es.size
 up:Up t.place
 le:∀ i,i<t.place.size->t.place.getD i 0<=t.mask
 dm:t.dummies = #[]
 few:es.size*5<t.mask*3
 path:∀ i h x,es[i]? = some (h,x)->Reach t.mask t.place h (t.place.getD i 0)
section
variable {α:Type}{t:SetTable}{es:Array (Int × α)}
theorem TI.slot(T:TI t es)(j:Nat):t.slot j=if taken t.place j then .live (below t.place j) else .empty:=by
 unfold SetTable.slot taken
 dsimp only
 split
 ·rfl
 ·have:has t.dummies j=false:=by rw[T.dm];rfl
  rw[this];rfl
theorem TI.fits(T:TI t es):t.fits es.size=true:=by
 have:=T.few
 simp only[SetTable.fits,fill,T.dm,T.sz,mw,beq_iff_eq,decide_eq_true_eq,true_and]
 simp;lia
theorem TI.odd(T:TI t es):t.gaveWay=false:=by
 obtain⟨m,h,h3⟩:=T.pw
 unfold SetTable.gaveWay
 rw[beq_eq_false_iff_ne]
 have:2 ^ m=2*2 ^ (m-1):=by
  rw[show m=(m-1)+1 by lia,yT];simp;lia
 lia
theorem TI.free(T:TI t es):∃ e,e<=t.mask/\taken t.place e=false:=by
 have hf:=T.few
 have hs:=T.sz
 by_cases c:∃ e,e<=t.mask/\taken t.place e=false
 ·exact c
 ·exfalso
  have all:∀ e,e<=t.mask->taken t.place e=true:=fun e he=>by
   cases z:taken t.place e with
   |true=>rfl
   |false=>exact absurd ⟨e,he,z⟩ c
  -- slot e stands at place at most e
  have go:∀ e,e<=t.mask->e<=below t.place e:=by
   intro e
   induction e with
   |zero=>intro _;exact eK _
   |succ e ih =>
    intro he
    have h1:=jT T.up (all e (by exact ll ‹_›))
    have h2:=jT T.up (all (e+1) he)
    have:=ih (by exact ll ‹_›)
    obtain⟨_,b,c⟩:=bJ T.up (e+1)
    by_cases z:below t.place e<below t.place (e+1)
    ·walk_at "s1"
    ·have:=c (below t.place e) (by exact LP ‹_›) h1.1
     lia
  have:=go t.mask (bX _)
  have:=(jT T.up (all t.mask (bX _))).1
  lia
theorem TI.put(T:TI t es)(hj:j<=t.mask)(hn:taken t.place j=false)(hr:Reach t.mask t.place h j)(ht:t'.mask=t.mask)(hp:t'.place=insertAt t.place (below t.place j) j)(hd:t'.dummies = #[])
  (hf:(es.size+1)*5<t.mask*3):TI t' (insertAt es (below t.place j) (h,x)):=by
 have a:=(bJ T.up j).1
 have a':below t.place j<=es.size:=by rw[<- T.sz];exact a
 refine⟨by rw[ht];exact T.pw,by rw[hp,dD _ _ a,dD _ _ a',T.sz],by rw[hp];exact Cz T.up hn,fun i hi=>?_,hd,by rw[dD _ _ a',ht];exact hf,fun i g y e=>?_⟩
 ·rw[hp,dD _ _ a] at hi
  rw[hp,dZ a,ht]
  split
  ·exact T.le i (by lia)
  ·split
   ·exact hj
   ·exact T.le (i-1) (by lia)
 ·have mono:∀ {g:Int} {k:Nat},Reach t.mask t.place g k->Reach t'.mask t'.place g k:=fun {g k} ⟨n,h1,h2,h3⟩=>⟨n,by rw[ht];exact h1,by rw[ht];exact h2,fun q hq=>by
   rw[hp,ht,yq T.up hn,h3 q hq,Bool.or_true]⟩
  rw[P6 es _ a'] at e
  rw[hp,dZ a,<- hp]
  by_cases h1:i<below t.place j
  ·rw[if_pos h1] at e ⊢
   exact mono (T.path i g y e)
  ·rw[if_neg h1] at e ⊢
   by_cases h2:i=below t.place j
   ·rw[if_pos h2] at e ⊢
    cases e
    exact mono hr
   ·rw[if_neg h2] at e ⊢
    exact mono (T.path (i-1) g y e)
end
theorem iK[DecidableEq α]:∀ {l m:List α},l.Nodup->(∀ x∈l,x∈m)->l.length<=m.length
 |[],_,_,_=>eK _
 |x :: l,m,nd,h=>by
  rw[js] at nd
  have hx:=h x b6
  have:=iK (l:=l) (m:=m.erase x) nd.2 fun y hy=>(List.mem_erase_of_ne (fun e=>nd.1 (by rw[<- e];exact hy))).mpr (h y (b9 _ hy))
  rw[List.length_erase_of_mem hx] at this
  have:0<m.length:=List.length_pos_of_mem hx
  simp only[oz];lia
def iA(owner:Array (Option Nat))(j:Nat):Bool:=(owner.getD j (some 0)).isSome
theorem qt(h:Int)(owner:Array (Option Nat)):∀ (fuel k:Nat),(∀ q<ke M h k,iA owner (J M h q)=true)->(∃ K,k<=K/\K<k+fuel/\K<=M+13/\iA owner (lp M h K).1=false) ->
  ∃ j n,layClean.free M owner fuel (lp M h k).1 (lp M h k).2=some j/\J M h n=j/\n<=10*(M+13)/\iA owner j=false/\∀ q<n,iA owner (J M h q)=true
 |0,k,_,⟨K,h1,h2,_⟩=>by lia
 |fuel+1,k,hq,⟨K,h1,h2,h3,h4⟩=>by
  have T1:∀ r,r<=runEnd M (lp M h k).1-(lp M h k).1->J M h (ke M h k+r)=(lp M h k).1+r:=fun r hr=>by
   unfold J
   rw[xx M h (ke M h k) r (by rw[vq];exact hr),vq]
  have hle:=vo (Dj M h k)
  have e:∀ r,(owner.getD ((lp M h k).1+r) (some 0)).isNone = !iA owner ((lp M h k).1+r):=fun r=>by
   unfold iA;cases owner.getD ((lp M h k).1+r) (some 0)<;>rfl
  unfold layClean.free
  cases hf:(List.range (runEnd M (lp M h k).1+1-(lp M h k).1)).find? fun r=>(owner.getD ((lp M h k).1+r) (some 0)).isNone with
  |some r =>
   obtain⟨a1,a2,a3⟩:=List.find?_range_eq_some.mp hf
   have a2:r<runEnd M (lp M h k).1+1-(lp M h k).1:=by simpa using a2
   rw[e] at a1
   have a1:iA owner ((lp M h k).1+r)=false:=by simpa using a1
   have occs:∀ q<ke M h k+r,iA owner (J M h q)=true:=fun q QV=>by
    by_cases z:q<ke M h k
    ·exact hq q z
    ·have:=a3 (q-ke M h k) (by lia)
     rw[e] at this
     have hj:=T1 (q-ke M h k) (by lia)
     rw[show ke M h k+(q-ke M h k)=q by lia] at hj
     rw[hj]
     simpa using this
   refine⟨_,ke M h k+r,rfl,T1 r (by lia),?_,a1,occs⟩
   have hb:=yW M h K
   by_cases z:ke M h k+r<=ke M h K
   ·lia
   ·have:=occs (ke M h K) (by lia)
    rw[GZ,h4] at this;cases this
  |none =>
   have hn:=List.find?_eq_none.mp hf
   have X7:∀ r,r<=runEnd M (lp M h k).1-(lp M h k).1->iA owner ((lp M h k).1+r)=true:=fun r hr=>by
    have:=hn r (by simp;lia)
    rw[e] at this
    simpa using this
   dsimp only
   have hK:K≠k:=fun z=>by
    subst z
    have:=X7 0 (eK _)
    rw[GA,h4] at this;cases this
   refine qt h owner fuel (k+1) (fun q QV=>?_) ⟨K,by lia,by lia,h3,h4⟩
   by_cases z:q<ke M h k
   ·exact hq q z
   ·have QV:q<ke M h k+(runEnd M (lp M h k).1-(lp M h k).1)+1:=QV
    have hj:=T1 (q-ke M h k) (by lia)
    rw[show ke M h k+(q-ke M h k)=q by lia] at hj
    rw[hj]
    exact X7 _ (by lia)
structure OI(M:Nat)(hs:List Int)(owner:Array (Option Nat)):Prop where
 sz:owner.size=M+1
 lt:∀ j v:Nat,owner[j]? = some (some v)->v<hs.length
 inj:∀ j j' v:Nat,owner[j]? = some (some v)->owner[j']? = some (some v)->j=j'
 all:∀ v:Nat,v<hs.length->∃ j:Nat,owner[j]? = some (some v)
 path:∀ j v:Nat,owner[j]? = some (some v)->∃ n,n<=10*(M+13)/\J M (hs.getD v 0) n=j/\∀ q<n,iA owner (J M (hs.getD v 0) q)=true
theorem tR(h:j<owner.size):iA owner j=true↔∃ v,owner[j]? = some (some v):=by
 unfold iA
 rw[xv h]
 simp only[Array.getD,h,dite_true,Option.some.injEq]
 cases hh:owner[j] with
 |none =>
  have:owner.getInternal j h=none:=hh
  rw[this];simp
 |some v =>
  have:owner.getInternal j h=some v:=hh
  rw[this];simp
theorem OI.free(O:OI M hs owner)(hl:hs.length<=M):∃ e,e<=M/\iA owner e=false:=by
 by_cases c:∃ e,e<=M/\iA owner e=false
 ·exact c
 ·exfalso
  have all:∀ e,e<=M->∃ v,owner[e]? = some (some v):=fun e he=>by
   refine(tR (by rw[O.sz];lia)).mp ?_
   cases z:iA owner e with
   |true=>rfl
   |false=>exact absurd ⟨e,he,z⟩ c
  have nd:((List.range (M+1)).map fun j=>(owner.getD j none).getD 0).Nodup:=by
   rw[O8,pE]
   refine List.Pairwise.imp_of_mem ?_ (O8.mp List.nodup_range)
   intro a b ha hb kz z
   obtain⟨va,ea⟩:=all a (by have:=oi.mp ha;lia)
   obtain⟨vb,eb⟩:=all b (by have:=oi.mp hb;lia)
   rw[B3,B3,ea,eb] at z
   have z:va=vb:=z
   subst z
   exact kz (O.inj _ _ _ ea eb)
  have:=iK (m:=List.range hs.length) nd fun x hx=>by
   obtain⟨j,hj,rfl⟩:=cK.mp hx
   obtain⟨v,e⟩:=all j (by have:=oi.mp hj;lia)
   rw[B3,e]
   exact oi.mpr (O.lt _ _ e)
  simp at this
  lia
theorem OI.lay(hM:M+1=2 ^ m)(O:OI M hs owner)(hl:hs.length<=M)(h:Int) :
  ∃ j,layClean.free M owner (turns M) (bits h % (M+1)) (bits h)=some j/\OI M (hs++[h]) (owner.setIfInBounds j (some hs.length)):=by
 obtain⟨e,he,hf⟩:=O.free hl
 obtain⟨K,hK,hKe⟩:=cover hM h he
 obtain⟨j,n,e1,e2,e3,e4,e5⟩:=qt h owner (turns M) 0 (fun q hq=>absurd hq (D5 q)) ⟨K,eK _,by unfold turns;lia,hK,by rw[hKe];exact hf⟩
 refine⟨j,e1,?_⟩
 have hj:j<owner.size:=by rw[O.sz,<- e2];exact FX (TY M h n)
 have get:∀ i,(owner.setIfInBounds j (some hs.length))[i]? = if j=i then some (some hs.length) else owner[i]? := fun i=>by
  rw[Array.getElem?_setIfInBounds]
  by_cases z:j=i
  ·subst z;simp[hj]
  ·simp[z]
 have oc:∀ i,iA owner i=true->iA (owner.setIfInBounds j (some hs.length)) i=true:=fun i hi=>by
  unfold iA at hi ⊢
  rw[B3] at hi ⊢
  rw[get]
  split
  ·rfl
  ·exact hi
 have kz:∀ v,owner[j]?≠some (some v):=fun v z=>by
  have:=(tR hj).mpr ⟨v,z⟩
  rw[e4] at this;cases this
 refine⟨by rw[Array.size_setIfInBounds];exact O.sz,fun i v z=>?_,fun i i' v z z'=>?_,fun v hv=>?_,fun i v z=>?_⟩
 ·rw[get] at z
  split at z
  ·cases z;simp
  ·have:=O.lt i v z;simp;lia
 ·rw[get] at z z'
  split at z
  ·cases z
   split at z'
   ·lia
   ·exact absurd (O.lt _ _ z') (ti _)
  ·split at z'
   ·cases z'
    exact absurd (O.lt _ _ z) (ti _)
   ·exact O.inj i i' v z z'
 ·simp at hv
  by_cases c:v=hs.length
  ·exact⟨j,by rw[get,if_pos rfl,c]⟩
  ·obtain⟨i,hi⟩:=O.all v (by lia)
   refine⟨i,?_⟩
   rw[get,if_neg (fun z=>kz v (by rw[z];exact hi))]
   exact hi
 ·rw[get] at z
  split at z
  ·rename_i T3
   cases z
   refine⟨n,e3,?_,fun q hq=>oc _ ?_⟩
   ·rw[Lc,yA (bX _)]
    simp[e2,T3]
   ·have:=e5 q hq
    rw[Lc,yA (bX _)]
    simpa using this
  ·have hv:=O.lt i v z
   obtain⟨n',a1,a2,a3⟩:=O.path i v z
   have eg:(hs++[h]).getD v 0=hs.getD v 0:=by
    rw[Lc,Lc,DV hv]
   rw[eg]
   exact⟨n',a1,a2,fun q hq=>oc _ (a3 q hq)⟩
theorem OI.nil(M:Nat):OI M [] (Array.replicate (M+1) none):=by
 have no:∀ (j v:Nat),¬ (Array.replicate (M+1) (none:Option Nat))[j]? = some (some v):=fun j v z=>by
  rw[Array.getElem?_replicate] at z
  split at z<;>cases z
 exact⟨by simp,fun j v z=>absurd z (no j v),fun j j' v z _=>absurd z (no j v),fun v hv=>absurd hv (D5 v),fun j v z=>absurd z (no j v)⟩
theorem Gd(hM:M+1=2 ^ m)(hs:Array Int)(hl:hs.size<=M):∃ owner,layClean M hs=some owner/\OI M hs.toList owner:=by
 have go:∀ (l pre:List Int) (owner:Array (Option Nat)),OI M pre owner->pre.length+l.length<=M->∃ X8,l.foldl (fun acc h=>do
   let (owner,k) ← acc
   let j ← layClean.free M owner (turns M) (bits h % (M+1)) (bits h)
   pure (owner.setIfInBounds j (some k),k+1)) (some (owner,pre.length))=some (X8,pre.length+l.length)/\OI M (pre++l) X8:=by
  intro l
  induction l with
  |nil=>intro pre owner O _;exact⟨owner,rfl,by rw[pS];exact O⟩
  |cons h l ih =>
   intro pre owner O hz
   rw[oz] at hz
   obtain⟨j,e,O'⟩:=O.lay hM (by lia) h
   obtain⟨o2,e2,O2⟩:=ih (pre++[h]) _ O' (by simp;lia)
   refine⟨o2,?_,by rw[xo] at O2;exact O2⟩
   rw[List.foldl_cons]
   have:(do
    let (owner,k) ← (some (owner,pre.length):Option (Array (Option Nat) × Nat))
    let j ← layClean.free M owner (turns M) (bits h % (M+1)) (bits h)
    pure (owner.setIfInBounds j (some k),k+1))=some (owner.setIfInBounds j (some pre.length),(pre++[h]).length):=by
    simp[e]
   rw[this,e2]
   simp;lia
 obtain⟨o,e,O⟩:=go hs.toList [] _ (OI.nil M) (by simpa using hl)
 refine⟨o,?_,by simpa using O⟩
 unfold layClean
 rw[<- Array.foldl_toList]
 have e':=e
 simp only[List.length_nil] at e'
 rw[e']
 rfl
theorem jH:∀ (fuel a:Nat),3<=a->n<2 ^ (a+fuel)->∃ b,3<=b/\sizeAbove.go n fuel (2 ^ a)=2 ^ b/\n<2 ^ b/\(2 ^ b<=2*n\/b=a)
 |0,a,ha,h=>⟨a,ha,rfl,by simpa using h,.inr rfl⟩
 |fuel+1,a,ha,h=>by
  unfold sizeAbove.go
  by_cases c:2 ^ a<=n
  ·rw[if_pos c]
   obtain⟨b,h1,h2,h3,h4⟩:=jH fuel (a+1) (by lia) (by rw[show a+1+fuel=a+(fuel+1) by lia];exact h)
   refine⟨b,h1,by rw[yT] at h2;exact h2,h3,?_⟩
   rcases h4 with h4|h4
   ·exact .inl h4
   ·left
    rw[h4,yT];lia
  ·rw[if_neg c]
   exact⟨a,ha,rfl,by lia,.inr rfl⟩
theorem nT(h:n<2 ^ 60):∃ b,3<=b/\sizeAbove n=2 ^ b/\n<2 ^ b/\(2 ^ b<=2*n\/b=3) :=
 jH 64 3 (bX _) (RD h (by decide))
section
variable {α:Type}
def bO(M:Nat)(owner:Array (Option Nat)):List (Nat × Nat):=(List.range (M+1)).filterMap fun j=>(owner.getD j none).map (j,·)
theorem fG:p∈bO M owner↔p.1<M+1/\owner[p.1]? = some (some p.2):=by
 unfold bO
 rw[Rx]
 constructor
 ·rintro⟨j,hj,e⟩
  rw[B3] at e
  cases h:owner[j]? with
  |none=>rw[h] at e;cases e
  |some o =>
   rw[h] at e
   cases o with
   |none=>cases e
   |some v =>
    cases e
    exact⟨oi.mp hj,h⟩
 ·rintro⟨h1,h2⟩
  exact⟨p.1,oi.mpr h1,by rw[B3,h2];rfl⟩
theorem tV(M:Nat)(owner:Array (Option Nat)):((bO M owner).map (·.1)).Pairwise (· < ·):=by
 unfold bO
 rw[pE,List.pairwise_filterMap]
 refine List.Pairwise.imp ?_ List.pairwise_lt_range
 intro a b Ot p hp q hq
 cases h1:owner.getD a none with
 |none=>rw[h1] at hp;cases hp
 |some x =>
  cases h2:owner.getD b none with
  |none=>rw[h2] at hq;cases hq
  |some y =>
   rw[h1] at hp;rw[h2] at hq
   cases hp;cases hq
   exact Ot
theorem uR{l:List Nat}(h:l.Pairwise (· < ·)):Up l.toArray:=fun i j i5 hj=>by
 have hj:j<l.length:=by simpa using hj
 have:=BO.mp h i j (by walk_at "s1") hj i5
 have e:∀ k (hk:k<l.length),l.toArray.getD k 0=l[k]:=fun k hk=>by simp[Array.getD,hk]
 rw[e i (by walk_at "s1"),e j hj]
 exact this
theorem vy{β:Type}{f:α->Option β}:∀ {l:List α},(∀ x∈l,(f x).isSome=true)->(l.filterMap f).length=l.length/\∀ i:Nat,(l.filterMap f)[i]? = (l[i]?).bind f
 |[],_=>⟨rfl,fun i=>by simp⟩
 |x :: l,h=>by
  obtain⟨a,b⟩:=vy (f:=f) (l:=l) fun y hy=>h y (b9 _ hy)
  have hx:=h x b6
  cases e:f x with
  |none=>rw[e] at hx;cases hx
  |some y =>
   rw[LH,e]
   refine⟨by simp[a],fun i=>?_⟩
   cases i with
   |zero=>simp[e]
   |succ i=>simpa using b i
theorem u_(es:Array (Int × α)):(List.range es.size).filterMap (fun i=>es[i]?)=es.toList:=by
 apply AH
 intro i
 rw[(vy (l:=List.range es.size) fun x hx=>by
  have:=oi.mp hx
  simp[this]).2 i]
 by_cases h:i<es.size
 ·rw[List.getElem?_range h,ly];rfl
 ·rw[ua (by simpa using h),ua (by simpa using h)];rfl
theorem Dw{M m finger moves:Nat}{led plain:Bool}(hM:M+1=2 ^ m)(hm:3<=m){es:Array (Int × α)}(hf:es.size*5<M*3) :
  ∃ t order,laid M finger moves led plain (es.map (·.1))=some (t,order)/\t.plain=plain/\t.led=led/\t.mask=M/\TI t (order.filterMap fun i=>es[i]?)/\(order.filterMap fun i=>es[i]?).size=es.size/\(order.filterMap fun i=>es[i]?).toList.Perm es.toList/\order.toList.Perm (List.range es.size):=by
 obtain⟨owner,e,O⟩:=Gd hM (es.map (·.1)) (by rw[Array.size_map];lia)
 have hn:(es.map (·.1)).toList.length=es.size:=by simp
 refine⟨{ mask:=M,place:=((bO M owner).map (·.1)).toArray,dummies:=#[],finger,led,moves,plain },((bO M owner).map (·.2)).toArray,?_,rfl,rfl,rfl,?_⟩
 ·unfold laid
  rw[e];rfl
 have X_:∀ p∈bO M owner,p.2<es.size:=fun p hp=>by
  have:=O.lt _ _ (fG.mp hp).2
  lia
 have nd:((bO M owner).map (·.2)).Nodup:=by
  rw[O8,pE]
  have:=tV M owner
  rw[pE] at this
  refine List.Pairwise.imp_of_mem ?_ this
  intro p q hp hq df z
  have:=O.inj _ _ _ (fG.mp hp).2 (by rw[z];exact(fG.mp hq).2)
  lia
 have pm:((bO M owner).map (·.2)).Perm (List.range es.size):=by
  refine(List.perm_ext_iff_of_nodup nd List.nodup_range).mpr fun v=>⟨fun hv=>?_,fun hv=>?_⟩
  ·obtain⟨p,hp,rfl⟩:=cK.mp hv
   exact oi.mpr (X_ p hp)
  ·obtain⟨j,hj⟩:=O.all v (by rw[hn];exact oi.mp hv)
   have Ya:=(GL.mp hj).1
   rw[O.sz] at Ya
   exact cK.mpr ⟨(j,v),fG.mpr ⟨Ya,hj⟩,rfl⟩
 have hlen:(bO M owner).length=es.size:=by
  have:=pm.length_eq
  simpa using this
 have JY:(((bO M owner).map (·.2)).toArray.filterMap fun i=>es[i]?).toList=(bO M owner).filterMap fun p=>es[p.2]? := by
  rw[Array.toList_filterMap,Ry];rfl
 obtain⟨f1,f2⟩:=vy (l:=bO M owner) (f:=fun p=>es[p.2]?) fun p hp=>by simp[X_ p hp]
 have eB':∀ i:Nat,(((bO M owner).map (·.2)).toArray.filterMap fun i=>es[i]?)[i]? = ((bO M owner)[i]?).bind fun p=>es[p.2]? := fun i=>by
  rw[<- ly,JY];exact f2 i
 have hsz:(((bO M owner).map (·.2)).toArray.filterMap fun i=>es[i]?).size=es.size:=by
  rw[<- xA,JY,f1,hlen]
 have kN:∀ i:Nat,∀ p,(bO M owner)[i]? = some p->((bO M owner).map (·.1)).toArray.getD i 0=p.1:=fun i p hp=>by
  rw[B3]
  simp[hp]
 have tk:∀ j,iA owner j=true->j<=M->taken ((bO M owner).map (·.1)).toArray j=true:=fun j hj hM'=>by
  obtain⟨v,hv⟩:=(tR (by rw[O.sz];exact FX ‹_›)).mp hj
  obtain⟨i,hi⟩:=LD.mp (fG.mpr (show((j,v):Nat × Nat).1<M+1/\owner[((j,v):Nat × Nat).1]? = some (some ((j,v):Nat × Nat).2) from⟨by show j<M+1;exact FX ‹_›,hv⟩))
  exact(gA (uR (tV M owner))).mpr ⟨i,by
   have:=(iL.mp hi).1
   simpa using this,kN i _ hi⟩
 refine⟨?_,hsz,?_,by simpa using pm⟩
 ·refine⟨⟨m,hM,hm⟩,?_,uR (tV M owner),fun i hi=>?_,rfl,by rw[hsz];exact hf,fun i h x hx=>?_⟩
  ·rw[hsz];simp[hlen]
  ·have hi:i<(bO M owner).length:=by simpa using hi
   have e1:=kS hi
   show((bO M owner).map (·.1)).toArray.getD i 0<=M
   rw[kN i _ e1]
   have:=(fG.mp (nL e1)).1
   lia
  ·rw[eB'] at hx
   cases hp:(bO M owner)[i]? with
   |none=>rw[hp] at hx;cases hx
   |some p =>
    rw[hp] at hx
    have hx:es[p.2]? = some (h,x):=hx
    have hm':=fG.mp (nL hp)
    obtain⟨n,a1,a2,a3⟩:=O.path _ _ hm'.2
    have hh:(es.map (·.1)).toList.getD p.2 0=h:=by
     rw[Lc,ly,Array.getElem?_map,hx];rfl
    rw[hh] at a2 a3
    refine⟨n,a1,?_,fun q hq=>tk _ (a3 q hq) (TY M h q)⟩
    show J M h n=((bO M owner).map (·.1)).toArray.getD i 0
    rw[kN i _ hp];exact a2
 ·rw[JY]
  have:=pm.filterMap fun i=>es[i]?
  rw[u_,Ry] at this
  exact this
theorem xF{t:SetTable}{es:Array (Int × α)}(hn:es.size<=10000) :
  ∃ t' order,t.relaid (es.map (·.1)) (grown es.size)=some (t',order)/\t'.plain=t.plain/\t'.led=t.led/\sizeAbove (grown es.size)<=16777216/\(es.size<=1000->t'.mask<=8191)/\TI t' (order.filterMap fun i=>es[i]?)/\(order.filterMap fun i=>es[i]?).size=es.size/\(order.filterMap fun i=>es[i]?).toList.Perm es.toList/\order.toList.Perm (List.range es.size):=by
 have hg:grown es.size=es.size*4:=by unfold grown;rw[if_neg (by lia)]
 obtain⟨b,h3,e,df,hle⟩:=nT (n:=es.size*4) (by lia)
 have h8:8<=2 ^ b:=Nat.pow_le_pow_right (n:=2) (by decide) h3
 unfold relaid
 rw[hg,e]
 obtain⟨t',order,q1,q2,q3,qm,q4⟩:=Dw (M:=2 ^ b-1) (m:=b) (finger:=t.finger) (moves:=t.movedTo (2 ^ b-1)) (led:=t.led) (plain:=t.plain) (by lia) h3 (es:=es) (by lia)
 refine⟨t',order,q1,q2,q3,?_,fun hz=>?_,q4⟩
 ·rcases hle with hle|rfl
  ·lia
  ·decide
 ·rw[qm]
  rcases hle with hle|rfl
  ·lia
  ·decide
end
section
variable {α:Type}{t:SetTable}{es:Array (Int × α)}
theorem vm(T:TI t es)(hashAt:Nat->Int)(h:Int):∀ (fuel n:Nat),(∃ N,n<=N/\N<n+fuel/\taken t.place (J t.mask h N)=false) ->
  ∃ n',n<=n'/\n'<n+fuel/\(∀ q,n<=q->q<n'->taken t.place (J t.mask h q)=true/\hashAt (below t.place (J t.mask h q))≠h) /\
   ((taken t.place (J t.mask h n')=false/\probe.go t hashAt h fuel (ps t.mask h n)=some (.empty (J t.mask h n') none)) \/
    (taken t.place (J t.mask h n')=true/\hashAt (below t.place (J t.mask h n'))=h/\probe.go t hashAt h fuel (ps t.mask h n)=some (.candidate (J t.mask h n') (below t.place (J t.mask h n')) (ps t.mask h (n'+1)))))
 |0,n,⟨N,h1,h2,_⟩=>by lia
 |fuel+1,n,⟨N,h1,h2,h3⟩=>by
  unfold probe.go
  have hs:=T.slot (J t.mask h n)
  have hd:=(DY t.mask h n).2.2.1
  by_cases c:taken t.place (J t.mask h n)=true
  ·rw[if_pos c] at hs
   have hs:t.slot (ps t.mask h n).j=.live (below t.place (J t.mask h n)):=hs
   rw[hs]
   dsimp only
   by_cases e:hashAt (below t.place (J t.mask h n))=h
   ·rw[if_pos (by simpa using e)]
    exact⟨n,bX _,by lia,fun q a b=>by lia,.inr ⟨c,e,rfl⟩⟩
   ·rw[if_neg (by simpa using e)]
    have hN:N≠n:=fun z=>by rw[z,c] at h3;cases h3
    obtain⟨n',a1,a2,a3,a4⟩:=vm T hashAt h fuel (n+1) ⟨N,by lia,by lia,h3⟩
    refine⟨n',by exact ll ‹_›,by lia,fun q b1 b2=>?_,a4⟩
    by_cases z:q=n
    ·subst z;exact⟨c,e⟩
    ·exact a3 q (by lia) b2
  ·have c:taken t.place (J t.mask h n)=false:=by simpa using c
   rw[if_neg (by rw[c];exact gy)] at hs
   have hs:t.slot (ps t.mask h n).j=.empty:=hs
   rw[hs]
   dsimp only
   rw[hd]
   exact⟨n,bX _,by lia,fun q a b=>by lia,.inl ⟨c,rfl⟩⟩
end
section
variable {prog:Program}{w:World}{K:Type}[DecidableEq K]{knd:KeyKind prog w K}
abbrev a_(knd:KeyKind prog w K)(k:List K):Int:=tupleKeyHash knd k
def Bj(knd:KeyKind prog w K)(p:List K × Addr):Int × Value:=(a_ knd p.1,.ref p.2)
structure Kb(knd:KeyKind prog w K)(h:Heap)(a:Addr)(ks:List (List K × Addr)):Prop where
 ob:∃ o es ep t,h.get? a=some o/\o.ExactSet/\o.data=.set es ep t/\TI t es/\t.mask<=8191/\t.led=(!w.params.followText "set-order")/\es.toList=ks.map (Bj knd)
 nd:(ks.map (·.1)).Nodup
 is:∀ p∈ks,IsTupleKey knd h p.1 p.2
variable {A:Around}{E:Value->Shared->Prop}{s:Shared}
theorem kI(hk:IsTupleKey knd s.heap k a)(h:Q false s):wpAny (model prog w) A (ofAClassStatement 8 (.ref a)) Q E s:=by
 have hT:=hk.typeIs
 obtain⟨o,items,n,ho,_,hd,hi⟩:=hk
 unfold ofAClassStatement
 refine ai (wpAny_typeOf hT ?_)
 dsimp only
 refine ai ?_
 refine aS ?_
 simp only[Pw,gE,if_false]
 refine ai (wpAny_seqItems ho hd ?_)
 dsimp only
 refine ai ?_
 rw[<- Array.forIn_toList]
 refine wpAny_forIn_list _ (fun rest r s'=>r.1=none/\s'=s/\∀ v∈rest,carriedByValue v=true) _ ?_ ?_ _ _ ⟨rfl,rfl,hi.byValue⟩
 ·rintro v rest r s' ⟨hr,rfl,oC⟩
  have hv:=oC v b6
  have e:ofAClassStatement 7 v=pure false:=by
   cases v with
   |ref a=>cases hv
   |_=>rfl
  rw[e]
  refine ai (aS ?_)
  simp only[gE,if_false]
  exact aS ⟨rfl,rfl,fun u E5=>oC u (b9 _ E5)⟩
 ·rintro⟨r1,r2⟩ s' ⟨hr,rfl,_⟩
  simp only at hr
  subst hr
  exact aS h
theorem ji(hk:IsTupleKey knd s.heap k a)(AX:∀ k v,knd.is k v=true->v.scannable=true)(h:∀ b,Q b s):wpAny (model prog w) A (hashByValue 8 (.ref a)) Q E s:=by
 have hT:=hk.typeIs
 obtain⟨o,items,n,ho,_,hd,hi⟩:=hk
 have eD':∀ v∈items.toList,v.scannable=true:=by
  clear ho hd
  generalize items.toList=l at hi
  induction hi with
  |nil=>intro v hv;cases hv
  |cons h1 _ ih =>
   intro v hv
   rcases dv.mp hv with rfl|hv
   ·exact AX _ _ h1
   ·exact ih v hv
 unfold hashByValue
 refine ai (wpAny_specialOf hT F.slot_tuple_hash.lookup ?_)
 dsimp only
 refine ai (wpAny_seqItems ho hd ?_)
 dsimp only[Option.getD]
 refine ai ?_
 rw[<- Array.forIn_toList]
 refine wpAny_forIn_list _ (fun rest r s'=>s'=s/\∀ v∈rest,v.scannable=true) _ ?_ ?_ _ _ ⟨rfl,eD'⟩
 ·rintro v rest r s' ⟨rfl,oC⟩
  rw[hashByValue_scannable 7 (oC v b6)]
  refine ai (aS ?_)
  split
  ·exact aS (aS (h _))
  ·exact aS ⟨rfl,fun u E5=>oC u (b9 _ E5)⟩
 ·rintro⟨r1,r2⟩ s' ⟨rfl,_⟩
  cases r1 with
  |none=>exact aS (h true)
  |some b=>exact aS (h b)
end
local macro_rules | `(tactic| walk_at $s:str) => do
 let x:=s.getString
 if x.startsWith "PV" then `(tactic| exact $(Lean.mkIdent (.str (.str (.num (.str (.str (.str .anonymous "_private") "PySem") "SetOps") 0) "PySem") (x.drop 2).toString)))
 else Lean.Macro.throwUnsupported
abbrev yf:Array (Int × Value)->Nat->Int:=by walk_at "PVstoredHashAt"
abbrev Ek:Array (Int × Value)->Option (SetTable × Array Nat)->Sem (Array (Int × Value) × SetTable):=by walk_at "PVreordered"
abbrev ph:Array (Int × Value)->SetTable->Bool:=by walk_at "PVdrawn"
abbrev Kl:Array (Int × Value)->SetTable->Sem Unit:=by walk_at "PVmustBeLedForItsPlaces"
def uc:Array (Int × Value)->Nat->Int:=yf
theorem qR(es:Array (Int × Value))(i:Nat):uc es i=(es[i]?.map (·.1)).getD 0:=rfl
section
variable {prog:Program}{w:World}{K:Type}[DecidableEq K]{knd:KeyKind prog w K}{A:Around}{E:Value->Shared->Prop}{s:Shared}
theorem vR(hk:IsTupleKey knd s.heap k a)(hy:∀ y∈ys,∃ k' b,y=.ref b/\IsTupleKey knd s.heap k' b)(h:Q false s):wpAny (model prog w) A (searchCouldBeSeen (.ref a) ys) Q E s:=by
 unfold searchCouldBeSeen
 refine ai ?_
 refine wpAny_forIn_list _ (fun rest r s'=>r.1=none/\s'=s/\∀ y∈rest,∃ k' b,y=.ref b/\IsTupleKey knd s.heap k' b) _ ?_ ?_ _ _ ⟨rfl,rfl,hy⟩
 ·rintro y rest r s' ⟨hr,rfl,oC⟩
  obtain⟨k',b,rfl,hb⟩:=oC y b6
  have go:∀ (P:Prop),P->P:=fun _ p=>p
  dsimp only
  split
  ·exact aS ⟨rfl,rfl,fun u E5=>oC u (b9 _ E5)⟩
  ·refine ai (wpAny_eqIsQuiet_tuple hk ?_)
   simp only[Pw,gE,if_false]
   refine ai (wpAny_eqIsQuiet_tuple hb ?_)
   simp only[Pw,gE,if_false]
   refine ai (kI hk ?_)
   simp only[gE,if_false]
   refine ai (kI hb ?_)
   simp only[gE,if_false]
   exact aS ⟨rfl,rfl,fun u E5=>oC u (b9 _ E5)⟩
 ·rintro⟨r1,r2⟩ s' ⟨hr,rfl,_⟩
  simp only at hr
  subst hr
  exact aS h
theorem JZ{K G:Prop}(pk:K)(h:K->G):G:=h pk
theorem qJ{a x:Addr}{k:List K}{ks:List (List K × Addr)}{o:Obj}{es:Array (Int × Value)}{ep:Nat}{t:SetTable}(hu:A.units<cLine)(ho:s.heap.get? a=some o)(hd:o.data=.set es ep t)(T:TI t es)(he:es.toList=ks.map (Bj knd))
  (sL:∀ p∈ks,IsTupleKey knd s.heap p.1 p.2) (hx:IsTupleKey knd s.heap k x) {Q:SetFound->Shared->Prop} (Yb:k∈ks.map (·.1)->Q (.there none) s)
  (nf:Nat) (hnf:nf<=10*(t.mask+13)) (Dp:taken t.place (J t.mask (a_ knd k) nf)=false) (Yc:∀ q<nf,taken t.place (J t.mask (a_ knd k) q)=true)
  (CC:k∉ks.map (·.1)->Q (.free (J t.mask (a_ knd k) nf) false) s) :
  ∀ (fuel n:Nat) (stand:Option Probe),stand.getD (t.probeStart (a_ knd k))=ps t.mask (a_ knd k) n->n<=nf->nf<n+fuel ->
   (∀ q<n,∀ p,ks[below t.place (J t.mask (a_ knd k) q)]? = some p->p.1≠k)->wpAny (model prog w) A (setSearchFrom a (.ref x) (a_ knd k) true fuel stand) Q E s
 |0,n,stand,_,h1,h2,_=>by lia
 |fuel+1,n,stand,pV,h1,h2,hq=>by
  have T4:∀ i:Nat,es[i]? = (ks[i]?).map (Bj knd):=fun i=>by rw[<- ly,he,kX]
  unfold setSearchFrom
  refine ai (wpAny_setState_of ho hd T.fits ?_)
  dsimp only
  rw[if_neg (by rw[T.odd];exact gy)]
  obtain⟨n',a1,a2,a3,a4⟩:=vm T (uc es) (a_ knd k) (10*turns t.mask) n ⟨nf,h1,by unfold turns;lia,Dp⟩
  have B6:n'<=nf:=by
   by_cases z:n'<=nf
   ·exact z
   ·have:=(a3 nf h1 (by exact Nat.lt_of_not_le ‹_›)).1
    rw[Dp] at this;cases this
  rcases a4 with⟨c1,c2⟩|⟨c1,c2,c3⟩
  ·have c2:t.probe (uc es) (a_ knd k) (stand.getD (t.probeStart (a_ knd k)))=some (.empty (J t.mask (a_ knd k) n') none):=by rw[pV];exact c2
   have e:n'=nf:=by
    by_cases z:n'<nf
    ·have:=Yc n' z
     rw[c1] at this;cases this
    ·lia
   have c2:t.probe (yf es) (a_ knd k) (stand.getD (t.probeStart (a_ knd k)))=some (.empty (J t.mask (a_ knd k) n') none):=c2
   rw[c2]
   dsimp only
   rw[e]
   refine aS (CC fun hm=>?_)
   obtain⟨p,hp,rfl⟩:=cK.mp hm
   obtain⟨i,hi⟩:=LD.mp hp
   have ei:es[i]? = some (a_ knd p.1,.ref p.2):=by rw[T4,hi];rfl
   have Yd:i<t.place.size:=by rw[T.sz];exact(GL.mp ei).1
   obtain⟨ni,b1,b2,b3⟩:=T.path i _ _ ei
   have bt:below t.place (J t.mask (a_ knd p.1) ni)=i:=by rw[b2];exact below_at T.up Yd
   have tk:taken t.place (J t.mask (a_ knd p.1) ni)=true:=by rw[b2];exact(gA T.up).mpr ⟨i,Yd,rfl⟩
   have df:ni<nf:=by
    by_cases z:nf<ni
    ·have:=b3 nf z
     rw[Dp] at this;cases this
    ·have:ni≠nf:=fun z=>by rw[z,Dp] at tk;cases tk
     lia
   by_cases z:ni<n
   ·exact hq ni z p (by rw[bt];exact hi) rfl
   ·refine(a3 ni (by exact LP ‹_›) (by lia)).2 ?_
    rw[bt,qR,ei];rfl
  ·have c3:t.probe (yf es) (a_ knd k) (stand.getD (t.probeStart (a_ knd k)))=some (.candidate (J t.mask (a_ knd k) n') (below t.place (J t.mask (a_ knd k) n')) (ps t.mask (a_ knd k) (n'+1))):=by rw[pV];exact c3
   rw[c3]
   dsimp only
   have tk:=jT T.up c1
   have Bz:t.slot (J t.mask (a_ knd k) n')=.live (below t.place (J t.mask (a_ knd k) n')):=by rw[T.slot,if_pos c1]
   generalize hi:below t.place (J t.mask (a_ knd k) n')=i at tk c2 Bz ⊢
   have hil:i<es.size:=by rw[<- T.sz];exact tk.1
   obtain⟨p,hp⟩:∃ p,ks[i]? = some p:=by
    have:i<ks.length:=by
     have:=congrArg List.length he
     simp at this;lia
    exact⟨_,kS this⟩
   have ei:es[i]? = some (a_ knd p.1,.ref p.2):=by rw[T4,hp];rfl
   have E6:=nL hp
   have kz:n'≠nf:=fun z=>by rw[z,Dp] at c1;cases c1
   have again:¬ p.1=k->wpAny (model prog w) A (setSearchFrom a (.ref x) (a_ knd k) true fuel (some (ps t.mask (a_ knd k) (n'+1)))) Q E s:=fun hpk =>
    qJ hu ho hd T he sL hx Yb nf hnf Dp Yc CC fuel (n'+1) (some (ps t.mask (a_ knd k) (n'+1))) rfl (by lia) (by lia) fun q QV p' g7=>by
     by_cases z:q<n
     ·exact hq q z p' g7
     ·by_cases z2:q=n'
      ·subst z2
       rw[hi,hp] at g7
       cases g7
       exact hpk
      ·intro e'
       have:=(a3 q (by exact LP ‹_›) (by lia)).2
       refine this ?_
       rw[qR,T4,g7]
       show a_ knd p'.1=_
       rw[e']
   have aC:p.1=k->k∈ks.map (·.1):=fun e=>e ▸ cK.mpr ⟨p,E6,rfl⟩
   have seen:∀ y∈List.map (fun x=>x.snd) (Array.filter (fun x=>x.fst == a_ knd k) es).toList,∃ k' b,y=.ref b/\IsTupleKey knd s.heap k' b:=fun y hy=>by
    obtain⟨e',Iq,rfl⟩:=cK.mp hy
    rw[Array.toList_filter] at Iq
    have:=(sQ.mp Iq).1
    rw[he] at this
    obtain⟨p',g7,rfl⟩:=cK.mp this
    exact⟨p'.1,p'.2,rfl,sL p' g7⟩
   refine JZ ?pk (K:=?K) fun key=>?main
   case main =>
    split
    ·refine ai (vR hx seen ?_)
     rw[if_neg gy]
     exact key
    ·exact key
   rw[ei]
   dsimp only
   refine ai (wpAny_holding (wpAny_eqBool_tuple hu (sL p E6) hx ?_))
   refine ai (wpAny_setState_of ho hd T.fits ?_)
   dsimp only
   by_cases e:p.1=k
   ·rw[if_pos (by simp[e])]
    exact aS (Yb (aC e))
   ·rw[if_neg (by simp[e])]
    have Td:t.sameMemory t.moves t.mask=some true:=by unfold sameMemory;rw[if_pos (by simp)]
    rw[Td]
    dsimp only
    rw[if_pos rfl,Bz]
    dsimp only
    rw[ei]
    dsimp only
    refine ai (m:=isSame (.ref p.2) (.ref p.2)) ?_
    unfold isSame
    dsimp only
    rw[if_pos (by simp)]
    refine aS (ai (aS ?_))
    rw[if_pos rfl]
    dsimp only
    rw[if_neg (by simp[e])]
    exact again e
end
theorem jA:∀ {l l2:List β},l.Perm l2->∀ {m:List α},l2=m.map f->∃ m':List α,l=m'.map f/\m'.Perm m:=by
 intro l l2 p
 induction p with
 |nil=>intro m e;exact⟨m,by rw[<- e],.refl _⟩
 |cons x _ ih =>
  intro m e
  cases m with
  |nil=>cases e
  |cons y m =>
   simp only[fN,List.cons.injEq] at e
   obtain⟨m',e1,p1⟩:=ih e.2
   exact⟨y :: m',by rw[fN,<- e1,e.1],p1.cons _⟩
 |swap x y l =>
  intro m e
  match m,e with
  |a :: b :: m,e =>
   simp only[fN,List.cons.injEq] at e
   exact⟨b :: a :: m,by simp[e.1,e.2.1,e.2.2],.swap ..⟩
 |trans _ _ ih1 Tz =>
  intro m e
  obtain⟨m',e1,p1⟩:=Tz e
  obtain⟨m2,e2,p2⟩:=ih1 e1
  exact⟨m2,e2,p2.trans p1⟩
theorem wA(xs:Array α)(p:Nat)(x:α):(insertAt xs p x).toList=xs.toList.take p++x :: xs.toList.drop p:=by
 unfold insertAt
 simp
 rw[O_ (by simp)]
theorem q_(hz:(order.filterMap fun i=>es[i]?).size=es.size)
  (h:Q (order.filterMap fun i=>es[i]?,t) s):wpAny (model prog w) A (Ek es (some (t,order))) Q E s:=by
 show wpAny _ _ (if ((order.filterMap fun i=>es[i]?).size != es.size)=true then (do unsupported "internal:set-table-lost-an-element";pure (order.filterMap fun i=>es[i]?,t)) else pure (order.filterMap fun i=>es[i]?,t)) _ _ _
 rw[if_neg (by simp[hz])]
 exact aS h
section
variable {prog:Program}{w:World}{K:Type}[DecidableEq K]{knd:KeyKind prog w K}{A:Around}{E:Value->Shared->Prop}{s:Shared}
theorem IsTupleKey.fh(hk:IsTupleKey knd h k a)(e:∀ o,h.get? a=some o->h'.get? a=some o):IsTupleKey knd h' k a:=by
 obtain⟨o,items,n,ho,r⟩:=hk
 exact⟨o,items,n,e o ho,r⟩
theorem Kb.ne(S:Kb knd h a ks)(hx:IsTupleKey knd h k x):x≠a:=by
 obtain⟨⟨o,es,ep,t,ho,hex,_⟩,_,_⟩:=S
 obtain⟨o',items,n,nh,hc,_⟩:=hx
 intro z
 subst z
 rw[ho] at nh
 cases nh
 rw[hex.1] at hc
 exact absurd hc (by decide)
theorem HH(S:Kb knd s.heap a ks)(hx:IsTupleKey knd s.heap k x)(hz:ks.length<1000)(hu:A.units<cLine)(AX:∀ k v,knd.is k v=true->v.scannable=true)
  (h:∀ (b:Bool) (h':Heap) (fq:List (List K × Addr)),Heap.SameBut a s.heap h'->Kb knd h' a fq->(k∈ks.map (·.1)/\fq=ks\/k∉ks.map (·.1)/\fq.Perm ((k,x) :: ks))->Q b { s with heap:=h' }) :
  wpAny (model prog w) A (setAddHashed a (.ref x) (a_ knd k)) Q E s:=by
 obtain⟨⟨o,es,ep,t,ho,hex,hd,T,hM,hL,he⟩,nd,is⟩:=id S
 have hlen:es.size=ks.length:=by
  have:=congrArg List.length he
  simpa using this
 obtain⟨m,hm,_⟩:=T.pw
 obtain⟨e0,he0,hf0⟩:=T.free
 obtain⟨nf,n1,n2,n3⟩:=wM hm (a_ knd k) (taken t.place) he0 hf0
 unfold setAddHashed setAddHashedIn
 refine wpAny_holding (ai (wpAny_setState_of ho hd T.fits ?_))
 dsimp only
 have hbs:byScan (.ref x) es=false:=by simp[byScan,Value.scannable]
 rw[hbs]
 simp only[gE,if_false]
 refine ai ?_
 unfold setSearch
 refine qJ hu ho hd T he is hx (fun aC=>?_) nf n1 n2 n3 (fun mG=>?_) 100000 0 none rfl (eK _) (by lia) fun q hq=>absurd hq (D5 q)
 ·dsimp only
  refine aS ?_
  have e:s={ s with heap:=s.heap }:=by cases s;rfl
  rw[e]
  exact h _ _ ks (Heap.SameBut.refl a s.heap) S (.inl ⟨aC,rfl⟩)
 ·dsimp only
  generalize hj:J t.mask (a_ knd k) nf=j at n2 ⊢
  have hjm:j<=t.mask:=by rw[<- hj];exact TY ..
  have hre:Reach t.mask t.place (a_ knd k) j:=⟨nf,n1,hj,n3⟩
  refine ai (wpAny_setState_of ho hd T.fits ?_)
  dsimp only
  have eN':t.put j=({ t with place:=insertAt t.place (below t.place j) j,dummies:=#[] },below t.place j):=by
   unfold SetTable.put
   have:has t.dummies j=false:=by rw[T.dm];rfl
   simp only[this,gE,if_false]
   rw[T.dm]
  rw[eN']
  dsimp only
  have aC:(insertAt es (below t.place j) (a_ knd k,.ref x)).toList=(ks.take (below t.place j)++(k,x) :: ks.drop (below t.place j)).map (Bj knd):=by
   rw[wA,he,sR,fN,List.map_take,List.map_drop];rfl
  have Ki:(ks.take (below t.place j)++(k,x) :: ks.drop (below t.place j)).Perm ((k,x) :: ks):=by
   refine List.perm_middle.trans ?_
   rw[Pa]
  have E7:below t.place j<=es.size:=by rw[<- T.sz];exact(bJ T.up j).1
  have zD:(insertAt es (below t.place j) (a_ knd k,Value.ref x)).size=es.size+1:=dD _ _ E7
  have hxa:=S.ne hx
  have Ye:∀ h',Heap.SameBut a s.heap h'->∀ fq:List (List K × Addr),fq.Perm ((k,x) :: ks)->∀ p∈fq,IsTupleKey knd h' p.1 p.2:=fun h' sb fq pm p hp=>by
   have:IsTupleKey knd s.heap p.1 p.2:=by
    rcases dv.mp (pm.mem_iff.mp hp) with rfl|hp
    ·exact hx
    ·exact is p hp
   exact IsTupleKey.fh this fun o' nh=>sb.extBut _ _ (S.ne this) nh
  have Yf:∀ fq:List (List K × Addr),fq.Perm ((k,x) :: ks)->(fq.map (·.1)).Nodup:=fun fq pm=>by
   rw[(pm.map _).nodup_iff,fN,js]
   exact⟨mG,nd⟩
  -- behind the flag
  have main:∀ pl:Bool,wpAny (model prog w) A (do
    storeSet a (insertAt es (below t.place j) (a_ knd k,.ref x)) { t with place:=insertAt t.place (below t.place j) j,dummies:=#[],plain:=pl }
    if (!false && ({ t with place:=insertAt t.place (below t.place j) j,dummies:=#[],plain:=pl }:SetTable).tooFull)=true then do
      setRelay a (grown (es.size+1))
      pure true
     else pure true) Q E s:=fun pl=>by
   generalize Ou:({ t with place:=insertAt t.place (below t.place j) j,dummies:=#[],plain:=pl }:SetTable)=t'
   have tm:t'.mask=t.mask:=by rw[<- Ou]
   have tp:t'.place=insertAt t.place (below t.place j) j:=by rw[<- Ou]
   have td:t'.dummies = #[]:=by rw[<- Ou]
   have Yg:t'.fill=es.size+1:=by
    unfold SetTable.fill
    rw[tp,td,dD _ _ (bJ T.up j).1,T.sz];simp
   refine ai (wpAny_storeSet_of ho hd ?_ (by rw[zD,sizeLine_eq];lia))
   have zv:(s.heap.update a (Obj.putSet (insertAt es (below t.place j) (a_ knd k,.ref x)) t')).get? a=some { o with data:=.set (insertAt es (below t.place j) (a_ knd k,.ref x)) (ep+1) t' }:=by
    have:=D4 (Obj.putSet (insertAt es (below t.place j) (a_ knd k,.ref x)) t') ho (by rw[putSet_of _ _ hd];rfl)
    rw[putSet_of _ _ hd] at this;exact this
   have yn:=Heap.SameBut.update s.heap a (Obj.putSet (insertAt es (below t.place j) (a_ knd k,.ref x)) t')
   by_cases c:t'.tooFull=true
   ·rw[if_pos (by rw[c];rfl)]
    have XM:t'.fits (insertAt es (below t.place j) (a_ knd k,Value.ref x)).size=true:=by
     have:=T.few
     simp only[SetTable.fits,Yg,mw,beq_iff_eq,decide_eq_true_eq]
     rw[tp,dD _ _ (bJ T.up j).1,zD,T.sz,tm]
     exact⟨rfl,by lia⟩
    obtain⟨t2,order,r1,r2,r3,r4,r5,r6,r7,r8,_⟩:=xF (t:=t') (es:=insertAt es (below t.place j) (a_ knd k,Value.ref x)) (by lia)
    rw[zD] at r1 r4
    unfold setRelay
    refine ai (ai (wpAny_setState_of zv rfl XM ?_))
    dsimp only
    rw[if_neg (by rw[sizeLine_eq];lia)]
    refine ai ?_
    rw[r1]
    obtain⟨fq,ek,pk⟩:=jA r8 aC
    refine q_ r7 ?_
    dsimp only
    refine wpAny_storeSet_of zv rfl ?_ (by rw[r7,zD,sizeLine_eq];lia)
    refine aS ?_
    have Kj:=yn.trans (Heap.SameBut.update _ a (Obj.putSet (order.filterMap fun i=>(insertAt es (below t.place j) (a_ knd k,Value.ref x))[i]?) t2))
    have qa:=D4 (Obj.putSet (order.filterMap fun i=>(insertAt es (below t.place j) (a_ knd k,Value.ref x))[i]?) t2) zv (by rw[putSet_of _ _ rfl];rfl)
    rw[putSet_of _ _ rfl] at qa
    exact h true _ fq Kj ⟨⟨_,_,_,_,qa,hex,rfl,r6,r5 (by lia),by rw[r3,<- Ou];exact hL,ek⟩,Yf fq (pk.trans Ki),Ye _ Kj fq (pk.trans Ki)⟩ (.inr ⟨mG,pk.trans Ki⟩)
   ·rw[if_neg (by simpa using c)]
    refine aS ?_
    have sj:(es.size+1)*5<t.mask*3:=by
     unfold SetTable.tooFull at c
     rw[Yg,tm] at c
     simpa using c
    exact h true _ _ yn ⟨⟨_,_,_,_,zv,hex,rfl,T.put hjm n2 hre tm tp td sj,by rw[tm];exact hM,by rw[<- Ou];exact hL,aC⟩,Yf _ Ki,Ye _ yn _ Ki⟩ (.inr ⟨mG,Ki⟩)
  split
  ·refine ai (ji hx AX fun b=>?_)
   cases b with
   |true=>exact main t.plain
   |false=>exact main false
  ·exact ai (aS (main t.plain))
end
end TS
namespace TS
open PySem PySem.SetTable PyProof.Rows
section
variable {prog:Program}{w:World}{A:Around}{R:Result->Shared->Prop}{I:Addr}{fp wr:List Addr}{n:Nat}{P:Nat->Value->Prop}{St:Nat->Heap->Prop}
theorem Bf(W:Walks prog w A.in1 I fp wr n P St)(S:Addr)(E8:S∉fp)(SI:Nat->Heap->Prop)(keep:∀ i h h',SI i h->(∀ b o,b∉wr->h.get? b=some o->h'.get? b=some o)->SI i h')
  (step:∀ (i:Nat) (v:Value) (s':Shared) (E':Value->Shared->Prop) (Q:Bool->Shared->Prop),P i v->SI i s'.heap->(∀ b h' tk,Heap.SameBut S s'.heap h'->SI (i+1) h'->Q b { s' with heap:=h',toks:=tk })->wpAny (model prog w) A.in1 (setAdd S v) Q E' s') :
  ∀ (k i:Nat) (s:Shared),n-i=k->i<=n->St i s.heap->SI i s.heap ->
   (∀ h' tk,SI n h'->(∀ b o,b∉wr->b≠S->s.heap.get? b=some o->h'.get? b=some o)->R (.ok (.ret .none)) { s with heap:=h',toks:=tk }) ->
   codeAny (model prog w) A (.builtin "set.update.loop" ⟨[.ref S,.ref I],[]⟩) R s:=by
 have hSw:S∉wr:=fun h=>E8 (W.sub _ h)
 intro k
 induction k with
 |zero =>
  intro i s hk hi pV hS hR
  have aC:i=n:=by lia
  subst aC
  refine codeAny_builtin F.entry_set_update_loop ?_
  rw[Around.under_plainId F.plain_set_update_loop _]
  show wpAny _ A.in1 (pyNext (.ref I) >>= _) _ _ s
  refine ai (W.done s _ _ pV fun h' tk jS=>?_)
  show wpAny _ A.in1 (ret Value.none) _ _ _
  exact aS (hR h' tk (keep _ _ _ hS jS) fun b o hb _ e=>jS b o hb e)
 |succ k ih =>
  intro i s hk hi pV hS hR
  have df:i<n:=by lia
  refine codeAny_builtin F.entry_set_update_loop ?_
  rw[Around.under_plainId F.plain_set_update_loop _]
  show wpAny _ A.in1 (pyNext (.ref I) >>= _) _ _ s
  refine ai (W.item i s _ _ df pV fun v h' tk hP eO' jS=>?_)
  show wpAny _ A.in1 (holding [v] (setAdd S v) >>= _) _ _ _
  refine ai (wpAny_holding (step i v _ _ _ hP (keep _ _ _ hS jS) fun b h2 Kk sb hS2=>?_))
  refine aS ⟨plainId_quiet F.plain_set_update_loop _,ih (i+1) _ (by lia) df (W.frame _ _ _ eO' fun b hb o e=>?_) hS2 fun h3 tk3 hS3 EZ=>?_⟩
  ·exact sb.extBut b o (fun z=>E8 (by rw[<- z];exact hb)) e
  ·exact hR h3 tk3 hS3 fun b o hb Ov e=>EZ b o hb Ov (sb.extBut b o Ov (jS b o hb e))
end
section
variable {prog:Program}{w:World}{A:Around}{E:Value->Shared->Prop}{s:Shared}
theorem yE(a:Value)
  (h:Q₁ (.ref s.heap.objs.size) { s with heap:=s.heap.push { cls:=.type "set",dict:=none,data:=.set #[] 0 (.fresh 0 0 (!w.params.followText "set-order")) } }) :
  codeAny (model prog w) A (.call (.builtin "set.__new__") ⟨[.type "set",a],[]⟩) (wants Q₁ E) s:=by
 refine codeAny_of_tree ?_
 show wpAny _ A.in1 (do checkBuiltinCall "set.__new__" ⟨[.type "set",a],[]⟩;again (.builtin "set.__new__" ⟨[.type "set",a],[]⟩)) _ _ s
 refine ai (wpAny_of_eq (F.newCall_set_1 a) (aS ⟨plainId_quiet F.plain_set_new _,codeAny_builtin F.entry_set_new ?_⟩))
 rw[Around.under_plainId F.plain_set_new _]
 unfold Builtin.«set.__new__» Builtin.Frozenset.newClass
 have Ow:=sub_set_self
 obtain⟨hp,g,d,tk,os⟩:=s
 dsimp only
 wp_walk
 refine wpAny_askSetting (aS ?_)
 dsimp only
 simp only[newObj]
 refine ai (wpAny_alloc (aS ?_))
 exact aS h
theorem rQ(hh:A.handled=none)(hl:s.heap.IsList l items)(SI:Nat->Heap->Prop)
  (h0:∀ h,h.get? s.heap.objs.size=some { cls:=.type "set",dict:=none,data:=.set #[] 0 (.fresh 0 0 (!w.params.followText "set-order")) }->(∀ b o,s.heap.get? b=some o->h.get? b=some o)->SI 0 h)
  (keep:∀ i h h',SI i h->(∀ b o,b<=s.heap.objs.size->h.get? b=some o->h'.get? b=some o)->SI i h')
  (step:∀ (i:Nat) (v:Value) (s':Shared) (E':Value->Shared->Prop) (Q:Bool->Shared->Prop),items[i]? = some v->SI i s'.heap->(∀ b h' tk,Heap.SameBut s.heap.objs.size s'.heap h'->SI (i+1) h'->Q b { s' with heap:=h',toks:=tk }) ->
   wpAny (model prog w) A.in1.in1.in1 (setAdd s.heap.objs.size v) Q E' s')
  (h:∀ (h':Heap) (tk:Nat),SI items.size h'->(∀ b o,b<s.heap.objs.size->s.heap.get? b=some o->h'.get? b=some o)->Q (.ref s.heap.objs.size) { s with heap:=h',toks:=tk }) :
  wpAny (model prog w) A (call (.type "set") [.ref l]) Q E s:=by
 obtain⟨c,tl,hV'⟩:=F.called_set.mro
 have hW':=F.called_set.made
 have Ow:=F.called_set.sub
 refine wpAny_call (codeAny_of_tree ?_)
 show wpAny _ _ (callAny (.type "set") _) _ _ _
 refine aS ⟨Code.quiet_builtin _ (by decide +kernel),codeAny_builtin F.entry_type_call ?_⟩
 rw[Around.under_plain (weight_type_call_type "set" [.ref l] []) rfl]
 have h1:=F.called_set.notType
 have h2:=F.called_set.canCreate
 have hct:=F.typeCall_set_1 (.ref l)
 repeat (any_goals (first|assumption|wp_step))
 refine codeAny_mono (yE (.ref l) (E:=E) (Q₁:=fun obj eJ=>obj=.ref s.heap.objs.size/\eJ={ s with heap:=s.heap.push { cls:=.type "set",dict:=none,data:=.set #[] 0 (.fresh 0 0 (!w.params.followText "set-order")) } }) ⟨rfl,rfl⟩) fun r eJ hr=>?_
 cases r with
 |error e=>exact hr
 |ok fl =>
  cases fl with
  |ret obj =>
   obtain⟨rfl,rfl⟩:=hr
   generalize hY':(!w.params.followText "set-order")=led at h0 ⊢
   have hS:(s.heap.push { cls:=.type "set",dict:=none,data:=.set #[] 0 (.fresh 0 0 led) }).get? s.heap.objs.size=some { cls:=.type "set",dict:=none,data:=.set #[] 0 (.fresh 0 0 led) }:=jv _ rfl
   have hT:Shared.TypeIs { s with heap:=s.heap.push { cls:=.type "set",dict:=none,data:=.set #[] 0 (.fresh 0 0 led) } } (.ref s.heap.objs.size) "set" := ⟨_,hS,rfl⟩
   have QX:=F.called_set.init.lookup
   have hbi:=F.called_set.init.bind (.ref s.heap.objs.size)
   repeat (any_goals (first|assumption|wp_step))
   refine codeAny_mono (codeAny_call_builtin (R:=wants (fun r ED=>r=.none/\∃ h' tk,ED={ s with heap:=h',toks:=tk }/\SI items.size h' /\
     (∀ b o,b<s.heap.objs.size->s.heap.get? b=some o->h'.get? b=some o)) E) F.called_set.init.plain F.entry_set_init (check_set_init_1 hT ?_)) fun eS' ED T5=>?_
   ·obtain⟨ol,Yh,EH,nl,Yi⟩:=hl
    obtain⟨ic',eT',ie',eU'⟩:=ol
    simp only at EH Yi
    subst EH;subst Yi
    have eV':(s.heap.push { cls:=.type "set",dict:=none,data:=.set #[] 0 (.fresh 0 0 led) }).get? l=some { cls:=.type "list",dict:=eT',data:=.seq items nl,slots:=eU' }:=eW _ Yh
    have ig':=F.sub_list_set
    have ih':=F.sub_list_frozenset
    have kz:(Value.type "list" == Value.type "dict")=false:=by decide
    have IE:(s.heap.push { cls:=.type "set",dict:=none,data:=.set #[] 0 (.fresh 0 0 led) }).IsList l items:=⟨_,eV',rfl,nl,rfl⟩
    unfold Builtin.«set.__init__» noKeywords Builtin.Frozenset.updateFrom
    generalize hPI:pyIter=PI
    wp_walk
    subst hPI
    refine wpAny_pyIter_list IE ?_
    refine ai (wpAny_runValue ?_)
    have Yj:l<s.heap.objs.size:=dQ Yh
    have hh3:A.in1.in1.in1.handled=none:=by simp[hh]
    have hsz:(s.heap.push { cls:=.type "set",dict:=none,data:=.set #[] 0 (.fresh 0 0 led) }).objs.size=s.heap.objs.size+1:=Heap.size_push ..
    have eY':l≠(s.heap.push { cls:=.type "set",dict:=none,data:=.set #[] 0 (.fresh 0 0 led) }).objs.size:=by
     rw[hsz];exact fo (ui Yj)
    have E8:s.heap.objs.size∉[(s.heap.push { cls:=.type "set",dict:=none,data:=.set #[] 0 (.fresh 0 0 led) }).objs.size,l]:=by
     rw[hsz];simp only[dv,kU,LJ,or_false,not_or]
     exact⟨fo (Nat.lt_succ_self _),LV Yj⟩
    refine Bf (Walks.list hh3 _ l eY' items) s.heap.objs.size E8 SI (fun i h h' hi hk=>keep i h h' hi fun b o hb e=>hk b o ?_ e) (fun i v s' E' Q' hP hi hq=>step i v s' E' Q' hP hi hq) (items.size-0) 0 _ (by lia) (eK _)
     ⟨⟨_,jv _ rfl,rfl,rfl⟩,(IE.push _)⟩ ?hS0 ?hR
    ·rw[hsz]
     simp only[dv,LJ,or_false]
     exact fo (FX hb)
    case hS0 =>
     exact h0 _ (eW _ hS) fun b o e=>eW _ (eW _ e)
    case hR =>
     intro h' Ox Oy jS
     show wpAny _ _ _ _ _ _
     refine aS ?_
     show wpAny _ _ (ret Value.none) _ _ _
     refine aS ⟨rfl,h',Ox,rfl,Oy,fun b o hb e=>?_⟩
     refine jS b o ?_ (fo hb) (eW _ (eW _ e))
     rw[hsz]
     simp only[dv,LJ,or_false]
     exact fo (ui hb)
   ·cases eS' with
    |error e=>exact T5
    |ok fa' =>
     cases fa' with
     |ret r =>
      obtain⟨rfl,h',tk,rfl,Oy,jS⟩:=T5
      repeat (any_goals (first|assumption|wp_step))
      exact h _ _ Oy jS
     |_=>exact T5.elim
  |_=>exact hr.elim
end
theorem rR:Manifest.owners.lookup (String.ofList ['r','o','t','a','r','e','t','i','_','t','e','s'].reverse)=some Manifest.sig_set_iterator:=by kernel_rfl
theorem bW:Slot "set_iterator" "__next__" "set_iterator.__next__" :=
 .of (owner := "set_iterator") (n := "__next__") (by rw[typeLookup_type,builtinLookup_eq_fast];kernel_rfl) (by decide +kernel) (by decide +kernel) (by decide +kernel)
  (by first|exact .inl (by decide +kernel)|exact .inr (by decide +kernel)) (by rw[isSubtype_type];kernel_rfl)
theorem nM:entryFor table "set_iterator.__next__" = some Builtin.«set_iterator.__next__» := entryFor_of_tree (by kernel_rfl)
theorem oM (a:Value):argsOk "set_iterator.__next__" ⟨[a],[]⟩:=by
 unfold argsOk;rw[signature?_of (id := "set_iterator.__next__") (n:=['_','_','t','x','e','n','_','_']) (o:=['r','o','t','a','r','e','t','i','_','t','e','s']) (by kernel_rfl) rR];kernel_rfl
theorem iC:Slot "set_iterator" "__iter__" "set_iterator.__iter__" :=
 .of (owner := "set_iterator") (n := "__iter__") (by rw[typeLookup_type,builtinLookup_eq_fast];kernel_rfl) (by decide +kernel) (by decide +kernel) (by decide +kernel)
  (by first|exact .inl (by decide +kernel)|exact .inr (by decide +kernel)) (by rw[isSubtype_type];kernel_rfl)
theorem nP:entryFor table "set.__iter__" = some Builtin.«frozenset.__iter__» :=
 entryFor_alias (id' := "frozenset.__iter__") (by kernel_rfl) rfl (by decide +kernel) (by kernel_rfl)
theorem jt:∀ (l:List α) (i:Nat) (h:i<l.length),(l[i] :: l.eraseIdx i).Perm l
 |x :: l,0,_=>.refl _
 |x :: l,i+1,h=>by
  have ih:=jt l i (by simpa using h)
  exact(List.Perm.swap _ _ _).trans (ih.cons x)
theorem yo(next:Nat->Nat):∀ (fuel k:Nat) (left:List α) (out:Array α),left.length=fuel->(pickOrder.go next fuel k left out).toList.Perm (out.toList++left)
 |0,k,left,out,h=>by
  have:left=[]:=O9.mp h
  subst this
  unfold pickOrder.go
  rw[pS]
 |fuel+1,k,left,out,h=>by
  unfold pickOrder.go
  have df:next k % left.length<left.length:=GH _ (by lia)
  rw[kS df]
  dsimp only
  refine(yo next fuel (k+1) _ _ (by rw[Pb];split<;>lia)).trans ?_
  rw[oj,xo]
  refine List.Perm.append_left _ ?_
  exact jt _ _ df
theorem kY(next:Nat->Nat)(xs:Array α):(pickOrder next xs).toList.Perm xs.toList:=by
 unfold pickOrder
 have:=yo next xs.size 0 xs.toList #[] (by simp)
 simpa using this
section
variable {prog:Program}{w:World}{A:Around}{E:Value->Shared->Prop}{s:Shared}
theorem qI(hn:n≠0)(h:∀ i d,i<n->Q i { s with drawn:=d }):wpAny M A (choose src n) Q E s:=fun Γ p _=>⟨hn,h _ _ (GH _ (Nat.pos_of_ne_zero hn))⟩
theorem Fq(n:Nat):∀ (xs:List α) (s:Shared) (Q:List α->Shared->Prop),xs.length=n->(∀ ys d,ys.Perm xs->Q ys { s with drawn:=d })->wpAny (model prog w) A (drawOrder n xs) Q E s:=by
 induction n with
 |zero =>
  intro xs s Q h q
  have:xs=[]:=O9.mp h
  subst this
  unfold drawOrder
  exact aS (q [] s.drawn (.refl _))
 |succ n ih =>
  intro xs s Q h q
  cases xs with
  |nil=>cases h
  |cons x xs =>
   unfold drawOrder
   refine ai (qI (by simp) fun i d hi=>?_)
   rw[kS hi]
   dsimp only
   refine ai (ih _ _ _ (by rw[Pb,if_pos hi];simp at h ⊢;lia) fun ys d' py=>?_)
   refine aS ?_
   exact q _ d' ((py.cons _).trans (jt _ _ hi))
def qB(h:Heap)(I:Addr)(first:Value)(i:Nat)(a:Addr)(n ep:Nat):Prop :=
 h.get? I=some { cls:=.type "set_iterator",dict:=none,data:=.fields #[first,.int i 0,.ref a,.int n 0,.int ep 0],slots:=#[] }
def Ap(h:Heap)(a:Addr)(es:Array (Int × Value))(ep:Nat)(t:SetTable):Prop:=∃ o,h.get? a=some o/\o.data=.set es ep t
variable {a I:Addr}{es:Array (Int × Value)}{ep:Nat}{t:SetTable}{first:Value}{i n:Nat}
theorem qB.typeIs (h:qB s.heap I first i a n ep):s.TypeIs (.ref I) "set_iterator" := ⟨_,h,rfl⟩
theorem yZ(hit:qB s.heap I first i a n ep)
  (h:wpAny (model prog w) A.in1 (Builtin.«set_iterator.__next__» ⟨[.ref I],[]⟩) (fun fin s'=>∃ v,fin=.done (.ret v)/\Q (some v) s') (fun e s'=>wpAny (model prog w) A (isInstance e (.type "StopIteration")) (fun b Ct=>b=true/\Q none Ct) E s') s) :
  wpAny (model prog w) A (pyNext (.ref I)) Q E s:=by
 unfold pyNext
 refine ai (wpAny_attempt (wpAny_callSpecial?_slot (name:=Str.ofString "__next__") hit.typeIs bW
  (wpAny_call_entry bW hit.typeIs nM ?_ (oM _))))
 refine sP h (fun fin s' ⟨v,e,q⟩=>⟨v,e,aS q⟩) fun e s' q=>?_
 refine ai (sP q (fun b Ct cS=>?_) fun _ _ x=>x)
 obtain⟨e,q⟩:=cS
 subst e
 rw[if_pos rfl]
 exact aS q
theorem wY{P:Fin->Shared->Prop}{Q:Option Value->Shared->Prop}(hh:A.handled=none)(hQ:∀ h',(∀ b o,s.heap.get? b=some o->h'.get? b=some o)->Q none { s with heap:=h' }) :
  wpAny (model prog w) A.in1 (newExc (.type "StopIteration") [] >>= fun e=>raiseNew e) P (fun e s'=>wpAny (model prog w) A (isInstance e (.type "StopIteration")) (fun b Ct=>b=true/\Q none Ct) E s') s:=by
 refine ai ?_
 simp only[newExc,newTuple]
 refine ai (wpAny_newObj_type ?_ (by size_fits))
 refine ai (m:=firstArgMember _ _) (wpAny_of_eq (a:=Value.none) (by first|rfl|(simp only[firstArgMember];rfl)) ?_)
 refine wpAny_newObj_type ?_ (by size_fits)
 simp only[raiseNew]
 refine ai (wpAny_handled ?_)
 rw[show A.in1.handled=none from hh]
 refine ai (aS (wpAny_throw ?_))
 refine wpAny_isInstance (T := "StopIteration") (b:=true) ⟨_,jv _ rfl,rfl⟩ isSubtype_stop ⟨rfl,?_⟩
 exact hQ _ fun b o e=>eW _ (eW _ e)
theorem iI{Q:Option Value->Shared->Prop}{slot:Nat}{r:Option (Value × Nat)}(hh:A.handled=none)(kz:a≠I)(hit:qB s.heap I (.int slot 0) i a es.size ep)(E9:Ap s.heap a es ep t)(hf:t.fits es.size=true)
  (hr:∀ (A':Around) (E':Value->Shared->Prop) (Q':Option (Value × Nat)->Shared->Prop),Q' r s->wpAny (model prog w) A' (setNext a slot i ep) Q' E' s)
  (h1:∀ x nx h',r=some (x,nx)->qB h' I (.int nx 0) (i+1) a es.size ep->Heap.SameBut I s.heap h'->Q (some x) { s with heap:=h' })
  (h2:∀ h',r=none->(∀ b o,b≠I->s.heap.get? b=some o->h'.get? b=some o)->Q none { s with heap:=h' }) :
  wpAny (model prog w) A (pyNext (.ref I)) Q E s:=by
 obtain⟨o,ho,hd⟩:=E9
 refine yZ hit ?_
 unfold Builtin.«set_iterator.__next__»
 refine ai (m:=slotArgs "__next__" 0 ⟨[.ref I],[]⟩) (wpAny_of_eq (a:=(.ref I,[])) rfl ?_)
 dsimp only
 refine ai (wpAny_fieldsOf hit rfl ?_)
 dsimp only
 refine ai (wpAny_setEntries_of ho hd hf ?_)
 rw[if_neg (by simp)]
 simp only[GN]
 refine ai (hr _ _ _ ?_)
 cases r with
 |some p =>
  obtain⟨x,nx⟩:=p
  dsimp only
  refine ai (wpAny_setField_rec hit (by simp) fun g1 e1 yn=>?_)
  refine ai (wpAny_setField_rec (s:={ s with heap:=g1 }) e1 (by simp) fun g2 e2 Kj=>?_)
  exact aS ⟨x,rfl,h1 x nx g2 rfl (by unfold qB;simpa[rawInt] using e2) (yn.trans Kj)⟩
 |none =>
  dsimp only
  refine ai (wpAny_setField_rec hit (by simp) fun g1 e1 yn=>?_)
  exact wY (s:={ s with heap:=g1 }) hh fun h' k=>h2 h' rfl fun b o hb e=>k b o (yn.extBut b o hb e)
theorem n6{Q:Option Value->Shared->Prop}{T:Addr}{ix:List Nat}{oT:Obj}{kT:Nat}(hh:A.handled=none)(hit:qB s.heap I (.ref T) i a es.size ep)(E9:Ap s.heap a es ep t)(hf:t.fits es.size=true)
  (hT:s.heap.get? T=some oT) (hTd:oT.data=.seq (ix.map fun(k:Nat)=>Value.int k 0).toArray kT)
  (h1:∀ k e h',ix[i]? = some k->es[k]? = some e->qB h' I (.ref T) (i+1) a es.size ep->Heap.SameBut I s.heap h'->Q (some e.2) { s with heap:=h' }) (xh:∀ k∈ix,k<es.size)
  (h2:∀ h',ix[i]? = none->(∀ b o,b≠I->s.heap.get? b=some o->h'.get? b=some o)->Q none { s with heap:=h' }) :
  wpAny (model prog w) A (pyNext (.ref I)) Q E s:=by
 obtain⟨o,ho,hd⟩:=E9
 refine yZ hit ?_
 unfold Builtin.«set_iterator.__next__»
 refine ai (m:=slotArgs "__next__" 0 ⟨[.ref I],[]⟩) (wpAny_of_eq (a:=(.ref I,[])) rfl ?_)
 dsimp only
 refine ai (wpAny_fieldsOf hit rfl ?_)
 dsimp only
 refine ai (wpAny_setEntries_of ho hd hf ?_)
 rw[if_neg (by simp)]
 refine ai (wpAny_seqItems hT hTd ?_)
 dsimp only
 simp only[GN,List.getElem?_toArray,kX]
 cases hk:ix[i]? with
 |some k =>
  dsimp only[Option.map]
  have kE:=xh k (nL hk)
  refine ai ?_
  unfold setNextDrawn
  refine ai (wpAny_setState_of ho hd hf ?_)
  dsimp only
  simp only[GN]
  rw[if_neg (by simp),xv kE]
  refine aS ?_
  refine ai (wpAny_setField_rec hit (by simp) fun g1 e1 yn=>?_)
  exact aS ⟨_,rfl,h1 k es[k] g1 hk (xv kE) (by unfold qB;simpa[rawInt] using e1) yn⟩
 |none =>
  dsimp only[Option.map]
  refine ai (wpAny_setField_rec hit (by simp) fun g1 e1 yn=>?_)
  refine ai (wpAny_setField_rec (s:={ s with heap:=g1 }) e1 (by simp) fun g2 e2 Kj=>?_)
  exact wY (s:={ s with heap:=g2 }) hh fun h' k=>h2 h' hk fun b o hb e=>k b o ((yn.trans Kj).extBut b o hb e)
theorem p_ (a:Value):argsOk "set_iterator.__iter__" ⟨[a],[]⟩:=by
 unfold argsOk;rw[signature?_of (id := "set_iterator.__iter__") (n:=['_','_','r','e','t','i','_','_']) (o:=['r','o','t','a','r','e','t','i','_','t','e','s']) (by kernel_rfl) rR];kernel_rfl
theorem mZ:entryFor table "set_iterator.__iter__" = some Builtin.«dict_keyiterator.__iter__» :=
 entryFor_alias (id' := "dict_keyiterator.__iter__") (by kernel_rfl) rfl (by decide +kernel) (by kernel_rfl)
theorem lR(hit:qB s.heap I first i a n ep)(h:Q (.ref I) s):wpAny (model prog w) A (pyIter (.ref I)) Q E s:=by
 refine wpAny_pyIter_slot hit.typeIs iC (wpAny_call_entry iC hit.typeIs mZ ?_ (p_ _))
 show wpAny _ _ (ret (.ref I)) _ _ s
 exact aS ⟨_,rfl, "set_iterator",_,hit.typeIs,bW.lookup,h⟩
theorem rW {slot:Nat} {Q:Option (Value × Nat)->Shared->Prop} (hb:w.params.followText "set-order" = true) (E9:Ap s.heap a es ep t) (hf:t.fits es.size=true)
  (h:Q (((pickOrder (w.params.setOrder a ep) es)[i]?).map fun e=>(e.2,slot)) s):wpAny (model prog w) A (setNext a slot i ep) Q E s:=by
 obtain⟨o,ho,hd⟩:=E9
 unfold setNext
 refine ai (wpAny_setState_of ho hd hf ?_)
 dsimp only
 unfold setsByText
 refine ai (ai (wpAny_askSetting (aS ?_)))
 dsimp only
 rw[if_pos (by exact hb),if_neg (by simp)]
 refine ai ?_
 unfold setWalk
 refine ai (wpAny_setState_of ho hd hf ?_)
 dsimp only
 unfold setsByText
 refine ai (ai (wpAny_askSetting (aS ?_)))
 dsimp only
 rw[if_pos (by exact hb)]
 refine ai (wpAny_askSetting (aS ?_))
 exact aS h
theorem nY {slot:Nat} {Q:Option (Value × Nat)->Shared->Prop} (hb:w.params.followText "set-order" = false) (hl:t.led=true) (Kx:(!t.plain && decide (es.size>1))=false) (E9:Ap s.heap a es ep t) (hf:t.fits es.size=true)
  (h:Q (match es[below t.place slot]?,t.place[below t.place slot]? with
  |some (_,x),some j=>some (x,j+1)
  |_,_=>none) s):wpAny (model prog w) A (setNext a slot i ep) Q E s:=by
 obtain⟨o,ho,hd⟩:=E9
 unfold setNext
 refine ai (wpAny_setState_of ho hd hf ?_)
 dsimp only
 unfold setsByText
 refine ai (ai (wpAny_askSetting (aS ?_)))
 dsimp only
 rw[if_neg (by rw[show(model prog w).w.params.followText "set-order" = false from hb];exact gy)]
 have e0:ph es t=(!t.plain && decide (es.size>1)):=rfl
 unfold ph at e0
 rw[e0,Kx,if_neg gy]
 refine ai (m:=Kl es t) ?_
 show wpAny _ _ (if (!t.led && !es.isEmpty)=true then unsupported "set:maker-not-led" else pure ()) _ _ s
 rw[if_neg (by rw[hl];simp)]
 exact aS (aS h)
def PV(ys:List (Int × Value))(i:Nat)(v:Value):Prop:=∃ e,ys[i]? = some e/\v=e.2
theorem qB.keep(x:qB h I first i a n ep)(e:∀ o,h.get? I=some o->h'.get? I=some o):qB h' I first i a n ep:=e _ x
theorem Ap.keep(x:Ap h a es ep t)(e:∀ o,h.get? a=some o->h'.get? a=some o):Ap h' a es ep t:=let ⟨o,ho,r⟩:=x;⟨o,e _ ho,r⟩
theorem xZ (hh:A.handled=none) (kz:a≠I) (hb:w.params.followText "set-order" = true) (hf:t.fits es.size=true) :
  Walks prog w A I [I,a] [I] es.size (PV (pickOrder (w.params.setOrder a ep) es).toList) (fun i h=>(∃ slot:Nat,qB h I (.int slot 0) i a es.size ep)/\Ap h a es ep t) where
 sub:=fun b hb=>by simp at hb;simp[hb]
 frame:=fun _ _ _ ⟨⟨sl,x⟩,y⟩ hk=>⟨⟨sl,x.keep fun o e=>hk I (by simp) o e⟩,y.keep fun o e=>hk a (by simp) o e⟩
 item:=fun i s Q E hi ⟨⟨sl,x⟩,y⟩ hQ=>by
  have hlen:(pickOrder (w.params.setOrder a ep) es).size=es.size:=by
   have:=(kY (w.params.setOrder a ep) es).length_eq
   simpa using this
  refine iI hh kz x y hf (r:=((pickOrder (w.params.setOrder a ep) es)[i]?).map fun e=>(e.2,sl)) (fun A' E' Q' q=>rW hb y hf q) (fun v nx h' e x' sb=>?_) fun h' e k=>?_
  ·rw[xv (by lia)] at e
   cases e
   exact hQ _ h' s.toks ⟨_,by rw[ly];exact xv (by lia),rfl⟩ ⟨⟨_,x'⟩,y.keep fun o e=>sb.extBut _ _ kz e⟩ fun b o hb e=>sb.extBut b o (fun h=>hb (by simp[h])) e
  ·rw[xv (by lia)] at e
   cases e
 done:=fun s Q E ⟨⟨sl,x⟩,y⟩ hQ=>by
  have hlen:(pickOrder (w.params.setOrder a ep) es).size=es.size:=by
   have:=(kY (w.params.setOrder a ep) es).length_eq
   simpa using this
  refine iI hh kz x y hf (r:=((pickOrder (w.params.setOrder a ep) es)[es.size]?).map fun e=>(e.2,sl)) (fun A' E' Q' q=>rW hb y hf q) (fun v nx h' e x' sb=>?_) fun h' e k=>?_
  ·rw[B4 (by lia)] at e
   cases e
  ·exact hQ h' s.toks fun b o hb e=>k b o (fun h=>hb (by simp[h])) e
 self:=fun _ _ _ _ ⟨⟨sl,x⟩,y⟩ hQ=>lR x hQ
def slotAt(t:SetTable):Nat->Nat
 |0=>0
 |i+1=>t.place.getD i 0+1
theorem jy(U:Up t.place)(h:i<=t.place.size):below t.place (slotAt t i)=i:=by
 cases i with
 |zero =>
  obtain⟨_,b,_⟩:=bJ U 0
  by_cases z:below t.place 0=0
  ·exact z
  ·exact absurd (b 0 (Nat.pos_of_ne_zero z)) (D5 _)
 |succ i=>exact wg U (by lia)
theorem wu (hh:A.handled=none) (kz:a≠I) (hb:w.params.followText "set-order" = false) (hl:t.led=true) (Kx:(!t.plain && decide (es.size>1))=false) (U:Up t.place) (hz:t.place.size=es.size) (hf:t.fits es.size=true) :
  Walks prog w A I [I,a] [I] es.size (PV es.toList) (fun i h=>qB h I (.int (slotAt t i:Nat) 0) i a es.size ep/\Ap h a es ep t) where
 sub:=fun b hb=>by simp at hb;simp[hb]
 frame:=fun _ _ _ ⟨x,y⟩ hk=>⟨x.keep fun o e=>hk I (by simp) o e,y.keep fun o e=>hk a (by simp) o e⟩
 item:=fun i s Q E hi ⟨x,y⟩ hQ=>by
  have E7:=jy (t:=t) U (i:=i) (by lia)
  have e1:es[below t.place (slotAt t i)]? = some es[i]:=by rw[E7];exact xv hi
  have e2:t.place[below t.place (slotAt t i)]? = some (t.place.getD i 0):=by rw[E7];exact za (by lia)
  refine iI hh kz x y hf (r:=some (es[i].2,t.place.getD i 0+1)) (fun A' E' Q' q=>nY hb hl Kx y hf (by rw[e1,e2];exact q)) (fun v nx h' e x' sb=>?_) fun h' e k=>nomatch e
  cases e
  exact hQ _ h' s.toks ⟨_,by rw[ly];exact xv hi,rfl⟩ ⟨x',y.keep fun o e=>sb.extBut _ _ kz e⟩ fun b o hb e=>sb.extBut b o (fun h=>hb (by simp[h])) e
 done:=fun s Q E ⟨x,y⟩ hQ=>by
  have E7:=jy (t:=t) U (i:=es.size) (by lia)
  have e1:es[below t.place (slotAt t es.size)]? = none:=by rw[E7];exact B4 (bX _)
  refine iI hh kz x y hf (r:=none) (fun A' E' Q' q=>nY hb hl Kx y hf (by rw[e1];exact q)) (fun v nx h' e x' sb=>nomatch e) fun h' e k=>?_
  exact hQ h' s.toks fun b o hb e=>k b o (fun h=>hb (by simp[h])) e
 self:=fun _ _ _ _ ⟨x,y⟩ hQ=>lR x hQ
theorem vW{T:Addr}{ix:List Nat}{kT:Nat}(hh:A.handled=none)(kz:a≠I)(hTI:T≠I)(hf:t.fits es.size=true)(hp:ix.Perm (List.range es.size)) :
  Walks prog w A I [I,a,T] [I] es.size (PV (ix.filterMap fun k=>es[k]?)) (fun i h=>qB h I (.ref T) i a es.size ep/\Ap h a es ep t/\∃ o,h.get? T=some o/\o.data=.seq (ix.map fun(k:Nat)=>Value.int k 0).toArray kT):=by
 have hlen:ix.length=es.size:=by simpa using hp.length_eq
 have xh:∀ k∈ix,k<es.size:=fun k hk=>oi.mp (hp.mem_iff.mp hk)
 obtain⟨f1,f2⟩:=vy (l:=ix) (f:=fun k=>es[k]?) fun k hk=>by simp[xh k hk]
 exact {
  sub:=fun b hb=>by simp at hb;simp[hb]
  frame:=fun _ _ _ ⟨x,y,o,z,zd⟩ hk=>⟨x.keep fun o e=>hk I (by simp) o e,y.keep fun o e=>hk a (by simp) o e,o,hk T (by simp) o z,zd⟩
  item:=fun i s Q E hi ⟨x,y,o,z,zd⟩ hQ=>by
   refine n6 hh x y hf z zd (fun k e h' e1 e2 x' sb=>?_) xh fun h' e k=>?_
   ·refine hQ _ h' s.toks ⟨e,by rw[f2,e1];exact e2,rfl⟩ ⟨x',y.keep fun o e=>sb.extBut _ _ kz e,o,sb.extBut _ _ hTI z,zd⟩ fun b o hb e=>sb.extBut b o (fun h=>hb (by simp[h])) e
   ·rw[kS (by lia)] at e;cases e
  done:=fun s Q E ⟨x,y,o,z,zd⟩ hQ=>by
   refine n6 hh x y hf z zd (fun k e h' e1 e2 x' sb=>?_) xh fun h' e k=>?_
   ·rw[ua (by lia)] at e1;cases e1
   ·exact hQ h' s.toks fun b o hb e=>k b o (fun h=>hb (by simp[h])) e
  self:=fun _ _ _ _ ⟨x,_⟩ hQ=>lR x hQ }
end
section
variable {prog:Program}{w:World}{A:Around}{E:Value->Shared->Prop}{s:Shared}{a:Addr}{o:Obj}{es:Array (Int × Value)}{ep:Nat}{t:SetTable}
theorem zX (hh:A.handled=none) (ho:s.heap.get? a=some o) (hex:o.ExactSet) (hd:o.data=.set es ep t) (hf:t.fits es.size=true) (U:Up t.place) (hz:t.place.size=es.size) (hl:t.led=(!w.params.followText "set-order")) (hn:es.size<=sizeLine)
  (h:∀ (I:Addr) (h2:Heap) d (fp:List Addr) (St:Nat->Heap->Prop) (ys:List (Int × Value)),(∀ b o,s.heap.get? b=some o->h2.get? b=some o)->s.heap.objs.size<=I->(∀ b∈fp,b=a\/s.heap.objs.size<=b)->ys.Perm es.toList ->
   Walks prog w A I fp [I] es.size (PV ys) St->St 0 h2->Q (.ref I) { s with heap:=h2,drawn:=d }):wpAny (model prog w) A (pyIter (.ref a)) Q E s:=by
 have hT:s.TypeIs (.ref a) "set" := ⟨o,ho,hex.1⟩
 have df:a<s.heap.objs.size:=dQ ho
 refine wpAny_pyIter_slot hT F.slot_set_iter (wpAny_call_entry F.slot_set_iter hT nP ?_ (F.args_set_iter_1 _))
 unfold Builtin.«frozenset.__iter__»
 refine ai (m:=Builtin.Frozenset.slot0 "__iter__" ⟨[.ref a],[]⟩) (wpAny_of_eq (a:=a) rfl ?_)
 refine ai ?_
 unfold Builtin.Frozenset.sizeOf
 refine ai (wpAny_setEntries_of ho hd hf (aS ?_))
 refine ai ?_
 unfold setDrawn
 refine ai (wpAny_setState_of ho hd hf ?_)
 dsimp only
 unfold setsByText
 refine ai (ai (wpAny_askSetting (aS ?_)))
 refine aS ?_
 have e0:ph es t=(!t.plain && decide (es.size>1)):=rfl
 unfold ph at e0
 rw[e0]
 show wpAny _ _ (if (!w.params.followText "set-order" && (!t.plain && decide (es.size>1)))=true then _ else _) _ _ s
 cases hb:w.params.followText "set-order" with
 |true =>
  rw[if_neg (by simp)]
  refine ai (aS ?_)
  refine ai (wpAny_setEpoch_of ho hd hf ?_)
  refine ai (wpAny_newObj_type ?_)
  refine aS ⟨_,rfl, "set_iterator",_,⟨_,jv _ rfl,rfl⟩,bW.lookup,?_⟩
  have nh:(s.heap.push { cls:=.type "set_iterator",data:=.fields #[rawInt 0,rawInt 0,.ref a,rawInt es.size,rawInt ep] }).get? a=some o:=eW _ ho
  exact h s.heap.objs.size _ s.drawn _ _ _ (fun b o e=>eW _ e) (bX _) (fun b hb=>by
   rcases dv.mp hb with rfl|hb
   ·exact .inr (bX _)
   ·exact .inl (kU.mp hb)) (kY _ _) (xZ (ep:=ep) hh (fo df) hb hf) ⟨⟨0,jv _ rfl⟩,o,nh,hd⟩
 |false =>
  cases Kx:(!t.plain && decide (es.size>1)) with
  |false =>
   rw[if_neg (by simp)]
   refine ai (aS ?_)
   refine ai (wpAny_setEpoch_of ho hd hf ?_)
   refine ai (wpAny_newObj_type ?_)
   refine aS ⟨_,rfl, "set_iterator",_,⟨_,jv _ rfl,rfl⟩,bW.lookup,?_⟩
   have nh:(s.heap.push { cls:=.type "set_iterator",data:=.fields #[rawInt 0,rawInt 0,.ref a,rawInt es.size,rawInt ep] }).get? a=some o:=eW _ ho
   exact h s.heap.objs.size _ s.drawn _ _ _ (fun b o e=>eW _ e) (bX _) (fun b hb=>by
    rcases dv.mp hb with rfl|hb
    ·exact .inr (bX _)
    ·exact .inl (kU.mp hb)) (.refl _) (wu (ep:=ep) hh (fo df) hb (by rw[hl,hb];rfl) Kx U hz hf) ⟨jv _ rfl,o,nh,hd⟩
  |true =>
   rw[if_pos (by simp)]
   refine ai (Fq es.size (List.range es.size) s _ (by simp) fun ix d hp=>?_)
   refine ai (wpAny_newObj_type ?_ ?hzz)
   case hzz =>
    have:=hp.length_eq
    rw[Ph] at this
    show(ix.map fun(i:Nat)=>rawInt i).toArray.size<=sizeLine
    rw[hG,b4,this];exact hn
   have zv:(s.heap.push { cls:=.type "tuple",data:=.seq (ix.map fun(i:Nat)=>rawInt i).toArray }).get? a=some o:=eW _ ho
   refine ai (wpAny_setEpoch_of zv hd hf ?_)
   refine ai (wpAny_newObj_type ?_)
   refine aS ⟨_,rfl, "set_iterator",_,⟨_,jv _ rfl,rfl⟩,bW.lookup,?_⟩
   have QY:(s.heap.push { cls:=.type "tuple",data:=.seq (ix.map fun(i:Nat)=>rawInt i).toArray }).objs.size=s.heap.objs.size+1:=Heap.size_push ..
   refine h (s.heap.push { cls:=.type "tuple",data:=.seq (ix.map fun(i:Nat)=>rawInt i).toArray }).objs.size _ d [(s.heap.push { cls:=.type "tuple",data:=.seq (ix.map fun(i:Nat)=>rawInt i).toArray }).objs.size,a,s.heap.objs.size] _ (ix.filterMap fun k=>es[k]?) (fun b o e=>eW _ (eW _ e)) (by rw[QY];exact Nat.le_succ _) (fun b hb=>?_) ?_
    (vW (ep:=ep) (kT:=0) (T:=s.heap.objs.size) (ix:=ix) (t:=t) hh (by rw[QY];exact fo (ui df)) (by rw[QY];exact fo (Nat.lt_succ_self _)) hf hp) ⟨jv _ rfl,⟨o,eW _ zv,hd⟩,_,eW _ (jv _ rfl),rfl⟩
   ·rcases dv.mp hb with rfl|hb
    ·exact .inr (by rw[QY];exact Nat.le_succ _)
    ·rcases dv.mp hb with rfl|hb
     ·exact .inl rfl
     ·rw[kU.mp hb];exact .inr (bX _)
   ·have:=hp.filterMap fun k=>es[k]?
    rw[u_] at this
    exact this
theorem BJ (hT:s.TypeIs (.ref a) "set") (h:Q false s):wpAny (model prog w) A (Builtin.List.listLengthHint (.ref a)) Q E s:=by
 unfold Builtin.List.listLengthHint
 refine ai (wpAny_specialOf hT PySem.F.slot_set_len.lookup ?_)
 generalize Yk:("set.__len__" : String)=id0
 wp_delta
 rw[show splitId id0=some ("set", "__len__") from by subst Yk;decide +kernel]
 subst Yk
 refine ai (wpAny_isInstance (T := "set") (b:=true) hT (by rw[isSubtype_type];kernel_rfl) ?_)
 refine wpAny_ite_split (fun Ot=>absurd Ot (by decide)) (fun _=>?_)
 refine wpAny_ite_split (fun _=>?_) (fun Ot=>absurd (by decide +kernel) Ot)
 refine ai (wpAny_typeOf hT ?_)
 exact aS h
theorem Fl {R:Result->Shared->Prop} (hh:A.handled=none) (ho:s.heap.get? a=some o) (hex:o.ExactSet) (hd:o.data=.set es ep t) (hf:t.fits es.size=true) (U:Up t.place) (hz:t.place.size=es.size) (hl:t.led=(!w.params.followText "set-order")) (hn:es.size<=sizeLine)
  (S:Addr) (Yl:S≠a) (res:Value) (c₀:Nat) (hS:s.heap.get? S=some { cls:=.type "list",data:=.seq #[] c₀ })
  (hR:∀ h' tk d ya c' ys,(∀ b o,b≠S->s.heap.get? b=some o->h'.get? b=some o)->h'.get? S=some { cls:=.type "list",dict:=none,data:=.seq ya c',slots:=#[] }->ys.Perm es.toList->ItemsOf (PV ys) ya es.size->R (.ok (.ret res)) { s with heap:=h',toks:=tk,drawn:=d }) :
  wpAny (model prog w) A.in1 (Builtin.List.listExtendWith (.ref S) (.ref a) res)
   (fun fin s'=>match fin with|.done f=>R (.ok f) s'|.again c'=>c'.quiet=true/\codeAny (model prog w) A c' R s') (fun e s'=>R (.error e) s') s:=by
 have hT:s.TypeIs (.ref a) "set" := ⟨o,ho,hex.1⟩
 have hSl:=dQ hS
 unfold Builtin.List.listExtendWith
 refine ai (wpAny_typeOf hT ?_)
 have h1:Builtin.List.listSameRef (.ref S) (.ref a)=false:=by simp[Builtin.List.listSameRef,Yl]
 simp only[h1,show(Value.type "set" == Value.type "list")=false by decide,show(Value.type "set" == Value.type "tuple")=false by decide,Bool.or_false,gE,if_false]
 refine ai (zX (A:=A.in1) hh ho hex hd hf U hz hl hn fun I h2 d fp St ys kp hI hfp hp W st=>?_)
 have E8:S∉fp:=fun hm=>by
  rcases hfp S hm with z|z
  ·exact Yl z
  ·exact absurd hSl (Nat.not_lt.mpr z)
 have key:∀ (h:Heap) (c₁ tk:Nat),St 0 h->(∀ b o,b≠S->s.heap.get? b=some o->h.get? b=some o) ->
   h.get? S=some { cls:=.type "list",data:=.seq #[] c₁ }->codeAny (model prog w) A (.builtin "list.extend.loop" ⟨[.ref S,.ref I,res],[]⟩) R { s with heap:=h,toks:=tk,drawn:=d }:=by
  intro h c₁ tk pV hk Oz
  refine codeAny_extend_loopS W.toS hn S E8 res es.size 0 _ #[] c₁ rfl (eK _) pV Oz (ItemsOf.nil _) fun s' ya c' hm Oy AY=>?_
  rw[Moved.eq_with hm]
  refine hR s'.heap s'.toks d ya c' ys (fun b o hb e=>hm.heap b o (fun NJ=>?_) (hk b o hb e)) Oy hp AY
  rcases dv.mp NJ with e'|NJ
  ·exact hb e'
  ·exact absurd (dQ e) (by rw[kU.mp NJ];exact Nat.not_lt.mpr hI)
 have Oz:h2.get? S=some { cls:=.type "list",data:=.seq #[] c₀ }:=kp _ _ hS
 refine ai (wpAny_holding (BJ (s:={ s with heap:=h2,drawn:=d }) ⟨o,kp _ _ ho,hex.1⟩ ?_))
 refine wpAny_ite_split (fun _=>?_) (fun _=>aS ⟨plainId_quiet PySem.F.plain_extend_loop _,key _ c₀ _ st (fun b o _ e=>kp b o e) Oz⟩)
 refine ai (wpAny_rule ?_)
 refine ai ?_
 show wpAny _ _ (updateSeq S (·.push .none) >>= fun _=>updateSeq S (·.pop)) _ _ _
 refine ai (wpAny_updateSeq Oz rfl ?_)
 have Ym:=D4 (Obj.mapSeq (·.push Value.none)) Oz rfl
 refine wpAny_updateSeq (hz:=by seq_fits) Ym rfl ?_
 have fi':=D4 (Obj.mapSeq (·.pop)) Ym rfl
 refine aS ⟨plainId_quiet PySem.F.plain_extend_loop _,key _ _ _ ?_ (fun b o hb e=>?_) fi'⟩
 ·refine W.frame 0 _ _ st fun b hb o e=>?_
  have Ov:b≠S:=fun h=>E8 (h ▸ hb)
  exact(LN _ _ (Ne.symm Ov)).trans ((LN _ _ (Ne.symm Ov)).trans e)
 ·exact(LN _ _ (Ne.symm hb)).trans ((LN _ _ (Ne.symm hb)).trans (kp _ _ e))
theorem vC(h:ItemsOf (PV ys) acc n)(hn:ys.length=n):acc.toList=ys.map (·.2):=by
 apply AH
 intro i
 rw[kX]
 by_cases hi:i<n
 ·have hX:i<acc.size:=by rw[h.1];exact hi
  have e1:acc[i]? = some acc[i]:=xv hX
  obtain⟨e,he,hv⟩:=h.2 i acc[i] e1
  rw[ly,e1,he,hv];rfl
 ·rw[ua (by rw[xA,h.1];lia),ua (by lia)];rfl
theorem jN {R:Result->Shared->Prop} (hh:A.handled=none) (ho:s.heap.get? a=some o) (hex:o.ExactSet) (hd:o.data=.set es ep t) (hf:t.fits es.size=true) (U:Up t.place) (hz:t.place.size=es.size) (hl:t.led=(!w.params.followText "set-order")) (hn:es.size<=sizeLine)
  (hR:∀ h' tk d ya c' ys,(∀ b o,s.heap.get? b=some o->h'.get? b=some o)->h'.get? s.heap.objs.size=some { cls:=.type "list",dict:=none,data:=.seq ya c',slots:=#[] }->ys.Perm es.toList->ItemsOf (PV ys) ya es.size->R (.ok (.ret (.ref s.heap.objs.size))) { s with heap:=h',toks:=tk,drawn:=d }) :
  codeAny (model prog w) A (.builtin "proto.collect" ⟨[.ref a],[]⟩) R s:=by
 have df:a<s.heap.objs.size:=dQ ho
 have hS:(s.heap.push { cls:=.type "list",data:=.seq ([]:List Value).toArray }).get? s.heap.objs.size=some { cls:=.type "list",data:=.seq ([]:List Value).toArray }:=jv _ rfl
 refine codeAny_builtin F.entry_proto_collect ?_
 rw[Around.under_plainId F.plain_proto_collect _]
 show wpAny _ A.in1 (newList [] >>= fun l=>again (.builtin "list.__iadd__" ⟨[l,.ref a],[]⟩)) _ _ s
 refine ai (wpAny_newObj_type ?_)
 refine aS ⟨plainId_quiet F.plain_list_iadd _,codeAny_builtin F.entry_list_iadd ?_⟩
 rw[Around.under_plainId F.plain_list_iadd _]
 show wpAny _ A.in1 (Builtin.List.listExtendWith (.ref s.heap.objs.size) (.ref a) (.ref s.heap.objs.size)) _ _ _
 exact Fl (R:=R) (s:={ s with heap:=s.heap.push { cls:=.type "list",data:=.seq ([]:List Value).toArray } }) hh (eW _ ho) hex hd hf U hz hl hn s.heap.objs.size (LV df) _ 0 hS fun h' tk d ya c' ys kp eo hp ia =>
  hR h' tk d ya c' ys (fun b o e=>kp b o (fo (dQ e)) (eW _ e)) eo hp ia
theorem tM (hh:A.handled=none) (ho:s.heap.get? a=some o) (hex:o.ExactSet) (hd:o.data=.set es ep t) (hf:t.fits es.size=true) (U:Up t.place) (hz:t.place.size=es.size) (hl:t.led=(!w.params.followText "set-order")) (hn:es.size<=sizeLine)
  (hQ:∀ h' tk d vs,(∀ b o,s.heap.get? b=some o->h'.get? b=some o)->s.heap.objs.size<=h'.objs.size->vs.Perm (es.toList.map (·.2))->Q vs { s with heap:=h',toks:=tk,drawn:=d }):wpAny (model prog w) A (collect (.ref a)) Q E s:=by
 unfold collect
 refine ai (wpAny_runValue (jN hh ho hex hd hf U hz hl hn fun h' tk d acc c ys kp eo hp ia=>?_))
 show wpAny _ A (load s.heap.objs.size >>= _) _ _ { s with heap:=h',toks:=tk,drawn:=d }
 refine ai (wpAny_load eo ?_)
 refine aS (hQ h' tk d _ kp (ll (dQ eo)) ?_)
 rw[vC ia (by rw[hp.length_eq];simp)]
 exact hp.map _
end
end TS
namespace x6
open PySem PyProof.Rows
section
variable {prog:Program}{w:World}{A:Around}{E:Value->Shared->Prop}{s:Shared}{κ:SortKind}{r:Value->Int}{P:Value->Prop}
theorem sH{R:List Value->Prop}
  (Tt:∀ (A':Around) (E':Value->Shared->Prop) (Q':List Value->Shared->Prop),A'.handled=A.handled->(∀ vs h1 tk d,R vs->(∀ b o,s.heap.get? b=some o->h1.get? b=some o)->s.heap.objs.size<=h1.objs.size->Q' vs { s with heap:=h1,toks:=tk,drawn:=d })->wpAny (model prog w) A' (collect v) Q' E' s)
  (hsz:∀ vs,R vs->vs.length<=sizeLine) (hP:∀ vs,R vs->∀ v∈vs,P v)
  (hk:∀ vs,R vs->2<=vs.length->∀ (A':Around) (E':Value->Shared->Prop) (s':Shared),(∀ b o,s.heap.get? b=some o->s'.heap.get? b=some o)->∀ (Q:SortKind->Shared->Prop),Q κ s'->wpAny (model prog w) A' (keyKind' vs.toArray) Q E' s')
  (C:∀ (s':Shared),(∀ b o,s.heap.get? b=some o->s'.heap.get? b=some o)->mE prog w A.in1.in1 s' κ r P)
  (h:∀ (vs:List Value) (h':Heap) (a:Addr) (out:List Value) (n tk:Nat) d,R vs->out.Perm vs->(out.Pairwise fun x y=>r x<=r y)->(∀ b o,s.heap.get? b=some o->h'.get? b=some o)->s.heap.objs.size<=a->h'.get? a=some (seqObj "list" out.toArray n)->Q (.ref a) { s with heap:=h',toks:=tk,drawn:=d }) :
  wpAny (model prog w) A (call (.builtin "sorted") [v]) Q E s:=by
 refine Calls.call_function_entry kind_sorted plain_sorted entry_sorted (args_sorted1 _) ?_
 unfold Builtin.«sorted»
 refine ai (m:=checkCount "sorted" 1 1 _) (aS ?_)
 refine ai (Tt _ _ _ rfl fun vs h1 tk d hR kp hz=>?_)
 have zD:=hsz vs hR
 refine ai (wpAny_newList ?_ (by simpa using zD))
 have wt:(h1.push (seqObj "list" vs.toArray 0)).get? h1.objs.size=some (seqObj "list" vs.toArray 0):=jv _ rfl
 have old:∀ b o,s.heap.get? b=some o->(dU (h1.push (seqObj "list" vs.toArray 0)) h1.objs.size vs).get? b=some o:=fun b o e=>by
  have df:b<h1.objs.size:=dQ (kp b o e)
  rw[ie (fo df) (by rw[size_push'];exact ui df)]
  exact eW _ (kp b o e)
 show wpAny _ _ _ _ _ { s with heap:=h1.push (seqObj "list" vs.toArray 0),toks:=tk,drawn:=d }
 refine ai (wpAny_holding (wpAny_call_entry slot_list_sort ⟨_,wt,rfl⟩ entry_list_sort (fX (r:=r) (s:={ s with heap:=h1.push (seqObj "list" vs.toArray 0),toks:=tk,drawn:=d }) wt zD (hP vs hR)
  (fun h2=>hk vs hR h2 _ _ _ old) (fun h2=>C _ old) fun out a1 a2=>⟨_,rfl,?_⟩) (args_list_sort _)))
 obtain⟨n,e⟩:=sortedHeap_at (out:=out) wt
 refine aS ⟨_,rfl,h vs _ h1.objs.size out.toList n tk d hR a1 a2 (fun b o e=>?_) hz (by rw[PB];exact e)⟩
 have df:b<h1.objs.size:=dQ (kp b o e)
 rw[sortedHeap_old (fo df) (by rw[size_push'];exact ui df)]
 exact eW _ (kp b o e)
end
end x6
namespace TS
open PySem PySem.SetTable PyProof.Rows
section
variable {prog:Program}{w:World}{K:Type}[DecidableEq K]{knd:KeyKind prog w K}{A:Around}{E:Value->Shared->Prop}{s:Shared}
theorem Bg(led:Bool):TI (α:=α) (SetTable.fresh 0 0 led) #[] :=
 ⟨⟨3,rfl,bX _⟩,rfl,fun i j h hj=>absurd hj (D5 _),fun i hi=>absurd hi (D5 _),rfl,(by show 0*5<7*3;decide),fun i h x e=>by simp at e⟩
theorem qM{l:Addr}{items:Array Value}{xs:List (List K × Addr)}{Q:Value->Shared->Prop}(hh:A.handled=none)(hu:A.units+8<cLine)(hl:s.heap.IsList l items)(hi:items.toList=xs.map fun p=>Value.ref p.2)
  (sL:∀ p∈xs,IsTupleKey knd s.heap p.1 p.2) (hz:xs.length<=1000) (AX:∀ k v,knd.is k v=true->v.scannable=true)
  (h:∀ h' tk ks,Kb knd h' s.heap.objs.size ks->(∀ k,k∈ks.map (·.1)↔k∈xs.map (·.1))->(∀ p∈ks,p∈xs)->(∀ b o,s.heap.get? b=some o->h'.get? b=some o)->Q (.ref s.heap.objs.size) { s with heap:=h',toks:=tk }) :
  wpAny (model prog w) A (call (.type "set") [.ref l]) Q E s:=by
 have lt:∀ p∈xs,p.2<s.heap.objs.size:=fun p hp=>by
  obtain⟨o,_,_,ho,_⟩:=sL p hp
  exact dQ ho
 refine rQ hh hl (fun i h=>∃ ks,Kb knd h s.heap.objs.size ks/\(∀ k,k∈ks.map (·.1)↔k∈(xs.take i).map (·.1))/\(∀ p∈ks,p∈xs)/\ks.length<=i/\∀ p∈xs,IsTupleKey knd h p.1 p.2) (fun h e k=>?_) (fun i h h' ⟨ks,S,m1,m2,m3,m4⟩ k=>?_) (fun i v s' E' Q' hv ⟨ks,S,m1,m2,m3,m4⟩ q=>?_) fun h' tk ⟨ks,S,m1,m2,m3,m4⟩ k=>?_
 ·exact⟨[],⟨⟨_,#[],0,_,e,⟨rfl,rfl,rfl⟩,rfl,Bg _,(by show 7<=8191;decide),rfl,rfl⟩,sT,fun p hp=>nomatch hp⟩,fun k=>by simp,(fun p hp=>nomatch hp),bX _,fun p hp=>IsTupleKey.fh (sL p hp) fun o ho=>k _ _ ho⟩
 ·obtain⟨⟨o,es,ep,t,ho,r⟩,nd,is⟩:=S
  exact⟨ks,⟨⟨o,es,ep,t,k _ _ (bX _) ho,r⟩,nd,fun p hp=>IsTupleKey.fh (is p hp) fun o ho=>k _ _ (ll (lt p (m2 p hp))) ho⟩,m1,m2,m3,fun p hp=>IsTupleKey.fh (m4 p hp) fun o ho=>k _ _ (ll (lt p hp)) ho⟩
 ·have DI:items.toList[i]? = some v:=by rw[ly];exact hv
  rw[hi,kX] at DI
  cases ex:xs[i]? with
  |none=>rw[ex] at DI;cases DI
  |some p =>
   rw[ex] at DI
   cases DI
   have hp:=nL ex
   have hil:i<xs.length:=(iL.mp ex).1
   have tk1:(xs.take (i+1)).map (·.1)=(xs.take i).map (·.1)++[p.1]:=by
    rw[D1,ex,sR];rfl
   unfold setAdd
   refine wpAny_holding (ai (wpAny_pyHash_tuple (by show A.units+3<cLine;lia) (m4 p hp) ?_))
   refine HH (s:={ s' with toks:=s'.toks+(p.1.length+1) }) S (m4 p hp) (by lia) (by show A.units+3<cLine;lia) AX fun b h' fq sb S' c=>?_
   refine q b h' _ sb ⟨fq,S',fun k=>?_,fun p' g7=>?_,?_,fun p' g7=>IsTupleKey.fh (m4 p' g7) fun o ho=>sb.extBut _ _ (fo (lt p' g7)) ho⟩
   ·rw[tk1,dP,kU,<- m1]
    rcases c with⟨c1,rfl⟩|⟨c1,c2⟩
    ·exact⟨.inl,fun z=>z.elim id fun e=>e ▸ c1⟩
    ·rw[(c2.map _).mem_iff,fN,dv]
     exact⟨fun z=>z.symm,fun z=>z.symm⟩
   ·rcases c with⟨c1,rfl⟩|⟨c1,c2⟩
    ·exact m2 p' g7
    ·rcases dv.mp (c2.mem_iff.mp g7) with rfl|z
     ·exact hp
     ·exact m2 p' z
   ·rcases c with⟨c1,rfl⟩|⟨c1,c2⟩
    ·exact Nat.le_succ_of_le ‹_›
    ·rw[c2.length_eq];simp;lia
 ·have e:items.size=xs.length:=by
   have:=congrArg List.length hi
   simpa using this
  rw[e,ub] at m1
  exact h h' tk ks S m1 m2 fun b o ho=>k b o (dQ ho) ho
end
end TS
namespace L2
open PySem PySem.Spec PyProof.Rows
section
variable {X:Cx}{pins:List (Addr × Obj)}{σ:St}{H:Hp}{s:Shared}
theorem Inv.drawn{d}(I:Inv X pins σ H s):Inv X pins σ H { s with drawn:=d }:=⟨I.ok,I.os,I.bare,I.base,I.loc,I.cell,I.free,I.uk,I.pin,I.bq,I.len⟩
theorem zO:∀ (k:Key) (v:Value),(kG prog w).is k v=true->v.scannable=true:=fun k v h=>by
 rcases xC h with⟨i,t,rfl,rfl⟩|⟨x,t,rfl,rfl⟩<;>rfl
def iR(K:PySem.W.Frag):V->Hp->VK->Prop:=fun x H Q=>match x with
 |.ref p=>∃ ys ks b0 sh,eL K H p ys/\ys.length<=1000/\cM H ys ks/\(∀ k∈ks,gL k=b0 :: sh) /\
   ∀ zs ms l,cM H zs ms->ms.Nodup->(∀ k,k∈ms↔k∈ks)->(ms.Pairwise fun a b=>fF b a=false)->H l=none->Q (.ref l) (upd H l (.lst zs))
 |_=>False
theorem cM.pairs(h:cM H ys ks)(hv:Vals ys vs):∃ xs:List (List Key × Addr),vs=xs.map (fun p=>Value.ref p.2)/\xs.map (·.1)=ks/\∀ p∈xs,H p.2=some (.tup (p.1.map kV)):=by
 induction ys generalizing ks vs with
 |nil=>exact⟨[],Paired.n0 hv,(show ks=[] from Paired.n0 h).symm,fun p hp=>nomatch hp⟩
 |cons y ys ih =>
  obtain⟨k,ks,rfl,⟨b,rfl,g⟩,t⟩:=Paired.c h
  obtain⟨v,vs,rfl,rfl,rs⟩:=Paired.c hv
  obtain⟨xs,e1,e2,e3⟩:=ih t rs
  refine⟨(k,b) :: xs,by rw[e1];rfl,by rw[<- e2];rfl,fun p hp=>?_⟩
  rcases dv.mp hp with rfl|hp
  ·exact g
  ·exact e3 p hp
end
section
variable {X:Cx}{e:Expr}{te:TE}{p p2 pos Fc:Pos}
theorem tY (hc:X.calm=true) (hu:X.A.units+64<cLine) (hg:Gl X "sorted") (hm:X.mg "sorted" = none) (T6:Gl X "set") (sA:X.mg "set" = none) (he:PE X e te)
  (hv:bootBuiltins "sorted" = some (.builtin "sorted")) (hv2:bootBuiltins "set" = some (.type "set"))
  (DC:starEach [e] X.env=(false,eval e X.env) :: starEach [] X.env:=by rfl)
  (hs:starEach [.Call (.Name "set" p2) [e] [] Fc] X.env=(false,eval (.Call (.Name "set" p2) [e] [] Fc) X.env) :: starEach [] X.env:=by rfl) :
  PE X (.Call (.Name "sorted" p) [.Call (.Name "set" p2) [e] [] Fc] [] pos) (V3 (iR X.K) te):=by
 intro pins s σ H Q I h
 refine wpAny_Call_Name_kw (GY I hg hm hv ?_ (by decide) (by decide))
 refine PyProof.Rows.callWith_builtin1 ?_ hs rfl
 rw[hs]
 refine Calls.spliced_cons ?_
 refine wpAny_Call_Name_kw (GY I T6 sA hv2 ?_ (by decide) (by decide))
 refine PyProof.Rows.callWith_type1 ?_ DC rfl
 rw[DC]
 refine Calls.spliced_cons (ck (he pins s σ H _ I h) fun u s1 cx=>L2.gu cx fun x H1 I1 r1 q1=>Calls.spliced_nil ?_)
 have q1:iR X.K x H1 Q:=q1
 obtain⟨a,rfl⟩:∃ a,x=.ref a:=by
  unfold iR at q1
  split at q1
  ·exact⟨_,rfl⟩
  ·exact q1.elim
 obtain⟨ys,ks,b0,sh,hl,QZ,ht,zi,q⟩:=q1
 cases r1
 obtain⟨vs,rv,pl,hz⟩:=I1.list hl
 obtain⟨xs,ex,ek,hx⟩:=ht.pairs rv
 have Q0:X.A.handled=none:=I1.ok.hd hc
 have hlen:xs.length=ys.length:=by rw[rv.length,ex,b4]
 have sL:∀ p∈xs,IsTupleKey (kG X.prog X.w) s1.heap p.1 p.2:=fun p hp=>by
  obtain⟨us,ru,o,e1,c1,n1,d1⟩:=I1.tup (hx p hp)
  exact⟨o,us.toArray,n1,e1,c1,d1,by simpa using SJ ru⟩
 refine TS.qM (knd:=kG X.prog X.w) Q0 (by lia) pl.isList (by simpa using ex) sL (by lia) zO fun h2 tk fq S m1 m2 kp=>?_
 refine Calls.spliced_nil ?_
 obtain⟨⟨o,es,ep,t,ho,hex,hd,T,hM,hL,JY⟩,nd,is⟩:=S
 have fm':es.toList.map (·.2)=fq.map fun p=>Value.ref p.2:=by rw[JY,fR];rfl
 have ii':fq.length<=1000:=by
  have:=TS.iK nd (m:=ks) fun k hk=>by rw[<- ek];exact(m1 k).mp hk
  rw[b4] at this
  have:ks.length=xs.length:=by rw[<- ek,b4]
  lia
 have fn':es.size=fq.length:=by
  have:=congrArg List.length JY
  simpa using this
 have fo':∀ p∈fq,p.1∈ks:=fun p hp=>by rw[<- ek];exact cK.mpr ⟨p,m2 p hp,rfl⟩
 have mem:∀ i7:List Value,i7.Perm (fq.map fun p=>Value.ref p.2)->∀ v∈i7,∃ b k,v=.ref b/\H1 b=some (.tup (k.map kV))/\k∈ks:=fun i7 pv v hv=>by
  obtain⟨p,hp,rfl⟩:=cK.mp (pv.mem_iff.mp hv)
  exact⟨p.2,p.1,rfl,hx p (m2 p hp),fo' p hp⟩
 have Yn:s1.heap.objs.size<=h2.objs.size:=ll (dQ ho)
 refine x6.sH (s:={ s1 with heap:=h2,toks:=tk }) (κ:=tuples' true) (R:=fun i7=>i7.Perm (fq.map fun p=>Value.ref p.2)) (r:=fun v=>II ks (nG H1 v)) (P:=fun v=>∃ b k,v=.ref b/\H1 b=some (.tup (k.map kV))/\gL k=b0 :: sh/\k∈ks)
  (fun A' E' Q' hA hQ=>TS.tM (s:={ s1 with heap:=h2,toks:=tk }) (hA.trans Q0) ho hex hd T.fits T.up T.sz hL (by rw[fn',sizeLine_eq];lia) fun h' Ox d i7 Fh Yo pv=>hQ i7 h' Ox d (by rw[<- fm'];exact pv) Fh Yo)
  (fun i7 pv=>by rw[pv.length_eq,b4,sizeLine_eq];lia) (fun i7 pv v hv=>?_) (fun i7 pv h2' A' E' s' Fh Q' q'=>?_) (fun s' Fh=>uD I1 fun b o e=>Fh b o (kp b o e)) fun i7 h' a' out n Ox d pv pm pw Fh ha eo=>?_
 ·obtain⟨b,k,e1,e2,e3⟩:=mem i7 pv v hv
  exact⟨b,k,e1,e2,zi k e3,e3⟩
 ·obtain⟨zs,z1,z2⟩:=cM.of (H:=H1) (ks:=ks) i7 (mem i7 pv)
  obtain⟨fs,f1,f2,f3⟩:=kat_tups I1 (s':=s') (fun b o e=>Fh b o (kp b o e)) z1 z2 fun k hk=>by
   obtain⟨v,hv,rfl⟩:=cK.mp hk
   obtain⟨b,k,rfl,e2,e3⟩:=mem i7 pv v hv
   rw[dh e2];exact zi k e3
  cases b0 with
  |true =>
   refine PySem.W.kat_kind (T:=.type "int") f1 (by lia) (fun f hf=>?_) (by decide) q'
   obtain⟨i,t,rfl⟩:=(f3 f hf).1 rfl
   exact .now
  |false =>
   refine PySem.W.kat_kind (T:=.type "str") f1 (by lia) (fun f hf=>?_) (by decide) q'
   obtain⟨i,t,rfl⟩:=(f3 f hf).2 rfl
   exact .now
 ·have OB:=pm.trans pv
  obtain⟨zs,z1,z2⟩:=cM.of (H:=H1) (ks:=ks) out fun v hv=>mem _ OB v hv
  have zl:=z2.length
  have ol:=OB.length_eq
  rw[b4] at ol
  have ekk:(fq.map fun p=>Value.ref p.2).map (nG H1)=fq.map (·.1):=by
   rw[fR]
   exact FL fun p hp=>dh (hx p (m2 p hp))
  have Q5:(out.map (nG H1)).Perm (fq.map (·.1)):=by rw[<- ekk];exact OB.map _
  refine⟨.ref a',_,(I1.laid (a:=a') (t':=Ox) (fun b o e=>Fh b o (kp b o e)) (iO Yn ha) (show fe X.prog X.w _ h' _ (.lst zs) from⟨by rw[sizeLine_eq];lia,out,n,z2,eo⟩)).drawn,rfl,
   q zs _ _ z1 (Q5.nodup_iff.mpr nd) (fun k=>by rw[Q5.mem_iff,m1,ek]) ?_ (I1.bq.fresh (iO Yn ha))⟩
  rw[pE]
  refine pw.imp_of_mem fun {x y} mx my hle=>?_
  obtain⟨b,k,rfl,hb,kk⟩:=mem _ OB x mx
  obtain⟨c,m,rfl,EA,km⟩:=mem _ OB y my
  rw[dh hb,dh EA] at *
  have:=yw (L:=ks) ((zi m km).trans (zi k kk).symm) km
  rw[<- this]
  exact decide_eq_false (by lia)
end
end L2
namespace TS
open PySem PySem.SetTable PyProof.Rows
end TS
namespace L2
open PySem PySem.Spec PyProof.Rows
end L2
namespace L2.Q
open PySem PySem.Spec PyProof.Rows
section
variable {X:Cx}{K:PySem.W.Frag}{e:Expr}{te:WE}{p p2 pos Fc:Pos}
theorem I_:bootBuiltins "set" = some (.type "set"):=by decide +kernel
def gB:W1:=fun _ x Q=>match x with
 |.list xs=>∃ (ks:List (List Key)) (sh:List Bool),xs=ks.map kc/\ks.length<=1000/\(∀ k∈ks,gL k=false :: sh)/\∀ ms:List (List Key),ms.Nodup->(∀ k,k∈ms↔k∈ks)->(ms.Pairwise fun a b=>fF b a=false)->Q (.ow true) (.list (ms.map kc))
 |_=>False
theorem tW:TB K (iR K) gB:=by
 intro Hs H m x v As Qd Qv w rx h f
 have r1:=rx.rep w
 cases r1 with
 |list z s q =>
  obtain⟨ks,sh,rfl,hz,hs,h⟩:=h
  obtain⟨ta,ok⟩:=DN q
  have hl:=q.length
  rw[b4] at hl
  refine⟨_,ks,false,sh,s,by lia,ta,hs,fun zs ms l tz nd mm pw Q6=>?_⟩
  have rr:=jV (K:=K) tz fun k hk=>ok k ((mm k).mp hk)
  have:ms.length<=ks.length:=TS.iK nd fun k hk=>(mm k).mp hk
  exact f.lst w (by rw[b4,sizeLine_eq];lia) rr (fY ms) (h ms nd mm pw) l Q6
 |_=>exact h.elim
theorem vV (hu:X.A.units+64<cLine) (hg:Gl X "sorted") (hm:X.mg "sorted" = none) (T6:Gl X "set") (sA:X.mg "set" = none) (he:QE X K e te) (hc:X.calm=true:=by rfl) (hK:X.K=K:=by rfl)
  (DC:starEach [e] X.env=(false,eval e X.env) :: starEach [] X.env:=by rfl)
  (hs:starEach [.Call (.Name "set" p2) [e] [] Fc] X.env=(false,eval (.Call (.Name "set" p2) [e] [] Fc) X.env) :: starEach [] X.env:=by rfl) :
  QE X K (.Call (.Name "sorted" p) [.Call (.Name "set" p2) [e] [] Fc] [] pos) (g9 gB te):=by
 subst hK
 refine PE.imp (tY hc hu hg hm T6 sA he fu I_ DC hs) fun σ H Qv cS=>?_
 obtain⟨Hs,ρ,ag,Q,sr,h,fin⟩:=cS
 exact⟨Hs,ρ,ag,_,sr,h,fun v H1 aE m x As g1 r1 f1 q1=>tW aE H1 m x v As Q Qv g1.wf r1 q1 (Fin.after fin g1)⟩
end
end L2.Q
namespace L2.Q.R
open PySem PySem.Spec PyProof.Rows L2.Q
section
variable {Q:Md->L2.Q.D->Prop}{m:Md}{xs:List L2.Q.D}
theorem GJ:gB m (.list xs) Q = ∃ (ks:List (List Key)) (sh:List Bool),xs=ks.map kc/\ks.length<=1000/\(∀ k∈ks,gL k=false :: sh)/\∀ ms:List (List Key),ms.Nodup->(∀ k,k∈ms↔k∈ks)->(ms.Pairwise fun a b=>fF b a=false)->Q (.ow true) (.list (ms.map kc)):=rfl
end
end L2.Q.R
namespace L2
open PySem PySem.Spec PyProof.Rows
end L2
namespace L2.Q
open PySem PySem.Spec PyProof.Rows
end L2.Q
namespace L2.Q.R
open PySem PySem.Spec PyProof.Rows L2.Q
end L2.Q.R
namespace L2.Q
open PySem PySem.Spec PyProof.Rows
def OD(m:Md)(d:D)(S:D->D->Prop)(O:D->D->Prop):Prop:=match m,d with
 |.sh,.tup [a,b]=>S a b
 |.ow true,.tup [a,b]=>a.flat=false/\b.flat=false/\O a b
 |_,_=>False
def GD(i j:Nat)(te:WE):WS:=fun E ρ=>te ρ fun m d=>OD m d (fun a b=>E.nx ((ρ.set i (some (.sh a))).set j (some (.sh b)))) fun a b=>E.nx ((ρ.set i (some (.ow true a))).set j (some (.ow true b)))
theorem Ez{X:Cx}{K:PySem.W.Frag}(hc:X.calm=true)(hN:X.N.Nodup)(hi:X.N[i]? = some x)(hx:Loc X.env.scope x)(hj:X.N[j]? = some y)(hy:Loc X.env.scope y)(he:QE X K e te)(hK:X.K=K:=by rfl)
  (hf:X.fn x=true\/X.env.scope.names.lookup x=some .local:=by first|exact .inl rfl|exact .inr rfl|assumption) (hf2:X.fn y=true\/X.env.scope.names.lookup y=some .local:=by first|exact .inl rfl|exact .inr rfl|assumption)
  (hn:(assignEach [.Name x p1,.Name y p2] X.env).length=2:=by rfl) (pV:(assignEach [.Name x p1,.Name y p2] X.env).findIdx? (·.1)=none:=by rfl)
  (hs:swapsWithSole [.Tuple [.Name x p1,.Name y p2] k p3] e pos.line X.env=pure false:=by rfl) (hw:swappedStores [.Tuple [.Name x p1,.Name y p2] k p3] e X.env=pure none:=by rfl)
  (h1:(assignEach [.Tuple [.Name x p1,.Name y p2] k p3] X.env).map (·.2)=[assign (.Tuple [.Name x p1,.Name y p2] k p3) X.env]:=by rfl) (h2:(assignEach [.Name x p1,.Name y p2] X.env).map (·.2)=assign (.Name x p1) X.env :: (assignEach [.Name y p2] X.env).map (·.2):=by rfl)
  (h3:(assignEach [.Name y p2] X.env).map (·.2)=assign (.Name y p2) X.env :: (assignEach [] X.env).map (·.2):=by rfl) :
  QS X K L (.Assign [.Tuple [.Name x p1,.Name y p2] k p3] e pos) (GD i j te):=by
 subst hK
 refine PS.imp (ak' he (VX hc (R4 (R3 hN hi hx hf) (R4 (R3 hN hj hy hf2) VW h3) h2) hn pV) hs hw h1) fun D σ H hx=>d_ hx fun Hs ρ ag E sr h k1 k2 k3 k4=>?_
 refine⟨Hs,ρ,ag,_,sr,h,fun v H1 aE m d As g1 r1 f1 q1=>?_⟩
 have Fm:=sr.grow g1
 unfold OD at q1
 split at q1
 ·rename_i a b
  obtain⟨_,r⟩:=r1
  cases r with
  |tup z e rs =>
   cases rs with
   |cons ra rs=>cases rs with
    |cons rb rs=>cases rs with
     |nil =>
      obtain⟨t1,m1,s1⟩:=Fm.DG i ra
      obtain⟨t2,m2,s2⟩:=s1.DG j rb
      exact⟨_,_,rfl,.inl (.inl (g1.wf.sub _ _ e)),rfl,_,_,rfl,_,_,rfl,rfl,k1 _ H1 aE _ t2 g1.sh s2 q1⟩
 ·rename_i a b
  obtain⟨fa,fb,q1⟩:=q1
  obtain⟨r,ne⟩:=r1
  cases r with
  |sh _ _=>exact absurd rfl ne
  |tup z e n rs =>
   cases rs with
   |@cons _ v1 _ _ A1 _ ra rs=>cases rs with
    |@cons _ v2 _ _ A2 _ rb rs=>cases rs with
     |nil =>
      obtain⟨nd,fr⟩:=f1
      rw[pS] at nd fr
      obtain⟨n1,n2,n3⟩:=iN.mp nd
      have dj:∀ c∈A1++A2,c∉ag:=fun c hc z=>(sr.sr.own c z).ne (fr c hc).2
      obtain⟨t1,a1,b1,c1⟩:=SR.xq (ra.ne fa) ra n1 i Fm.sr Fm.oQ fun c hc=>dj c (kF _ hc)
      obtain⟨t2,a2,b2,c2⟩:=SR.xq (rb.ne fb) rb n2 j c1 a1 fun c hc z=>by
       rcases b1 c z with w|w
       ·exact dj c (eT _ hc) w
       ·exact n3 c w c hc rfl
      refine⟨_,_,rfl,.inl (.inl (g1.wf.sub _ _ e)),rfl,_,_,rfl,_,_,rfl,rfl,k1 _ H1 aE _ t2 g1.sh ⟨c2,g1.wf,a2,fun c hc=>?_⟩ q1⟩
      rcases b2 c hc with w|w
      ·rcases b1 c w with w|w
       ·exact Fm.own c w
       ·exact(fr c (kF _ w)).1
      ·exact(fr c (eT _ w)).1
 ·exact q1.elim
end L2.Q
namespace L2.Q.R
open PySem PySem.Spec PyProof.Rows L2.Q
section
variable {E:mX}{ρ:Env}{te:WE}{i j:Nat}{x y:L2.Q.D}{S O:L2.Q.D->L2.Q.D->Prop}
theorem Mq:GD i j te E ρ=te ρ fun m d=>bP (m,d) (f:=fun p=>OD p.1 p.2 (fun a b=>E.nx ((ρ.set i (some (.sh a))).set j (some (.sh b)))) fun a b=>E.nx ((ρ.set i (some (.ow true a))).set j (some (.ow true b)))) ⟨⟩:=rfl
theorem KC:OD .sh (.tup [x,y]) S O=S x y:=rfl
theorem JL:OD (.ow true) (.tup [x,y]) S O=(x.flat=false/\y.flat=false/\O x y):=rfl
end
end L2.Q.R
namespace L2
open PySem PySem.Spec PyProof.Rows Builtin Builtin.Str Builtin.Int
end L2
namespace L2.Q
open PySem PySem.Spec PyProof.Rows
section
variable {X:Cx}{K:PySem.W.Frag}{a:Expr}{ta:WE}
def Q7(t:WE):WE:=fun ρ Q=>t ρ fun m d=>qy m/\Q .sh d
theorem Yp(h:QE X K a ta):QE X K a (Q7 ta):=by
 refine PE.imp h fun σ H Qv hx=>kL hx fun Hs ρ ag Q sr h fin=>?_
 refine⟨Hs,ρ,ag,_,sr,h,fun v H1 aE m d As g1 r1 f1 q1=>?_⟩
 obtain⟨nb,q⟩:=q1
 cases m with
 |sh=>exact fin v H1 aE .sh d As g1 r1 f1 q
 |bo=>exact nb.elim
 |ow fl =>
  obtain⟨r,ne⟩:=r1
  have hn:∀ a∈As,aE a=none:=fun a h=>(f1.2 a h).1
  have s:=i_ (H:=H1) hn
  refine fin v H1 (tJ aE H1 As) .sh d [] ⟨g1.all,g1.sh.trans s,zj g1.wf r.own,fun c hc=>?_⟩ ⟨rfl,r.rep s fun c hc=>by unfold tJ;rw[if_pos hc]⟩ ⟨sT,fun _ h=>A7 h⟩ q
  unfold tJ at hc
  split at hc
  ·rename_i m
   exact .inr (f1.2 c m).2
  ·exact g1.new c hc
def BD(ys:List D)(x:D):Bool:=ys.any fun z=>gS z x
def Q8(neg:Bool):W2:=fun _ x _ y Q=>∃ ys,(y=.list ys\/y=.tup ys)/\cv 12 x=true/\cv 12 y=true/\Q .sh (.bl (if neg then !BD ys x else BD ys x))
def T7(K:PySem.W.Frag)(neg:Bool):R2:=fun x y H Q=>∃ d e xs,L2.Rep K H d x/\L2.Rep K H e y/\(e=.list xs\/e=.tuple xs)/\d.canLay0=true/\PyData.canLayAll0 xs=true/\d.depth<=60/\Q (.bl (if neg then !(xs.any fun z=>PyData.eqv z d) else xs.any fun z=>PyData.eqv z d)) H
theorem xK(hu:X.A.units+64<cLine):cE X (compareOp .NotIn) (T7 X.K true):=by
 intro pins s σ H x y v u Q I rx ry h
 obtain⟨d,e,xs,h1,h2,h3,h4,h5,h6,q⟩:=h
 obtain⟨as,r1⟩:=h1.reads I rx
 obtain⟨bs,r2⟩:=h2.reads I ry
 rcases h3 with rfl|rfl
 ·exact PySem.SeqAt.notIn_list_reads r2 r1 h5 h4 (by lia) ⟨.bl _,H,I,rfl,q⟩
 ·exact PySem.SeqAt.notIn_tuple_reads r2 r1 h5 h4 (by lia) ⟨.bl _,H,I,rfl,q⟩
theorem Fy(hu:X.A.units+64<cLine)(hK:X.K=K:=by rfl):cE X (compareOp .NotIn) (T7 K true):=by subst hK;exact xK hu
theorem FW(ys:List D)(x:D):((mh ys).any fun z=>PyData.eqv z x.py)=BD ys x:=by
 induction ys with
 |nil=>rfl
 |cons y ys ih =>
  rw[mh,AK,ih]
  rfl
theorem Jf:kA K (T7 K neg) (Q8 neg):=by
 intro Hs H m x v As n y u Bs Qd Qv w rx ry h f
 obtain⟨ys,hy,o1,o2,q⟩:=h
 have l1:=jE 12 x o1
 have l2:=jE 12 y o2
 refine⟨x.py,y.py,mh ys,(rx.rep w).l2 o1,(ry.rep w).l2 o2,?_,l1.1,?_,by lia,?_⟩
 ·rcases hy with rfl|rfl
  ·exact .inl rfl
  ·exact .inr rfl
 ·rcases hy with rfl|rfl
  ·exact l2.1
  ·exact l2.1
 ·rw[FW]
  exact f.sh w (.bl _) q
def Fn(o:Option (Option Sl))(k:List D->Prop):Prop:=match o with
 |some (some (.ow true (.list xs)))=>k xs
 |_=>False
def intD(y:D)(k:Int->Prop):Prop:=match y with
 |.int i=>k i
 |_=>False
def OG(d:D):Md:=bif d.flat then .sh else .ow true
end
end L2.Q
namespace L2.Q.R
open PySem PySem.Spec PyProof.Rows L2.Q
section
variable {ρ:Env}{te:WE}{m m':Md}{x:L2.Q.D}{ys:List L2.Q.D}{Q:Md->L2.Q.D->Prop}
theorem Mz:Fn (some (some (.ow true (.list ys)))) k=k ys:=rfl
theorem KY:intD (.int i) k=k i:=rfl
theorem fr':Q7 te ρ Q=te ρ fun m d=>qy m/\Q .sh d:=rfl
theorem Ls:Q8 neg m x m' (.list ys) Q=(cv 12 x=true/\cv 12 (.list ys)=true/\Q .sh (.bl (if neg then !BD ys x else BD ys x))):=by
 apply propext
 exact⟨fun⟨zs,h,a,b,c⟩=>by rcases h with h|h<;>cases h;exact⟨a,b,c⟩,fun⟨a,b,c⟩=>⟨ys,.inl rfl,a,b,c⟩⟩
theorem Mj:Q8 neg m x m' (.tup ys) Q=(cv 12 x=true/\cv 12 (.tup ys)=true/\Q .sh (.bl (if neg then !BD ys x else BD ys x))):=by
 apply propext
 exact⟨fun⟨zs,h,a,b,c⟩=>by rcases h with h|h<;>cases h;exact⟨a,b,c⟩,fun⟨a,b,c⟩=>⟨ys,.inr rfl,a,b,c⟩⟩
end
end L2.Q.R
namespace L2
open PySem PySem.Spec PyProof.Rows
section
variable {prog:Program}{w:World}{A:Around}{E:Value->Shared->Prop}{s:Shared}
theorem En{κ:Type}[DecidableEq κ]{kd:HeapKind prog w κ}{d b:Addr}{xs:List (κ × Addr × Value)}{k:κ}{r:Value}{Q:Value->Shared->Prop}(hu:kd.room A)(hk:kd.is s.heap k b)(hm:s.heap.DictOfH kd d xs)(hz:xs.length<=sizeLine)
  (h1:∀ p,atKey xs k=some p->Q p.2 { s with toks:=s.toks+kd.draws k })
  (h2:atKey xs k=none->∀ h',h'.DictOfH kd d (storedH xs k b r)->Heap.SameBut d s.heap h'->Q r { s with heap:=h',toks:=s.toks+kd.draws k }):wpAny (model prog w) A (dictSetDefault d (.ref b) r) Q E s:=by
 obtain⟨o,es,ep,ho,hc,hd,he,sL,hn⟩:=hm
 unfold dictSetDefault
 try with_reducible refine wpAny_holding ?_
 refine ai (kd.pyHash hu hk (ai (wpAny_dictFind_heap (s:={ s with toks:=s.toks+kd.draws k }) hu hk ho hd he sL hn (fun no=>?_) fun j p hj=>?_)))
 ·have nk:=atKey_none_of_get no
  refine ai (wpAny_rule (ai (wpAny_updateDictKeys (hz:=by have e:=size_of_entries he;lia) (s:={ s with toks:=s.toks+kd.draws k }) ho hd (aS (h2 nk _ ?_ (Heap.SameBut.update ..))))))
  rw[storedH_new nk]
  refine⟨_,_,ep+1,D4 _ ho (Obj.isFreed_of_dict (Obj.data_mapDictKeys hd _)),hc.mapDictKeys _,Obj.data_mapDictKeys hd _,by simp[he,entryOfKey],fun x hx=>?_,?_⟩
  ·rcases dP.mp hx with q|q
   ·exact kd.keeps (sL x q) ho hd (Heap.SameBut.update ..)
   ·obtain rfl:=kU.mp q
    exact kd.keeps hk ho hd (Heap.SameBut.update ..)
  ·rw[sR]
   refine iN.mpr ⟨hn,by simp,fun x hx y hy e=>?_⟩
   obtain rfl:y=k:=by simpa using hy
   exact not_mem_keys_of_get no (e ▸ hx)
 ·refine ai (wpAny_dictEntries (s:={ s with toks:=s.toks+kd.draws k }) ho hd ?_)
  rw[entry_at he j,hj]
  exact ai (wpAny_rule (aS (h1 _ (atKey_of_get hn hj))))
theorem Bl{κ:Type}[DecidableEq κ](kd:HeapKind prog w κ)(d b:Addr)(hd:(d == sysModules)=false)(r:Value) :
  MeetsIn prog w (Builtin.«dict.setdefault» ⟨[.ref d,.ref b,r],[]⟩) (fun A R s=>kd.room A.in1/\∃ k xs,kd.is s.heap k b/\s.heap.DictOfH kd d xs/\xs.length<=sizeLine /\
   (∀ p,atKey xs k=some p->R (.ok (.ret p.2)) { s with toks:=s.toks+kd.draws k }) /\
   (atKey xs k=none->∀ h',h'.DictOfH kd d (storedH xs k b r)->Heap.SameBut d s.heap h'->R (.ok (.ret r)) { s with heap:=h',toks:=s.toks+kd.draws k })) :=
 .of_wp fun A R s cS=>by
  obtain⟨hu,k,xs,hk,hm,hz,h1,h2⟩:=cS
  unfold Builtin.«dict.setdefault» Builtin.Dict.keyAndDefault
  refine ai (ai (wpAny_notOrdered_dict hm.typeIs ?_))
  refine(show wpAny _ _ (pure (d,Value.ref b,some r)) _ _ s from aS ?_)
  refine(show wpAny _ _ (if (d == sysModules)=true then _ else (dictSetDefault d (Value.ref b) r >>= _)) _ _ s from ?_)
  rw[if_neg (by rw[hd];decide)]
  exact ai (En hu hk hm hz (fun p q=>aS ⟨p.2,rfl,h1 p q⟩) fun q h' a c=>aS ⟨r,rfl,h2 q h' a c⟩)
end
section
variable {X:Cx}{pins:List (Addr × Obj)}{σ:St}{H:Hp}{s:Shared}{a b:Addr}{A:Around}{E:Value->Shared->Prop}
theorem Ab(hu:A.units+1<cLine)(I:Inv X pins σ H s)(e:H a=some (.dT kvs))(eb:H b=some (.tup (k.map kV)))(hl:kvs.length<sizeLine)(rv:RelV v r)
  (h1:∀ v' w' s',fP kvs k=some v'->Inv X pins σ H s'->RelV v' w'->Q w' s') (h2:fP kvs k=none->∀ s',Inv X pins σ (upd H a (.dT (putK kvs k v))) s'->Q r s') :
  wpAny (model X.prog X.w) A (call (.builtin "dict.setdefault") [.ref a,.ref b,r]) Q E s:=by
 obtain⟨z,hd,xs,rel,dd⟩:=SK I.bq e
 have hz:xs.length<=sizeLine:=by rw[<- Paired.length rel];exact z
 have hp:(putK kvs k v).length<=sizeLine:=by have:=SG kvs k v;lia
 have vl:=rel.val k
 refine call_meetsIn PySem.F.slot_dict_setdefault dd.typeIs PySem.F.entry_dict_setdefault (PySem.F.args_dict_setdefault_3 _ _ _) (Bl (tupleKind (kG X.prog X.w)) a b hd r) ⟨tupleKind_room_in1 hu,k,xs,CF I.bq eb,dd,hz,fun p g7=>?_,fun hn h' CL hs=>?_⟩
 ·rw[g7] at vl
  cases ev:fP kvs k with
  |none=>rw[ev] at vl;exact(vl:False).elim
  |some v'=>rw[ev] at vl;exact h1 v' _ _ ev (I.tok _) vl
 ·have ev:fP kvs k=none:=by
   rw[hn] at vl
   cases ev:fP kvs k with
   |none=>rfl
   |some v'=>rw[ev] at vl;exact(vl:False).elim
  refine h2 ev _ ?_
  obtain⟨q,es,ep,hq,g2,g3,g4,_,g5⟩:=CL
  refine Qc I (by rw[e];exact True.intro) hs ⟨q,hq⟩ ⟨hp,hd,_,(rel.put k eb rv).keeps fun c ys ec=>?_,q,es,ep,hq,g2,g3,g4,g5⟩
  rw[cf (RP ec e fun z=>nomatch z)]
  exact ec
end
def tSd(td ty tx:TE):TE:=fun σ H Q=>td σ H fun x H1=>∃ a,x=.ref a/\Qe H1 a/\ty σ H1 fun y H2=>tx σ H2 fun z H3=>∃ kvs k b,H3 a=some (.dT kvs)/\y=.ref b/\H3 b=some (.tup (k.map kV))/\kvs.length<sizeLine /\
 (∀ v,fP kvs k=some v->Q v H3)/\(fP kvs k=none->Q z (upd H3 a (.dT (putK kvs k z))))
theorem JD {X:Cx} (hu:X.A.units+1<cLine) (ho:PE X o td) (he:PE X e ty) (hf:PE X f tx) (m:M2 X o "setdefault" apos e f dS):PE X (.Call (.Attribute o "setdefault" apos) [e,f] [] dS) (tSd td ty tx):=by
 intro pins s σ H Q I h
 refine wpAny_Call_method m.base m.few m.line PySem.F.plainAttrs_dict PySem.F.slot_dict_setdefault PySem.F.type_dict_setdefault (ck (ho pins s σ H _ I h) fun u s1 cS=>?_)
 obtain⟨x,H1,I1,rx,a,ex,d,q1⟩:=cS
 subst ex
 cases (show u=Value.ref a from rx)
 have td:=Wz I1 d
 refine⟨td.1,td.2.1,?_⟩
 rw[m.trees]
 refine Calls.callWith_builtin rfl (Calls.evalArgs_plain (Calls.spliced_cons (ck (he pins s1 σ H1 _ I1 q1) fun iv s2 cx=>L2.gu cx fun y H2 I2 ry q2=>Calls.spliced_cons (ck (hf pins s2 σ H2 _ I2 q2) fun fv s3 ⟨z,H3,I3,rz,kvs,k,b,e1,e2,e3,hl,q3,q4⟩=>Calls.spliced_nil ?_))))
 subst e2
 cases (show iv=Value.ref b from ry)
 exact Ab hu I3 e1 e3 hl rz (fun v' w' s' ev I' r'=>⟨v',H3,I',r',q3 v' ev⟩) fun ev s' I'=>⟨z,_,I',rz,q4 ev⟩
end L2
namespace L2.Q
open PySem PySem.Spec PyProof.Rows
section
variable {X:Cx}{K:PySem.W.Frag}{a b c:Expr}{ta tb tc:WE}{pos apos dS:Pos}
def T8(x:D)(f:List (Key × D)->Prop)(g:List (List Key × D)->Prop):Prop:=match x with
 |.dK kvs=>f kvs
 |.dT kvs=>g kvs
 |_=>False
def KG(y:D)(k:List D->Prop):Prop:=match y with
 |.tup ys=>k ys
 |_=>False
def DJ(o:Option D)(m n:Md)(z:D)(Q:Md->D->Prop):Prop:=match o with
 |some d=>Q (ny m d) d
 |none=>Q n z
def Q9(ta tb tc:WE):WE:=fun ρ Q=>ta ρ fun m x=>T8 x (fun kvs=>tb ρ fun _ y=>tc ρ fun n z=>∃ k,y.key1=some k/\DJ (eC kvs k) m n z Q)
 (fun kvs=>tb ρ fun _ y=>tc ρ fun n z=>KG y fun ys=>∃ ks,eO ys=some ks/\DJ (eC kvs ks) m n z Q)
theorem Bv(hx:mI K (Q9 ta tb tc) σ H Qv):WB (mI K ta) (mI K tb) (mI K tc) σ H Qv:=kL hx fun Hs ρ ag Q sr h fin=>by
 refine⟨Hs,ρ,ag,_,sr,h,fun v H1 aE m x As g1 r1 f1 q1=>?_⟩
 have got:∀ {o:Option V} {d? : Option D} {H2 H3 ay dE:Hp} {w:V} {n:Md} {z:D} {Cs:List Addr},eP aE H1 ay H2->eP ay H2 dE H3->RM K dE H3 n z w Cs->dB dE H2 Cs->(match d? with
   |some d=>∃ v,o=some v/\Rep K H3 d v/\(m=.sh->Rep K dE d v)
   |none=>o=none)->DJ d? m n z Q->Qv (o.getD w) H3:=by
  intro o d? H2 H3 ay dE w n z Cs g2 g3 r3 f3 l q
  cases d? with
  |none=>rw[show o=none from l];exact fin w H3 dE n z Cs ((g1.trans g2).trans g3) r3 (f3.of (g1.trans g2).all) q
  |some d =>
   obtain⟨v',e,u1,u2⟩:=l
   rw[e]
   exact(Fin.after fin ((g1.trans g2).trans g3)).ny g3.wf u1 u2 q
 have core:∀ G:Hp,ax G H1->(∀ H3 dE,eP aE H1 dE H3->∀ d v,Rep K G d v->Rep K H3 d v/\(m=.sh->Rep K dE d v))->Rep K G x v->∃ a,v=.ref a/\Qe H1 a/\mI K tb σ H1 fun y H2=>mI K tc σ H2 fun z H3=>∃ o,kP H3 a y o/\Qv (o.getD z) H3:=by
  intro G sg up r
  cases r with
  |dK kk s q =>
   refine⟨_,rfl,.inl ⟨_,ax.rd sg s⟩,aE,ρ,ag,_,sr.grow g1,q1,fun u H2 ay n y Bs g2 r2 f2 q2=>⟨ay,ρ,ag,_,(sr.grow g1).grow g2,q2,fun w H3 dE n3 z Cs g3 r3 f3 q3=>?_⟩⟩
   have ry:=(r2.grow g3).rep g3.wf
   obtain⟨k,hk,q4⟩:=q3
   have ev:=ry.key hk
   subst ev
   refine⟨_,kP.k' (ax.rd (g2.trans g3).all (ax.rd sg s)),got g2 g3 r3 f3 ?_ q4⟩
   have z:=zip_get (k:=k) q
   split
   ·rename_i d e
    rw[e] at z
    obtain⟨v',e',r'⟩:=z
    exact⟨v',e',up _ _ (g2.trans g3) _ _ r'⟩
   ·rename_i e
    rw[e] at z
    exact z
  |dT kk s q =>
   refine⟨_,rfl,.inr ⟨_,ax.rd sg s⟩,aE,ρ,ag,_,sr.grow g1,q1,fun u H2 ay n y Bs g2 r2 f2 q2=>⟨ay,ρ,ag,_,(sr.grow g1).grow g2,q2,fun w H3 dE n3 z Cs g3 r3 f3 q3=>?_⟩⟩
   have ry:=(r2.grow g3).rep g3.wf
   cases ry with
   |tup t2 e2 p2 =>
    obtain⟨k,hk,q4⟩:=q3
    obtain⟨b',eb,e3⟩:=Rep.kc (.tup t2 e2 p2) hk
    cases eb
    refine⟨_,kP.t' (ax.rd (g2.trans g3).all (ax.rd sg s)) e3,got g2 g3 r3 f3 ?_ q4⟩
    have z:=zip_get (k:=k) q
    split
    ·rename_i d e
     rw[e] at z
     obtain⟨v',e',r'⟩:=z
     exact⟨v',e',up _ _ (g2.trans g3) _ _ r'⟩
    ·rename_i e
     rw[e] at z
     exact z
   |_=>exact q3.elim
  |_=>exact q1.elim
 rcases r1.here g1.wf with⟨hm,r⟩|⟨hm,r⟩
 ·exact core aE g1.wf.sub (fun H3 dE g d v q=>⟨q.same (g1.wf.sub.trans g.all),fun _=>q.same g.sh⟩) r
 ·exact core H1 (ax.refl H1) (fun H3 dE g d v q=>⟨q.same g.all,fun z=>absurd z hm⟩) r
theorem Kd (hu:X.A.units+64<cLine) (ha:QE X K a ta) (hb:QE X K b tb) (hc:QE X K c tc) (hm:M2 X a "get" apos b c dS:=by exact⟨rfl,rfl,rfl,rfl⟩):QE X K (.Call (.Attribute a "get" apos) [b,c] [] dS) (Q9 ta tb tc) :=
 PE.imp (cv' (by lia) ha hb hc hm) fun σ H Qv hx=>Bv hx
def OJ(d x:D):D:=match d with
 |.list xs=>.list (xs++[x])
 |d=>d
def kR:List (List Key × D)->List Key->D->List (List Key × D)
 |[],k,x=>[(k,.list [x])]
 |p :: r,k,x=>if p.1=k then (p.1,OJ p.2 x) :: r else p :: kR r k x
def KL(kvs:List (List Key × D))(k:List Key):List (List Key × D):=match eC kvs k with
 |some _=>kvs
 |none=>kvs++[(k,.list [])]
def Cu:Option D->Prop
 |none=>True
 |some (.list xs)=>xs.length<sizeLine
 |_=>False
def Q_(o:Option (Option Sl))(k:List (List Key × D)->Prop):Prop:=match o with
 |some (some (.ow true (.dT kvs)))=>k kvs
 |_=>False
def Ra(i:Nat)(tk te:WE):WS:=fun E ρ=>Q_ ρ[i]? fun kvs=>tk ρ fun _ y=>KG y fun ys=>∃ ks,eO ys=some ks/\kvs.length<sizeLine/\Cu (eC kvs ks) /\
 te (ρ.set i (some (.ow true (.dT (KL kvs ks))))) fun _ x=>x.flat=true/\E.nx (ρ.set i (some (.ow true (.dT (kR kvs ks x)))))
theorem bM[DecidableEq κ](p:κ × β)(r:List (κ × β))(k:κ):eC (p :: r) k=if p.1=k then some p.2 else eC r k:=by
 by_cases h:p.1=k<;>simp[eC,h]
theorem Ho:∀ {kvs:List (List Key × D)},eC kvs k=some d->∃ j,(kvs.map (·.2))[j]? = some d/\(∀ vs:List V,vs.length=kvs.length->fP ((kvs.map (·.1)).zip vs) k=vs[j]?) /\
  ∀ x,(kR kvs k x).map (·.1)=kvs.map (·.1)/\(kR kvs k x).map (·.2)=(kvs.map (·.2)).set j (OJ d x)
 |[],h=>by simp[eC] at h
 |p :: kvs,h=>by
  rw[bM] at h
  by_cases e:p.1=k
  ·rw[if_pos e] at h
   cases h
   refine⟨0,rfl,fun vs hl=>?_,fun x=>?_⟩
   ·cases vs with
    |nil=>cases hl
    |cons v vs=>exact vn (p:=(p.1,v)) e
   ·simp[kR,e]
  ·rw[if_neg e] at h
   obtain⟨j,h1,h2,h3⟩:=Ho h
   refine⟨j+1,by simpa using h1,fun vs hl=>?_,fun x=>?_⟩
   ·cases vs with
    |nil=>cases hl
    |cons v vs =>
     show fP ((p.1,v) :: (kvs.map (·.1)).zip vs) k=_
     rw[vt (p:=(p.1,v)) e,h2 vs (by simpa using hl)]
     rfl
   ·simp[kR,e,h3 x]
theorem qH:∀ {kvs:List (List Key × D)},eC kvs k=none->eC (kvs++[(k,d)]) k=some d
 |[],_=>by simp[eC]
 |p :: kvs,h=>by
  rw[bM] at h
  by_cases e:p.1=k
  ·rw[if_pos e] at h;cases h
  ·rw[if_neg e] at h
   rw[Pj,bM,if_neg e,qH h]
theorem uw:∀ {kvs:List (List Key × D)},eC kvs k=none->kR (kvs++[(k,.list [])]) k x=kR kvs k x
 |[],_=>by simp[kR,OJ]
 |p :: kvs,h=>by
  rw[bM] at h
  by_cases e:p.1=k
  ·rw[if_pos e] at h;cases h
  ·rw[if_neg e] at h
   rw[Pj,kR,kR,if_neg e,if_neg e,uw h]
theorem cy.place(sr:cy K Hs ρ σ H ag)(e:ρ[i]? = some (some (.ow fl d))):∃ v,σ[i]? = some (some v)/\Place K Hs H σ fl d v fun fl2 d2=>ρ.set i (some (.ow fl2 d2)):=by
 obtain⟨v,As,t,e2,ne,r,sb,g⟩:=SR.put i sr.sr e sr.oQ
 refine⟨v,e2,As,r,ne,sb.nodup sr.oQ,fun a h=>sr.own a (sb.subset h),fun ay H2 fl2 d2 fz s2 w2 n2 _ r2 ne2 mP o2 st=>?_⟩
 obtain⟨t2,x,y,z⟩:=g ay H2 fl2 d2 fz s2 r2 ne2 mP (fun a ha m=>(o2 a ha).2.elim id fun q=>absurd q (sr.sr.own a m).ne) fun a ha m=>st a (sr.sr.own a ha).ne m
 exact⟨t2,z,w2,x,fun a h=>(y a h).elim (fun q=>n2 a (sr.own a q) (sr.sr.own a q).ne) fun q=>(o2 a q).1⟩
theorem uY(sr:cy K Hs ρ σ H ag)(e1:ρ[i]? = some (some (.ow true (.dT kvs))))(hg:eC kvs ks=some (.list xs)) :
  ∃ a KP c ws,σ[i]? = some (some (.ref a))/\H a=some (.dT KP)/\fP KP ks=some (.ref c)/\H c=some (.lst ws)/\ws.length=xs.length /\
   ∀ x y,x.flat=true->Rep K Hs x y->ws.length<sizeLine->∃ dc,cy K Hs (ρ.set i (some (.ow true (.dT (kR kvs ks x))))) σ (upd H c (.lst (ws++[y]))) dc:=by
 obtain⟨v,e2,pl⟩:=sr.place e1
 obtain⟨fS,r,ne,nd,own,k⟩:=pl.ex
 cases r with
 |sh hf _=>exact absurd rfl ne
 |@dT a0 vs _ A kk e rs =>
  obtain⟨na,nA⟩:=js.mp nd
  obtain⟨j,ej,ev,es⟩:=Ho hg
  obtain⟨w,B,e3,r3,sb,g⟩:=rs.at ej nA
  have hl:vs.length=kvs.length:=by have:=rs.length;rw[b4] at this;exact this.symm
  cases r3 with
  |sh hf _=>exact absurd (hf rfl) (by simp[D.flat])
  |@list c ws _ B' hz ec DL =>
   have cA:c∈A:=sb.subset b6
   refine⟨a0,_,c,ws,e2,e,(ev vs hl).trans e3,ec,DL.length.symm,fun x y hx rx hw=>?_⟩
   have hca:a0≠c:=fun z=>na (z ▸ cA)
   obtain⟨nc,nB⟩:=js.mp (sb.nodup nA)
   have r4:bE K Hs (upd H c (.lst (ws++[y]))) true (.list (xs++[x])) (.ref c) (c :: B'):=by
    have:=(DL.fh (H':=upd H c (.lst (ws++[y]))) (ax.refl _) fun b hb=>cf fun z=>nc (z ▸ hb)).append (aD.cons (As:=[]) (.sh (fun _=>hx) rx) .nil)
    rw[pS,pS] at this
    exact .list (by rw[ng];exact hw) fE this
   obtain⟨fz,n2,y2,_,r5⟩:=g Hs (upd H c (.lst (ws++[y]))) true _ _ (ax.refl _) id r4 (sb.nodup nA) (fun _ h _=>h) (fun b _ nb=>cf fun z=>nb (z ▸ b6))
   have Yq:∀ b∈fz,b∈A:=fun b hb=>(y2 b hb).elim (fun q=>q.1) fun q=>sb.subset q
   obtain⟨k1,k2⟩:=es x
   have kl:(kR kvs ks x).length=kvs.length:=by have:=congrArg List.length k1;simpa using this
   refine k Hs _ true (.dT (kR kvs ks x)) (a0 :: fz) (ax.refl _) (uE sr.wf (own c (b9 _ cA)) fun _ z=>nomatch z) (fun _ h _=>h) id (.dT (vs:=vs) ⟨by rw[kl];exact kk.1,fun p hp=>?_⟩ (by rw[cf hca,k1];exact e) (by rw[k2];exact r5)) (by simp) (js.mpr ⟨fun z=>na (Yq _ z),n2⟩) (fun b hb=>?_) fun b _ nb=>cf fun z=>nb (z ▸ b9 _ cA)
   ·have:p.1∈kvs.map (·.1):=k1 ▸ List.mem_map_of_mem hp
    obtain⟨p',g7,e'⟩:=cK.mp this
    rw[<- e'];exact kk.2 p' g7
   ·have Au:b∈a0 :: A:=(dv.mp hb).elim (fun z=>z ▸ b6) fun z=>b9 _ (Yq b z)
    exact⟨own b Au,.inl Au⟩
theorem CK{te:WE}{Hs H:Hp}{ρ:Env}{σ:St}{ag:List Addr}{i:Nat}{kvs:List (List Key × D)}{ks:List Key}{xs:List D}{a:Addr}{KP:List (List Key × V)}{v':V}{R:Env->Prop}{G:Hp->Prop}(sr:cy K Hs ρ σ H ag)(e1:ρ[i]? = some (some (.ow true (.dT kvs))))(hg:eC kvs ks=some (.list xs))(hz:xs.length<sizeLine)
  (Yr:σ[i]? = some (some (.ref a))) (eH:H a=some (.dT KP)) (ev:fP KP ks=some v') (q:te ρ fun _ x=>x.flat=true/\R (ρ.set i (some (.ow true (.dT (kR kvs ks x)))))) (k1:∀ H' av aT bG,ax Hs av->cy K av aT σ H' bG->R aT->G H') :
  Sz K "list" v' H/\Sj (mI K te) Si σ H fun us H2=>Wv v' us H2 fun _ H3=>G H3:=by
 obtain⟨a',Ys,c,ws,f1,f2,f3,f4,f5,f6⟩:=uY sr e1 hg
 have ea:a'=a:=by rw[f1] at Yr;cases Yr;rfl
 subst ea
 have ek:Ys=KP:=by rw[f2] at eH;cases eH;rfl
 subst ek
 have e':v'=.ref c:=by rw[f3] at ev;cases ev;rfl
 subst e'
 refine⟨.inl ⟨rfl,_,.inl (.inl f4)⟩,Hs,ρ,ag,_,sr,q,fun y H2 ay m x Cs g2 r2 fr2 q2=>?_⟩
 obtain⟨hx,q2⟩:=q2
 obtain⟨b',kv2,c2,ws2,h1,h2,h3,h4,h5,h6⟩:=uY (sr.grow g2) e1 hg
 have ea:b'=a':=by rw[f1] at h1;cases h1;rfl
 subst ea
 have ek:kv2=Ys:=by rw[g2.all _ _ f2] at h2;cases h2;rfl
 subst ek
 have e':c2=c:=by rw[f3] at h3;cases h3;rfl
 subst e'
 obtain⟨dc,fm⟩:=h6 x y hx (r2.flat g2.wf hx) (by lia)
 exact⟨c2,ws2,y,rfl,rfl,h4,by lia,k1 _ ay _ dc g2.sh fm q2⟩
theorem set_own{α:Type}{ρ:List α}{i:Nat}{x:α}(h:ρ[i]? = some x):ρ.set i x=ρ:=by
 apply AH
 intro j
 rw[List.getElem?_set]
 split
 ·rename_i e
  subst e
  have:=(iL.mp h).1
  rw[if_pos this,h]
 ·rfl
theorem Kq {L:Str->Hp->Prop} {i:Nat} {p1 p2 p3 p4 p5:Pos} (hu:X.A.units+64<cLine) (he:PE X a (B7 i)) (hb:QE X K b tb) (hc:QE X K c tc) (hK:X.K=K:=by rfl) (hm:M2 X a "setdefault" p1 b (.List [] p2) p3:=by exact⟨rfl,rfl,rfl,rfl⟩)
  (hs:swapsWith (.Call (.Attribute (.Call (.Attribute a "setdefault" p1) [b,.List [] p2] [] p3) "append" p4) [c] [] p5) none pos.line X.env=pure false:=by rfl)
  (vi:attributeBase (.Call (.Attribute a "setdefault" p1) [b,.List [] p2] [] p3) "append" X.env (eval (.Call (.Attribute a "setdefault" p1) [b,.List [] p2] [] p3) X.env)=eval (.Call (.Attribute a "setdefault" p1) [b,.List [] p2] [] p3) X.env:=by rfl)
  (sj:((backTo p5 (starEach [c] X.env)).all (fun x=>!x.1) && (backToKw p5 (keywordEach [] X.env)).all (fun x=>x.1.isSome)
   && decide ([c].length+([]:List Keyword).length+(if ([]:List Keyword).isEmpty then 0 else 1)<30))=true:=by rfl)
  (hline:(p4.endLine == p5.line)=true:=by rfl) (pf:starEach (c :: []) X.env=(false,eval c X.env) :: starEach [] X.env:=by rfl) (vj:(backTo p5 (starEach [] X.env)).any (·.1)=false:=by rfl) :
  QS X K L (.Expr (.Call (.Attribute (.Call (.Attribute a "setdefault" p1) [b,.List [] p2] [] p3) "append" p4) [c] [] p5) pos) (Ra i tb tc):=by
 subst hK
 refine PS.imp (G0 (EF PySem.F.plainAttrs_list PySem.F.slot_list_append PySem.F.type_list_append Qb (JD (by lia) he hb (iy (K:=X.K) aq) hm) (rq hc uS pf) vi sj hline pf vj) hs) fun D σ H hx=>d_ hx fun Hs ρ ag E sr h k1 k2 k3 k4=>?_
 unfold Ra Q_ at h
 split at h
 ·rename_i kvs e1
  obtain⟨v,e2,pl⟩:=sr.place e1
  obtain⟨fS,r,ne,nd,own,k⟩:=pl.ex
  have lv:∀ x∈fS,Hs x=none/\H x≠none:=fun x hx=>⟨own x hx,(r.own x hx).ne⟩
  cases r with
  |sh hf _=>exact absurd rfl ne
  |@dT a0 vs _ A kk e rs =>
   refine⟨_,e2,a0,rfl,.inr ⟨_,.inl e⟩,Hs,ρ,ag,_,sr,h,fun u H2 ay m y Bs g2 r2 f2 q2=>?_⟩
   refine⟨ay,ρ,ag,fun m d=>m=.ow true/\d=.list [],sr.grow g2,⟨eK _,rfl,rfl⟩,fun w H3 dE n z Cs g3 r3 f3 q3=>?_⟩
   obtain⟨rfl,rfl⟩:=q3
   have ry:=(r2.grow g3).rep g3.wf
   cases ry with
   |tup t2 ey p2 =>
    obtain⟨ks,hk,hz,zi,q⟩:=q2
    obtain⟨b',eb,e3⟩:=Rep.kc (.tup t2 ey p2) hk
    cases eb
    have g:=g2.trans g3
    have hl:kvs.length=vs.length:=by have:=rs.length;rwa[b4] at this
    have srg:=sr.grow g
    have zg:=zip_get (k:=ks) (rs.reps (G:=H) sr.wf.sub fun _ _=>rfl)
    refine⟨_,ks,_,g.all _ _ e,rfl,e3,by rw[LM,b4,<- hl,LW];exact hz,fun v' ev=>?_,fun ev=>?_⟩
    ·cases hg:eC kvs ks with
     |none=>rw[hg] at zg;rw[zg] at ev;cases ev
     |some d =>
      rw[hg] at zi
      cases d with
      |list xs =>
       rw[show KL kvs ks=kvs by unfold KL;rw[hg],set_own e1] at q
       exact CK (G:=fun H'=>D.nx σ H') srg e1 hg zi e2 (g.all _ _ e) ev q fun H' av aT bG s1 s2 q'=>k1 σ H' av aT bG (g.sh.trans s1) s2 q'
      |_=>exact zi.elim
    ·have hg:eC kvs ks=none:=by
      cases hg:eC kvs ks with
      |none=>rfl
      |some d=>rw[hg] at zg;obtain⟨v',z,_⟩:=zg;rw[z] at ev;cases ev
     rw[show KL kvs ks=kvs++[(ks,.list [])] by unfold KL;rw[hg]] at q
     obtain⟨r3,_⟩:=r3
     cases r3 with
     |sh hf _=>exact absurd (hf rfl) (by simp[Q.D.flat])
     |@list c ws _ B' hw ec DL =>
      cases DL
      obtain⟨na,nA⟩:=js.mp nd
      have fc:=f3.2 c b6
      have Rb:H c=none:=g2.all.free fc.2
      have cA:∀ b∈a0 :: A,b≠c:=fun b hb z=>by
       subst z
       rcases dv.mp hb with rfl|hb
       ·rw[e] at Rb;cases Rb
       ·exact(rs.own _ hb).ne Rb
      have ek:putK ((kvs.map (·.1)).zip vs) ks (V.ref c)=((kvs++[(ks,Q.D.list [])]).map (·.1)).zip (vs++[V.ref c]):=by
       have:=HM ks ((kvs.map (·.1)).zip vs)
       rw[ev] at this
       unfold putK
       rw[this,if_neg (by decide),sR,List.zip_append (by rw[b4];exact hl)]
       rfl
      obtain⟨kl,ko⟩:=uU p2 hk
      have l1:=p2.length
      have rs3:=rs.grow g.sh g.all
      have rs4:aD X.K dE (upd H3 a0 (.dT (((kvs++[(ks,Q.D.list [])]).map (·.1)).zip (vs++[V.ref c])))) true ((kvs++[(ks,Q.D.list [])]).map (·.2)) (vs++[V.ref c]) (A++[c]):=by
       have q1:=rs3.fh (H':=upd H3 a0 (.dT (((kvs++[(ks,Q.D.list [])]).map (·.1)).zip (vs++[V.ref c])))) (ax.refl _) fun b hb=>cf fun z=>na (z ▸ hb)
       have q2:=q1.append (aD.cons (bE.list (ds:=[]) (As:=[]) hw ((cf fun z=>cA a0 b6 z.symm).trans ec) .nil) .nil)
       rw[show(kvs++[(ks,Q.D.list [])]).map (·.2)=kvs.map (·.2)++[Q.D.list []] by simp]
       exact q2
      obtain⟨dc,fm⟩:=k.node (fl2:=true) (d2:=.dT (kvs++[(ks,.list [])])) (C:=A++[c]) g lv (fun _ z=>by cases z) id
       (.dT ⟨by rw[ng];exact hz,fun p hp=>(dP.mp hp).elim (kk.2 p) fun z=>by
        obtain rfl:p=(ks,.list []):=by simpa using z
        exact⟨by show ks.length<=_;lia,ko⟩⟩ fE rs4)
       (iN.mpr ⟨nA,by simp,fun x hx y hy z=>cA x (b9 _ hx) (by rw[z];simpa using hy)⟩) (fun z=>(dP.mp z).elim na fun z=>cA a0 b6 (by simpa using z))
       (fun x hx=>(dP.mp hx).imp id fun z=>by
        obtain rfl:x=c:=by simpa using z
        exact⟨fc.1,Rb⟩)
      rw[ek]
      have hi:i<ρ.length:=(iL.mp e1).1
      refine CK (G:=fun H'=>D.nx σ H') (R:=E.nx) (kvs:=kvs++[(ks,.list [])]) (xs:=[]) fm (by simp[hi]) (qH hg) (by rw[sizeLine_eq];decide) e2 fE (by rw[<- ek,ce',if_pos rfl]) ?_ fun H' av aT bG s1 s2 q'=>k1 σ H' av aT bG (g.sh.trans s1) s2 q'
      simp only[List.set_set,uw hg]
      exact q
   |_=>exact q2.elim
 ·exact h.elim
end
end L2.Q
namespace L2
open PySem PySem.Spec PyProof.Rows
end L2
namespace L2.Q
open PySem PySem.Spec PyProof.Rows
section
variable {K:PySem.W.Frag}{a b c:Expr}
theorem SR.take(i:Nat)(s:SR K Hs H ρ σ ag):ρ[i]? = some (some (.ow fl d))->ag.Nodup ->
  ∃ (v:V) (As bG:List Addr),σ[i]? = some (some v)/\bE K Hs H fl d v As/\As.Sublist ag/\bG.Sublist ag/\(∀ a∈As,a∉bG)/\SR K Hs H (ρ.set i none) σ bG:=by
 induction s generalizing i with
 |nil=>intro e;simp at e
 |non q ih =>
  intro e n
  cases i with
  |zero=>simp at e
  |succ i =>
   obtain⟨v,As,t,o,a,b,c,d,f⟩:=ih i e n
   exact⟨v,As,t,o,a,b,c,d,.non f⟩
 |sh r q ih =>
  intro e n
  cases i with
  |zero=>simp at e
  |succ i =>
   obtain⟨v,As,t,o,a,b,c,d,f⟩:=ih i e n
   exact⟨v,As,t,o,a,b,c,d,.sh r f⟩
 |xc q ih =>
  intro e n
  cases i with
  |zero=>simp at e
  |succ i =>
   obtain⟨v,As,t,o,a,b,c,d,f⟩:=ih i e n
   exact⟨v,As,t,o,a,b,c,d,.xc f⟩
 |ow ne r q ih =>
  intro e n
  obtain⟨n1,n2,n3⟩:=iN.mp n
  cases i with
  |zero =>
   simp at e
   obtain⟨rfl,rfl⟩:=e
   exact⟨_,_,_,rfl,r,Lv _ _,pz _ _,fun a h m=>n3 a h a m rfl,.non q⟩
  |succ i =>
   obtain⟨v,As,t,o,a,b,c,d,f⟩:=ih i e n2
   exact⟨v,As,_,o,a,b.trans (pz _ _),c.append_left _,qg n b d,.ow ne r f⟩
 |lk ne r q ih =>
  intro e n
  obtain⟨n1,n2,n3⟩:=iN.mp n
  cases i with
  |zero=>simp at e
  |succ i =>
   obtain⟨v,As,t,o,a,b,c,d,f⟩:=ih i e n2
   exact⟨v,As,_,o,a,b.trans (pz _ _),c.append_left _,qg n b d,.lk ne r f⟩
theorem CG(h:Fn o k):∃ xs,o=some (some (.ow true (.list xs)))/\k xs:=by
 unfold Fn at h
 split at h
 ·exact⟨_,rfl,h⟩
 ·exact h.elim
theorem EY(i5:i≠j)(sr:cy K Hs ρ σ H ag)(ei:ρ[i]? = some (some (.ow true (.list hs))))(ej:ρ[j]? = some (some (.ow true (.list xs))))
  (fl:cw xs=true) (QZ:hs.length<sizeLine) :
  ∃ a ws c vs dc,σ[i]? = some (some (.ref a))/\H a=some (.lst ws)/\ws.length<sizeLine/\σ[j]? = some (some (.ref c))/\upd H a (.lst (ws++[.ref c])) c=some (.lst vs)/\aI K Hs xs vs/\vs.length<=sizeLine /\
   cy K Hs ((ρ.set j none).set i (some (.ow true (.list (hs++[.list xs]))))) σ (upd H a (.lst (ws++[.ref c]))) dc:=by
 obtain⟨v,As,bG,e1,r,sb,st,dj,s1⟩:=SR.take j sr.sr ej sr.oQ
 have ei':(ρ.set j none)[i]? = some (some (.ow true (.list hs))):=by rw[LG (Ne.symm i5)];exact ei
 obtain⟨u,Ai,_,e2,ne,ri,si,g⟩:=SR.put i s1 ei' (st.nodup sr.oQ)
 cases r with
 |sh hf _=>exact absurd (hf rfl) (by simp[D.flat])
 |@list c vs _ B hz ec rs =>
  cases ri with
  |sh _ _=>exact absurd rfl ne
  |@list a ws _ A hw ea ra =>
   have Yt:c≠a:=fun z=>dj c b6 (si.subset (z ▸ b6))
   have nd1:=si.nodup (st.nodup sr.oQ)
   obtain⟨na,nA⟩:=js.mp nd1
   have ndj:=sb.nodup sr.oQ
   have dA:∀ x∈c :: B,x∉a :: A:=fun x hx m=>dj x hx (si.subset m)
   have nB:∀ x∈c :: B,x≠a:=fun x hx z=>dA x hx (z ▸ b6)
   have hl:=ra.length
   have r3:bE K Hs (upd H a (.lst (ws++[.ref c]))) true (.list (hs++[.list xs])) (.ref a) (a :: (A++((c :: B)++[]))):=by
    refine .list (by rw[ng,<- hl];exact QZ) fE ((ra.fh (H':=upd H a (.lst (ws++[.ref c]))) (ax.refl _) fun b hb=>cf fun z=>na (by subst z;exact hb)).append (.cons (.list hz ((cf Yt).trans ec) (rs.fh (ax.refl _) fun b hb=>cf (nB b (b9 _ hb)))) .nil))
   obtain⟨dc,n2,i2,s2⟩:=g Hs _ true _ _ (ax.refl _) r3 (by simp) (js.mpr ⟨fun m=>(dP.mp m).elim na fun m=>nB a (by simpa using m) rfl,iN.mpr ⟨nA,by simpa using ndj,fun x hx y hy e=>dA y (by simpa using hy) (e ▸ b9 _ hx)⟩⟩)
    (fun b hb m=>by
     rcases dv.mp hb with rfl|hb
     ·exact b6
     ·rcases dP.mp hb with hb|hb
      ·exact b9 _ hb
      ·exact absurd m (dj b (by simpa using hb)))
    (fun b _ nb=>cf fun z=>nb (z ▸ b6))
   have Ha:Hs a=none:=sr.own a (st.subset (si.subset b6))
   refine⟨a,ws,c,vs,dc,e2,ea,by lia,e1,(cf Yt).trans ec,(rs.reps sr.wf.sub fun _ _=>rfl).gr sr.wf.jI fl,hz,s2,uE sr.wf Ha (fun _ z=>nomatch z),n2,fun b hb=>?_⟩
   rcases i2 b hb with m|m
   ·exact sr.own b (st.subset m)
   ·rcases dv.mp m with rfl|m
    ·exact Ha
    ·rcases dP.mp m with m|m
     ·exact sr.own b (st.subset (si.subset (b9 _ m)))
     ·exact sr.own b (sb.subset (by simpa using m))
end
end L2.Q
namespace L2.Q.R
open PySem PySem.Spec PyProof.Rows L2.Q
section
variable {ρ:Env}{E:mX}{te tb tc tk:WE}{m:Md}{x y:L2.Q.D}{ys:List L2.Q.D}{Q:Md->L2.Q.D->Prop}{i k:Nat}
theorem Nu:Q9 te tb tc ρ Q=te ρ fun m x=>bP x (f:=fun x=>T8 x (fun kvs=>tb ρ fun _ y=>tc ρ fun n z=>∃ k,y.key1=some k/\DJ (eC kvs k) m n z Q)
 (fun kvs=>tb ρ fun _ y=>tc ρ fun n z=>bP y (f:=fun y=>KG y fun ys=>∃ ks,eO ys=some ks/\DJ (eC kvs ks) m n z Q) ⟨⟩)) ⟨⟩:=rfl
theorem Nz:T8 (.dT kvs) f g=g kvs:=rfl
theorem M_{k:List L2.Q.D->Prop}:KG (.tup ys) k=k ys:=rfl
theorem fC':Ra i tk te E ρ=bP ρ[i]? (f:=fun o=>Q_ o fun kvs=>tk ρ fun _ y=>bP y (f:=fun y=>KG y fun ys=>∃ ks,eO ys=some ks/\kvs.length<sizeLine/\Cu (eC kvs ks) /\
 te (ρ.set i (some (.ow true (.dT (KL kvs ks))))) fun _ x=>x.flat=true/\E.nx (ρ.set i (some (.ow true (.dT (kR kvs ks x)))))) ⟨⟩) ⟨⟩:=rfl
theorem Nj{kvs:List (List Key × L2.Q.D)}{k:List (List Key × L2.Q.D)->Prop}:Q_ (some (some (.ow true (.dT kvs)))) k=k kvs:=rfl
end
end L2.Q.R
namespace L2
open PySem PySem.Spec PyProof.Rows
section
variable {X:Cx}
def Rc(K:PySem.W.Frag):List V->Hp->VK->Prop:=fun xs H Q=>match xs with
 |[.ref a]=>∃ bs:List Bool,eL K H a (bs.map V.bl)/\Q (.bl (bs.any id)) H
 |_=>False
theorem yz (hc:X.calm=true):kr X (.builtin "any") (Rc X.K):=by
 intro pins s σ H xs us Q I r h
 unfold Rc at h
 split at h
 ·rename_i a
  obtain⟨bs,e,q⟩:=h
  obtain⟨u,rfl,ru⟩:=Vals.one r
  cases ru
  obtain⟨its,rv,pl,hz⟩:=I.list e
  have hl:s.heap.IsList a its.toArray:=pl.isList
  obtain⟨o,ho,PR,n,EK⟩:=id hl
  have hlen:=rv.length
  rw[b4] at hlen
  refine call_any_walk (wpAny_pyIter_list hl ?_)
  have kz:a≠s.heap.objs.size:=fo (dQ ho)
  have Q0:X.A.in1.handled=none:=I.ok.hd hc
  refine⟨s.heap.objs.size,_,_,_,_,_,fun i=>bs.getD i false,rfl,Walks.list Q0 s.heap.objs.size a kz its.toArray,⟨⟨_,jv _ rfl,rfl,rfl⟩,⟨_,eW _ ho,PR,n,EK⟩⟩,?_,fun h' tk hk=>?_⟩
  ·intro i v s' Q' E' hv hq
   have DI:its[i]? = some v:=by simpa using (show its.toArray[i]? = some v from hv)
   have hi:i<bs.length:=by
    have:=(iL.mp DI).1
    lia
   obtain⟨w',e1,r1⟩:=rv.get (i:=i) (x:=V.bl bs[i]) (by simp[hi])
   rw[DI] at e1
   cases e1
   cases (show v=Value.bool bs[i] from r1)
   have hq:Q' (bs.getD i false) s':=hq
   rw[show bs.getD i false=bs[i] by simp[List.getD,hi]] at hq
   exact wpAny_truthy_bool hq
  ·have e3:((List.range its.toArray.size).any fun i=>bs.getD i false)=bs.any id:=by
    rw[hG,<- hlen]
    apply xt.mpr
    simp only[AI,oi,id]
    constructor
    ·rintro⟨i,hi,h⟩
     exact⟨bs[i],D3 hi,by simpa[List.getD,hi] using h⟩
    ·rintro⟨b,hb,h⟩
     obtain⟨i,hi,rfl⟩:=Rw.mp hb
     exact⟨i,hi,by simpa[List.getD,hi] using h⟩
   rw[e3]
   refine⟨.bl (bs.any id),H,?_,rfl,q⟩
   exact I.kept (t':=tk) fun b o e=>hk b o (by simp;exact fo (dQ e)) (eW _ e)
 ·exact h.elim
end
end L2
namespace L2.Q
open PySem PySem.Spec PyProof.Rows
section
variable {X:Cx}{K:PySem.W.Frag}{L:Str->Hp->Prop}{e e2 e3:Expr}{p:WP}{te:WE}{apos dS pos:Pos}
theorem T9 (hc:X.calm=true:=by rfl) (hK:X.K=K:=by rfl):kr X (.builtin "any") (Rc K):=by subst hK;exact yz hc
theorem zM:bootBuiltins "any" = some (.builtin "any"):=by decide +kernel
def OL:W1:=fun _ x Q=>match x with
 |.list xs=>∃ bs:List Bool,xs=bs.map D.bl/\Q .sh (.bl (bs.any (fun b=>b)))
 |_=>False
theorem xu:An K (Rc K) OL:=by
 intro Hs H m x v As Qd Qv w rx h f
 have r1:=rx.rep w
 cases r1 with
 |list z s q =>
  obtain⟨bs,rfl,h⟩:=h
  cases Ht q
  exact⟨bs,s,f.sh w (.bl _) h⟩
 |_=>exact h.elim
theorem CV:bootBuiltins "int" = some (.type "int"):=by decide +kernel
def Rf:W1:=fun _ x Q=>match x with
 |.int i=>Q .sh (.int i)
 |.bl b=>Q .sh (.int (if b then 1 else 0))
 |_=>False
theorem Hf:An K (fun xs H Q=>(∃ i,xs=[.int i]/\Q (.int i) H)\/∃ k,xs=[.bl k]/\Q (.int (if k then 1 else 0)) H) Rf:=by
 intro Hs H m x v As Qd Qv w rx h f
 have r1:=rx.rep w
 cases r1 with
 |int i=>exact .inl ⟨i,rfl,f.sh w (.int _) h⟩
 |bl b=>exact .inr ⟨b,rfl,f.sh w (.int _) h⟩
 |_=>exact h.elim
def T_(p:WP)(te:WE):WS:=fun E ρ=>p ρ fun fl d up=>match d with
 |.list xs=>te ρ fun m y=>m=.ow true/\match y with
  |.list ys=>cw ys=true/\xs.length+ys.length<=sizeLine/\E.nx (up fl (.list (xs++ys)))
  |_=>False
 |_=>False
theorem Jg (ho:QP X K e p) (he:QE X K e2 te) (hK:X.K=K:=by rfl) (hs:swapsWith (.Call (.Attribute e "extend" apos) [e2] [] dS) none pos.line X.env=pure false:=by rfl)
  (vi:attributeBase e "extend" X.env (eval e X.env)=eval e X.env:=by rfl)
  (sj:((backTo dS (starEach [e2] X.env)).all (fun x=>!x.1) && (backToKw dS (keywordEach [] X.env)).all (fun x=>x.1.isSome)
   && decide ([e2].length+([]:List Keyword).length+(if ([]:List Keyword).isEmpty then 0 else 1)<30))=true:=by rfl)
  (hline:(apos.endLine == dS.line)=true:=by rfl) (pf:starEach (e2 :: []) X.env=(false,eval e2 X.env) :: starEach [] X.env:=by rfl) (vj:(backTo dS (starEach [] X.env)).any (·.1)=false:=by rfl) :
  QS X K L (.Expr (.Call (.Attribute e "extend" apos) [e2] [] dS) pos) (T_ p te):=by
 subst hK
 refine PS.imp (G0 (EF PySem.F.plainAttrs_list PySem.F.slot_list_extend PySem.F.type_list_extend cc' ho (rq he uS pf) vi sj hline pf vj) hs) fun D σ H hx=>d_ hx fun Hs ρ ag E sr h k1 k2 k3 k4=>?_
 refine⟨Hs,ρ,ag,_,sr,h,fun v H1 aE fl d up g1 p1 q1=>?_⟩
 cases d with
 |list xs =>
  obtain⟨a1,vs1,e1,s1⟩:=p1.X4 g1.wf
  refine⟨by subst e1;exact .inl ⟨rfl,_,s1⟩,aE,ρ,ag,_,sr.grow g1,q1,fun y H2 ay m x As g2 r2 f2 q2=>?_⟩
  obtain⟨rfl,q2⟩:=q2
  obtain⟨a,vs,A,ea,e2,Yu,rs,nd,hn,k⟩:=p1.put g2
  obtain⟨r,ne⟩:=r2
  cases r with
  |sh _ _=>exact absurd rfl ne
  |list hz e3 QR =>
   obtain⟨fy,hl,q2⟩:=q2
   obtain⟨nA,Ua⟩:=js.mp nd
   have l1:=rs.length
   have l2:=QR.length
   refine⟨a,_,vs,_,ea,rfl,e2,e3,by lia,?_⟩
   obtain⟨dc,fm⟩:=k fl (xs++_) (vs++_) (A++[]) id (rs.append (aI.owned ((QR.reps g2.wf.sub fun _ _=>rfl).gr g2.wf.jI fy) fy)) (by rw[ng];lia) (by simpa using Ua) (by simpa using nA) (fun x hx=>.inl (by simpa using hx))
   exact k1 _ _ ay _ dc (g1.sh.trans g2.sh) fm q2
  |_=>exact q2.elim
 |_=>exact q1.elim
end
end L2.Q
namespace L2.Q.R
open PySem PySem.Spec PyProof.Rows L2.Q
section
variable {ρ:Env}{E:mX}{te:WE}{m:Md}{Q:Md->L2.Q.D->Prop}{p:WP}{xs ys:List L2.Q.D}{k:List L2.Q.D->Prop}
def Ub(d:L2.Q.D)(k:List L2.Q.D->Prop):Prop:=match d with
 |.list xs=>k xs
 |_=>False
theorem M9:Ub (.list xs) k=k xs:=rfl
theorem Nr:T_ p te E ρ=p ρ fun fl d up=>bP d (f:=fun d=>Ub d fun xs=>te ρ fun m y=>m=.ow true/\bP y (f:=fun y=>Ub y fun ys=>cw ys=true/\xs.length+ys.length<=sizeLine/\E.nx (up fl (.list (xs++ys)))) ⟨⟩) ⟨⟩:=rfl
theorem Ln:DJ (some d) m n z Q=Q (ny m d) d:=rfl
theorem K4:DJ none m n z Q=Q n z:=rfl
theorem Mv:Rf m (.int i) Q=Q .sh (.int i):=rfl
theorem KR:Rf m (.bl b) Q=Q .sh (.int (if b then 1 else 0)):=rfl
theorem Nt:OL m (.list xs) Q = ∃ bs:List Bool,xs=bs.map L2.Q.D.bl/\Q .sh (.bl (bs.any (fun b=>b))):=rfl
end
end L2.Q.R
namespace PySem.SeqAt
open AutoSeq1 (wpAny_loadPart')
open MeetsSeq MeetsSeq2 MeetsSeq3 SeqRoads2
def nI(A:Around)(s:Shared)(u v:Value)(b:Bool):Prop:=∀ (prog:Program) (w:World) (Q:Value->Shared->Prop) (E:Value->Shared->Prop),Q (.bool b) s->wpAny (model prog w) A (richCompare .Lt u v) Q E s
def tN(e f:Nat->Bool)(m n:Nat):Nat->Nat->Bool
 |0,_=>decide (m<n)
 |k+1,i=>if e i then tN e f m n k (i+1) else f i
theorem zf(l b:Addr)(items da:Array Value)(n n2:Nat)(dd rS:Option Addr)(sl rV:Array (Option Value))(e f:Nat->Bool)(k:Nat) :
  ∀ i:Nat,min items.size da.size-i=k->i<=min items.size da.size->Meets (Builtin.«list.__eq__.loop» ⟨[.ref l,.ref b,rawInt i,rawInt 0],[]⟩)
   (fun A R s=>s.heap.get? l=some { cls:=.type "list",dict:=dd,data:=.seq items n,slots:=sl }/\s.heap.get? b=some { cls:=.type "list",dict:=rS,data:=.seq da n2,slots:=rV } /\
    (∀ j (h1:j<items.size) (h2:j<da.size),EqAt A.in1 s items[j] da[j] (e j))/\(∀ j (h1:j<items.size) (h2:j<da.size),e j=false->nI A.in1 s items[j] da[j] (f j)) /\
    R (.ok (.ret (.bool (tN e f items.size da.size k i)))) s):=by
 induction k with
 |zero =>
  intro i hk hle prog w A R s h
  obtain⟨hp,g,d,tk,os⟩:=s;obtain⟨hl,hb,he,hf,h⟩:=h
  wp_walk using wpAny_loadPart' hl,wpAny_loadPart' hb
  rcases (show items.size<=i\/da.size<=i by lia) with z|z
  ·have kK:items[((i:Nat):Int).toNat]? = none:=by simp;lia
   rw[kK]
   wp_walk using wpAny_loadPart' hl,wpAny_loadPart' hb
   exact h
  ·have ic:da[((i:Nat):Int).toNat]? = none:=by simp;lia
   rw[ic]
   cases items[((i:Nat):Int).toNat]?<;>wp_walk using wpAny_loadPart' hl,wpAny_loadPart' hb<;>exact h
 |succ k ih =>
  intro i hk hle prog w A R s h
  obtain⟨hp,g,d,tk,os⟩:=s;obtain⟨hl,hb,he,hf,h⟩:=h
  wp_walk using wpAny_loadPart' hl,wpAny_loadPart' hb
  have df:i<items.size:=by lia
  have Uc:i<da.size:=by lia
  have kK:items[((i:Nat):Int).toNat]? = some items[i]:=by simp[df]
  have ic:da[((i:Nat):Int).toNat]? = some da[i]:=by simp[Uc]
  have hc:((i:Int)+1)=((i+1:Nat):Int):=by push_cast;rfl
  rw[kK,ic]
  refine ai (he i df Uc prog w _ _ ?_)
  cases Au:e i with
  |true =>
   rw[tN,Au,if_pos rfl] at h
   wp_walk
   rw[hc]
   exact⟨plainId_quiet plain_eq_loop _,codeAny_builtin entry_eq_loop (by
    rw[Around.under_plainId plain_eq_loop _]
    exact ih (i+1) (by lia) (by lia) prog w A R _ ⟨hl,hb,he,hf,h⟩)⟩
  |false =>
   rw[tN,Au,if_neg gy] at h
   wp_walk using wpAny_loadPart' hl,wpAny_loadPart' hb
   rw[kK,ic]
   refine ai (hf i df Uc Au prog w _ _ ?_)
   wp_walk
   exact h
theorem xn(l b:Addr)(items da:Array Value)(n n2:Nat)(dd rS:Option Addr)(sl rV:Array (Option Value))(e f:Nat->Bool) :
  Meets (Builtin.«list.__lt__» ⟨[.ref l,.ref b],[]⟩)
   (fun A R s=>s.heap.get? l=some { cls:=.type "list",dict:=dd,data:=.seq items n,slots:=sl }/\s.heap.get? b=some { cls:=.type "list",dict:=rS,data:=.seq da n2,slots:=rV } /\
    (∀ j (h1:j<items.size) (h2:j<da.size),EqAt A.in1 s items[j] da[j] (e j))/\(∀ j (h1:j<items.size) (h2:j<da.size),e j=false->nI A.in1 s items[j] da[j] (f j)) /\
    R (.ok (.ret (.bool (tN e f items.size da.size (min items.size da.size) 0)))) s):=by
 intro prog w A R s h
 obtain⟨hp,g,d,tk,os⟩:=s;obtain⟨hl,hb,he,hf,h⟩:=h
 have f3:=AutoSeq1.sub_list_list
 wp_walk using wpAny_loadPart' hl,wpAny_loadPart' hb
 exact⟨plainId_quiet plain_eq_loop _,codeAny_builtin entry_eq_loop (by
  rw[Around.under_plainId plain_eq_loop _]
  exact zf l b items da n n2 dd rS sl rV e f _ 0 (Nat.sub_zero _) (eK _) prog w A R _ ⟨hl,hb,he,hf,h⟩)⟩
theorem vY(l b:Addr)(items da:Array Value)(n n2:Nat)(dd rS:Option Addr)(sl rV:Array (Option Value))(e f:Nat->Bool) :
  Meets (Builtin.«tuple.__lt__» ⟨[.ref l,.ref b],[]⟩)
   (fun A R s=>s.heap.get? l=some { cls:=.type "tuple",dict:=dd,data:=.seq items n,slots:=sl }/\s.heap.get? b=some { cls:=.type "tuple",dict:=rS,data:=.seq da n2,slots:=rV } /\
    (∀ j (h1:j<items.size) (h2:j<da.size),EqAt A.in1 s items[j] da[j] (e j))/\(∀ j (h1:j<items.size) (h2:j<da.size),e j=false->nI A.in1 s items[j] da[j] (f j)) /\
    R (.ok (.ret (.bool (tN e f items.size da.size (min items.size da.size) 0)))) s) :=
 .of_wp fun prog w A R s h=>by
  obtain⟨hp,g,d,tk,os⟩:=s;obtain⟨hl,hb,he,hf,h⟩:=h
  have f2:=AutoSeq1.sub_tuple_tuple
  have hZ:(items.toList.zip da.toList).length=min items.size da.size:=by simp
  wp_walk using wpAny_loadPart' hl,wpAny_loadPart' hb,wpAny_forIn_list _ (fun rest b s'=>b.1=none/\s'=⟨hp,g,d,tk,os⟩/\∃ i,rest=(items.toList.zip da.toList).drop i/\i<=min items.size da.size /\
   R (.ok (.ret (.bool (tN e f items.size da.size (min items.size da.size-i) i)))) ⟨hp,g,d,tk,os⟩) _
  case turn =>
   rintro⟨y,x⟩ rest b s' ⟨Au,rfl,i,hz,hi,hR⟩
   have df:i<(items.toList.zip da.toList).length:=by
    rcases GB i (items.toList.zip da.toList).length with h'|h'
    ·exact h'
    ·rw[Rt h'] at hz;cases hz
   have hm:i<min items.size da.size:=hZ ▸ df
   have h1:i<items.size:=nS hm (Nat.min_le_left _ _)
   have h2:i<da.size:=nS hm (Nat.min_le_right _ _)
   rw[wd df] at hz
   injection hz with Yv fD'
   have hy:y=items[i]:=by have:=congrArg Prod.fst Yv;simpa using this
   have hx:x=da[i]:=by have:=congrArg Prod.snd Yv;simpa using this
   subst hy hx
   rw[show min items.size da.size-i=(min items.size da.size-(i+1))+1 by lia,tN] at hR
   refine ai (he i h1 h2 prog w _ _ ?_)
   cases hy:e i with
   |true =>
    rw[hy,if_pos rfl] at hR
    wp_walk
    exact⟨rfl,rfl,i+1,fD',hm,hR⟩
   |false =>
    rw[hy,if_neg gy] at hR
    simp only[Bool.not_false,if_true]
    refine ai (wpAny_rule ?_)
    refine ai (hf i h1 h2 hy prog w _ _ ?_)
    wp_walk
    exact⟨_,rfl,hR⟩
  case fin =>
   rintro⟨b1,b2⟩ s' ⟨Au,rfl,i,hz,hi,hR⟩
   simp only at Au
   subst Au
   have oI:min items.size da.size<=i:=by
    rcases GB i (items.toList.zip da.toList).length with h'|h'
    ·rw[wd h'] at hz;cases hz
    ·exact hZ ▸ h'
   rw[show min items.size da.size-i=0 by lia,tN] at hR
   wp_walk
   exact⟨_,rfl,by simpa[Builtin.Tuple.tupleCompareSizes] using hR⟩
  case h =>
   exact⟨rfl,rfl,0,rfl,eK _,h⟩
section
variable {A:Around}{s:Shared}
theorem nI.tuples(hl:s.heap.IsTuple l items)(hb:s.heap.IsTuple b da)(hu:A.units<cLine)
  (he:∀ j (h1:j<items.size) (h2:j<da.size),EqAt A.in1 s items[j] da[j] (e j)) (hf:∀ j (h1:j<items.size) (h2:j<da.size),e j=false->nI A.in1 s items[j] da[j] (f j)) :
  nI A s (.ref l) (.ref b) (tN e f items.size da.size (min items.size da.size) 0):=fun prog w Q E h=>by
 obtain⟨⟨cls,dd,data,sl⟩,ho,hc,n,hd⟩:=id hl
 obtain⟨⟨Ss,rS,data2,rV⟩,qa,x3,n2,hd2⟩:=id hb
 simp only at hc hd x3 hd2
 subst hc hd x3 hd2
 exact richCompare_meets_room (op:=.Lt) ⟨_,ho,rfl⟩ ⟨_,qa,rfl⟩ F.slot_tuple_lt F.entry_tuple_lt (F.args_tuple_lt_2 _ _) (vY l b items da n n2 dd rS sl rV e f)
  ⟨ho,qa,he,hf,show Value.bool _≠Value.notImplemented/\Q (.bool _) s from⟨(fun x=>nomatch x),h⟩⟩ hu
theorem nI.lists(hl:s.heap.IsList l items)(hb:s.heap.IsList b da)(hu:A.units<cLine)
  (he:∀ j (h1:j<items.size) (h2:j<da.size),EqAt A.in1 s items[j] da[j] (e j)) (hf:∀ j (h1:j<items.size) (h2:j<da.size),e j=false->nI A.in1 s items[j] da[j] (f j)) :
  nI A s (.ref l) (.ref b) (tN e f items.size da.size (min items.size da.size) 0):=fun prog w Q E h=>by
 obtain⟨⟨cls,dd,data,sl⟩,ho,hc,n,hd⟩:=id hl
 obtain⟨⟨Ss,rS,data2,rV⟩,qa,x3,n2,hd2⟩:=id hb
 simp only at hc hd x3 hd2
 subst hc hd x3 hd2
 exact richCompare_meets_room (op:=.Lt) ⟨_,ho,rfl⟩ ⟨_,qa,rfl⟩ F.slot_list_lt F.entry_list_lt (F.args_list_lt_2 _ _) (xn l b items da n n2 dd rS sl rV e f)
  ⟨ho,qa,he,hf,show Value.bool _≠Value.notImplemented/\Q (.bool _) s from⟨(fun x=>nomatch x),h⟩⟩ hu
theorem nI.int(a:Int)(t:Tok)(b:Int)(u:Tok):nI A s (.int a t) (.int b u) (decide (a<b)):=fun prog w Q E h=>(show wpAny _ _ (compareOp .Lt _ _) _ _ _ from PyProof.Rows.lt_int h)
theorem nI.str(a:Str)(t:Tok)(b:Str)(u:Tok):nI A s (.str a t) (.str b u) (decide (a.cps.toList<b.cps.toList)):=fun prog w Q E h=>(show wpAny _ _ (compareOp .Lt _ _) _ _ _ from PySem.P.lt_str h)
end
def nK(lt:PyData->PyData->Bool):List PyData->List PyData->Bool
 |[],ys=>!ys.isEmpty
 |_ :: _,[]=>false
 |x :: xs,y :: ys=>if PyData.eqv x y then nK lt xs ys else lt x y
def cc:Nat->PyData->PyData->Bool
 |_,.int i,.int j=>decide (i<j)
 |_,.str x,.str y=>decide (x.cps.toList<y.cps.toList)
 |n+1,.list xs,.list ys=>nK (cc n) xs ys
 |n+1,.tuple xs,.tuple ys=>nK (cc n) xs ys
 |_,_,_=>false
def oy:Nat->PyData->PyData->Prop
 |_,.int _,.int _=>True
 |_,.str _,.str _=>True
 |n+1,.list xs,.list ys=>∀ (j:Nat) (x y:PyData),xs[j]? = some x->ys[j]? = some y->PyData.eqv x y=false->oy n x y
 |n+1,.tuple xs,.tuple ys=>∀ (j:Nat) (x y:PyData),xs[j]? = some x->ys[j]? = some y->PyData.eqv x y=false->oy n x y
 |_,_,_=>False
def at2(g:PyData->PyData->Bool)(xs ys:List PyData)(j:Nat):Bool:=match xs[j]?,ys[j]? with
 |some x,some y=>g x y
 |_,_=>false
theorem oH(hx:xs[j]? = some x)(hy:ys[j]? = some y):at2 g xs ys j=g x y:=by
 unfold at2
 rw[hx,hy]
theorem Df(lt:PyData->PyData->Bool)(xs ys:List PyData)(k:Nat):∀ i,min xs.length ys.length-i=k->i<=min xs.length ys.length->tN (at2 PyData.eqv xs ys) (at2 lt xs ys) xs.length ys.length k i=nK lt (xs.drop i) (ys.drop i):=by
 induction k with
 |zero =>
  intro i hk hi
  rw[tN]
  rcases GB xs.length ys.length with z|z
  ·rw[decide_eq_true z,Rt (show xs.length<=i by lia),wd (show i<ys.length by lia)]
   rfl
  ·rw[decide_eq_false (by lia),Rt (show ys.length<=i by lia)]
   cases xs.drop i<;>rfl
 |succ k ih =>
  intro i hk hi
  have h1:i<xs.length:=by lia
  have h2:i<ys.length:=by lia
  rw[tN,oH (kS h1) (kS h2),oH (kS h1) (kS h2),ih (i+1) (by lia) (by lia),
   wd h1,wd h2,nK]
theorem dN:∀ {vs:List Value} {as:List Addr},ReadsAll h vs xs as->∀ (j:Nat) (v:Value),vs[j]? = some v->∃ x bs,xs[j]? = some x/\Reads h v x bs:=by
 induction xs with
 |nil =>
  intro vs as r j v hv
  cases r
  simp at hv
 |cons x xs ih =>
  intro vs as r j v hv
  cases r with
  |cons r rs =>
   cases j with
   |zero =>
    simp at hv
    subst hv
    exact⟨x,_,rfl,r⟩
   |succ j=>exact ih rs j v (by simpa using hv)
theorem jD{xs:List PyData}(h:PyData.canLayAll0 xs=true){j:Nat}{x:PyData}(hx:xs[j]? = some x):x.canLay0=true:=by
 induction xs generalizing j with
 |nil=>simp at hx
 |cons y xs ih =>
  have h:y.canLay0=true/\PyData.canLayAll0 xs=true:=by simpa[PyData.canLayAll0] using h
  cases j with
  |zero=>simp at hx;subst hx;exact h.1
  |succ j=>exact ih h.2 (by simpa using hx)
theorem oO{xs:List PyData}{j:Nat}{x:PyData}(hx:xs[j]? = some x):x.depth<=PyData.depthAll xs:=by
 induction xs generalizing j with
 |nil=>simp at hx
 |cons y xs ih =>
  simp only[PyData.depthAll]
  cases j with
  |zero=>simp at hx;subst hx;lia
  |succ j=>have:=ih (j:=j) (by simpa using hx);lia
theorem Ar(n:Nat):∀ (d e:PyData) (A:Around) (s:Shared) (a b:Value) (as bs:List Addr),Reads s.heap a d as->Reads s.heap b e bs->d.canLay0=true->e.canLay0=true->oy n d e->d.depth<=20->A.units+n+30<cLine->nI A s a b (cc n d e):=by
 induction n with
 |zero =>
  intro d e A s a b as bs ra rb _ _ c _ _
  cases ra<;>cases rb<;>first|(rw[cc];exact nI.int _ _ _ _)|(rw[cc];exact nI.str _ _ _ _)|exact absurd c (by simp[oy])
 |succ n ih =>
  intro d e A s a b as bs ra rb la lb c dd hu
  cases ra with
  |int i t=>cases rb<;>first|(rw[cc];exact nI.int _ _ _ _)|exact absurd c (by simp[oy])
  |str x t=>cases rb<;>first|(rw[cc];exact nI.str _ _ _ _)|exact absurd c (by simp[oy])
  |@list l o vs m xs Ud h1 h2 h3 h4 =>
   cases rb with
   |@list l' o' i7 m' ys Yw k1 k2 k3 k4 =>
    have n1:vs.size=xs.length:=by simpa using ReadsAll.length _ _ _ h4
    have n2:i7.size=ys.length:=by simpa using ReadsAll.length _ _ _ k4
    have OO:∀ j (h1:j<vs.size),∃ x cs,xs[j]? = some x/\Reads s.heap vs[j] x cs:=fun j hj=>dN h4 j vs[j] (by simp[hj])
    have OQ:∀ j (h1:j<i7.size),∃ x cs,ys[j]? = some x/\Reads s.heap i7[j] x cs:=fun j hj=>dN k4 j i7[j] (by simp[hj])
    have dx:PyData.depthAll xs<20:=by simp only[PyData.depth] at dd;lia
    have:=nI.lists (A:=A) (s:=s) (e:=at2 PyData.eqv xs ys) (f:=at2 (cc n) xs ys) ⟨_,h1,h2,_,h3⟩ ⟨_,k1,k2,_,k3⟩ (by lia) (fun j j1 j2=>by
     obtain⟨x,cs,ex,rx⟩:=OO j j1
     obtain⟨y,Ue,ey,ry⟩:=OQ j j2
     rw[oH ex ey]
     have:=oO ex
     exact eqAt_reads x y A.in1 s _ _ _ _ rx ry (jD la ex) (jD lb ey) (by show A.units+1+_<cLine;lia)) (fun j j1 j2 ne=>by
     obtain⟨x,cs,ex,rx⟩:=OO j j1
     obtain⟨y,Ue,ey,ry⟩:=OQ j j2
     rw[oH ex ey] at ne ⊢
     have:=oO ex
     exact ih x y A.in1 s _ _ _ _ rx ry (jD la ex) (jD lb ey) (c j x y ex ey ne) (by lia) (by show A.units+1+n+30<cLine;lia))
    rw[n1,n2,Df (cc n) xs ys _ 0 (Nat.sub_zero _) (eK _)] at this
    exact this
   |_=>exact absurd c (by simp[oy])
  |@tuple l o vs m xs Ud h1 h2 h3 h4 =>
   cases rb with
   |@tuple l' o' i7 m' ys Yw k1 k2 k3 k4 =>
    have n1:vs.size=xs.length:=by simpa using ReadsAll.length _ _ _ h4
    have n2:i7.size=ys.length:=by simpa using ReadsAll.length _ _ _ k4
    have OO:∀ j (h1:j<vs.size),∃ x cs,xs[j]? = some x/\Reads s.heap vs[j] x cs:=fun j hj=>dN h4 j vs[j] (by simp[hj])
    have OQ:∀ j (h1:j<i7.size),∃ x cs,ys[j]? = some x/\Reads s.heap i7[j] x cs:=fun j hj=>dN k4 j i7[j] (by simp[hj])
    have dx:PyData.depthAll xs<20:=by simp only[PyData.depth] at dd;lia
    have:=nI.tuples (A:=A) (s:=s) (e:=at2 PyData.eqv xs ys) (f:=at2 (cc n) xs ys) ⟨_,h1,h2,_,h3⟩ ⟨_,k1,k2,_,k3⟩ (by lia) (fun j j1 j2=>by
     obtain⟨x,cs,ex,rx⟩:=OO j j1
     obtain⟨y,Ue,ey,ry⟩:=OQ j j2
     rw[oH ex ey]
     have:=oO ex
     exact eqAt_reads x y A.in1 s _ _ _ _ rx ry (jD la ex) (jD lb ey) (by show A.units+1+_<cLine;lia)) (fun j j1 j2 ne=>by
     obtain⟨x,cs,ex,rx⟩:=OO j j1
     obtain⟨y,Ue,ey,ry⟩:=OQ j j2
     rw[oH ex ey] at ne ⊢
     have:=oO ex
     exact ih x y A.in1 s _ _ _ _ rx ry (jD la ex) (jD lb ey) (c j x y ex ey ne) (by lia) (by show A.units+1+n+30<cLine;lia))
    rw[n1,n2,Df (cc n) xs ys _ 0 (Nat.sub_zero _) (eK _)] at this
    exact this
   |_=>exact absurd c (by simp[oy])
  |_=>cases rb<;>exact absurd c (by simp[oy])
end PySem.SeqAt
namespace L2
open PySem PySem.Spec PyProof.Rows PySem.SeqAt
structure iE(lt:PyData->PyData->Bool)(S:PyData->Prop):Prop where
 pj:∀ x,S x->lt x x=false
 tr:∀ x y z,S x->S y->S z->lt x y=true->lt y z=true->lt x z=true
 ag:∀ x y,S x->S y->lt x y=false->lt y x=false->x=y
 eqv:∀ x y,S x->S y->(PyData.eqv x y=true↔x=y)
theorem iE.int(n:Nat):iE (cc n) fun x=>∃ i,x=.int i where
 pj:=by rintro x ⟨i,rfl⟩;rw[cc];simp
 tr:=by rintro x y z ⟨i,rfl⟩ ⟨j,rfl⟩ ⟨k,rfl⟩;rw[cc,cc,cc];simp only[decide_eq_true_eq];lia
 ag:=by rintro x y ⟨i,rfl⟩ ⟨j,rfl⟩;rw[cc,cc];simp only[decide_eq_false_iff_not,PyData.int.injEq];lia
 eqv:=by rintro x y ⟨i,rfl⟩ ⟨j,rfl⟩;simp[PyData.eqv]
theorem iE.str(n:Nat):iE (cc n) fun x=>∃ s,x=.str s where
 pj:=by rintro x ⟨i,rfl⟩;rw[cc];exact xQ i
 tr:=by rintro x y z ⟨i,rfl⟩ ⟨j,rfl⟩ ⟨k,rfl⟩;rw[cc,cc,cc];exact fun h g=>Cp (y:=j) h g
 ag:=by rintro x y ⟨i,rfl⟩ ⟨j,rfl⟩;rw[cc,cc];exact fun h g=>by rw[zq (x:=i) (y:=j) h g]
 eqv:=by rintro x y ⟨i,rfl⟩ ⟨j,rfl⟩;simp[PyData.eqv]
section
variable {lt:PyData->PyData->Bool}{S:PyData->Prop}
theorem BX(T:iE lt S)(xs:List PyData)(h:∀ x∈xs,S x):nK lt xs xs=false:=by
 induction xs with
 |nil=>rfl
 |cons x xs ih =>
  rw[nK,if_pos ((T.eqv x x (h x b6) (h x b6)).mpr rfl)]
  exact ih fun y hy=>h y (b9 _ hy)
open Classical in
theorem dO(T:iE lt S)(hx:S x)(hy:S y):nK lt (x :: xs) (y :: ys)=if x=y then nK lt xs ys else lt x y:=by
 rw[nK]
 by_cases e:x=y
 ·rw[if_pos e,if_pos ((T.eqv x y hx hy).mpr e)]
 ·rw[if_neg e,if_neg fun z=>e ((T.eqv x y hx hy).mp z)]
theorem Aq(T:iE lt S)(xs:List PyData):∀ ys:List PyData,(∀ x∈xs,S x)->(∀ y∈ys,S y)->nK lt xs ys=false->nK lt ys xs=false->xs=ys:=by
 induction xs with
 |nil =>
  intro ys _ _ h _
  cases ys with
  |nil=>rfl
  |cons y ys=>cases h
 |cons x xs ih =>
  intro ys hx hy h1 h2
  cases ys with
  |nil=>cases h2
  |cons y ys =>
   have sx:=hx x b6
   have sy:=hy y b6
   rw[dO T sx sy] at h1
   rw[dO T sy sx] at h2
   by_cases e:x=y
   ·subst e
    rw[if_pos rfl] at h1 h2
    rw[ih ys (fun z hz=>hx z (b9 _ hz)) (fun z hz=>hy z (b9 _ hz)) h1 h2]
   ·rw[if_neg e] at h1
    rw[if_neg fun z=>e z.symm] at h2
    exact absurd (T.ag x y sx sy h1 h2) e
theorem D_(T:iE lt S)(xs:List PyData):∀ ys zs:List PyData,(∀ x∈xs,S x)->(∀ y∈ys,S y)->(∀ z∈zs,S z)->nK lt xs ys=true->nK lt ys zs=true->nK lt xs zs=true:=by
 induction xs with
 |nil =>
  intro ys zs _ _ _ h1 h2
  cases zs with
  |cons z zs=>rfl
  |nil =>
   cases ys with
   |nil=>cases h1
   |cons y ys=>cases h2
 |cons x xs ih =>
  intro ys zs hx hy hz h1 h2
  cases ys with
  |nil=>cases h1
  |cons y ys =>
   cases zs with
   |nil=>cases h2
   |cons z zs =>
    have sx:=hx x b6
    have sy:=hy y b6
    have sz:=hz z b6
    rw[dO T sx sy] at h1
    rw[dO T sy sz] at h2
    rw[dO T sx sz]
    have tl:=ih ys zs (fun z hz=>hx z (b9 _ hz)) (fun z hz=>hy z (b9 _ hz)) fun w hw=>hz w (b9 _ hw)
    by_cases e1:x=y
    ·subst e1
     rw[if_pos rfl] at h1
     by_cases e2:x=z
     ·subst e2
      rw[if_pos rfl] at h2 ⊢
      exact tl h1 h2
     ·rw[if_neg e2] at h2 ⊢
      exact h2
    ·rw[if_neg e1] at h1
     by_cases e2:y=z
     ·subst e2
      rw[if_neg e1]
      exact h1
     ·rw[if_neg e2] at h2
      have t:=T.tr x y z sx sy sz h1 h2
      by_cases e3:x=z
      ·subst e3
       rw[T.pj x sx] at t
       cases t
      ·rw[if_neg e3];exact t
theorem wK(T:iE lt S)(xs:List PyData):∀ ys:List PyData,(∀ x∈xs,S x)->(∀ y∈ys,S y)->(PyData.eqvAll xs ys=true↔xs=ys):=by
 induction xs with
 |nil=>intro ys _ _;cases ys<;>simp[PyData.eqvAll]
 |cons x xs ih =>
  intro ys hx hy
  cases ys with
  |nil=>simp[PyData.eqvAll]
  |cons y ys =>
   have h1:=T.eqv x y (hx x b6) (hy y b6)
   have h2:=ih ys (fun z hz=>hx z (b9 _ hz)) fun z hz=>hy z (b9 _ hz)
   simp only[PyData.eqvAll,mw,List.cons.injEq]
   exact and_congr h1 h2
end
theorem iE.list{S:PyData->Prop}(T:iE (cc n) S):iE (cc (n+1)) fun x=>∃ xs,x=.list xs/\∀ y∈xs,S y where
 pj:=by rintro x ⟨xs,rfl,h⟩;rw[cc];exact BX T xs h
 tr:=by rintro x y z ⟨xs,rfl,h⟩ ⟨ys,rfl,h'⟩ ⟨zs,rfl,h''⟩;rw[cc,cc,cc];exact D_ T xs ys zs h h' h''
 ag:=by
  rintro x y ⟨xs,rfl,h⟩ ⟨ys,rfl,h'⟩
  rw[cc,cc]
  exact fun h1 h2=>by rw[Aq T xs ys h h' h1 h2]
 eqv:=by
  rintro x y ⟨xs,rfl,h⟩ ⟨ys,rfl,h'⟩
  rw[PyData.list.injEq]
  exact wK T xs ys h h'
open Classical in
theorem eZ{S U:PyData->Prop}(T:iE (cc n) S)(T2:iE (cc n) U)(ha:S a)(hb:U b)(hc:S c)(hd:U d):nK (cc n) [a,b] [c,d]=if a=c then cc n b d else cc n a c:=by
 rw[dO T ha hc,dO T2 hb hd]
 by_cases e:b=d
 ·subst e
  rw[if_pos rfl,show nK (cc n) [] []=false from rfl,T2.pj b hb]
 ·rw[if_neg e]
theorem iE.pair{S U:PyData->Prop}(T:iE (cc n) S)(T2:iE (cc n) U):iE (cc (n+1)) fun x=>∃ a b,x=.tuple [a,b]/\S a/\U b where
 pj:=by rintro x ⟨a,b,rfl,ha,hb⟩;rw[cc,eZ T T2 ha hb ha hb,if_pos rfl];exact T2.pj b hb
 tr:=by
  rintro x y z ⟨a,b,rfl,ha,hb⟩ ⟨c,d,rfl,hc,hd⟩ ⟨e,f,rfl,he,hf⟩
  rw[cc,cc,cc,eZ T T2 ha hb hc hd,eZ T T2 hc hd he hf,eZ T T2 ha hb he hf]
  intro h1 h2
  by_cases e1:a=c
  ·subst e1
   rw[if_pos rfl] at h1
   by_cases e2:a=e
   ·subst e2
    rw[if_pos rfl] at h2 ⊢
    exact T2.tr b d f hb hd hf h1 h2
   ·rw[if_neg e2] at h2 ⊢
    exact h2
  ·rw[if_neg e1] at h1
   by_cases e2:c=e
   ·subst e2
    rw[if_neg e1];exact h1
   ·rw[if_neg e2] at h2
    have t:=T.tr a c e ha hc he h1 h2
    by_cases e3:a=e
    ·subst e3
     rw[T.pj a ha] at t;cases t
    ·rw[if_neg e3];exact t
 ag:=by
  rintro x y ⟨a,b,rfl,ha,hb⟩ ⟨c,d,rfl,hc,hd⟩
  rw[cc,cc,eZ T T2 ha hb hc hd,eZ T T2 hc hd ha hb]
  intro h1 h2
  by_cases e:a=c
  ·subst e
   rw[if_pos rfl] at h1 h2
   rw[T2.ag b d hb hd h1 h2]
  ·rw[if_neg e] at h1
   rw[if_neg fun z=>e z.symm] at h2
   exact absurd (T.ag a c ha hc h1 h2) e
 eqv:=by
  rintro x y ⟨a,b,rfl,ha,hb⟩ ⟨c,d,rfl,hc,hd⟩
  have h1:=T.eqv a c ha hc
  have h2:=T2.eqv b d hb hd
  simp only[PyData.eqv,PyData.eqvAll,mw,Px,PyData.tuple.injEq,List.cons.injEq,and_true]
  exact and_congr h1 h2
section
variable {prog:Program}{w:World}{A:Around}{E:Value->Shared->Prop}{s:Shared}{Q:Bool->Shared->Prop}
theorem Ba(xs:List PyData):∀ (ys:List PyData) (us vs:List Value) (as bs:List Addr) (i:Nat),ReadsAll s.heap us xs as->ReadsAll s.heap vs ys bs->PyData.canLayAll0 xs=true->PyData.canLayAll0 ys=true->PyData.depthAll xs<=20 ->
  (∀ (j:Nat) (x y:PyData),xs[j]? = some x->ys[j]? = some y->PyData.eqv x y=false->oy n x y)->(i=0->∀ x y,xs[0]? = some x->ys[0]? = some y->(∃ k,x=.int k)/\∃ k,y=.int k)->xs.length=ys.length->A.units+n+30<cLine->Q (nK (cc n) xs ys) s ->
  PySem.W.KatLex prog w A true false Q (us.zip vs) i s:=by
 induction xs with
 |nil =>
  intro ys us vs as bs i ra rb _ _ _ _ _ hl _ q
  cases ys with
  |cons y ys=>cases hl
  |nil =>
   cases ra
   exact PySem.W.kat_nil q
 |cons x xs ih =>
  intro ys us vs as bs i ra rb la lb dp c hi hl hu q
  cases ys with
  |nil=>cases hl
  |cons y ys =>
   cases ra with
   |cons r rs =>
    cases rb with
    |cons r' DL =>
     have Ug:x.canLay0=true/\PyData.canLayAll0 xs=true:=by simpa[PyData.canLayAll0] using la
     have Uh:y.canLay0=true/\PyData.canLayAll0 ys=true:=by simpa[PyData.canLayAll0] using lb
     have Yx:x.depth<=20/\PyData.depthAll xs<=20:=by simp only[PyData.depthAll] at dp;lia
     rw[xl]
     rw[nK] at q
     refine PySem.W.kat_cons (eqAt_reads x y A s _ _ _ _ r r' Ug.1 Uh.1 (by lia) prog w _ _ (PySem.W.kat_go (fun h=>PySem.W.kat_yes ?_) (fun h=>PySem.W.kat_no ?_)))
     ·rw[if_pos h] at q
      exact ih ys _ _ _ _ (i+1) rs DL Ug.2 Uh.2 Yx.2 (fun j=>c (j+1)) (fun z=>by lia) (by simpa using hl) hu q
     ·rw[if_neg (by rw[h];exact gy)] at q
      by_cases h0:i=0
      ·obtain⟨⟨a,rfl⟩,⟨b,rfl⟩⟩:=hi h0 x y rfl rfl
       subst h0
       cases r
       cases r'
       rw[cc] at q
       exact oneLt_int q
      ·rw[show(true && i == 0)=false by simp[h0]]
       exact PySem.W.kat_one _ _ (Ar n x y A s _ _ _ _ r r' Ug.1 Uh.1 (c 0 x y rfl rfl h) Yx.1 (by lia) prog w _ _ q)
structure Fs(n:Nat)(S:PyData->Prop):Prop where
 ag:iE (cc (n+1)) S
 tup:∀ x,S x->∃ i xs,x=.tuple (.int i :: xs)/\x.canLay0=true/\x.depth<=20
 len:∀ xs ys,S (.tuple xs)->S (.tuple ys)->xs.length=ys.length
 cm:∀ x y,S x->S y->oy (n+1) x y
open Classical in
def kJ(h:Heap)(v:Value):PyData:=if z:∃ d as,Reads h v d as/\d.canLay0=true then z.choose else .none
theorem gH(r:Reads h v d as)(l:d.canLay0=true):kJ h v=d:=by
 have z:∃ d as,Reads h v d as/\d.canLay0=true:=⟨d,as,r,l⟩
 unfold kJ
 rw[dif_pos z]
 obtain⟨bs,r2,l2⟩:=z.choose_spec
 exact Reads.unique _ _ _ _ _ l2 r2 r
def Fu(n:Nat)(L:List PyData)(d:PyData):Int:=(L.countP fun e=>cc n e d:Nat)
theorem Cy{S:PyData->Prop}(T:iE (cc n) S)(hL:∀ d∈L,S d)(ha:a∈L)(hb:S b):decide (Fu n L a<Fu n L b)=cc n a b:=by
 have sa:=hL a ha
 unfold Fu
 cases h:cc n a b with
 |true =>
  have:=qj (fun j=>cc n j a) (fun j=>cc n j b) a (T.pj a sa) h L ha fun x hx z=>T.tr x a b (hL x hx) sa hb z h
  exact decide_eq_true (by lia)
 |false =>
  refine decide_eq_false ?_
  cases g:cc n b a with
  |false =>
   rw[T.ag a b sa hb h g]
   lia
  |true =>
   have:=count_le (fun j=>cc n j b) (fun j=>cc n j a) L fun x hx z=>T.tr x b a (hL x hx) hb sa z g
   lia
theorem Ao{S:PyData->Prop}(K:Fs n S)(kp:∀ b o,h0.get? b=some o->s.heap.get? b=some o)(hL:∀ d∈L,S d)(hu:A.units+n+31<cLine) :
  x6.mE prog w A s (tuples' true) (fun v=>Fu (n+1) L (kJ h0 v)) (fun v=>∃ d as,d∈L/\Reads h0 v d as):=by
 rintro x y ⟨d,as,md,rd⟩ ⟨e,bs,me,re⟩ Q E q
 have sd:=hL d md
 have se:=hL e me
 obtain⟨i,xs,rfl,ld,dd⟩:=K.tup d sd
 obtain⟨j,ys,rfl,le,de⟩:=K.tup e se
 replace q:Q (decide (Fu (n+1) L (kJ h0 x)<Fu (n+1) L (kJ h0 y))) s:=q
 rw[gH rd ld,gH re le,Cy K.ag hL md se,cc] at q
 have rd':=PyProof.Rows.Reads.keeps kp rd
 have re':=PyProof.Rows.Reads.keeps kp re
 have cm:=K.cm _ _ sd se
 have hl:=K.len _ _ sd se
 cases rd' with
 |@tuple a o us m _ Ud h1 h2 h3 h4 =>
  cases re' with
  |@tuple b o' vs m' _ Yw k1 k2 k3 k4 =>
   have n1:us.size=(PyData.int i :: xs).length:=by simpa using ReadsAll.length _ _ _ h4
   have n2:vs.size=(PyData.int j :: ys).length:=by simpa using ReadsAll.length _ _ _ k4
   refine PySem.W.kat_lt h1 h3 k1 k3 ?_
   rw[show decide (us.size<vs.size)=false from decide_eq_false (by lia)]
   exact Ba (n:=n) _ _ _ _ _ _ 0 h4 k4 ld le (by simp only[PyData.depth] at dd;lia) cm (fun _ x y hx hy=>by cases hx;cases hy;exact⟨⟨_,rfl⟩,_,rfl⟩) hl (by lia) q
end
section
variable {X:Cx}{pins:List (Addr × Obj)}{σ:St}{H:Hp}{s:Shared}
theorem yD(I:Inv X pins σ H s):∀ {ds:List PyData} {ys:List V} {vs:List Value},aI X.K H ds ys->Vals ys vs->∀ v∈vs,∃ d y as,d∈ds/\Rep X.K H d y/\RelV y v/\Reads s.heap v d as
 |_,_,_,.nil,.nil,v,hv=>nomatch hv
 |_,_,_,.cons r rs,.cons q qs,v,hv=>by
  rcases dv.mp hv with rfl|hv
  ·obtain⟨as,z⟩:=r.reads I q
   exact⟨_,_,as,b6,r,q,z⟩
  ·obtain⟨d,y,as,a,b,c,z⟩:=yD I rs qs v hv
   exact⟨d,y,as,b9 _ a,b,c,z⟩
theorem uH{S:PyData->Prop}(K:Fs n S):∀ (vs:List Value),(∀ v∈vs,∃ d as,S d/\Reads h0 v d as)->∃ fs:List Value,PySem.W.KatTups h0 vs fs/\fs.length=vs.length/\∀ f∈fs,∃ i t,f=Value.int i t
 |[],_=>⟨[],.nil,rfl,fun f hf=>nomatch hf⟩
 |v :: vs,h=>by
  obtain⟨fs,f1,f2,f3⟩:=uH K vs fun u hu=>h u (b9 _ hu)
  obtain⟨d,as,sd,r⟩:=h v b6
  obtain⟨i,xs,rfl,_,_⟩:=K.tup d sd
  cases r with
  |@tuple a o us m _ Ud h1 h2 h3 h4 =>
   obtain⟨us⟩:=us
   cases h4 with
   |cons r rs =>
    cases r with
    |int _ t =>
     exact⟨_ :: fs,.cons h1 h2 h3 rfl f1,by simp[f2],fun f hf=>by
      rcases dv.mp hf with rfl|hf
      ·exact⟨_,_,rfl⟩
      ·exact f3 f hf⟩
def FC:Value->V
 |.ref a=>.ref a
 |_=>.non
theorem yF{S:PyData->Prop}(K:Fs n S)(sd:S d)(q:RelV y v)(r:Reads h0 v d as):FC v=y:=by
 obtain⟨i,xs,rfl,_,_⟩:=K.tup d sd
 cases r with
 |tuple h1 h2 h3 h4 =>
  cases y with
  |ref b=>cases (show Value.ref _=Value.ref b from q);rfl
  |_=>simp[RelV] at q
theorem vd{S:PyData->Prop}(K:Fs n S)(I:Inv X pins σ H s):∀ {ds:List PyData} {ys:List V} {vs:List Value},aI X.K H ds ys->Vals ys vs->(∀ d∈ds,S d)->vs.map (fun v=>(kJ s.heap v,FC v))=ds.zip ys
 |_,_,_,.nil,.nil,_=>rfl
 |_,_,_,.cons r rs,.cons q qs,h=>by
  obtain⟨as,z⟩:=r.reads I q
  have sd:=h _ b6
  obtain⟨_,_,_,l,_⟩:=K.tup _ sd
  rw[fN,gH z l,yF K sd q z,vd K I rs qs fun d hd=>h d (b9 _ hd),xl]
def oJ(K:PySem.W.Frag)(n:Nat)(S:PyData->Prop):List V->Hp->VK->Prop:=fun xs H Q=>match xs with
 |[.ref p]=>∃ ys ds,eL K H p ys/\aI K H ds ys/\(∀ d∈ds,S d)/\∀ (ps:List (PyData × V)) l,ps.Perm (ds.zip ys)->(ps.Pairwise fun a b=>cc (n+1) b.1 a.1=false)->H l=none->Q (.ref l) (upd H l (.lst (ps.map (·.2))))
 |_=>False
theorem wD {S:PyData->Prop} (K:Fs n S) (hu:X.A.units+n+40<cLine):kr X (.builtin "sorted") (oJ X.K n S):=by
 intro pins s σ H xs us Q I r h
 unfold oJ at h
 split at h
 ·rename_i p
  obtain⟨ys,ds,hl,hr,hS,q⟩:=h
  obtain⟨u,rfl,ru⟩:=Vals.one r
  cases ru
  obtain⟨vs,rv,pl,hz⟩:=I.list hl
  have lay:∀ d∈ds,d.canLay0=true:=fun d hd=>by obtain⟨_,_,_,l,_⟩:=K.tup d (hS d hd);exact l
  have mem:=yD I hr rv
  have hlen:=rv.length
  refine x6.zL (κ:=tuples' true) (r:=fun v=>Fu (n+1) ds (kJ s.heap v)) (P:=fun v=>∃ d as,d∈ds/\Reads s.heap v d as) pl.isList (by lia) (fun v hv=>?_) (fun h2 A' E' s' kp Q' q'=>?_) (fun h2 s' kp=>Ao K kp hS (by show X.A.units+1+1+n+31<cLine;lia)) fun h' out m pm pw kp eo=>?_
  ·obtain⟨d,y,as,a,b,c,z⟩:=mem v hv
   exact⟨d,as,a,z⟩
  ·obtain⟨fs,f1,f2,f3⟩:=uH (h0:=s'.heap) K vs fun v hv=>by
    obtain⟨d,y,as,a,b,c,z⟩:=mem v hv
    exact⟨d,as,hS d a,PyProof.Rows.Reads.keeps kp z⟩
   refine PySem.W.kat_kind (T:=.type "int") f1 (by lia) (fun f hf=>?_) (by decide) q'
   obtain⟨i,t,rfl⟩:=f3 f hf
   exact .now
  ·have back:∀ v∈out,∃ d y as,d∈ds/\Rep X.K H d y/\RelV y v/\Reads s.heap v d as:=fun v hv=>mem v (pm.mem_iff.mp hv)
   have rel:∀ l:List Value,(∀ v∈l,v∈out)->Vals (l.map FC) l:=by
    intro l
    induction l with
    |nil=>exact fun _=>.nil
    |cons v l ih =>
     intro hm
     obtain⟨d,y,as,a,b,c,z⟩:=back v (hm v b6)
     exact .cons (by rw[yF K (hS d a) c z];exact c) (ih fun u hu=>hm u (b9 _ hu))
   have z2:=rel out fun _ h=>h
   have ol:=pm.length_eq
   have e2:(out.map fun v=>(kJ s.heap v,FC v)).map (·.2)=out.map FC:=by rw[fR];rfl
   have q':=q (out.map fun v=>(kJ s.heap v,FC v)) (s.heap.objs.size+1) (by rw[<- vd K I hr rv hS];exact pm.map _) ?_ (I.bq.fresh (Nat.le_succ _))
   ·rw[e2] at q'
    exact⟨.ref (s.heap.objs.size+1),_,I.laid (a:=s.heap.objs.size+1) (t':=s.toks) kp (Nat.le_succ _) (show fe X.prog X.w _ h' _ (.lst (out.map FC)) from⟨by rw[b4];lia,out,m,z2,eo⟩),rfl,q'⟩
   rw[pE]
   refine pw.imp_of_mem fun {x y} mx my hle=>?_
   obtain⟨d,_,as,md,_,_,rd⟩:=back x mx
   obtain⟨e,_,bs,me,_,_,re⟩:=back y my
   rw[gH rd (lay d md),gH re (lay e me)] at *
   have:=Cy K.ag hS me (hS d md)
   rw[<- this]
   exact decide_eq_false (by lia)
 ·exact h.elim
end
end L2
namespace L2.Q
open PySem PySem.Spec PyProof.Rows PySem.SeqAt
section
variable {X:Cx}{K:PySem.W.Frag}{Hs H:Hp}
theorem jq(xs:List D):mh xs=xs.map D.py:=by
 induction xs with
 |nil=>rfl
 |cons x xs ih=>rw[mh,ih];rfl
theorem Bb:∀ {vs:List V},aI K H xs vs->∀ p∈xs.zip vs,Rep K H p.1 p.2:=by
 induction xs with
 |nil=>intro vs r p hp;simp at hp
 |cons x xs ih =>
  intro vs r p hp
  obtain⟨u,us,rfl,r1,rs⟩:=r.c
  rw[xl] at hp
  rcases dv.mp hp with rfl|hp
  ·exact r1
  ·exact ih rs p hp
theorem vJ(l:List (D × V))(h:∀ p∈l,Rep K H p.1 p.2):aI K H (l.map (·.1)) (l.map (·.2)):=by
 induction l with
 |nil=>exact .nil
 |cons p l ih=>exact .cons (h p b6) (ih fun q hq=>h q (b9 _ hq))
def Cv(n:Nat)(S:PyData->Prop):W1:=fun m x Q=>match x with
 |.list xs=>m=.sh/\(∀ d∈xs,cv 12 d=true/\S d.py)/\∀ ms:List D,ms.Perm xs->(ms.Pairwise fun a b=>cc (n+1) b.py a.py=false)->Q (.ow false) (.list ms)
 |_=>False
theorem Ac{S:PyData->Prop}:An K (oJ K n S) (Cv n S):=by
 intro Hs H m x v As Qd Qv w rx h f
 have r1:=rx.rep w
 cases r1 with
 |@list _ _ Rg z s q =>
  obtain⟨rfl,hS,h⟩:=h
  obtain⟨_,rx⟩:=rx
  cases rx with
  |@list _ i7 _ z' s' q' =>
   have hl:=q'.length
   have ez:(mh Rg).zip i7=(Rg.zip i7).map fun p=>(p.1.py,p.2):=by
    rw[jq,List.zip_map_left]
    rfl
   refine⟨_,mh Rg,ax.seq w.sub s',Rep.Tx.2 (q'.same w.sub) 12 fun d hd=>(hS d hd).1,fun d hd=>?_,fun ps l hp hw hn=>?_⟩
   ·rw[jq] at hd
    obtain⟨e,he,rfl⟩:=cK.mp hd
    exact(hS e he).2
   ·obtain⟨m',rfl,pm⟩:=TS.jA hp ez
    have p1:(m'.map (·.1)).Perm Rg:=by
     have:=pm.map (·.1)
     rwa[D2 (B1 hl)] at this
    have rr:=vJ (K:=K) (H:=Hs) m' fun p hp=>Bb q' p (pm.mem_iff.mp hp)
    rw[show(m'.map fun p=>(p.1.py,p.2)).map (·.2)=m'.map (·.2) by rw[fR];rfl]
    refine f.NM w (by rw[p1.length_eq];lia) rr (h _ p1 ?_) l hn
    rw[pE] at hw ⊢
    exact hw
 |_=>exact h.elim
theorem GK {S:PyData->Prop} (KS:Fs n S) (hu:X.A.units+n+40<cLine) (hK:X.K=K:=by rfl):kr X (.builtin "sorted") (oJ K n S):=by subst hK;exact wD KS hu
end
end L2.Q
namespace L2
open PySem PySem.Spec PyProof.Rows PySem.SeqAt
section
variable {X:Cx}
def Et(K:PySem.W.Frag):V->List V->Hp->VK->Prop:=fun x xs H Q=>∃ l ys ds y d,∃ j:Nat,x=.ref l/\xs=[y]/\eL K H l ys/\aI K H ds ys/\Rep K H d y/\(∀ e∈ds,e.canLay0=true/\e.depth<=20)/\d.canLay0=true /\
 (∃ e,ds[j]? = some e/\PyData.eqv e d=true)/\(∀ (m:Nat) e,m<j->ds[m]? = some e->PyData.eqv e d=false)/\Q (.int j) H
theorem Ca (hu:X.A.units+64<cLine):P_ X "list.index" (Et X.K):=by
 intro pins s σ H x vs v us Q I rx rv h
 obtain⟨l,ys,ds,y,d,j,rfl,rfl,hl,hr,hd,hS,ld,⟨e,ej,eq⟩,CC,q⟩:=h
 cases rx
 obtain⟨u,rfl,ru⟩:=Vals.one rv
 obtain⟨its,Rh,pl,hz⟩:=I.list hl
 obtain⟨as,rd⟩:=hd.reads I ru
 obtain⟨bs,ra⟩:=aI.reads I hr Rh
 have len:its.length=ds.length:=ReadsAll.length _ _ _ ra
 have at':∀ (m:Nat) (v:Value),its[m]? = some v->∃ e cs,ds[m]? = some e/\Reads s.heap v e cs/\kJ s.heap v=e:=fun m v hv=>by
  obtain⟨e,cs,h1,h2⟩:=dN ra m v hv
  exact⟨e,cs,h1,h2,gH h2 (hS e (nL h1)).1⟩
 have jl:j<ds.length:=(iL.mp ej).1
 have Yy:j<its.toArray.size:=by rw[hG];lia
 have zs:sizeLine<2 ^ 62:=by rw[sizeLine_eq];decide
 have hlen:=Rh.length
 obtain⟨⟨cls,dd,data,sl⟩,ho,hc,n,Yz⟩:=id pl.isList
 simp only at hc Yz
 subst hc Yz
 refine call_meets F.slot_list_index ⟨_,ho,rfl⟩ F.entry_list_index (F.args_list_index_2 _ _) (list_indexAt l its.toArray n dd sl u (fun v=>PyData.eqv (kJ s.heap v) d) j Yy (by lia) ?_ fun m hm h'=>?_) ⟨ho,fun v hv=>?_,⟨.int j,H,I.tok _,⟨_,rfl⟩,q⟩⟩
 ·obtain⟨e',cs,h1,_,h3⟩:=at' j its.toArray[j] (by simp at Yy ⊢)
  rw[h3]
  rw[ej] at h1
  cases h1
  exact eq
 ·obtain⟨e',cs,h1,_,h3⟩:=at' m its.toArray[m] (by simp at hm ⊢)
  rw[h3]
  exact CC m e' h' h1
 ·obtain⟨m,hm⟩:=LD.mp (show v∈its by simpa using hv)
  obtain⟨e',cs,h1,h2,h3⟩:=at' m v hm
  rw[h3]
  have:=hS e' (nL h1)
  exact eqAt_reads e' d X.A.in1 s _ _ _ _ h2 rd this.1 ld (by show X.A.units+1+_<cLine;lia)
def oX:List V->Hp->VK->Prop:=fun xs H Q=>match xs with
 |[.ref p]=>∃ kvs b0 sh,Rd H p (.dT kvs)/\(∀ k∈kvs.map (·.1),gL k=b0 :: sh) /\
   ∀ zs ms l,cM H zs ms->ms.Perm (kvs.map (·.1))->(ms.Pairwise fun a b=>fF b a=false)->H l=none->Q (.ref l) (upd H l (.lst zs))
 |_=>False
theorem tK (hc:X.calm=true):kr X (.builtin "sorted") oX:=by
 intro pins s σ H xs us Q I r h
 unfold oX at h
 split at h
 ·rename_i p
  obtain⟨kvs,b0,sh,e,hs,q⟩:=h
  obtain⟨u,rfl,ru⟩:=Vals.one r
  cases ru
  obtain⟨z,y,ps,rel,o,es,ep,h1,h2,h3,h4,h5⟩:=(show fe X.prog X.w H s.heap p (.dT kvs) from I.rd e)
  obtain⟨ta,va⟩:=tQ (prog:=X.prog) (w:=X.w) rel
  have hlen:es.size=kvs.length:=by
   have:=congrArg List.length h4
   rw[xA,b4] at this
   rw[this];exact rel.length.symm
  have kN:ps.length=kvs.length:=rel.length.symm
  refine x6.vX (κ:=tuples' true) (R:=fun vs=>Vals (ps.map fun q=>V.ref q.2.1) vs) (r:=fun v=>II (kvs.map (·.1)) (nG H v)) (P:=fun v=>∃ b k,v=.ref b/\H b=some (.tup (k.map kV))/\gL k=b0 :: sh/\k∈kvs.map (·.1)) (fun A' E' Q' hA hQ=>?_) (fun vs rv=>?_) (fun vs rv v hv=>?_)
   (fun vs rv h2 A' E' s' kp Q' q'=>?_) (fun s' kp=>uD I kp) fun vs h' a out n tk rv pm pw kp ha eo=>?_
  ·refine x6.tU (zp (es:=es) (ep:=ep) y) (hA.trans (I.ok.hd hc)) ⟨o,h1,h2,h3⟩ (by lia) fun h' tk acc kp hz AY=>hQ _ h' tk ?_ kp hz
   have hv:acc.toList=(ps.map (entryOfKey (tupleKind (kG X.prog X.w)))).map (·.key):=by
    apply AH
    intro i
    by_cases hi:i<es.size
    ·have ic:i<acc.size:=by rw[AY.1];exact hi
     obtain⟨en,e1,e2⟩:=AY.2 i acc[i] (by simp[ic])
     rw[<- h4,kX,ly,ly,e1]
     simp[ic,e2]
    ·rw[<- h4,kX,ly,ly,B4 (by rw[AY.1];lia),B4 (by lia)]
     rfl
   rw[hv];exact va
  ·have:=rv.length
   rw[b4] at this
   lia
  ·obtain⟨_,mem⟩:=ta.keys rv
   obtain⟨b,k,e1,e2,e3⟩:=mem v hv
   exact⟨b,k,e1,e2,hs k e3,e3⟩
  ·obtain⟨fs,f1,f2,f3⟩:=kat_tups I kp ta rv hs
   cases b0 with
   |true =>
    refine PySem.W.kat_kind (T:=.type "int") f1 (by lia) (fun f hf=>?_) (by decide) q'
    obtain⟨i,t,rfl⟩:=(f3 f hf).1 rfl
    exact .now
   |false =>
    refine PySem.W.kat_kind (T:=.type "str") f1 (by lia) (fun f hf=>?_) (by decide) q'
    obtain⟨i,t,rfl⟩:=(f3 f hf).2 rfl
    exact .now
  ·obtain⟨ek,mem⟩:=ta.keys rv
   obtain⟨zs,z1,z2⟩:=cM.of (H:=H) (ks:=kvs.map (·.1)) out fun v hv=>mem v (pm.mem_iff.mp hv)
   have zl:=z2.length
   have ol:=pm.length_eq
   have vl:=rv.length
   rw[b4] at vl
   have Q5:(out.map (nG H)).Perm (kvs.map (·.1)):=by rw[<- ek];exact pm.map _
   refine⟨.ref a,_,I.laid (a:=a) (t':=tk) kp ha (show fe X.prog X.w _ h' _ (.lst zs) from⟨by lia,out,n,z2,eo⟩),rfl,q zs _ _ z1 Q5 ?_ (I.bq.fresh ha)⟩
   rw[pE]
   refine pw.imp_of_mem fun {x y} mx my hle=>?_
   obtain⟨b,k,rfl,hb,kk⟩:=mem x (pm.mem_iff.mp mx)
   obtain⟨c,m,rfl,hc,km⟩:=mem y (pm.mem_iff.mp my)
   rw[dh hb,dh hc] at *
   have:=yw (L:=kvs.map (·.1)) ((hs m km).trans (hs k kk).symm) km
   rw[<- this]
   exact decide_eq_false (by lia)
 ·exact h.elim
end
end L2
namespace L2.Q
open PySem PySem.Spec PyProof.Rows PySem.SeqAt
section
variable {X:Cx}{K:PySem.W.Frag}
def jn:W1:=fun _ x Q=>match x with
 |.dT kvs=>∃ b0 sh,(∀ p∈kvs,gL p.1=b0 :: sh)/\∀ ms:List (List Key),ms.Perm (kvs.map (·.1))->(ms.Pairwise fun a b=>fF b a=false)->Q (.ow true) (.list (ms.map kc))
 |_=>False
theorem iJ:An K oX jn:=by
 intro Hs H m x v As Qd Qv w rx h f
 have r1:=rx.rep w
 cases r1 with
 |@dT a vs kvs kk e q =>
  obtain⟨b0,sh,hs,h⟩:=h
  have hlen:=q.length
  rw[b4] at hlen
  have ez:((kvs.map (·.1)).zip vs).map (·.1)=kvs.map (·.1):=D2 (by rw[b4];exact B1 hlen)
  refine⟨_,b0,sh,e,fun k hk=>?_,fun zs ms l tz pm pw hl=>?_⟩
  ·rw[ez] at hk
   obtain⟨p,hp,rfl⟩:=cK.mp hk
   exact hs p hp
  ·rw[ez] at pm
   refine f.lst w (by rw[b4,pm.length_eq,b4];exact kk.1) (jV (K:=K) tz fun k hk=>?_) (fY ms) (h ms pm pw) l hl
   obtain⟨p,hp,rfl⟩:=cK.mp (pm.mem_iff.mp hk)
   exact kk.2 p hp
 |_=>exact h.elim
theorem pJ (hc:X.calm=true:=by rfl):kr X (.builtin "sorted") oX:=tK hc
end
end L2.Q
namespace L2.Q.R
open PySem PySem.Spec PyProof.Rows L2.Q PySem.SeqAt
section
variable {Q:Md->L2.Q.D->Prop}{m:Md}
theorem Jq:jn m (.dT kvs) Q = ∃ b0 sh,(∀ p∈kvs,gL p.1=b0 :: sh)/\∀ ms:List (List Key),ms.Perm (kvs.map (·.1))->(ms.Pairwise fun a b=>fF b a=false)->Q (.ow true) (.list (ms.map kc)):=rfl
end
end L2.Q.R
namespace L2
open PySem PySem.Spec PyProof.Rows PySem.SeqAt
section
variable {X:Cx}
def Ec(K:PySem.W.Frag):R2:=fun x y H Q=>∃ l xs n,x=.ref l/\y=.int n/\eL K H l xs/\0<=n/\n<=1000/\xs.length<=1000/\∀ p,H p=none->Q (.ref p) (upd H p (.lst (List.replicate n.toNat xs).flatten))
theorem BK(h:Vals xs vs)(k:Nat):Vals (List.replicate k xs).flatten (List.replicate k vs).flatten:=by
 induction k with
 |zero=>exact .nil
 |succ k ih=>rw[yB,yB,AG,AG];exact h.append ih
theorem uW(xs:List α)(k:Nat):(List.replicate k xs).flatten.length=xs.length*k:=by
 induction k with
 |zero=>rfl
 |succ k ih=>rw[yB,AG,ng,ih,Nat.mul_succ];lia
theorem DR:cE X (binaryOp .Mult) (Ec X.K):=by
 intro pins s σ H x y v u Q I rx ry h
 obtain⟨l,xs,n,rfl,rfl,hH,h0,h1,h2,q⟩:=h
 cases rx
 obtain⟨t,rfl⟩:=ry
 obtain⟨its,r,pl,z⟩:=I.list hH
 have hl:=r.length
 obtain⟨⟨cls,dd,data,sl⟩,ho,hc,k,hd⟩:=id pl.isList
 simp only at hc hd
 subst hc hd
 have hm:its.toArray.size*n.toNat<=1000*1000:=Nat.mul_le_mul (by rw[hG];lia) (by lia)
 have hsz:=sizeLine_eq
 refine wpAny_binaryOp_repeat_ref (T := "list") (U := "int") (by decide) ⟨_,ho,rfl⟩ (fun s'=>typeIs_int s' n t) noFill_list_mul PySem.F.fills_int_mul PySem.F.slot_int_rmul repeat_list PySem.F.slot_int_index.lookup
  (call_meets PySem.F.slot_int_rmul (typeIs_int s n t) PySem.F.entry_int_rmul (PySem.F.args_int_rmul_2 _ _) (lm_int_rmul_list_any n t l its.toArray k dd sl)
   ⟨ho,rfl,⟨_,ho,rfl⟩,call_meets PySem.F.slot_list_mul ⟨_,ho,rfl⟩ PySem.F.entry_list_mul (PySem.F.args_list_mul_2 _ _)
    (lm_list_mul_any l its.toArray k dd sl n t (by simp[Builtin.List.listFitsIndex];lia) (by lia) (by simp only[Builtin.List.listTooLong,decide_eq_true_eq];lia))
    ⟨ho,?_⟩⟩)
 rw[listMul_foldl_if]
 exact⟨.ref _,_,I.SD (t':=s.toks) (BK r _) (by
  rw[uW]
  have:xs.length*n.toNat<=1000*1000:=Nat.mul_le_mul h2 (by lia)
  lia),rfl,q _ I.fresh⟩
end
theorem iE.sub{S U:PyData->Prop}(T:iE lt S)(h:∀ x,U x->S x):iE lt U :=
 ⟨fun x a=>T.pj x (h x a),fun x y z a b c=>T.tr x y z (h x a) (h y b) (h z c),fun x y a b=>T.ag x y (h x a) (h y b),fun x y a b=>T.eqv x y (h x a) (h y b)⟩
def m9(p:Str × Int):PyData:=.tuple [.str p.1,.int p.2]
def tP(x:PyData):Prop:=∃ (i:Int) (ps:List (Str × Int)),x=.tuple [.int i,.list (ps.map m9)]/\∀ p∈ps,PyData.strOk p.1=true
theorem Ed(p q:Str × Int):oy 1 (m9 p) (m9 q):=by
 unfold m9
 rw[oy]
 intro j x y hx hy _
 match j with
 |0=>cases hx;cases hy;rw[oy];trivial
 |1=>cases hx;cases hy;rw[oy];trivial
 |j+2=>simp at hx
theorem Dm(ps:List (Str × Int))(h:∀ p∈ps,PyData.strOk p.1=true):PyData.canLayAll0 (ps.map m9)=true/\PyData.depthAll (ps.map m9)<=2:=by
 induction ps with
 |nil=>exact⟨rfl,by simp[PyData.depthAll]⟩
 |cons p ps ih =>
  have ih:=ih fun q hq=>h q (b9 _ hq)
  have hp:=h p b6
  rw[fN]
  constructor
  ·simp only[PyData.canLayAll0,mw]
   refine⟨?_,ih.1⟩
   simp[m9,PyData.canLay0,PyData.canLayAll0,hp]
  ·have h2:=ih.2
   simp only[PyData.depthAll]
   have:(m9 p).depth<=2:=by simp[m9,PyData.depth,PyData.depthAll]
   lia
theorem Ri:Fs 2 tP where
 ag:=((iE.pair (iE.int 2) (iE.list (iE.pair (iE.str 0) (iE.int 0)))).sub) fun x ⟨i,ps,e,_⟩=>⟨_,_,e,⟨i,rfl⟩,_,rfl,fun y hy=>by
  obtain⟨p,_,rfl⟩:=cK.mp hy
  exact⟨_,_,rfl,⟨_,rfl⟩,_,rfl⟩⟩
 tup:=by
  rintro x ⟨i,ps,rfl,h⟩
  have:=Dm ps h
  refine⟨i,_,rfl,?_,?_⟩
  ·simp[PyData.canLay0,PyData.canLayAll0,this.1]
  ·simp only[PyData.depth,PyData.depthAll];lia
 len:=by
  rintro xs ys ⟨i,ps,e,_⟩ ⟨j,qs,e2,_⟩
  cases e;cases e2;rfl
 cm:=by
  rintro x y ⟨i,ps,rfl,_⟩ ⟨j,qs,rfl,_⟩
  rw[oy]
  intro k x y hx hy _
  match k with
  |0=>cases hx;cases hy;rw[oy];trivial
  |1 =>
   cases hx;cases hy
   rw[oy]
   intro k x y hx hy _
   obtain⟨p,_,rfl⟩:=cK.mp (nL hx)
   obtain⟨q,_,rfl⟩:=cK.mp (nL hy)
   exact Ed p q
  |k+2=>simp at hx
end L2
namespace L2.Q
open PySem PySem.Spec PyProof.Rows PySem.SeqAt
section
variable {X:Cx}{K:PySem.W.Frag}{a b:Expr}{ta tb:WE}{pos:Pos}
def zZ:W2:=fun _ x _ y Q=>match x with
 |.list xs=>match y with
  |.int n=>(0<=n/\n<=1000/\xs.length<=1000)/\cw xs=true/\Q (.ow true) (.list (List.replicate n.toNat xs).flatten)
  |_=>False
 |_=>False
theorem Ah(h:aI K H xs vs)(k:Nat):aI K H (List.replicate k xs).flatten (List.replicate k vs).flatten:=by
 induction k with
 |zero=>exact .nil
 |succ k ih=>rw[yB,yB,AG,AG];exact h.append ih
theorem yc(h:cw xs=true)(k:Nat):cw (List.replicate k xs).flatten=true:=by
 induction k with
 |zero=>rfl
 |succ k ih=>rw[yB,AG,gk,h,ih];rfl
theorem Gi:kA K (Ec K) zZ:=by
 intro Hs H m x v As n y u Bs Qd Qv w rx ry h f
 have r1:=rx.rep w
 have r2:=ry.rep w
 cases r1 with
 |list z s q=>cases r2 with
  |int n =>
   obtain⟨⟨h0,h1,h2⟩,fl,h⟩:=h
   have hl:=q.length
   refine⟨_,_,_,rfl,rfl,s,h0,h1,by lia,?_⟩
   refine f.lst w ?_ (Ah q _) (yc fl _) h
   rw[uW,sizeLine_eq]
   have:List.length _*n.toNat<=1000*1000:=Nat.mul_le_mul h2 (by lia)
   exact iO this (by decide)
  |_=>exact h.elim
 |_=>exact h.elim
theorem JQ(hK:X.K=K:=by rfl):cE X (binaryOp .Mult) (Ec K):=by subst hK;exact DR
theorem Jj(ha:QE X K a ta)(hb:QE X K b tb)(hK:X.K=K:=by rfl):QE X K (.BinOp a .Mult b pos) (aw zZ ta tb):=IJ (JQ hK) Gi ha hb
def uC(to te:WE):WE:=fun ρ Q=>to ρ fun _ x=>match x with
 |.list xs=>te ρ fun _ y=>cv 12 (.list xs)=true/\cv 12 y=true/\∃ j:Nat,(∃ z,xs[j]? = some z/\gS z y=true)/\(∀ (i:Nat) z,i<j->xs[i]? = some z->gS z y=false)/\Q .sh (.int j)
 |_=>False
theorem Ef(hu:X.A.units+64<cLine)(ho:QE X K o to)(he:QE X K e te)(hK:X.K=K:=by rfl)
  (vi:attributeBase o "index" X.env (eval o X.env)=eval o X.env:=by rfl)
  (sj:((backTo dS (starEach [e] X.env)).all (fun x=>!x.1) && (backToKw dS (keywordEach [] X.env)).all (fun x=>x.1.isSome)
   && decide ([e].length+([]:List Keyword).length+(if ([]:List Keyword).isEmpty then 0 else 1)<30))=true:=by rfl)
  (hline:(apos.endLine == dS.line)=true:=by rfl) (pf:starEach (e :: []) X.env=(false,eval e X.env) :: starEach [] X.env:=by rfl) (vj:(backTo dS (starEach [] X.env)).any (·.1)=false:=by rfl) :
  QE X K (.Call (.Attribute o "index" apos) [e] [] dS) (uC to te):=by
 subst hK
 refine PE.imp (EF PySem.F.plainAttrs_list PySem.F.slot_list_index PySem.F.type_list_index (Ca hu) ho (rq he uS pf) vi sj hline pf vj) fun σ H Qv hx=>kL hx fun Hs ρ ag Q sr h f=>?_
 refine⟨Hs,ρ,ag,_,sr,h,fun v H1 aE m x As g1 r1 f1 q1=>?_⟩
 have r:=r1.rep g1.wf
 cases r with
 |list hz s rs =>
  refine⟨.inl ⟨rfl,_,s⟩,aE,ρ,ag,_,sr.grow g1,q1,fun y H2 ay m2 x2 fz g2 r2 f2 q2=>?_⟩
  obtain⟨o1,o2,j,⟨z,ez,eq⟩,CC,q⟩:=q2
  have rr:=(r1.grow g2).rep g2.wf
  cases rr with
  |list Yo s' DL =>
   have l2:=jE 12 _ o2
   have YB:∀ d∈_,cv 11 d=true:=FP.mp (show List.all _ (cv 11)=true from o1)
   refine⟨_,_,_,_,_,j,rfl,rfl,s',Rep.Tx.2 DL 11 YB,(r2.rep g2.wf).l2 o2,fun e he=>?_,l2.1,⟨z.py,?_,eq⟩,fun m e hm he=>?_,Fin.sh (Fin.after f (g1.trans g2)) g2.wf (.int _) q⟩
   ·rw[jq] at he
    obtain⟨d,hd,rfl⟩:=cK.mp he
    have:=jE 11 d (YB d hd)
    exact⟨this.1,by lia⟩
   ·rw[jq,kX,ez];rfl
   ·rw[jq,kX] at he
    obtain⟨d,hd,rfl⟩:=LX.mp he
    exact CC m d hm hd
 |_=>exact q1.elim
abbrev wU:W1:=Cv 2 tP
theorem Ji (hu:X.A.units+64<cLine) (hK:X.K=K:=by rfl):kr X (.builtin "sorted") (oJ K 2 tP):=GK Ri (by lia) hK
theorem z_:An K (oJ K 2 tP) wU:=Ac
end
end L2.Q
namespace L2.Q.R
open PySem PySem.Spec PyProof.Rows L2.Q PySem.SeqAt
section
variable {Q:Md->L2.Q.D->Prop}{m m':Md}{x y:L2.Q.D}{xs:List L2.Q.D}{Oq te:WE}{ρ:Env}{a:Int}
theorem K6:zZ m (.list xs) m' (.int a) Q=((0<=a/\a<=1000/\xs.length<=1000)/\cw xs=true/\Q (.ow true) (.list (List.replicate a.toNat xs).flatten)):=rfl
theorem JM:uC Oq te ρ Q=Oq ρ fun _ x=>bP x (f:=fun x=>wa x fun xs=>te ρ fun _ y=>cv 12 (.list xs)=true/\cv 12 y=true/\∃ j:Nat,(∃ z,xs[j]? = some z/\gS z y=true)/\(∀ (i:Nat) z,i<j->xs[i]? = some z->gS z y=false)/\Q .sh (.int j)) ⟨⟩:=by unfold uC bP wa;rfl
theorem JF:wU m (.list xs) Q=(m=.sh/\(∀ d∈xs,cv 12 d=true/\tP d.py)/\∀ ms:List L2.Q.D,ms.Perm xs->(ms.Pairwise fun a b=>PySem.SeqAt.cc 3 b.py a.py=false)->Q (.ow false) (.list ms)):=rfl
end
end L2.Q.R
namespace L2
open PySem PySem.Spec PyProof.Rows
end L2
namespace L2.Q
open PySem PySem.Spec PyProof.Rows
section
variable {X:Cx}{K:PySem.W.Frag}{a b c e:Expr}{ta tb te:WE}{pos p2:Pos}
def Rj(ta tb:WE):WE:=fun ρ Q=>ta ρ fun m x=>m=.ow true/\match x with
 |.list xs=>tb ρ fun _ y=>intD y fun k=>∃ d,L2.fi xs k=some d/\Q (OG d) d
 |_=>False
theorem JN(ha:QE X K a ta)(hb:QE X K b tb)(hs:P9 b:=by exact fun _ _=>rfl)(hK:X.K=K:=by rfl):QE X K (.Subscript a b pos) (Rj ta tb):=by
 refine PE.imp (Sy (kIx hK) ha hb hs) fun σ H Qv hx=>kL hx fun Hs ρ ag Q sr h f=>?_
 refine⟨Hs,ρ,ag,_,sr,h,fun v H1 aE m x As g1 r1 f1 q1=>?_⟩
 obtain⟨rfl,q1⟩:=q1
 obtain⟨r1,ne⟩:=r1
 cases r1 with
 |sh _ r=>exact absurd rfl ne
 |@list a vs xs As z e rs =>
  refine⟨aE,ρ,ag,_,sr.grow g1,q1,fun u H2 ay m2 y Bs g2 r2 f2 q2=>?_⟩
  have ry:=r2.rep g2.wf
  cases ry with
  |int k =>
   obtain⟨d,e3,q⟩:=q2
   obtain⟨j,ej,ed⟩:=Ij e3
   have nd:As.Nodup:=(js.mp f1.1).2
   obtain⟨w,B,ew,lP,sB,_⟩:=rs.at ed nd
   have r3:=lP.grow g2.sh g2.all
   refine .inl ⟨vs,w,.inl (.inl (g2.all _ _ e)),zA (by rw[<- rs.length];exact ej) ew,?_⟩
   cases hf:d.flat with
   |true =>
    rw[OG,hf] at q
    exact f w H2 ay .sh d [] (g1.trans g2) ⟨rfl,(r3.rep g2.wf.sub fun _ _=>rfl).gr g2.wf.jI hf⟩ ⟨sT,fun _ h=>A7 h⟩ q
   |false =>
    rw[OG,hf] at q
    refine f w H2 ay (.ow true) d B (g1.trans g2) ⟨r3,r3.ne hf⟩ ⟨sB.nodup nd,fun c hc=>?_⟩ q
    have:=f1.2 c (b9 _ (sB.subset hc))
    exact⟨g2.oP this.1 (lP.own c hc).ne,this.2⟩
  |_=>exact q2.elim
 |_=>exact q1.elim
theorem SR.view(G:Hp)(s:ax Hs H)(r:SR K Hs H ρ σ ag):SR K H G (ρ.map (Option.map N4)) σ []:=by
 induction r with
 |nil=>exact .nil
 |non _ ih=>exact .non ih
 |sh r _ ih=>exact .sh (r.same s) ih
 |xc _ ih=>exact .xc ih
 |ow _ r _ ih=>exact .sh (r.rep s fun _ _=>rfl) ih
 |lk _ r _ ih=>exact .sh (r.rep s fun _ _=>rfl) ih
def Rk(i j:Nat)(hs xs:List D)(ρ:Env):Env:=(ρ.set j none).set i (some (.ow true (.list (hs++[.list xs]))))
def Ui(i j:Nat)(hs xs:List D)(ρ:Env):Env:=((Rk i j hs xs ρ).map (Option.map N4)).set j (some (.sh (.list xs)))
def fH'(o:Option Sl)(k:Sl->Prop):Prop:=match o with
 |some s=>k s
 |none=>False
def zx(i j:Nat)(te:WE):WS:=fun E ρ=>Fn ρ[i]? fun hs=>Fn ρ[j]? fun xs=>cw xs=true/\hs.length<sizeLine /\
 te (Ui i j hs xs ρ) fun m d=>fH' (asg (DF m d) d) fun sl=>E.nx ((Rk i j hs xs ρ).set j (some sl))
theorem Af(hN:X.N.Nodup)(hj0:X.N[j]? = some x)(hx:Loc X.env.scope x)(hi:PE X a (B7 i))(hj:PE X b (B7 j))(he:QE X K e te)(kz:i≠j:=by decide)(hK:X.K=K:=by rfl)
  (s1:swapsWith (.Call (.Attribute a "append" p1) [b] [] p2) none pos.line X.env=pure false:=by rfl) (b1:attributeBase a "append" X.env (eval a X.env)=eval a X.env:=by rfl)
  (f1:((backTo p2 (starEach [b] X.env)).all (fun x=>!x.1) && (backToKw p2 (keywordEach [] X.env)).all (fun x=>x.1.isSome) && decide ([b].length+([]:List Keyword).length+(if ([]:List Keyword).isEmpty then 0 else 1)<30))=true:=by rfl)
  (l1:(p1.endLine == p2.line)=true:=by rfl) (t1:starEach (b :: []) X.env=(false,eval b X.env) :: starEach [] X.env:=by rfl) (q1:(backTo p2 (starEach [] X.env)).any (·.1)=false:=by rfl)
  (hs:swapsWith e (some (.Name x p3)) pos'.line X.env=pure false:=by rfl) (hf:X.fn x=true\/X.env.scope.names.lookup x=some .local:=by first|exact .inl rfl|exact .inr rfl|assumption) :
  xi X K L [.Expr (.Call (.Attribute a "append" p1) [b] [] p2) pos,.Assign [.Name x p3] e pos'] (zx i j te):=by
 subst hK
 refine lI.imp (VQ (G0 (EF PySem.F.plainAttrs_list PySem.F.slot_list_append PySem.F.type_list_append Qb hi (rq hj uS t1) b1 f1 l1 t1 q1) s1)
  (VR (VY hN hj0 hx he hs hf))) fun D σ H hx=>d_ hx fun Hs ρ ag E sr h k1 k2 k3 k4=>?_
 obtain⟨hs,ei,h⟩:=CG h
 obtain⟨xs,ej,fl,QZ,h⟩:=CG h
 obtain⟨a,ws,c,vs,dc,u1,u2,u3,u4,u5,u6,u7,fm⟩:=EY kz sr ei ej fl QZ
 refine⟨_,u1,.inl ⟨rfl,_,.inl (.inl u2)⟩,_,u4,a,ws,_,rfl,rfl,u2,u3,?_⟩
 have rc:Rep X.K (upd H a (.lst (ws++[.ref c]))) (.list xs) (.ref c):=.list u7 (.inl (.inl u5)) (u6.same fm.wf.sub)
 have v0:=SR.view (upd H a (.lst (ws++[.ref c]))) fm.wf.sub fm.sr
 obtain⟨t,st,v1⟩:=v0.yr rc j
 have e0:σ.set j (some (.ref c))=σ:=by
  apply AH
  intro m
  by_cases hm:j=m
  ·subst hm;rw[Rr (by have:=(iL.mp u4).1;exact this),u4]
  ·rw[LG hm]
 rw[e0] at v1
 have et:t=[]:=List.eq_nil_of_subset_nil st.subset
 subst et
 refine⟨upd H a (.lst (ws++[.ref c])),_,[],_,⟨v1,⟨ax.refl _,fun _ _ z=>z⟩,sT,fun _ h=>A7 h⟩,h,fun v H1 aE m d As g1 r1 f1 q1=>?_⟩
 obtain⟨fS,r',fr⟩:=uq fm.wf g1.sh g1.wf r1 f1.1 fun a ha=>(f1.2 a ha).1
 have gb:=iY fm.wf g1.sh g1.wf
 cases ea:asg (DF m d) d with
 |none=>rw[ea] at q1;exact q1.elim
 |some sl =>
  rw[ea] at q1
  obtain⟨bG,s'⟩:=(fm.grow gb).set j r' fr.1 (fun a ha=>⟨(fr.2 a ha).1,fun m=>(fm.sr.own a m).ne (fr.2 a ha).2⟩) ea
  exact k1 _ H1 _ _ bG gb.sh s' q1
end
end L2.Q
namespace L2.Q.R
open PySem PySem.Spec PyProof.Rows L2.Q
section
variable {Q:Md->L2.Q.D->Prop}{m:Md}{x y:L2.Q.D}{xs:List L2.Q.D}{ta tb te:WE}{ρ:L2.Q.Env}{E:mX}{i j:Nat}
theorem Ny:Rj ta tb ρ Q=ta ρ fun m x=>m=.ow true/\bP x (f:=fun x=>wa x fun xs=>tb ρ fun _ y=>bP y (f:=fun y=>intD y fun k=>∃ d,L2.fi xs k=some d/\bP d (f:=fun d=>Q (OG d) d) ⟨⟩) ⟨⟩) ⟨⟩:=by unfold Rj bP wa;rfl
theorem Ks:zx i j te E ρ=bP ρ[i]? (f:=fun o=>Fn o fun hs=>bP ρ[j]? (f:=fun o=>Fn o fun xs=>cw xs=true/\hs.length<sizeLine /\
 te (Ui i j hs xs ρ) fun m d=>bP (asg (DF m d) d) (f:=fun o=>put o fun sl=>E.nx ((Rk i j hs xs ρ).set j (some sl))) ⟨⟩) ⟨⟩) ⟨⟩:=rfl
end
end L2.Q.R
namespace L2
open PySem PySem.Spec PyProof.Rows
section
variable {prog:Program}{w:World}{A:Around}{E:Value->Shared->Prop}{s:Shared}
theorem jk(f:α->β)(l:List α):∀ k:Nat,(l.map f).eraseIdx k=(l.eraseIdx k).map f:=by
 induction l with
 |nil=>intro k;rfl
 |cons x l ih =>
  intro k
  cases k with
  |zero=>rfl
  |succ k=>rw[fN,FH,FH,fN,ih]
theorem yl{κ:Type}[DecidableEq κ]{kd:HeapKind prog w κ}{d b:Addr}{xs:List (κ × Addr × Value)}{k:κ}{p0:Addr × Value}{Q:Option DictEntry->Shared->Prop}(hu:kd.room A)(hk:kd.is s.heap k b)(hm:s.heap.DictOfH kd d xs)(hz:xs.length<=sizeLine)(h0:atKey xs k=some p0)
  (h:∀ j p h',xs[j]? = some (k,p)->h'.DictOfH kd d (xs.eraseIdx j)->Heap.SameBut d s.heap h'->Q (some (entryOfKey kd (k,p))) { s with heap:=h',toks:=s.toks+kd.draws k }):wpAny (model prog w) A (Builtin.Dict.takeOut d (.ref b)) Q E s:=by
 obtain⟨o,es,ep,ho,hc,hd,he,sL,hn⟩:=hm
 unfold Builtin.Dict.takeOut
 refine wpAny_holding ?_
 refine ai (kd.pyHash hu hk (ai (wpAny_dictFind_heap (s:={ s with toks:=s.toks+kd.draws k }) hu hk ho hd he sL hn (fun no=>?_) fun j p hj=>?_)))
 ·rw[atKey_none_of_get no] at h0;cases h0
 ·refine ai (wpAny_dictEntries (s:={ s with toks:=s.toks+kd.draws k }) ho hd ?_)
  rw[entry_at he j,hj]
  have Rl:j<es.size:=by rw[size_of_entries he];exact(iL.mp hj).1
  refine ai (wpAny_updateDictKeys (hz:=by have e:=size_of_entries he;lia) (hf:=by simp[Array.eraseIdxIfInBounds,Rl];lia) (s:={ s with toks:=s.toks+kd.draws k }) ho hd (aS (h j p _ hj ?_ (Heap.SameBut.update ..))))
  refine⟨_,_,ep+1,D4 _ ho (Obj.isFreed_of_dict (Obj.data_mapDictKeys hd _)),hc.mapDictKeys _,Obj.data_mapDictKeys hd _,?_,fun x hx=>?_,?_⟩
  ·show(es.eraseIdxIfInBounds j).toList=_
   rw[Array.eraseIdxIfInBounds,dif_pos Rl,Array.toList_eraseIdx,he,jk]
  ·exact kd.keeps (sL x (List.mem_of_mem_eraseIdx hx)) ho hd (Heap.SameBut.update ..)
  ·exact(List.Sublist.map _ (List.eraseIdx_sublist ..)).nodup hn
theorem ym{κ:Type}[DecidableEq κ](kd:HeapKind prog w κ)(d b:Addr) :
  MeetsIn prog w (Builtin.«dict.pop» ⟨[.ref d,.ref b],[]⟩) (fun A R s=>kd.room A.in1/\∃ k xs p0,kd.is s.heap k b/\s.heap.DictOfH kd d xs/\xs.length<=sizeLine/\atKey xs k=some p0 /\
   ∀ j p h',xs[j]? = some (k,p)->h'.DictOfH kd d (xs.eraseIdx j)->Heap.SameBut d s.heap h'->R (.ok (.ret p.2)) { s with heap:=h',toks:=s.toks+kd.draws k }) :=
 .of_wp fun A R s cS=>by
  obtain⟨hu,k,xs,p0,hk,hm,hz,h0,h⟩:=cS
  obtain⟨o,es,ep,ho,hc,hd,he,sL,hn⟩:=id hm
  unfold Builtin.«dict.pop» Builtin.Dict.keyAndDefault
  refine ai (ai (wpAny_notOrdered_dict hm.typeIs ?_))
  refine(show wpAny _ _ (pure (d,Value.ref b,none)) _ _ s from aS ?_)
  dsimp only
  rw[if_neg (show ¬ ((keyPart (.ref b)).isSome=true) from gy)]
  refine ai (wpAny_dictEntries ho hd (ai (aS ?_)))
  have ne:es.isEmpty=false:=by
   cases e:es.isEmpty with
   |false=>rfl
   |true =>
    have:es.size=0:=by simpa[Array.isEmpty] using e
    rw[size_of_entries he] at this
    have:xs=[]:=List.eq_nil_of_length_eq_zero this
    subst this
    cases h0
  rw[ne]
  simp only[gE,if_false]
  refine ai (yl hu hk hm hz h0 fun j p h' hj RV gx=>?_)
  simp only[Option.isNone_some,gE,if_false]
  exact ai (wpAny_letGo (aS ⟨_,rfl,h j p h' hj RV gx⟩))
end
theorem KT.at(r:KT H kvs xs):∀ {j:Nat},xs[j]? = some (k,p)->∃ v,kvs[j]? = some (k,v)/\RelV v p.2:=by
 induction r with
 |nil=>intro j h;simp at h
 |@cons a q ps qs h t ih =>
  intro j hj
  cases j with
  |zero =>
   simp only[Rq,Option.some.injEq] at hj
   subst hj
   obtain⟨k',v⟩:=a
   obtain⟨h1,_,h2⟩:=h
   simp only at h1
   subst h1
   exact⟨v,rfl,h2⟩
  |succ j=>exact ih (by simpa using hj)
theorem KT.erase(r:KT H kvs xs):∀ j:Nat,KT H (kvs.eraseIdx j) (xs.eraseIdx j):=by
 induction r with
 |nil=>intro j;exact .nil
 |@cons a q ps qs h t ih =>
  intro j
  cases j with
  |zero=>exact t
  |succ j=>exact .cons h (ih j)
section
variable {X:Cx}
theorem Fz (hu:X.A.units+1<cLine):P_ X "dict.pop" (fun x xs H Q=>∃ a b kvs k,x=.ref a/\xs=[.ref b]/\H a=some (.dT kvs)/\H b=some (.tup (k.map kV))/\k∈kvs.map (·.1)/\∀ j v,kvs[j]? = some (k,v)->Q v (upd H a (.dT (kvs.eraseIdx j)))):=by
 intro pins s σ H x vs v us Q I rx rv h
 obtain⟨a,b,kvs,k,rfl,rfl,e,eb,aC,q⟩:=h
 cases (show v=Value.ref a from rx)
 obtain⟨u,rfl,ru⟩:=Vals.one rv
 cases (show u=Value.ref b from ru)
 obtain⟨z,hd,xs,rel,dd⟩:=SK I.bq e
 have hz:xs.length<=sizeLine:=by rw[<- Paired.length rel];exact z
 have vl:=rel.val k
 have hv:∃ p0,atKey xs k=some p0:=by
  cases ea:atKey xs k with
  |some p=>exact⟨p,rfl⟩
  |none =>
   rw[ea] at vl
   cases ev:fP kvs k with
   |some v'=>rw[ev] at vl;exact(vl:False).elim
   |none =>
    have:(kvs.any fun kv=>decide (kv.1=k))=true:=by
     obtain⟨p,hp,e⟩:=cK.mp aC
     exact AI.mpr ⟨p,hp,decide_eq_true e⟩
    rw[HM,ev] at this
    cases this
 obtain⟨p0,h0⟩:=hv
 refine call_meetsIn PySem.F.slot_dict_pop dd.typeIs PySem.F.entry_dict_pop (PySem.F.args_dict_pop_2 _ _) (ym (tupleKind (kG X.prog X.w)) a b) ⟨tupleKind_room_in1 hu,k,xs,p0,CF I.bq eb,dd,hz,h0,fun j p h' hj CL hs=>?_⟩
 obtain⟨v,hkj,Rh⟩:=rel.at hj
 obtain⟨qo,es,ep,hq,g2,g3,g4,_,g5⟩:=CL
 have ob:fe X.prog X.w (upd H a (.dT (kvs.eraseIdx j))) h' a (.dT (kvs.eraseIdx j)):=by
  refine⟨?_,hd,_,(rel.erase j).keeps fun c ys ec=>?_,qo,es,ep,hq,g2,g3,g4,g5⟩
  ·rw[Pb];split<;>lia
  ·rw[cf (RP ec e fun z=>nomatch z)]
   exact ec
 exact⟨v,_,Qc I (by rw[e];exact True.intro) hs ⟨qo,hq⟩ ob,Rh,q j v hkj⟩
end
end L2
namespace L2.Q
open PySem PySem.Spec PyProof.Rows
section
variable {X:Cx}{K:PySem.W.Frag}{L:Str->Hp->Prop}{e e2:Expr}{p:WP}{TN:WE}{apos dS pos:Pos}
def DQ(p:WP)(tk:WE):WS:=fun E ρ=>p ρ fun fl d up=>match d with
 |.dT kvs=>tk ρ fun _ y=>match y with
  |.tup ys=>∃ ks,eO ys=some ks/\ks∈kvs.map (·.1)/\∀ j d,kvs[j]? = some (ks,d)->E.nx (up fl (.dT (kvs.eraseIdx j)))
  |_=>False
 |_=>False
theorem oG:∀ (l:List α) (m:List β) (j:Nat),(l.zip m).eraseIdx j=(l.eraseIdx j).zip (m.eraseIdx j)
 |[],m,j=>by simp
 |x :: l,[],j=>by simp
 |x :: l,y :: m,0=>rfl
 |x :: l,y :: m,j+1=>by
  rw[xl,FH,FH,FH,xl,oG l m j]
theorem Gz(hu:X.A.units+1<cLine)(ho:QP X K e p)(he:QE X K e2 TN)(hK:X.K=K:=by rfl)
  (vi:attributeBase e "pop" X.env (eval e X.env)=eval e X.env:=by rfl)
  (sj:((backTo dS (starEach [e2] X.env)).all (fun x=>!x.1) && (backToKw dS (keywordEach [] X.env)).all (fun x=>x.1.isSome)
   && decide ([e2].length+([]:List Keyword).length+(if ([]:List Keyword).isEmpty then 0 else 1)<30))=true:=by rfl)
  (hline:(apos.endLine == dS.line)=true:=by rfl) (pf:starEach (e2 :: []) X.env=(false,eval e2 X.env) :: starEach [] X.env:=by rfl) (vj:(backTo dS (starEach [] X.env)).any (·.1)=false:=by rfl)
  (hs:swapsWith (.Call (.Attribute e "pop" apos) [e2] [] dS) none pos.line X.env=pure false:=by rfl) :
  QS X K L (.Expr (.Call (.Attribute e "pop" apos) [e2] [] dS) pos) (DQ p TN):=by
 subst hK
 refine PS.imp (G0 (EF PySem.F.plainAttrs_dict PySem.F.slot_dict_pop PySem.F.type_dict_pop (Fz hu) ho (rq he uS pf) vi sj hline pf vj) hs) fun D σ H hx=>d_ hx fun Hs ρ ag E sr h k1 k2 k3 k4=>?_
 refine⟨Hs,ρ,ag,_,sr,h,fun v H1 aE fl d up g1 p1 q1=>?_⟩
 cases d with
 |dT kvs =>
  obtain⟨fS,r,ne,nd,own,k⟩:=p1.ex
  have lv:∀ x∈fS,aE x=none/\H1 x≠none:=fun x hx=>⟨own x hx,(r.own x hx).ne⟩
  cases r with
  |sh hf _=>exact absurd rfl ne
  |@dT a vs _ A kk ea rs =>
   refine⟨.inr (.inr (.inl ⟨rfl,.inr ⟨_,ea⟩⟩)),aE,ρ,ag,_,sr.grow g1,q1,fun w H2 ay m y Bs g2 r2 f2 q2=>?_⟩
   have ry:=r2.rep g2.wf
   cases ry with
   |tup t2 ey p2 =>
    obtain⟨ks,hk,aC,q⟩:=q2
    obtain⟨b,eb,e3⟩:=Rep.kc (.tup t2 ey p2) hk
    cases eb
    have hl:kvs.length=vs.length:=by have:=rs.length;rwa[b4] at this
    have ez:((kvs.map (·.1)).zip vs).map (·.1)=kvs.map (·.1):=D2 (by rw[b4];exact B1 hl)
    refine⟨a,_,_,ks,rfl,rfl,g2.all _ _ ea,e3,by rw[ez];exact aC,fun j v hj=>?_⟩
    have hjk:∃ d,kvs[j]? = some (ks,d):=by
     have h1:(kvs.map (·.1))[j]? = some ks:=by rw[<- ez,kX,hj];rfl
     rw[kX] at h1
     obtain⟨q',YC,e'⟩:=LX.mp h1
     obtain⟨a',d'⟩:=q'
     simp only at e'
     subst e'
     exact⟨d',YC⟩
    obtain⟨d,hd⟩:=hjk
    obtain⟨nA,Ua⟩:=js.mp nd
    obtain⟨B,sb,rb⟩:=(rs.grow g2.sh g2.all).erase j
    have rr:bE X.K ay (upd H2 a (.dT (((kvs.map (·.1)).zip vs).eraseIdx j))) fl (.dT (kvs.eraseIdx j)) (.ref a) (a :: B):=by
     refine .dT (vs:=vs.eraseIdx j) ⟨by have:=kk.1;rw[Pb];split<;>lia,fun p hp=>kk.2 p (List.mem_of_mem_eraseIdx hp)⟩ ?_ ?_
     ·rw[fE,oG,jk]
     ·rw[<- jk]
      exact rb.fh (ax.refl _) fun c hc=>cf fun z=>nA (by subst z;exact sb.subset hc)
    obtain⟨dc,fm⟩:=k.node (fl2:=fl) (d2:=.dT (kvs.eraseIdx j)) (C:=B) g2 lv (fun _ z=>by cases z) id rr (sb.nodup Ua) (fun z=>nA (sb.subset z)) fun x hx=>.inl (sb.subset hx)
    exact k1 _ _ ay _ dc (g1.sh.trans g2.sh) fm (q j d hd)
   |_=>exact q2.elim
 |_=>exact q1.elim
end
end L2.Q
namespace L2.Q.R
open PySem PySem.Spec PyProof.Rows L2.Q
abbrev Kt':=List (List Key × L2.Q.D)
section
variable {E:mX}{ρ:Env}{p:WP}{tk:WE}
def YD(d:L2.Q.D)(k:Kt'->Prop):Prop:=match d with
 |.dT kvs=>k kvs
 |_=>False
theorem Ng:YD (.dT kvs) k=k kvs:=rfl
theorem Lz:DQ p tk E ρ=p ρ fun fl d up=>bP d (f:=fun d=>YD d fun kvs=>tk ρ fun _ y=>bP y (f:=fun y=>KG y fun ys=>∃ ks,eO ys=some ks/\ks∈kvs.map (·.1)/\∀ j d,kvs[j]? = some (ks,d)->E.nx (up fl (.dT (kvs.eraseIdx j)))) ⟨⟩) ⟨⟩:=rfl
end
end L2.Q.R
namespace L2.Q
open PySem PySem.Spec PyProof.Rows
structure yv(H G:Hp):Prop where
 tup:∀ a vs,H a=some (.tup vs)->G a=some (.tup vs)
 lst:∀ a vs,Rd H a (.lst vs)->Rd G a (.lst vs)
 dct:∀ a u,jK u->Rd H a u->Rd G a u
section
variable {K:PySem.W.Frag}{H G Hs Gs:Hp}{p:Addr}{u:HO}{o:Obj}
theorem yv.rep2(s:yv H G):(∀ {d:D} {v:V},Rep K H d v->Rep K G d v)/\∀ {ds:List D} {vs:List V},aI K H ds vs->aI K G ds vs :=
 Rep.ind .non .bl .int (fun _ h=>.str h) (fun _ _ _ z h _ ih=>.list z (h.imp (s.lst _ _) id) ih) (fun _ _ _ z h _ ih=>.tup z (s.tup _ _ h) ih) (fun _ _ _ kk h _ ih=>.dK kk (s.dct _ _ trivial h) ih) (fun _ _ _ kk h _ ih=>.dT kk (s.dct _ _ trivial h) ih) .nil fun _ _ _ _ _ _ a b=>.cons a b
theorem yv.rep(s:yv H G)(r:Rep K H d v):Rep K G d v:=s.rep2.1 r
theorem yv.Gx(s:yv Hs Gs):(∀ {d:D} {v:V} {As:List Addr},bE K Hs H fl d v As->(∀ a∈As,G a=H a)->bE K Gs G fl d v As)/\∀ {ds:List D} {vs:List V} {As:List Addr},aD K Hs H fl ds vs As->(∀ a∈As,G a=H a)->aD K Gs G fl ds vs As :=
 bE.ind (m1:=fun d v As=>(∀ a∈As,G a=H a)->bE K Gs G fl d v As) (m2:=fun ds vs As=>(∀ a∈As,G a=H a)->aD K Gs G fl ds vs As) (fun _ _ f r _=>.sh f (s.rep r))
  (fun _ _ _ _ z e _ ih k=>.list z ((k _ b6).trans e) (ih fun a h=>k a (b9 _ h))) (fun _ _ _ _ z e n _ ih k=>.tup z (s.tup _ _ e) n (ih k)) (fun _ _ _ _ z e _ ih k=>.dK z ((k _ b6).trans e) (ih fun a h=>k a (b9 _ h)))
  (fun _ _ _ _ z e _ ih k=>.dT z ((k _ b6).trans e) (ih fun a h=>k a (b9 _ h))) (fun _=>.nil) fun _ _ _ _ _ _ _ _ i1 i2 k=>.cons (i1 fun a h=>k a (kF _ h)) (i2 fun a h=>k a (eT _ h))
theorem yv.sr(s:yv Hs Gs)(r:SR K Hs H ρ σ ag):(∀ a∈ag,G a=H a)->SR K Gs G ρ σ ag:=by
 induction r with
 |nil=>exact fun _=>.nil
 |non _ ih=>exact fun k=>.non (ih k)
 |sh h _ ih=>exact fun k=>.sh (s.rep h) (ih k)
 |xc _ ih=>exact fun k=>.xc (ih k)
 |ow ne h _ ih=>exact fun k=>.ow ne (s.Gx.1 h fun a m=>k a (kF _ m)) (ih fun a m=>k a (eT _ m))
 |lk ne h _ ih=>exact fun k=>.lk ne (s.Gx.1 h fun a m=>k a (kF _ m)) (ih fun a m=>k a (eT _ m))
theorem xG(hu:jK u)(e:H p=some u):yv H (upd H p (.eu o u)):=by
 have ne:∀ {a:Addr} {w:HO},(w≠u)->Rd H a w->a≠p:=fun hw h z=>by
  subst z
  rcases h with h|⟨ob,h⟩
  ·rw[e] at h;cases h;exact hw rfl
  ·rw[e] at h;cases h;exact hu
 have mv:∀ {a:Addr} {w:HO},a≠p->Rd H a w->Rd (upd H p (.eu o u)) a w:=fun n h=>h.imp (fun h=>by rw[cf n];exact h) fun⟨ob,h⟩=>⟨ob,by rw[cf n];exact h⟩
 refine⟨fun a vs h=>?_,fun a vs h=>mv (ne (fun z=>by subst z;exact hu) h) h,fun a w hw h=>?_⟩
 ·rw[cf (ne (w:=.tup vs) (fun z=>by subst z;exact hu) (.inl h))];exact h
 ·by_cases z:a=p
  ·subst z
   rcases h with h|⟨ob,h⟩
   ·rw[e] at h;cases h;exact .inr ⟨o,fE⟩
   ·rw[e] at h;cases h;exact hu.elim
  ·exact mv z h
theorem pY(hu:jK u)(e:H p=some (.eu o u)):yv H (upd H p u):=by
 have ne:∀ {a:Addr} {w:HO},(w≠u)->(∀ ob x,w≠.eu ob x)->Rd H a w->a≠p:=fun hw hf h z=>by
  subst z
  rcases h with h|⟨ob,h⟩
  ·rw[e] at h;cases h;exact hf _ _ rfl
  ·rw[e] at h;cases h;exact hw rfl
 have mv:∀ {a:Addr} {w:HO},a≠p->Rd H a w->Rd (upd H p u) a w:=fun n h=>h.imp (fun h=>by rw[cf n];exact h) fun⟨ob,h⟩=>⟨ob,by rw[cf n];exact h⟩
 refine⟨fun a vs h=>?_,fun a vs h=>mv (ne (w:=.lst vs) (fun z=>by subst z;exact hu) (fun _ _ z=>nomatch z) h) h,fun a w hw h=>?_⟩
 ·rw[cf (ne (w:=.tup vs) (fun z=>by subst z;exact hu) (fun _ _ z=>nomatch z) (.inl h))];exact h
 ·by_cases z:a=p
  ·subst z
   rcases h with h|⟨ob,h⟩
   ·rw[e] at h;cases h;exact hw.elim
   ·rw[e] at h;cases h;exact .inl fE
  ·exact mv z h
theorem cy.qU(s:cy K Hs ρ σ H ag)(e:Hs p=some w)(hw:∀ vs,w≠.tup vs)(hx:∀ vs,x≠.tup vs)(m:yv Hs (upd Hs p x)):cy K (upd Hs p x) ρ σ (upd H p x) ag:=by
 have np:∀ a∈ag,a≠p:=fun a h z=>by subst z;rw[s.own a h] at e;cases e
 refine⟨m.sr s.sr fun a h=>cf (np a h),⟨fun a o h=>?_,fun a vs h=>?_⟩,s.oQ,fun a h=>by rw[cf (np a h)];exact s.own a h⟩
 ·by_cases z:a=p
  ·subst z;rw[fE] at h ⊢;exact h
  ·rw[cf z] at h ⊢;exact s.wf.sub a o h
 ·by_cases z:a=p
  ·subst z;rw[fE] at h;cases h;exact absurd rfl (hx _)
  ·rw[cf z] at h ⊢;exact s.wf.jI a vs h
theorem RM.thw(hu:jK u)(e:Hs p=some (.eu o u))(w:Wf Hs H)(hn:∀ a∈As,Hs a=none)(r:RM K Hs H m d v As):RM K (upd Hs p u) (upd H p u) m d v As:=by
 cases m with
 |sh=>exact⟨r.1,(pY hu e).rep r.2⟩
 |bo=>exact⟨r.1,(pY hu (w.sub _ _ e)).rep r.2⟩
 |ow fl=>exact⟨(pY hu e).Gx.1 r.1 (fun a h=>cf fun z=>by subst z;rw[hn a h] at e;cases e),r.2⟩
theorem uz(e:Hs p=some u)(s:ax (upd Hs p (.eu o u)) ay):ax Hs (upd ay p u):=fun a w h=>by
 by_cases z:a=p
 ·subst z;rw[e] at h;cases h;exact fE
 ·rw[cf z];exact s a w (by rw[cf z];exact h)
theorem m_.dct(e:Hs p=some (.eu o u))(rs:aI K Hs ds ks):m_ K (E1 p o ks) ds fun G _=>ax Hs G where
 go:=fun i G H s w h=>⟨by rw[<- rs.length];exact h,u,w.sub _ _ (s _ _ e)⟩
 nr:=fun i G H x H' d s w h y=>by
  obtain⟨y1,y2⟩:=y
  subst y1
  obtain⟨v,ev,r⟩:=rs.get h
  rw[y2] at ev
  cases ev
  exact⟨G,eP.refl w,r.same s⟩
 stop:=fun G H s w=>⟨rs.length,u,w.sub _ _ (s _ _ e)⟩
end
def Dl:D->Option (List D)
 |.dK kvs=>some (kvs.map fun kv=>ot kv.1)
 |.dT kvs=>some (kvs.map fun kv=>kc kv.1)
 |_=>none
def Dk(te:WE)(g:WG)(b:WS):WS:=fun E ρ=>te ρ fun m x=>m=.sh/\∃ ds,Dl x=some ds/\iQ g b E ds ρ
section
variable {X:Cx}{K:PySem.W.Frag}{L:Str->Hp->Prop}{e tg:Expr}{pos:Pos}{te:WE}{g:WG}{b:WS}{body:List Stmt}
theorem rK{J:It}(S:m_ K J ds fun G _=>ax aE G)(sr:cy K aE ρ σ H1 ag)(q1:iQ g b E ds ρ)(hL:∀ n H,L n H)
  (k1:∀ bp H' av aT bG,ax aE av->cy K av aT bp H' bG->E.nx aT->D'.nx bp H')
  (k4:∀ v H' av m d As,ax aE av->Wf av H'->RM K av H' m d v As->As.Nodup->(∀ a∈As,av a=none)->E.rt m d->D'.rt v H'):Qk J (Oi K g) (vF K L b) D' σ H1:=by
 refine⟨fun i m σ H=>m=ds.length-i/\i<=ds.length/\∃ av aT bG,ax aE av/\cy K av aT σ H bG/\iQ g b E (ds.drop i) aT,⟨ds.length,by simp,eK _,aE,ρ,ag,ax.refl _,sr,by simpa using q1⟩,?_⟩
 rintro i m iP H2 ⟨rfl,hi,ay,fw,dc,s2,fm,q2⟩
 by_cases df:i<ds.length
 ·refine .inr ⟨S.go i ay H2 s2 fm.wf df,fun n4 H3=>∃ av aT bG,ax aE av/\cy K av aT n4 H3 bG/\iQ g b E (ds.drop (i+1)) aT,fun n4 H3 h3=>⟨ds.length-(i+1),by lia,rfl,df,h3⟩,fun x H3 y=>?_⟩
  obtain⟨dE,g3,rd⟩:=S.nr i ay H2 x H3 ds[i] s2 fm.wf (by simp[df]) y
  rw[wd df] at q2
  have s3:=s2.trans g3.sh
  refine⟨dE,fw,dc,ds[i],_,fm.grow g3,rd,q2,fun σ4 sC Oj JA _ q4=>?_⟩
  refine⟨dE,sC,Oj,_,JA,q4,?_,?_,?_,?_,fun n H5 _ _=>hL n H5⟩
  ·exact fun yk H5 kD oS pd s5 pe q5=>⟨kD,oS,pd,s3.trans s5,pe,q5⟩
  ·exact fun yk H5 kD oS pd s5 pe q5=>k1 yk H5 kD oS pd (s3.trans s5) pe q5
  ·exact fun yk H5 kD oS pd s5 pe q5=>⟨kD,oS,pd,s3.trans s5,pe,q5⟩
  ·exact fun v H5 kD m d As s5=>k4 v H5 kD m d As (s3.trans s5)
 ·have e:i=ds.length:=by lia
  subst e
  refine .inl ⟨S.stop ay H2 s2 fm.wf,?_⟩
  rw[Pl] at q2
  exact k1 iP H2 ay fw dc s2 fm q2
theorem zz(r:Rep K Hs x (.ref a))(w:Wf Hs H)(xa:Dl x=some ds)(hu:jK u)(e:Rd Hs a u)(h:ou H u ks):aI K Hs ds ks:=by
 have one:∀ {w:HO},jK w->Rd Hs a w->w=u:=fun {w} hw r2=>by
  rcases e with e|⟨o,e⟩<;>rcases r2 with z|⟨o2,z⟩<;>rw[e] at z<;>cases z
  ·rfl
  ·exact hu.elim
  ·exact hw.elim
  ·rfl
 cases r with
 |@dK _ vs kvs kk rd q =>
  cases xa
  have:=one (w:=.dK _) trivial rd
  subst this
  have h:ks=_:=h
  have hl:=q.length
  rw[b4] at hl
  have e1:((kvs.map (·.1)).zip vs).map (·.1)=kvs.map (·.1):=D2 (by rw[b4];exact B1 hl)
  have e2:=congrArg (List.map kV) e1
  rw[fR] at e2
  rw[h,show(kvs.map fun kv=>ot kv.1)=(kvs.map (·.1)).map ot by rw[fR];rfl]
  refine(show aI K Hs _ (((kvs.map (·.1)).zip vs).map (kV ∘ fun x=>x.1)) from ?_)
  rw[e2]
  exact pN fun k hk=>by obtain⟨p,hp,rfl⟩:=cK.mp hk;exact kk.2 p hp
 |@dT _ vs kvs kk rd q =>
  cases xa
  have:=one (w:=.dT _) trivial rd
  subst this
  have h:cM H ks _:=h
  have hl:=q.length
  rw[b4] at hl
  rw[D2 (by rw[b4];exact B1 hl)] at h
  rw[show(kvs.map fun kv=>kc kv.1)=(kvs.map (·.1)).map kc by rw[fR];rfl]
  exact(jV (K:=K) h fun k hk=>by obtain⟨p,hp,rfl⟩:=cK.mp hk;exact kk.2 p hp).gr w.jI (fY _)
 |_=>cases xa
theorem El(hp:PassesOwn (model X.prog X.w) X.A X.env X.xe)(hc:X.calm=true)(he:QE X K e te)(hg:QG X K tg g)(hb:xi X K L body b)(hL:∀ n H,L n H)(hs:∀ x,foldedSetIterable e X.env x=pure x:=by intro _;rfl) :
  QS X K L (.For tg e body [] pos) (Dk te g b):=by
 refine PS.imp (Ei (V1 hp hc (Fj he) hg hb hs)) fun D σ H hx=>lK hx fun Hs ρ ag E sr h k1 k2 k3 k4 kx=>?_
 rw[yG]
 refine⟨Hs,ρ,ag,_,sr,h,fun v H1 aE m x As g1 r1 f1 q1=>?_⟩
 obtain⟨rfl,ds,xa,q1⟩:=q1
 obtain⟨rfl,r1⟩:=r1
 have Fm:=sr.grow g1
 have go:∀ {a:Addr} {u:HO},v=.ref a->jK u->Rd aE a u->∃ p u,v=.ref p/\jK u/\((H1 p=some u/\∀ o ks,(∀ o' w,X.nV p≠some (.eu o' w))->(∀ ps,X.nV p≠some (.pT ps))->ou H1 u ks->Qk (E1 p o ks) (Oi K g) (vF K L b) { D with nx:=A6 X D.nx,bk:=A6 X D.bk,ct:=A6 X D.ct,rt:=Tv X D.rt } σ (upd H1 p (.eu o u))) \/
   ∃ o,H1 p=some (.eu o u)/\∀ ks,ou H1 u ks->Qk (E1 p o ks) (Oi K g) (vF K L b) { D with nx:=A6 X D.nx,bk:=A6 X D.bk,ct:=A6 X D.ct,rt:=Tv X D.rt } σ H1):=by
  intro a u ev hu rd
  subst ev
  refine⟨a,u,rfl,hu,?_⟩
  rcases rd with rd|⟨o,rd⟩
  ·refine .inl ⟨g1.wf.sub _ _ rd,fun o ks nf nb hk=>?_⟩
   have rs:=(xG (o:=o) hu rd).rep2.2 (zz r1 g1.wf xa hu (.inl rd) hk)
   have sf:=Fm.qU (x:=.eu o u) rd (fun vs z=>by subst z;exact hu) (fun vs z=>nomatch z) (xG hu rd)
   refine rK (.dct fE rs) sf q1 hL (fun bp H' av aT bG s' DE n=>.inr ⟨a,u,o,?_,nf,nb,?_⟩) fun v H' av m d As s' w' r' tS B6 n=>.inr ⟨a,u,o,?_,nf,nb,?_⟩
   ·exact DE.wf.sub _ _ (s' _ _ fE)
   ·have e:=s' _ _ (fE (H:=aE) (a:=a) (o:=HO.eu o u))
    exact k1 bp _ _ aT bG (g1.sh.trans (uz rd s')) (DE.qU e (fun vs z=>nomatch z) (fun vs z=>by subst z;exact hu) (pY hu e)) n
   ·exact w'.sub _ _ (s' _ _ fE)
   ·have e:=s' _ _ (fE (H:=aE) (a:=a) (o:=HO.eu o u))
    refine k4 v _ _ m d As (g1.sh.trans (uz rd s')) ⟨fun b ob h=>?_,fun b vs h=>?_⟩ (r'.thw hu e w' B6) tS (fun b hb=>?_) n
    ·by_cases z:b=a
     ·subst z;rw[fE] at h ⊢;exact h
     ·rw[cf z] at h ⊢;exact w'.sub b ob h
    ·by_cases z:b=a
     ·subst z;rw[fE] at h;cases h;exact hu.elim
     ·rw[cf z] at h ⊢;exact w'.jI b vs h
    ·rw[cf fun z=>by subst z;rw[B6 _ hb] at e;cases e];exact B6 b hb
  ·refine .inr ⟨o,g1.wf.sub _ _ rd,fun ks hk=>?_⟩
   have rs:=zz r1 g1.wf xa hu (.inr ⟨o,rd⟩) hk
   exact rK (.dct rd rs) Fm q1 hL (fun bp H' av aT bG s' DE n=>.inl (k1 bp H' av aT bG (g1.sh.trans s') DE n)) fun v H' av m d As s' w' r' tS B6 n=>.inl (k4 v H' av m d As (g1.sh.trans s') w' r' tS B6 n)
 cases r1 with
 |dK kk rd q=>exact go (u:=.dK _) rfl trivial rd
 |dT kk rd q=>exact go (u:=.dT _) rfl trivial rd
 |_=>cases xa
end
end L2.Q
namespace L2.Q.R
open PySem PySem.Spec PyProof.Rows L2.Q
section
variable {E:mX}{ρ:Env}{te:WE}{g:WG}{b:WS}{ts:List (List Key × L2.Q.D)}{P:List L2.Q.D->Prop}
def YF(d:L2.Q.D)(P:List L2.Q.D->Prop):Prop:=∃ ds,Dl d=some ds/\P ds
theorem Lx:YF (.dT ts) P=P (ts.map fun kv=>kc kv.1):=propext ⟨fun⟨_,e,h⟩=>by cases e;exact h,fun h=>⟨_,rfl,h⟩⟩
theorem Mp:Dk te g b E ρ=te ρ fun m x=>m=.sh/\bP x (f:=fun x=>YF x fun ds=>iQ g b E ds ρ) ⟨⟩:=rfl
end
end L2.Q.R
namespace L2.Q
open PySem PySem.Spec PyProof.Rows
section
variable {X:Cx}{K:PySem.W.Frag}
theorem xY:cE X (compareOp .IsNot) (fun x y H Q=>∃ i j,x=.bl i/\y=.bl j/\Q (.bl (!(i == j))) H):=by
 intro pins s σ H x y v u Q I rx ry h
 obtain⟨i,j,rfl,rfl,q⟩:=h
 cases rx
 cases ry
 exact isnot_bool (gd I q rfl)
def Am:W2:=fun _ x _ y Q=>match x,y with
 |.bl i,.bl j=>Q .sh (.bl (!(i == j)))
 |_,_=>False
theorem xN:kA K (fun x y H Q=>∃ i j,x=.bl i/\y=.bl j/\Q (.bl (!(i == j))) H) Am:=by
 intro Hs H m x v As n y u Bs Qd Qv w rx ry h f
 have r1:=rx.rep w
 have r2:=ry.rep w
 cases r1 with
 |bl i=>cases r2 with
  |bl j=>exact⟨i,j,rfl,rfl,f.sh w (.bl _) h⟩
  |_=>exact h.elim
 |_=>exact h.elim
end
namespace R
theorem K_:Am m (.bl i) m' (.bl j) Q=Q .sh (.bl (!(i == j))):=rfl
theorem KH:Bi m (.bl i) m' (.bl j) Q=Q .sh (.bl (!decide (i=j))):=rfl
end R
end L2.Q
namespace L2
open PySem PySem.Spec PyProof.Rows
section
variable {X:Cx}{a b:Expr}{rest:List Expr}{pos:Pos}{ta tb:TE}
def fN'(K:PySem.W.Frag)(ta tb:TE):TE:=fun σ H Q=>ta σ H fun x H1=>∃ k,Se K x H1 k/\if k=true then Q x H1 else tb σ H1 Q
theorem Ia(ha:PE X a ta)(hb:PE X (.BoolOp .Or (b :: rest) pos) tb):PE X (.BoolOp .Or (a :: b :: rest) pos) (fN' X.K ta tb):=by
 intro pins s σ H Q I h
 refine BoolOp_or (ck (ha pins s σ H _ I h) fun v s1 cx=>L2.gu cx fun x H1 I1 r1 q1=>?_)
 obtain⟨k,ht,q⟩:=q1
 refine ck (aY' pins s1 σ H1 x v (fun c H2=>c=k/\H2=H1) I1 r1 ⟨k,ht,rfl,rfl⟩) fun c s2 cS=>?_
 obtain⟨H2,I2,e1,e2⟩:=cS
 subst e1
 subst e2
 cases c with
 |true=>exact⟨x,_,I2,r1,q⟩
 |false=>exact hb pins s2 σ _ Q I2 q
end
end L2
namespace L2.Q
open PySem PySem.Spec PyProof.Rows
section
variable {X:Cx}{K:PySem.W.Frag}{a b:Expr}{rest:List Expr}{pos:Pos}{ta tb:WE}
def Uj(ta tb:WE):WE:=fun ρ Q=>ta ρ fun m x=>∃ b,QB x=some b/\if b=true then Q m x else tb ρ Q
theorem JG(ha:QE X K a ta)(hb:QE X K (.BoolOp .Or (b :: rest) pos) tb)(hK:X.K=K:=by rfl):QE X K (.BoolOp .Or (a :: b :: rest) pos) (Uj ta tb):=by
 subst hK
 refine PE.imp (Ia ha hb) fun σ H Qv hx=>kL hx fun Hs ρ ag Q sr h fin=>?_
 refine⟨Hs,ρ,ag,_,sr,h,fun v H1 aE m x As g1 r1 f1 q1=>?_⟩
 obtain⟨c,hc,q⟩:=q1
 refine⟨c,Dr (r1.rep g1.wf) hc,?_⟩
 cases c with
 |true=>exact fin v H1 aE m x As g1 r1 f1 q
 |false=>exact⟨aE,ρ,ag,Q,sr.grow g1,q,Fin.after fin g1⟩
end
namespace R
theorem Nq{te tf:WE}{ρ:L2.Q.Env}{Q:Md->L2.Q.D->Prop}:Uj te tf ρ Q=te ρ fun m x=>bP x (f:=fun x=>∃ b,QB x=some b/\if b=true then Q m x else tf ρ Q) ⟨⟩:=rfl
end R
end L2.Q
local macro_rules | `(tactic| walk_at "q") => do
 let nm (s:String):Lean.Ident:=Lean.mkIdent ((s.splitOn ".").foldl Lean.Name.mkStr .anonymous)
 let ds ← ("K9 Np KQ Mw Kz KJ MK Ob Jx Ju Lb Mr Ml KD MF K1 Nx Lq Lf Li Nr M9 Ln K4 Mv KR Nt Nu Nz M_ fC' Nj MP NZ Ma KZ L_ NQ Nv Kp Ms Js Nb K5 wB_ Nh NP en' MN M7 JW J_ wC_ eq' er' Ko Lh Nq K3 Oa Ni NB K7 J9 Km JP J7 J8 Ku Kw KN Mi Lg LK Mf Lj Oc N_ LR N8 Mm GJ K6 JM Jq JF Ny Ks Mp Lz Ng Lx K_ KH LC Oe M6 N6 Og Nm Od Mu K8 Lp NK JK Ke et' Jt MJ Ly M8 Oh Lw JV Jy eu' Jr N7 Jw NT Ld MT Kf Lk Ka Jp Jm Jo gN_ gT_ Mt Nk La Lr Mh JS JC Kc Nf Mq KC JL Mz KY fr' Ls Mj".splitOn " ").toArray.mapM fun s=>`(Lean.Parser.Tactic.simpLemma| ↓$(nm ("L2.Q.R." ++ s)):ident)
 let us ← ("L2.Q.Rk L2.Q.Ui L2.Q.eg' L2.Q.OG L2.Q.Er L2.Q.Ep L2.Q.z5 L2.Q.IZ L2.Q.E2 L2.Q.DF L2.Q.jL L2.Q.N9 L2.Q.N3 L2.Q.N4 L2.Q.oh L2.Q.Dn L2.Q.asg L2.Q.ny L2.Q.bh L2.Q.D.flat L2.Q.cw L2.Q.D.QD L2.Q.D.ty L2.Q.QB L2.Q.D.key1 L2.Q.eO L2.Q.Im L2.Q.Mx List.length_map List.map_cons List.map_nil List.length_cons List.length_nil List.replicate_succ List.replicate_zero List.cons_append List.nil_append List.append_nil List.getElem?_cons_zero List.getElem?_cons_succ List.getElem?_nil List.set_cons_zero List.set_cons_succ List.all_cons List.all_nil Option.some.injEq Option.join_some Option.map_some Option.map_none Nat.reduceAdd Nat.reduceSub true_and and_true Bool.and_true Bool.true_and Bool.and_false Bool.false_and Bool.not_true Bool.not_false Bool.false_eq_true if_true if_false decide_true decide_false reduceIte cond_true cond_false PySem.sizeLine_eq L2.Q.eh' L2.Q.ej' L2.Q.ek' L2.Q.dW L2.Q.G7 L2.Q.empty_app Nat.zero_add exists_eq_left' Int.reduceLT Int.reduceLE Int.reducePow Int.reduceNeg Int.reduceToNat Int.reduceAdd Int.reduceMul Int.reduceSub Nat.reduceLeDiff Nat.reduceLT false_or or_false and_self L2.N5".splitOn " ").toArray.mapM fun s=>`(Lean.Parser.Tactic.simpLemma| $(nm s):ident)
 let as:Lean.TSyntaxArray [`Lean.Parser.Tactic.simpStar,`Lean.Parser.Tactic.simpErase,`Lean.Parser.Tactic.simpLemma]:=(ds++us).map fun x=>⟨x.raw⟩
 `(tactic| simp -dsimp only [$as,*])
namespace L2.Q.Uk
open PySem PySem.Spec PyProof.Rows
theorem small(h:n<=10000):n<=sizeLine:=iO h (by decide)
theorem G9(h:n<=10000):n<sizeLine:=Vu h (by decide)
def isLet(c:Nat):Bool:=decide (97<=c/\c<=122)
abbrev abc:Str := "abcdefghijklmnopqrstuvwxyz"
theorem BZ:sg abc=(List.range 26).map (97 + ·):=by decide +kernel
theorem yO(h0:0<=i)(h1:i<26):∃ c,fi (sg abc) i=some c/\isLet c=true:=by
 refine⟨97+i.toNat,?_,?_⟩
 ·have:fi (sg abc) ((i.toNat:Nat):Int)=some (97+i.toNat):=HL (by
   rw[BZ]
   have:i.toNat<26:=by lia
   simp[this])
  rwa[xB h0] at this
 ·simp[isLet];lia
theorem um(x:Int):∃ c,fi (sg abc) (x % 26)=some c/\isLet c=true:=yO (Int.emod_nonneg _ (by decide)) (RK _ (by decide))
def lets(x:Str):Prop:=∀ c∈sg x,isLet c=true
def Open(x:Str):Prop:=1<=x.length/\x.length<=6/\lets x
def OS (x:Str):Prop:=x = "*"\/Open x
theorem Ay(hx:lets x)(hy:lets y):lets (x++y):=fun c hc=>by
 rw[vA] at hc
 exact(dP.mp hc).elim (hx c) (hy c)
theorem Aj(h:isLet c=true):lets ⟨#[c]⟩:=fun d hd=>by
 have:d=c:=by simpa[sg] using hd
 rw[this];exact h
theorem jc(c:Nat):(⟨#[c]⟩:Str).length=1:=rfl
theorem OS.ok(h:OS x):PyData.strOk x=true:=by
 rw[Gb]
 rcases h with rfl|h
 ·have:sg "*" = [42]:=by decide +kernel
  intro c hc
  rw[this] at hc
  have:c=42:=by simpa using hc
  lia
 ·intro c hc
  have:=h.2.2 c hc
  simp[isLet] at this
  lia
abbrev cq:=Int × Str × Int
def iF(s:cq):List Key:=[.inl s.1,.inr s.2.1,.inl s.2.2]
def dz(s:cq):D:=.tup [.int s.1,.str s.2.1,.int s.2.2]
def mD(many:Int)(steps:List cq):D:=.tup [.int many,.list (steps.map dz)]
theorem qT:∀ (l:List cq),cw (l.map dz)=true
 |[]=>rfl
 |x :: l=>by simp[cw,qT l,dz,D.flat]
def DM(many:Int)(s:cq):Prop:=0<=s.1/\s.1<many/\OS s.2.1/\0<=s.2.2/\s.2.2<many
theorem Hb(n:Nat)(h:DM many s):cv (n+1) (dz s)=true:=by
 have:=h.2.2.1.ok
 simp[cv,dz,this]
theorem Ga{many:Int}{l:List cq}(n:Nat)(h:∀ s∈l,DM many s):cv (n+2) (.list (l.map dz))=true:=by
 simp only[cv,Pn,FP]
 intro s hs
 exact Hb n (h s hs)
theorem YG{many:Int}{l:List cq}(n:Nat)(h:∀ s∈l,DM many s):cv (n+3) (mD many l)=true:=by
 have h2:=Ga n h
 show(cv (n+2) (.int many) && (cv (n+2) (.list (l.map dz)) && true))=true
 rw[h2]
 rfl
theorem yK:∀ (l:List cq),tI (l.map dz)=true
 |[]=>rfl
 |x :: l=>by simp[tI,yK l,dz,D.nb]
theorem fO'(many:Int)(l:List cq):(mD many l).nb=true:=by simp[mD,D.nb,tI,yK]
theorem eq_self(h:x.nb=true):gS x x=true:=(oW x x h h).mpr rfl
def cc(s t:cq):Bool:=fF (iF s) (iF t)
theorem sS{P:cq->Prop}:∀ {ks:List (List Key)},(∀ k∈ks,∃ s,k=iF s/\P s)->∃ l:List cq,ks=l.map iF/\∀ s∈l,P s
 |[],_=>⟨[],rfl,fun s h=>nomatch h⟩
 |k :: ks,h=>by
  obtain⟨s,rfl,p⟩:=h k b6
  obtain⟨l,rfl,q⟩:=sS fun k hk=>h k (b9 _ hk)
  refine⟨s :: l,rfl,fun t ht=>?_⟩
  rcases dv.mp ht with rfl|ht
  ·exact p
  ·exact q t ht
abbrev Kn:=List (List Key × D)
def tT(P:cq->Prop)(kvs:Kn):Prop:=(∀ p∈kvs,∃ s,p.1=iF s/\P s)/\(kvs.map (·.1)).Nodup
theorem xM{κ β:Type}[DecidableEq κ](kvs:List (κ × β))(k:κ)(v:β):(mM kvs k v).map (·.1)=if k∈kvs.map (·.1) then kvs.map (·.1) else kvs.map (·.1)++[k]:=by
 unfold mM
 by_cases h:k∈kvs.map (·.1)
 ·have:(kvs.any fun kv=>decide (kv.1=k))=true:=by
   obtain⟨p,hp,e⟩:=cK.mp h
   exact AI.mpr ⟨p,hp,decide_eq_true e⟩
  rw[if_pos this,if_pos h,fR]
  apply FL
  intro p _
  show(if p.1=k then (p.1,v) else p).1=p.1
  split<;>rfl
 ·have:¬ (kvs.any fun kv=>decide (kv.1=k))=true:=by
   intro z
   obtain⟨p,hp,e⟩:=AI.mp z
   exact h (cK.mpr ⟨p,hp,of_decide_eq_true e⟩)
  rw[if_neg this,if_neg h,sR]
  rfl
theorem tT.put{P:cq->Prop}(h:tT P kvs)(hs:P s):tT P (mM kvs (iF s) d):=by
 refine⟨fun p hp=>?_,?_⟩
 ·rcases pR hp with e|e
  ·exact⟨s,e,hs⟩
  ·obtain⟨q,hq,e⟩:=cK.mp e
   rw[<- e]
   exact h.1 q hq
 ·rw[xM]
  split
  ·exact h.2
  ·rename_i hn
   exact iN.mpr ⟨h.2,by simp,fun a ha b hb e=>by
    have:b=iF s:=by simpa using hb
    subst this;subst e;exact hn ha⟩
theorem tT.nil{P:cq->Prop}:tT P []:=⟨(fun p hp=>nomatch hp),sT⟩
theorem tT.sorted{P:cq->Prop}(h:tT P kvs)(k:∀ steps:List cq,(steps.map iF).Perm (kvs.map (·.1))->(∀ s∈steps,P s)->steps.Pairwise (fun a b=>cc a b=true)->steps.length=kvs.length->Q (.ow true) (.list (steps.map dz))) :
  Im (.ow true) (.list (kvs.map fun kv=>.tup (kv.1.map ot))) Q:=by
 refine⟨kvs.map (·.1),[false,true],by rw[fR];rfl,fun k hk=>?_,fun ms pm pw=>?_⟩
 ·obtain⟨p,hp,rfl⟩:=cK.mp hk
  obtain⟨s,e,_⟩:=h.1 p hp
  rw[e];rfl
 ·obtain⟨l,rfl,hl⟩:=sS (P:=P) (ks:=ms) fun k hk=>by
   obtain⟨p,hp,e⟩:=cK.mp (pm.mem_iff.mp hk)
   rw[<- e]
   exact h.1 p hp
  have e:(l.map iF).map kc=l.map dz:=by rw[fR];rfl
  rw[e]
  refine k l pm hl ?_ (by have:=pm.length_eq;simpa using this)
  have nd:(l.map iF).Nodup:=pm.nodup_iff.mpr h.2
  rw[pE] at pw
  have tS:l.Pairwise fun a b=>iF a≠iF b:=by
   rw[List.Nodup,pE] at nd
   exact nd
  refine(pw.and tS).imp fun {a b} ⟨h1,h2⟩=>?_
  unfold cc
  cases h3:fF (iF a) (iF b) with
  |true=>rfl
  |false=>exact absurd (lg (a:=iF a) (b:=iF b) rfl h3 h1) h2
theorem lW:∀ (l:List Str),cw (l.map D.str)=true
 |[]=>rfl
 |x :: l=>by simp[cw,lW l,D.flat]
theorem qG:∀ (l:List Int),cw (l.map D.int)=true
 |[]=>rfl
 |x :: l=>by simp[cw,qG l,D.flat]
theorem Bx(l:List Str)(x:Str):l.map D.str++[D.str x]=(l++[x]).map D.str:=by simp
theorem b8{lo:Int}(h:(nR lo n)[i]? = some x):i<n/\x=.int (lo+(i:Nat)):=by
 unfold nR at h
 rw[kX] at h
 by_cases hi:i<n
 ·rw[List.getElem?_range hi] at h
  exact⟨hi,(Option.some.inj h).symm⟩
 ·rw[ua (by simpa using hi)] at h
  cases h
theorem bL(lo:Int)(n:Nat):(nR lo n).length=n:=by simp[nR]
theorem xg{names:List Str}{i:Int}(h0:0<=i)(h1:i<names.length):∃ n,n∈names/\fi (names.map D.str) i=some (.str n):=by
 have hn:i.toNat<names.length:=by lia
 refine⟨names[i.toNat],D3 hn,?_⟩
 have:=HL (xs:=names.map D.str) (j:=i.toNat) (v:=.str names[i.toNat]) (by simp[hn])
 rwa[xB h0] at this
theorem Be{n d:Nat}{k:Int}(h0:0<=k)(h1:k<=n):HT.bI n d (some k)=k.toNat:=by
 simp only[HT.bI]
 rw[if_neg (by lia)]
 lia
theorem iT{α:Type}[DecidableEq α]:∀ {l m:List α},l.Nodup->(∀ x∈l,x∈m)->l.length<=m.length
 |[],_,_,_=>eK _
 |x :: l,m,nd,h=>by
  obtain⟨hx,nd⟩:=js.mp nd
  have hm:=h x b6
  have:=iT (l:=l) (m:=m.erase x) nd fun y hy=>(List.mem_erase_of_ne (fun e=>by subst e;exact hx hy)).mpr (h y (b9 _ hy))
  rw[List.length_erase_of_mem hm] at this
  have:=List.length_pos_of_mem hm
  simp only[oz]
  lia
def jb(n:Nat):List Int:=(List.range n).map fun i=>((i:Nat):Int)
theorem wQ(n:Nat):(jb n).length=n:=by simp[jb]
theorem wJ:x∈jb n↔0<=x/\x<n:=by
 unfold jb
 rw[cK]
 constructor
 ·rintro⟨i,hi,rfl⟩
  have:=oi.mp hi
  lia
 ·intro ⟨h0,h1⟩
  exact⟨x.toNat,oi.mpr (by lia),by lia⟩
def fT(many:Int)(steps:List cq):Prop:=∀ s∈steps,DM many s
theorem ye{κ β:Type}[DecidableEq κ]{kvs:List (κ × β)}{k:κ}:(kvs.any fun kv=>decide (kv.1=k))=true↔k∈kvs.map (·.1):=by
 rw[AI,cK]
 exact⟨fun⟨p,hp,e⟩=>⟨p,hp,of_decide_eq_true e⟩,fun⟨p,hp,e⟩=>⟨p,hp,decide_eq_true e⟩⟩
theorem zu{κ β:Type}[DecidableEq κ]:∀ {kvs:List (κ × β)} {k:κ},(eC kvs k).isSome=true↔k∈kvs.map (·.1)
 |[],k=>by simp[eC]
 |p :: kvs,k=>by
  have ih:=zu (kvs:=kvs) (k:=k)
  rw[fN,dv]
  by_cases h:p.1=k
  ·subst h;simp[eC]
  ·have:eC (p :: kvs) k=eC kvs k:=by simp[eC,h]
   rw[this,ih]
   exact⟨.inr,fun z=>z.elim (fun e=>absurd e.symm h) id⟩
inductive Ul(l:List cq)(s:Int):Int->Prop
 |refl:Ul l s s
 |step {t:cq}:Ul l s t.1->t∈l->t.2.1 = "*"->Ul l s t.2.2
def dq(l:List cq)(s:Int)(d:Str):List Int:=(l.filter fun t=>decide (t.1=s) && decide (t.2.1=d)).map (·.2.2)
theorem vz:x∈dq l s d↔(s,d,x)∈l:=by
 unfold dq
 rw[cK]
 constructor
 ·rintro⟨⟨p,q,r⟩,ht,rfl⟩
  obtain⟨h1,e⟩:=sQ.mp ht
  simp only[mw,decide_eq_true_eq] at e
  rw[<- e.1,<- e.2]
  exact h1
 ·exact fun h=>⟨_,sQ.mpr ⟨h,by simp⟩,rfl⟩
theorem zW(l:List cq)(s:Int)(d:Str):(dq l s d).length<=l.length:=by
 unfold dq
 rw[b4]
 exact Rv _ _
def BE(l:List cq)(kvs:Kn):Prop:=∀ s d,eC kvs [.inl s,.inr d]=if dq l s d=[] then none else some (.list ((dq l s d).map .int))
theorem uI(k k':List Key)(x:D):∀ (kvs:Kn),eC (kR kvs k x) k'=if k'=k then some (match eC kvs k with
  |none=>.list [x]
  |some d=>OJ d x) else eC kvs k'
 |[]=>by
  rw[kR,bM]
  by_cases h:k'=k
  ·rw[if_pos h.symm,if_pos h];rfl
  ·rw[if_neg fun e=>h e.symm,if_neg h]
 |p :: r=>by
  rw[kR]
  by_cases e:p.1=k
  ·rw[if_pos e,bM]
   by_cases h:k'=k
   ·rw[if_pos h,h,bM p r k,if_pos e,if_pos e]
   ·rw[if_neg h,bM p r k',if_neg fun z=>h (z.symm.trans e),if_neg fun z=>h (z.symm.trans e)]
  ·rw[if_neg e,bM,uI k k' x r]
   by_cases h:k'=k
   ·rw[if_pos h,h,bM p r k,if_neg e,if_neg e,if_pos rfl]
   ·rw[if_neg h,bM p r k',if_neg h]
theorem zy(k:List Key)(x:D):∀ (kvs:Kn),(kR kvs k x).length<=kvs.length+1
 |[]=>by simp[kR]
 |p :: r=>by
  have:=zy k x r
  rw[kR]
  split<;>simp only[oz]<;>lia
theorem BE.nil:BE [] []:=fun s d=>rfl
theorem BE.put(h:BE l kvs)(p:Int)(n:Str)(r:Int):BE (l++[(p,n,r)]) (kR kvs [.inl p,.inr n] (.int r)):=by
 intro s d
 rw[uI]
 have ee:dq (l++[(p,n,r)]) s d=dq l s d++if p=s/\n=d then [r] else []:=by
  unfold dq
  rw[List.filter_append,sR]
  congr 1
  by_cases e:p=s/\n=d
  ·simp[e.1,e.2]
  ·rw[if_neg e,List.filter_cons_of_neg (by simpa using e)];rfl
 by_cases e:p=s/\n=d
 ·rw[if_pos e] at ee
  obtain⟨rfl,rfl⟩:=e
  rw[ee,if_pos rfl,h p n,if_neg (show ¬ dq l p n++[r]=[] by simp)]
  by_cases z:dq l p n=[]
  ·rw[if_pos z,z];rfl
  ·rw[if_neg z];simp[OJ]
 ·rw[if_neg e,pS] at ee
  rw[ee,if_neg fun z=>e ?_,h s d]
  simp only[List.cons.injEq,Sum.inl.injEq,Sum.inr.injEq,and_true] at z
  exact⟨z.1.symm,z.2.symm⟩
theorem Cd(h:BE l kvs)(q:Q .sh (.list ((dq l s d).map .int))):DJ (eC kvs [.inl s,.inr d]) .sh .sh (.list []) Q:=by
 rw[h s d]
 by_cases z:dq l s d=[]
 ·rw[if_pos z];rw[z] at q;exact q
 ·rw[if_neg z];exact q
theorem wX{steps:List cq}{i:Nat}{x:D}(h:(steps.map dz)[i]? = some x):∃ p d r,x=.tup [.int p,.str d,.int r]/\(p,d,r)∈steps/\steps.take (i+1)=steps.take i++[(p,d,r)]:=by
 rw[kX] at h
 cases e:steps[i]? with
 |none=>rw[e] at h;cases h
 |some s =>
  rw[e] at h
  cases h
  obtain⟨p,d,r⟩:=s
  exact⟨p,d,r,rfl,nL e,by rw[D1,e];rfl⟩
theorem iw{l:List Int}{i:Int}(h0:0<=i)(h1:i<l.length):∃ c,c∈l/\fi (l.map D.int) i=some (.int c):=by
 have hn:i.toNat<l.length:=by lia
 refine⟨l[i.toNat],D3 hn,?_⟩
 have:=HL (xs:=l.map D.int) (j:=i.toNat) (v:=.int l[i.toNat]) (by simp[hn])
 rwa[xB h0] at this
theorem xJ(x:Int)(h:0<m):0<=x % m/\x % m<m:=⟨Int.emod_nonneg _ (by lia),RK _ h⟩
theorem bw(h0:-1000<=b)(h1:b<=10000000000):y9 a b:=.inr ⟨by lia,by lia⟩
theorem jf(h0:-1000<=a)(h1:a<=10000000000):y9 a b:=.inl ⟨by lia,by lia⟩
theorem jC:∀ l:List Nat,sg (Str.join "" (l.map fun c=>(⟨#[c]⟩:Str)))=l
 |[]=>by decide +kernel
 |[c]=>rfl
 |c :: d :: l=>by
  have ih:=jC (d :: l)
  show sg ((⟨#[c]⟩:Str) ++ "" ++ Str.join "" ((d :: l).map fun c=>(⟨#[c]⟩:Str)))=_
  rw[vA,vA,ih,show sg ("" : Str)=[] by decide +kernel]
  rfl
theorem uM:∀ l:List Nat,(l.map fun _=>1).sum=l.length
 |[]=>rfl
 |x :: l=>by simp[uM l];lia
theorem n8:∀ (l:List Str),jL (l.map D.str)=some l
 |[]=>rfl
 |x :: l=>by simp[jL,n8 l]
def sM(n:Nat)(out:List D):Prop:=∃ cs:List Nat,out=cs.map (fun c=>D.str ⟨#[c]⟩)/\cs.length=n/\∀ c∈cs,isLet c=true
theorem sM.nil:sM 0 []:=⟨[],rfl,rfl,fun c hc=>nomatch hc⟩
theorem sM.push(h:sM n out)(hc:isLet c=true):sM (n+1) (out++[.str ⟨#[c]⟩]):=by
 obtain⟨cs,rfl,hl,ha⟩:=h
 refine⟨cs++[c],by simp,by simp[hl],fun d hd=>?_⟩
 rcases dP.mp hd with hd|hd
 ·exact ha d hd
 ·rw[kU.mp hd];exact hc
theorem sM.join(h:sM n out)(hn:n<=100) :
  ∃ zs,jL out=some zs/\(zs.map (·.length)).sum+zs.length*(Str.ofString "").length<=16777216/\(Str.join "" zs).length=n/\lets (Str.join "" zs):=by
 obtain⟨cs,rfl,hl,ha⟩:=h
 refine⟨cs.map fun c=>⟨#[c]⟩,?_,?_,?_⟩
 ·rw[<- n8,fR];rfl
 ·rw[show(Str.ofString "").length=0 by decide,fR,Nat.mul_zero,GA]
  show(cs.map fun _=>1).sum<=_
  rw[uM];lia
 ·have hw:=jC cs
  generalize Str.join "" (cs.map fun c=>(⟨#[c]⟩:Str))=word at hw ⊢
  refine⟨?_,fun c hc=>ha c (by rwa[hw] at hc)⟩
  have:(sg word).length=n:=by rw[hw,hl]
  rw[<- this];unfold sg Str.length;simp
theorem zV(l:List Str)(lo hi:Option Int):kB (l.map D.str) lo hi=(kB l lo hi).map D.str:=by
 unfold kB
 rw[b4,List.map_take,List.map_drop]
theorem Il{α:Type}{l:List α}{a b:Int}(h0:0<=a)(h1:a<b)(h2:a<l.length):1<=(kB l (some a) (some b)).length/\(kB l (some a) (some b)).length<=l.length/\∀ x∈kB l (some a) (some b),x∈l:=by
 have e:HT.bI l.length 0 (some a)=a.toNat:=Be h0 (by lia)
 have e2:a.toNat<HT.bI l.length l.length (some b):=by
  simp only[HT.bI]
  rw[if_neg (by lia)]
  lia
 unfold kB
 rw[e,lh,BQ]
 exact⟨by lia,by lia,fun x hx=>FK (DZ hx)⟩
theorem tT.DW{P:cq->Prop}(h:tT P kvs){R:List (List Key)->Prop}(k:∀ steps:List cq,(steps.map iF).Perm (kvs.map (·.1))->(∀ s∈steps,P s)->steps.Pairwise (fun a b=>cc a b=true)->steps.length=kvs.length->R (steps.map iF)) :
  ∃ b0 sh,(∀ p∈kvs,gL p.1=b0 :: sh)/\∀ ms:List (List Key),ms.Perm (kvs.map (·.1))->(ms.Pairwise fun a b=>fF b a=false)->R ms:=by
 refine⟨true,[false,true],fun p hp=>?_,fun ms pm pw=>?_⟩
 ·obtain⟨s,e,_⟩:=h.1 p hp
  rw[e];rfl
 ·obtain⟨l,rfl,hl⟩:=sS (P:=P) (ks:=ms) fun k hk=>by
   obtain⟨p,hp,e⟩:=cK.mp (pm.mem_iff.mp hk)
   rw[<- e]
   exact h.1 p hp
  refine k l pm hl ?_ (by have:=pm.length_eq;simpa using this)
  have nd:(l.map iF).Nodup:=pm.nodup_iff.mpr h.2
  rw[pE] at pw
  have tS:l.Pairwise fun a b=>iF a≠iF b:=by
   rw[List.Nodup,pE] at nd
   exact nd
  refine(pw.and tS).imp fun {a b} ⟨h1,h2⟩=>?_
  unfold cc
  cases h3:fF (iF a) (iF b) with
  |true=>rfl
  |false=>exact absurd (lg (a:=iF a) (b:=iF b) rfl h3 h1) h2
theorem vQ(l:List cq):(l.map iF).map kc=l.map dz:=by rw[fR];rfl
theorem yC{one states j copies:Int}(h0:0<=one)(h1:one<states)(hj:0<=j)(KW:j<copies):0<=one+states*j/\one+states*j<copies*states:=by
 have a:=Int.mul_le_mul_of_nonneg_left (show j+1<=copies by lia) (show 0<=states by lia)
 rw[Int.mul_add,Int.mul_one,Int.mul_comm states copies] at a
 have b:=PF (show 0<=states by lia) hj
 lia
abbrev Pr:=Str × Int
abbrev Ky:=Int × List Pr
def px(p:Pr):List Key:=[.inr p.1,.inl p.2]
def kf(p:Pr):D:=.tup [.str p.1,.int p.2]
def gp(k:Ky):D:=.tup [.int k.1,.list (k.2.map kf)]
def AA(r:List Int):D:=.list (r.map .int)
def qE(a b:Ky):Bool:=PySem.SeqAt.cc 3 (gp a).py (gp b).py
def sN(k:Ky):Prop:=∀ p∈k.2,PyData.strOk p.1=true
theorem Gu(k:Ky):(gp k).py=.tuple [.int k.1,.list (k.2.map L2.m9)]:=by
 show PyData.tuple [.int k.1,.list (mh (k.2.map kf))]=_
 rw[jq,fR]
 rfl
theorem sN.tP(h:sN k):L2.tP (gp k).py:=⟨k.1,k.2,Gu k,h⟩
theorem mC(a:Ky)(h:sN a):qE a a=false:=L2.Ri.ag.pj _ h.tP
theorem CT(ha:sN a)(hb:sN b)(hc:sN c):qE a b=true->qE b c=true->qE a c=true:=L2.Ri.ag.tr _ _ _ ha.tP hb.tP hc.tP
theorem Fe(h:kf p=kf q):p=q:=by
 obtain⟨a,b⟩:=p
 obtain⟨c,d⟩:=q
 simp[kf] at h
 rw[h.1,h.2]
theorem Ew(h:px p=px q):p=q:=by
 obtain⟨a,b⟩:=p
 obtain⟨c,d⟩:=q
 simp[px] at h
 rw[h.1,h.2]
theorem map_inj{α β:Type}{f:α->β}(hf:∀ a b,f a=f b->a=b):∀ {l m:List α},l.map f=m.map f->l=m
 |[],[],_=>rfl
 |[],_ :: _,h=>by simp at h
 |_ :: _,[],h=>by simp at h
 |x :: l,y :: m,h=>by
  simp only[fN,List.cons.injEq] at h
  rw[hf _ _ h.1,map_inj hf h.2]
theorem yU(h:gp a=gp b):a=b:=by
 simp only[gp,D.tup.injEq,List.cons.injEq,D.int.injEq,D.list.injEq] at h
 exact Prod.ext h.1 (map_inj (fun _ _=>Fe) h.2.1)
theorem De:∀ l:List Pr,tI (l.map kf)=true
 |[]=>rfl
 |x :: l=>by simp[tI,De l,kf,D.nb]
theorem Hh(k:Ky):(gp k).nb=true:=by simp[gp,D.nb,tI,De]
theorem vZ(a b:Ky):gS (gp a) (gp b)=decide (a=b):=by
 rw[xt,oW _ _ (Hh a) (Hh b),decide_eq_true_iff]
 exact⟨yU,fun e=>by rw[e]⟩
theorem Fw(ha:sN a)(hb:sN b)(h1:qE a b=false)(h2:qE b a=false):a=b:=by
 have e:=L2.Ri.ag.ag _ _ ha.tP hb.tP h1 h2
 have:gS (gp a) (gp b)=gS (gp a) (gp a):=by unfold gS;rw[e]
 rw[vZ,vZ] at this
 simpa using this
theorem Dy(h:a.1<b.1):qE a b=true:=by
 unfold qE
 rw[Gu,Gu,PySem.SeqAt.cc,PySem.SeqAt.nK]
 have:PyData.eqv (.int a.1) (.int b.1)=false:=by
  have:a.1≠b.1:=by lia
  simpa[PyData.eqv] using this
 rw[this,if_neg gy,PySem.SeqAt.cc]
 exact decide_eq_true h
theorem Cg(h:sN k)(n:Nat):cv (n+3) (gp k)=true:=by
 have:∀ p∈k.2.map kf,cv (n+1) p=true:=fun d hd=>by
  obtain⟨p,hp,rfl⟩:=cK.mp hd
  simp[kf,cv,h p hp]
 simp only[gp,cv,AJ,List.all_nil,Px,Bool.true_and,FP]
 exact this
theorem Cq{l:List Ky}(h:∀ k∈l,sN k)(n:Nat):cv (n+4) (.list (l.map gp))=true:=by
 simp only[cv,Pn,FP]
 exact fun k hk=>Cg (h k hk) n
theorem Hd(l:List Ky)(k:Ky):BD (l.map gp) (gp k)=decide (k∈l):=by
 unfold BD
 rw[List.any_map,xt,AI,decide_eq_true_iff]
 constructor
 ·rintro⟨j,hj,e⟩
  have e:gS (gp j) (gp k)=true:=e
  rw[vZ,decide_eq_true_iff] at e
  rwa[<- e]
 ·exact fun hk=>⟨k,hk,by show gS (gp k) (gp k)=true;rw[vZ];exact decide_eq_true rfl⟩
theorem tO:∀ l:List Int,tI (l.map D.int)=true
 |[]=>rfl
 |x :: l=>by simp[tI,tO l,D.nb]
theorem Jz(a b:List Int):gS (.list (a.map .int)) (.list (b.map .int))=decide (a=b):=by
 rw[xt,oW _ _ (by simp[D.nb,tO]) (by simp[D.nb,tO]),decide_eq_true_iff]
 refine⟨fun h=>map_inj (f:=D.int) (fun _ _=>D.int.inj) (D.list.inj h),fun e=>by rw[e]⟩
theorem zB(l:List Int)(n:Nat):cv (n+1) (.list (l.map .int))=true:=by
 simp[cv,Pn]
theorem Um{α β:Type}{f:β->α}{P:β->Prop}:∀ {ks:List α},(∀ k∈ks,∃ s,k=f s/\P s)->∃ l:List β,ks=l.map f/\∀ s∈l,P s
 |[],_=>⟨[],rfl,fun s h=>nomatch h⟩
 |k :: ks,h=>by
  obtain⟨s,rfl,p⟩:=h k b6
  obtain⟨l,rfl,q⟩:=Um fun k hk=>h k (b9 _ hk)
  refine⟨s :: l,rfl,fun t ht=>?_⟩
  rcases dv.mp ht with rfl|ht
  ·exact p
  ·exact q t ht
theorem jZ{α:Type}{lt:α->α->Prop}:∀ {l m:List α},(∀ a∈l,∀ b∈l,lt a b->lt b a->False)->l.Pairwise lt->m.Pairwise lt->(∀ x,x∈l↔x∈m)->l=m
 |[],[],_,_,_,_=>rfl
 |[],y :: m,_,_,_,h=>absurd ((h y).mpr b6) (by simp)
 |x :: l,[],_,_,_,h=>absurd ((h x).mp b6) (by simp)
 |x :: l,y :: m,as,hl,hm,h=>by
  obtain⟨a1,a2⟩:=List.pairwise_cons.mp hl
  obtain⟨b1,b2⟩:=List.pairwise_cons.mp hm
  have e:x=y:=by
   rcases dv.mp ((h x).mp b6) with e|e
   ·exact e
   ·rcases dv.mp ((h y).mpr b6) with e'|e'
    ·exact e'.symm
    ·exact(as x b6 y (b9 _ e') (a1 y e') (b1 x e)).elim
  subst e
  have pj:¬ lt x x:=fun z=>as x b6 x b6 z z
  rw[jZ (fun a ha b hb=>as a (b9 _ ha) b (b9 _ hb)) a2 b2 fun z=>⟨fun hz=>by
   rcases dv.mp ((h z).mp (b9 _ hz)) with e|e
   ·subst e;exact absurd (a1 z hz) pj
   ·exact e,fun hz=>by
   rcases dv.mp ((h z).mpr (b9 _ hz)) with e|e
   ·subst e;exact absurd (b1 z hz) pj
   ·exact e⟩]
def rk(b5:List Int)(s:Int):Int:=b5.getD s.toNat 0
structure DS(steps:List cq)(b5:List Int)(s:Int)(k:Ky):Prop where
 fst:k.1=rk b5 s
 up:k.2.Pairwise fun a b=>fF (px a) (px b)=true
 mem:∀ p,p∈k.2↔∃ t∈steps,t.1=s/\p=(t.2.1,rk b5 t.2.2)
theorem DS.uniq(a:DS steps b5 s k)(b:DS steps b5 s j):k=j:=by
 have h2:k.2=j.2:=jZ (fun x _ y _ h1 h2=>by have:=rH h1 h2;rw[pF] at this;cases this) a.up b.up fun p=>(a.mem p).trans (b.mem p).symm
 exact Prod.ext (a.fst.trans b.fst.symm) h2
theorem DS.ok(a:DS steps b5 s k)(h:fT many steps):sN k:=fun p hp=>by
 obtain⟨t,ht,_,rfl⟩:=(a.mem p).mp hp
 exact(h t ht).2.2.1.ok
structure qS(many:Int)(steps:List cq)(b5 r:List Int)(ky:Int->Ky)(diff:List Ky):Prop where
 len:r.length=many.toNat
 key:∀ s,0<=s->s<many->DS steps b5 s (ky s)
 up:diff.Pairwise fun a b=>qE a b=true
 mem:∀ k,k∈diff↔∃ s,(0<=s/\s<many)/\k=ky s
 pos:∀ s,0<=s->s<many->0<=rk r s/\diff[(rk r s).toNat]? = some (ky s)
def RB(many:Int)(steps:List cq)(b5 r:List Int):Prop:=∃ ky diff,qS many steps b5 r ky diff
section
variable {many:Int}{steps:List cq}{b5 r r2:List Int}{ky YH:Int->Ky}{diff YJ:List Ky}
theorem qS.ok(h:qS many steps b5 r ky diff)(aC:fT many steps)(hk:k∈diff):sN k:=by
 obtain⟨s,hs,rfl⟩:=(h.mem k).mp hk
 exact(h.key s hs.1 hs.2).ok aC
theorem qS.as(h:qS many steps b5 r ky diff)(aC:fT many steps):∀ a∈diff,∀ b∈diff,qE a b=true->qE b a=true->False:=fun a ha b hb h1 h2=>by
 have:=CT (h.ok aC ha) (h.ok aC hb) (h.ok aC ha) h1 h2
 rw[mC a (h.ok aC ha)] at this
 cases this
theorem IW(hl:l.length=many.toNat)(hm:m.length=many.toNat)(h:∀ s,0<=s->s<many->rk l s=rk m s):l=m:=by
 apply List.ext_getElem (by lia)
 intro i h1 h2
 have:=h (i:Nat) (by lia) (by lia)
 unfold rk at this
 simpa[List.getD,h1,h2] using this
theorem qS.inj(h:qS many steps b5 r ky diff)(aC:fT many steps){i j:Nat}{k:Ky}(hi:diff[i]? = some k)(hj:diff[j]? = some k):i=j:=by
 obtain⟨kK,ic⟩:=iL.mp hi
 obtain⟨Iy,KW⟩:=iL.mp hj
 have hk:k∈diff:=nL hi
 have pj:=mC k (h.ok aC hk)
 have pw:=BO.mp h.up
 rcases Nat.lt_trichotomy i j with e|e|e
 ·have:=pw i j kK Iy e
  rw[ic,KW,pj] at this;cases this
 ·exact e
 ·have:=pw j i Iy kK e
  rw[ic,KW,pj] at this;cases this
theorem qS.same(h:qS many steps b5 r ky diff)(h2:qS many steps b5 r2 YH YJ)(aC:fT many steps):r=r2:=by
 have ek:∀ s,0<=s->s<many->ky s=YH s:=fun s a b=>(h.key s a b).uniq (h2.key s a b)
 have ed:diff=YJ:=jZ (h.as aC) h.up h2.up fun k=>by
  rw[h.mem,h2.mem]
  exact⟨fun⟨s,a,e⟩=>⟨s,a,e.trans (ek s a.1 a.2)⟩,fun⟨s,a,e⟩=>⟨s,a,e.trans (ek s a.1 a.2).symm⟩⟩
 subst ed
 refine IW h.len h2.len fun s a b=>?_
 have p1:=h.pos s a b
 have p2:=h2.pos s a b
 rw[<- ek s a b] at p2
 have:=h.inj aC p1.2 p2.2
 lia
theorem RB.uniq(h:RB many steps b5 r)(h2:RB many steps b5 r2)(aC:fT many steps):r=r2:=by
 obtain⟨_,_,h⟩:=h
 obtain⟨_,_,h2⟩:=h2
 exact h.same h2 aC
theorem qS.xR(h:qS many steps b5 r ky diff)(hs:0<=s/\s<many)(ht:0<=t/\t<many)(e:rk r s=rk r t):ky s=ky t:=by
 have p1:=(h.pos s hs.1 hs.2).2
 have p2:=(h.pos t ht.1 ht.2).2
 rw[e,p2] at p1
 exact(Option.some.inj p1).symm
theorem qS.lt(h:qS many steps b5 r ky diff)(aC:fT many steps)(hs:0<=s/\s<many)(ht:0<=t/\t<many):rk r s<rk r t↔qE (ky s) (ky t)=true:=by
 have p1:=h.pos s hs.1 hs.2
 have p2:=h.pos t ht.1 ht.2
 have k1:=h.ok aC (nL p1.2)
 have k2:=h.ok aC (nL p2.2)
 obtain⟨a1,a2⟩:=iL.mp p1.2
 obtain⟨b1,b2⟩:=iL.mp p2.2
 have pw:=BO.mp h.up
 constructor
 ·intro l
  have:=pw _ _ a1 b1 (by lia)
  rwa[a2,b2] at this
 ·intro l
  by_cases z:rk r t<rk r s
  ·have:=pw _ _ b1 a1 (by lia)
   rw[a2,b2] at this
   have:=CT k1 k2 k1 l this
   rw[mC _ k1] at this;cases this
  ·by_cases z2:rk r s=rk r t
   ·have:=h.xR hs ht z2
    rw[this,mC _ k2] at l;cases l
   ·lia
theorem RB.mono(h:RB many steps b5 r)(aC:fT many steps)(hs:0<=s/\s<many)(ht:0<=t/\t<many)(l:rk b5 s<rk b5 t):rk r s<rk r t:=by
 obtain⟨ky,diff,h⟩:=h
 refine(h.lt aC hs ht).mpr (Dy ?_)
 rw[(h.key s hs.1 hs.2).fst,(h.key t ht.1 ht.2).fst]
 exact l
theorem RB.fP'(h:RB many steps b5 r)(hs:0<=s/\s<many)(ht:0<=t/\t<many)(e:rk r s=rk r t):rk b5 s=rk b5 t:=by
 obtain⟨ky,diff,h⟩:=h
 have:=h.xR hs ht e
 rw[<- (h.key s hs.1 hs.2).fst,<- (h.key t ht.1 ht.2).fst,this]
theorem RB.YK(h:RB many steps b5 r)(aC:fT many steps)(ht:t∈steps)(hs:0<=s/\s<many)(e:rk r t.1=rk r s):∃ u∈steps,u.1=s/\u.2.1=t.2.1/\rk b5 u.2.2=rk b5 t.2.2:=by
 obtain⟨ky,diff,h⟩:=h
 have hk:=h.xR ⟨(aC t ht).1,(aC t ht).2.1⟩ hs e
 have hm:=((h.key t.1 (aC t ht).1 (aC t ht).2.1).mem (t.2.1,rk b5 t.2.2)).mpr ⟨t,ht,rfl,rfl⟩
 rw[hk] at hm
 obtain⟨u,hu,e1,e2⟩:=((h.key s hs.1 hs.2).mem _).mp hm
 exact⟨u,hu,e1,(Prod.mk.inj e2).1.symm,(Prod.mk.inj e2).2.symm⟩
def wj(many:Int)(r:List Int):Prop:=r.length=many.toNat/\(∀ s,0<=s->s<many->0<=rk r s/\rk r s<many)/\∀ s,0<=s->s<many->0<rk r s->∃ t,(0<=t/\t<many)/\rk r t=rk r s-1
theorem qS.short(h:qS many steps b5 r ky diff)(aC:fT many steps):diff.length<=many.toNat:=by
 have nd:diff.Nodup:=by
  rw[O8]
  have:=BO.mp h.up
  rw[BO]
  intro i j hi hj i5 e
  have z:=this i j hi hj i5
  rw[e,mC _ (h.ok aC (D3 hj))] at z
  cases z
 have:=iT (m:=(jb many.toNat).map ky) nd fun k hk=>by
  obtain⟨s,hs,rfl⟩:=(h.mem k).mp hk
  exact cK.mpr ⟨s,wJ.mpr (by lia),rfl⟩
 rwa[b4,wQ] at this
theorem RB.Bt(h:RB many steps b5 r)(aC:fT many steps):wj many r:=by
 obtain⟨ky,diff,h⟩:=h
 have sh:=h.short aC
 refine⟨h.len,fun s a b=>?_,fun s a b c=>?_⟩
 ·have p:=h.pos s a b
  have:=(iL.mp p.2).1
  lia
 ·have p:=h.pos s a b
  have l:=(iL.mp p.2).1
  have l2:(rk r s-1).toNat<diff.length:=by lia
  obtain⟨t,ht,e⟩:=(h.mem _).mp (D3 l2)
  have p2:=h.pos t ht.1 ht.2
  have:=h.inj aC p2.2 (iL.mpr ⟨l2,e⟩)
  exact⟨t,ht,by lia⟩
theorem RB.grows(h:RB many steps b5 r)(aC:fT many steps)(d:wj many b5):∀ (n:Nat) (s:Int),0<=s->s<many->rk b5 s=n->rk b5 s<=rk r s
 |0,s,a,b,e=>by rw[e];exact((h.Bt aC).2.1 s a b).1
 |n+1,s,a,b,e=>by
  obtain⟨t,ht,et⟩:=d.2.2 s a b (by lia)
  have:=RB.grows h aC d n t ht.1 ht.2 (by lia)
  have:=h.mono aC ht ⟨a,b⟩ (by lia)
  lia
theorem RB.le(h:RB many steps b5 r)(aC:fT many steps)(d:wj many b5)(a:0<=s)(b:s<many):rk b5 s<=rk r s :=
 h.grows aC d (rk b5 s).toNat s a b (by have:=(d.2.1 s a b).1;lia)
end
theorem CJ:∀ {l m:List Int},l.length=m.length->(∀ (i:Nat) (h1:i<l.length) (h2:i<m.length),l[i]<=m[i])->l.sum<=m.sum/\(l≠m->l.sum<m.sum)
 |[],[],_,_=>⟨by simp,fun h=>absurd rfl h⟩
 |[],y :: m,h,_=>by simp at h
 |x :: l,[],h,_=>by simp at h
 |x :: l,y :: m,h,hl=>by
  have ih:=CJ (l:=l) (m:=m) (by simpa using h) fun i h1 h2=>by
   have:=hl (i+1) (by simp;lia) (by simp;lia)
   simpa using this
  have h0:x<=y:=by have:=hl 0 (by simp) (by simp);simpa using this
  simp only[List.sum_cons]
  refine⟨by have:=ih.1;lia,fun ne=>?_⟩
  by_cases e:x=y
  ·subst e
   have:l≠m:=fun z=>ne (by rw[z])
   have:=ih.2 this
   lia
  ·have:=ih.1
   lia
theorem sum_bound{l:List Int}{b:Int}(h:∀ x∈l,x<=b)(hb:0<=b):l.sum<=l.length*b:=by
 induction l with
 |nil=>simp
 |cons x l ih =>
  have:=ih fun y hy=>h y (b9 _ hy)
  have:=h x b6
  simp only[List.sum_cons,oz]
  have e:((l.length+1:Nat):Int)*b=l.length*b+b:=by rw[Int.natCast_add,Int.add_mul];simp
  lia
theorem Gf{r:List Int}{i:Nat}(h:i<r.length):r[i]=rk r i:=by simp[rk,List.getD,h]
theorem RB.sum{many:Int}{steps:List cq}{b5 r:List Int}(h:RB many steps b5 r)(aC:fT many steps)(d:wj many b5)(hm:0<=many)(ne:r≠b5):b5.sum<r.sum/\r.sum<=many*many:=by
 have d2:=h.Bt aC
 have hl:=d.1
 have vk:=d2.1
 refine⟨(CJ (by lia) fun i h1 h2=>?_).2 fun e=>ne e.symm,?_⟩
 ·rw[Gf h1,Gf h2]
  exact h.le aC d (by lia) (by lia)
 ·have:=sum_bound (l:=r) (b:=many) (fun x hx=>by
   obtain⟨i,hi,rfl⟩:=Rw.mp hx
   rw[Gf hi]
   have:=(d2.2.1 i (by lia) (by lia)).2
   lia) hm
  rwa[vk,xB hm] at this
def Chain(many:Int)(steps:List cq):List Int->List (List Int)->Prop
 |cur,[]=>RB many steps cur cur
 |cur,mr :: rest=>RB many steps cur mr/\mr≠cur/\Chain many steps mr rest
theorem Chain.uniq(aC:fT many steps):∀ {cur:List Int} {a b:List (List Int)},Chain many steps cur a->Chain many steps cur b->a=b
 |_,[],[],_,_=>rfl
 |_,[],y :: b,h,g=>absurd (g.1.uniq h aC) g.2.1
 |_,x :: a,[],h,g=>absurd (h.1.uniq g aC) h.2.1
 |_,x :: a,y :: b,h,g=>by
  have:=h.1.uniq g.1 aC
  subst this
  rw[Chain.uniq aC h.2.2 g.2.2]
def jh(cur:List Int)(rest:List (List Int)):List Int:=(cur :: rest).getLast (by simp)
theorem vI(cur mr:List Int)(rest:List (List Int)):jh cur (mr :: rest)=jh mr rest:=by simp[jh]
theorem Chain.last:∀ {cur:List Int} {rest:List (List Int)},Chain many steps cur rest->RB many steps (jh cur rest) (jh cur rest)
 |_,[],h=>h
 |cur,mr :: rest,h=>by rw[vI];exact h.2.2.last
def zeros(many:Int):List Int:=List.replicate many.toNat 0
theorem kj(many s:Int):rk (zeros many) s=0:=by
 unfold rk zeros
 by_cases h:s.toNat<many.toNat
 ·simp[List.getD,h]
 ·rw[List.getD,ua (by simpa using h)];rfl
theorem tX(h:1<=many):wj many (zeros many) :=
 ⟨by simp[zeros],fun s _ _=>by rw[kj];lia,fun s _ _ z=>by rw[kj] at z;lia⟩
def Kinds(many:Int)(steps:List cq)(k:List Int):Prop:=∃ rest,Chain many steps (zeros many) rest/\k=jh (zeros many) rest
theorem Kinds.uniq(aC:fT many steps)(h:Kinds many steps k)(g:Kinds many steps l):k=l:=by
 obtain⟨a,ha,rfl⟩:=h
 obtain⟨b,hb,rfl⟩:=g
 rw[ha.uniq aC hb]
theorem z9{ps:List Pr}(hl:ps.length<=1000)(k:∀ l:List Pr,l.Pairwise (fun a b=>fF (px a) (px b)=true)->(∀ p,p∈l↔p∈ps)->Q (.ow true) (.list (l.map kf))) :
  gB m (.list (ps.map kf)) Q:=by
 refine⟨ps.map px,[true],by rw[fR];rfl,by rw[b4];exact hl,fun k hk=>?_,fun ms nd mm pw=>?_⟩
 ·obtain⟨p,_,rfl⟩:=cK.mp hk
  rfl
 ·obtain⟨l,rfl,hp⟩:=Um (f:=px) (P:=fun p=>p∈ps) (ks:=ms) fun k hk=>by
   obtain⟨p,hp,e⟩:=cK.mp ((mm k).mp hk)
   exact⟨p,e.symm,hp⟩
  have e:(l.map px).map kc=l.map kf:=by rw[fR];rfl
  rw[e]
  refine k l ?_ fun p=>⟨hp p,fun g7=>?_⟩
  ·rw[pE] at pw
   have tS:l.Pairwise fun a b=>px a≠px b:=by
    rw[List.Nodup,pE] at nd
    exact nd
   refine(pw.and tS).imp fun {a b} ⟨h1,h2⟩=>?_
   cases h3:fF (px a) (px b) with
   |true=>rfl
   |false=>exact absurd (lg (a:=px a) (b:=px b) rfl h3 h1) h2
  ·obtain⟨q,hq,e⟩:=cK.mp ((mm (px p)).mpr (cK.mpr ⟨p,g7,rfl⟩))
   rw[<- Ew e]
   exact hq
def kM(steps:List cq)(s:Int):List Pr:=(steps.filter fun t=>decide (t.1=s)).map (·.2)
def qV(many:Int)(steps:List cq):List D:=(jb many.toNat).map fun s=>.list ((kM steps s).map kf)
def gV(many:Int)(steps:List cq):D:=.list (qV many steps)
theorem Cw(many:Int):((nR 0 many.toNat).filter fun _=>true).map (fun _=>D.list [])=qV many []:=by
 unfold qV nR jb
 rw[Pg.mpr fun _ _=>rfl,fR,fR]
 rfl
theorem zP(steps:List cq)(h0:0<=s)(h1:s<many):(qV many steps)[s.toNat]? = some (.list ((kM steps s).map kf)):=by
 have:s.toNat<many.toNat:=by lia
 simp[qV,jb,this,xB h0]
theorem oE(many:Int)(steps:List cq):(qV many steps).length=many.toNat:=by simp[qV,jb]
theorem uG{n:Nat}{i:Int}(h0:0<=i)(h1:i<n):n5 n i=some i.toNat:=by unfold n5;rw[if_pos h0,if_pos h1]
theorem Ad(steps:List cq)(p:Int)(d:Str)(r s:Int):kM (steps++[(p,d,r)]) s=if p=s then kM steps s++[(d,r)] else kM steps s:=by
 unfold kM
 by_cases h:p=s
 ·simp[h]
 ·simp[h]
theorem Cr(steps:List cq)(d:Str)(r:Int)(h0:0<=p)(h1:p<many):(qV many steps).set p.toNat (.list ((kM steps p).map kf++[.tup [.str d,.int r]]))=qV many (steps++[(p,d,r)]):=by
 apply AH
 intro i
 by_cases hi:i<many.toNat
 ·have e:∀ st,(qV many st)[i]? = some (.list ((kM st (i:Nat)).map kf)):=fun st=>by
   have:=zP (many:=many) (s:=(i:Nat)) st (by lia) (by lia)
   simpa using this
  rw[e,Ad]
  by_cases hp:p=(i:Nat)
  ·subst hp
   rw[if_pos rfl]
   simp[oE,hi,kf]
  ·rw[if_neg hp,LG (by lia),e]
 ·rw[ua (by rw[List.length_set,oE];lia),ua (by rw[oE];lia)]
theorem vP{many s:Int}(steps:List cq)(h0:0<=s)(h1:s<many):fi (qV many steps) s=some (.list ((kM steps s).map kf)) :=
 zA (uG h0 (by rw[oE];lia)) (zP steps h0 h1)
theorem m7{many s:Int}{r:List Int}(hl:r.length=many.toNat)(h0:0<=s)(h1:s<many):fi (r.map D.int) s=some (.int (rk r s)):=by
 have h:s.toNat<r.length:=by lia
 refine zA (uG h0 (by rw[b4];lia)) ?_
 simp[rk,List.getD,h]
theorem uo(h:p∈kM steps s):∃ t∈steps,t.1=s/\t.2=p:=by
 obtain⟨t,ht,e⟩:=cK.mp h
 obtain⟨ht,hs⟩:=sQ.mp ht
 exact⟨t,ht,of_decide_eq_true hs,e⟩
theorem yJ(h:t∈steps):t.2∈kM steps t.1:=cK.mpr ⟨t,sQ.mpr ⟨h,decide_eq_true rfl⟩,rfl⟩
theorem tZ(steps:List cq)(s:Int):(kM steps s).length<=steps.length:=by
 unfold kM
 rw[b4]
 exact Rv _ _
theorem wZ(many:Int):(List.replicate many.toNat [D.int 0]).flatten=(zeros many).map D.int:=by
 unfold zeros
 generalize many.toNat=n
 induction n with
 |zero=>rfl
 |succ n ih=>rw[yB,AG,ih,yB];rfl
theorem RB.len(h:RB many steps b5 r):r.length=many.toNat:=by
 obtain⟨ky,diff,h⟩:=h
 exact h.len
abbrev P2:=Int × Int
def i9(p:P2):List Key:=[.inl p.1,.inl p.2]
def eh(p:P2):D:=.tup [.int p.1,.int p.2]
theorem xj(h:i9 p=i9 q):p=q:=by
 obtain⟨a,b⟩:=p
 obtain⟨c,d⟩:=q
 simp only[i9,List.cons.injEq,Sum.inl.injEq,and_true] at h
 rw[h.1,h.2]
theorem eN:∀ (l:List P2),cw (l.map eh)=true
 |[]=>rfl
 |x :: l=>by simp[cw,eN l,eh,D.flat]
theorem Jv(l:List P2)(n:Nat):cv (n+2) (.list (l.map eh))=true:=by
 simp only[cv,Pn,FP]
 intro x _
 cases n<;>rfl
theorem nH{l:List P2}{i:Nat}{x:D}(h:(l.map eh)[i]? = some x):∃ p q,x=.tup [.int p,.int q]/\(p,q)∈l/\l.take (i+1)=l.take i++[(p,q)]:=by
 rw[kX] at h
 cases e:l[i]? with
 |none=>rw[e] at h;cases h
 |some s =>
  rw[e] at h
  cases h
  exact⟨s.1,s.2,rfl,nL e,by rw[D1,e];rfl⟩
def fA(many:Int)(p:P2):Prop:=(0<=p.1/\p.1<many)/\0<=p.2/\p.2<many
def eI(ks:List P2):Kn:=ks.map fun p=>(i9 p,.bl true)
theorem gw(ks:List P2):(eI ks).map (·.1)=ks.map i9:=by simp[eI,fR,Function.comp_def]
theorem gG(ks:List P2):(eI ks).length=ks.length:=by simp[eI]
theorem pK{ks:List P2}{x:P2}:i9 x∈ks.map i9↔x∈ks:=by
 rw[cK]
 exact⟨fun⟨y,hy,e⟩=>xj e ▸ hy,fun h=>⟨x,h,rfl⟩⟩
def BF(ks:List P2)(x:P2):List P2:=if x∈ks then ks else ks++[x]
theorem oR(ks:List P2)(x:P2):mM (eI ks) (i9 x) (.bl true)=eI (BF ks x):=by
 unfold mM BF
 by_cases h:x∈ks
 ·rw[if_pos (ye.mpr (by rw[gw];exact pK.mpr h)),if_pos h]
  unfold eI
  rw[fR]
  apply FL
  intro p _
  show(if i9 p=i9 x then (i9 p,D.bl true) else (i9 p,D.bl true))=_
  split<;>rfl
 ·rw[if_neg fun z=>h (pK.mp (by rw[<- gw];exact ye.mp z)),if_neg h]
  simp[eI]
theorem gF(ks:List P2)(x:P2):(eC (eI ks) (i9 x)).isSome=decide (x∈ks):=by
 rw[xt,zu,gw,pK,decide_eq_true_eq]
theorem Br:y∈BF ks x↔y∈ks\/y=x:=by
 unfold BF
 split
 ·rename_i h
  exact⟨.inl,fun z=>z.elim id fun e=>e ▸ h⟩
 ·simp
theorem vK(h:ks.Nodup):(BF ks x).Nodup:=by
 unfold BF
 split
 ·exact h
 ·rename_i n
  exact iN.mpr ⟨h,by simp,fun a ha b hb e=>n (by rw[<- kU.mp hb,<- e];exact ha)⟩
theorem Ag(ks:List P2)(x:P2):(BF ks x).length<=ks.length+1:=by
 unfold BF
 split<;>simp
structure yy(ps ks:List P2):Prop where
 nd:ks.Nodup
 mem:∀ x,x∈ks↔x∈ps
 len:ks.length<=ps.length
theorem yy.nil:yy [] []:=⟨sT,fun _=>Iff.rfl,by simp⟩
theorem yy.put{ps ks:List P2}(h:yy ps ks)(x:P2):yy (ps++[x]) (BF ks x):=⟨vK h.nd,fun y=>by rw[Br,dP,kU,h.mem],by
 have:=Ag ks x
 have:=h.len
 rw[ng,List.length_singleton]
 lia⟩
def AB(l:List cq)(ps:List P2)(p q:Int):Prop:=∀ d e,(p,d,e)∈l->∃ o,(q,d,o)∈l/\(e,o)∈ps
def YL(l:List cq)(ps:List P2)(p q:Int):Prop:=∀ d o,(q,d,o)∈l->∃ e,(p,d,e)∈l/\(e,o)∈ps
def ja(l:List cq)(ps:List P2)(p:P2):Prop:=AB l ps p.1 p.2/\YL l ps p.1 p.2
theorem AB.congr{ps qs:List P2}(h:∀ x,x∈ps↔x∈qs):AB l ps p q↔AB l qs p q:=by
 unfold AB
 simp only[h]
theorem ja.congr{ps qs:List P2}(h:∀ x,x∈ps↔x∈qs):ja l ps p↔ja l qs p:=by
 unfold ja AB YL
 simp only[h]
theorem xV(ks:List P2):(eI ks).map (fun kv=>kc kv.1)=ks.map eh:=by unfold eI;rw[fR];rfl
theorem Es{l:List Pr}{i:Nat}{x:D}(h:(l.map kf)[i]? = some x):∃ d e,x=.tup [.str d,.int e]/\(d,e)∈l/\l.take (i+1)=l.take i++[(d,e)]:=by
 rw[kX] at h
 cases e:l[i]? with
 |none=>rw[e] at h;cases h
 |some s =>
  rw[e] at h
  cases h
  exact⟨s.1,s.2,rfl,nL e,by rw[D1,e];rfl⟩
theorem fZ:(d,e)∈kM steps s↔(s,d,e)∈steps:=by
 constructor
 ·intro h
  obtain⟨t,ht,e1,e2⟩:=uo h
  obtain⟨a,b,c⟩:=t
  cases e1
  cases e2
  exact ht
 ·exact fun h=>yJ h
theorem j_{α:Type}{l:List α}{i:Nat}{x:α}{P:α->Prop}(tk:l.take (i+1)=l.take i++[x])(h:∀ y∈l.take i,P y)(hx:P x):∀ y∈l.take (i+1),P y:=fun y hy=>by
 rw[tk] at hy
 rcases dP.mp hy with hy|hy
 ·exact h y hy
 ·rw[kU.mp hy];exact hx
def SM(l:List cq)(ps:List P2):Prop:=∀ p∈ps,AB l ps p.1 p.2
def BG(ps:List P2):List P2:=ps.map fun p=>(p.2,p.1)
theorem l_{ps:List P2}:(a,b)∈BG ps↔(b,a)∈ps:=by
 unfold BG
 rw[cK]
 constructor
 ·rintro⟨⟨c,d⟩,h,e⟩
  cases e
  exact h
 ·exact fun h=>⟨_,h,rfl⟩
theorem zH{ps:List P2}:(SM l ps/\SM l (BG ps))↔∀ p∈ps,ja l ps p:=by
 constructor
 ·rintro⟨a,b⟩ ⟨p,q⟩ hp
  refine⟨a _ hp,fun d o ho=>?_⟩
  obtain⟨e,he,m⟩:=b (q,p) (l_.mpr hp) d o ho
  exact⟨e,he,l_.mp m⟩
 ·intro h
  refine⟨fun p hp=>(h p hp).1,fun p hp d e he=>?_⟩
  obtain⟨p,q⟩:=p
  obtain⟨o,ho,m⟩:=(h _ (l_.mp hp)).2 d e he
  exact⟨o,ho,l_.mpr m⟩
def YM(f:Int->D):D->D
 |.int o=>f o
 |_=>.non
theorem DX(f:Int->D)(l:List Int):(((l.map D.int).filter fun _=>true).map (YM f))=l.map f:=by
 rw[Pg.mpr fun _ _=>rfl,fR]
 rfl
def pP(l:List cq)(ks:List P2)(p:P2):Bool:=@decide (ja l ks p) (Classical.propDecidable _)
theorem qP:pP l ks p=true↔ja l ks p:=@decide_eq_true_iff _ (Classical.propDecidable _)
def YN(f:P2->Bool)(x:D):Bool:=match x with
 |.tup [.int a,.int b]=>f (a,b)
 |_=>false
theorem z7(ks:List P2)(f:P2->Bool):((ks.map eh).filter (YN f)).map (fun x=>x)=(ks.filter f).map eh:=by
 rw[List.filter_map,fR]
 rfl
theorem zm(l:List P2):gS (.list (l.map eh)) (.list [])=decide (l=[]):=by
 cases l<;>rfl
def Uo(k:List Key):P2:=match k with
 |[.inl a,.inl b]=>(a,b)
 |_=>(0,0)
theorem uf{R:List (List Key)->Prop}(k:∀ out:List P2,out.Perm ks->R (out.map i9)) :
  ∃ b0 sh,(∀ p∈eI ks,gL p.1=b0 :: sh)/\∀ ms:List (List Key),ms.Perm ((eI ks).map (·.1))->(ms.Pairwise fun a b=>fF b a=false)->R ms:=by
 refine⟨true,[true],fun p hp=>?_,fun ms pm _=>?_⟩
 ·obtain⟨s,_,rfl⟩:=cK.mp hp
  rfl
 ·rw[gw] at pm
  have e:(ms.map Uo).map i9=ms:=by
   rw[fR]
   refine(FL fun x hx=>?_).trans (List.map_id ms)
   obtain⟨p,_,rfl⟩:=cK.mp (pm.mem_iff.mp hx)
   rfl
  rw[<- e]
  refine k _ ?_
  have e2:(ks.map i9).map Uo=ks:=by
   rw[fR]
   exact(FL fun x _=>rfl).trans (List.map_id ks)
  rw[<- e2]
  exact pm.map Uo
theorem Aa(l:List P2):(l.map i9).map kc=l.map eh:=by rw[fR];rfl
theorem nU:∀ (ks:List P2) (j:Nat),(eI ks).eraseIdx j=eI (ks.eraseIdx j)
 |[],_=>rfl
 |_ :: _,0=>rfl
 |k :: ks,j+1=>congrArg ((i9 k,D.bl true) :: ·) (nU ks j)
theorem Cj:∀ (ks:List P2) (j:Nat) (g:P2),ks.Nodup->ks[j]? = some g->∀ x,x∈ks.eraseIdx j↔x∈ks/\x≠g
 |[],j,g,_,h,x=>by simp at h
 |k :: ks,0,g,nd,h,x=>by
  cases h
  have n:=(js.mp nd).1
  rw[List.eraseIdx_cons_zero,dv]
  exact⟨fun a=>⟨.inr a,fun e=>n (by rw[<- e];exact a)⟩,fun a=>a.1.elim (fun e=>absurd e a.2) id⟩
 |k :: ks,j+1,g,nd,h,x=>by
  have n:=js.mp nd
  have h:ks[j]? = some g:=h
  have hg:=nL h
  rw[FH,dv,dv,Cj ks j g n.2 h x]
  exact⟨fun a=>a.elim (fun e=>⟨.inl e,fun z=>n.1 (by rw[<- e,z];exact hg)⟩) fun a=>⟨.inr a.1,a.2⟩,fun a=>a.1.elim .inl fun b=>.inr ⟨b,a.2⟩⟩
theorem ja.mono{ps qs:List P2}(h:∀ x∈ps,x∈qs)(b:ja l ps p):ja l qs p:=by
 refine⟨fun d e he=>?_,fun d o ho=>?_⟩
 ·obtain⟨o,a,m⟩:=b.1 d e he
  exact⟨o,a,h _ m⟩
 ·obtain⟨e,a,m⟩:=b.2 d o ho
  exact⟨e,a,h _ m⟩
theorem fA.app{many:Int}{a b:List P2}(ha:∀ p∈a,fA many p)(hb:∀ p∈b,fA many p):∀ p∈a++b,fA many p:=fun p hp=>(dP.mp hp).elim (ha p) (hb p)
theorem Dv{x y many:Int}(x0:0<=x)(x1:x<many)(y0:0<=y)(y1:y<many):(x*many+y) / many=x/\(x*many+y) % many=y/\0<=x*many+y/\x*many+y<many*many:=by
 have a:=PF x0 (show 0<=many by lia)
 have b:=Int.mul_le_mul_of_nonneg_right (show x+1<=many by lia) (show 0<=many by lia)
 rw[Int.add_mul,Int.one_mul] at b
 refine⟨?_,?_,by lia,by lia⟩
 ·rw[Int.add_comm,Int.add_mul_ediv_right _ _ (by lia),Int.ediv_eq_zero_of_lt y0 y1,Int.zero_add]
 ·rw[Int.add_comm,Int.add_mul_emod_self_right,Int.emod_eq_of_lt y0 y1]
theorem Av{many:Int}{n:Nat}{ps:List P2}(hn:(n:Int)=many*many)(h:∀ i:Nat,i<n->(((i:Int) / many,(i:Int) % many):P2)∈ps){x:P2}(hx:fA many x):x∈ps:=by
 have d:=Dv hx.1.1 hx.1.2 hx.2.1 hx.2.2
 have:=h (x.1*many+x.2).toNat (by lia)
 rw[xB d.2.2.1,d.1,d.2.1] at this
 exact this
structure Uq(l:List cq)(ps out:List P2):Prop where
 sub:∀ p∈out,p∈ps
 both:∀ p∈out,ja l out p
 max:∀ T:List P2,(∀ p∈T,p∈ps)->(∀ p∈T,ja l T p)->∀ p∈T,p∈out
 len:out.length<=ps.length
theorem RB.iff{many:Int}{steps:List cq}{b5 r:List Int}(h:RB many steps b5 r)(aC:fT many steps){s t:Int}(hs:0<=s/\s<many)(ht:0<=t/\t<many) :
  rk r s=rk r t↔rk b5 s=rk b5 t/\(∀ d e,(s,d,e)∈steps->∃ o,(t,d,o)∈steps/\rk b5 e=rk b5 o)/\∀ d o,(t,d,o)∈steps->∃ e,(s,d,e)∈steps/\rk b5 e=rk b5 o:=by
 constructor
 ·intro e
  refine⟨h.fP' hs ht e,fun d x hx=>?_,fun d o ho=>?_⟩
  ·obtain⟨⟨a,b,c⟩,hu,e1,e2,e3⟩:=h.YK aC hx ht e
   cases e1
   cases e2
   exact⟨c,hu,e3.symm⟩
  ·obtain⟨⟨a,b,c⟩,hu,e1,e2,e3⟩:=h.YK aC ho hs e.symm
   cases e1
   cases e2
   exact⟨c,hu,e3⟩
 ·rintro⟨e0,f,b⟩
  obtain⟨ky,diff,h⟩:=h
  have ks:=h.key s hs.1 hs.2
  have kt:=h.key t ht.1 ht.2
  have e:ky s=ky t:=by
   refine Prod.ext (by rw[ks.fst,kt.fst,e0]) (jZ (fun x _ y _ h1 h2=>by have:=rH h1 h2;rw[pF] at this;cases this) ks.up kt.up fun p=>?_)
   rw[ks.mem,kt.mem]
   constructor
   ·rintro⟨⟨a,d,e⟩,hu,rfl,rfl⟩
    obtain⟨o,ho,m⟩:=f d e hu
    exact⟨_,ho,rfl,by show(d,rk b5 e)=(d,rk b5 o);rw[m]⟩
   ·rintro⟨⟨a,d,o⟩,hu,rfl,rfl⟩
    obtain⟨e,he,m⟩:=b d o hu
    exact⟨_,he,rfl,by show(d,rk b5 o)=(d,rk b5 e);rw[m]⟩
  have p1:=h.pos s hs.1 hs.2
  have p2:=h.pos t ht.1 ht.2
  rw[<- e] at p2
  have:=h.inj aC p1.2 p2.2
  lia
structure Rds(many:Int)(steps:List cq)(rest:List (List Int))(f:Nat->List Int):Prop where
 zero:f 0=zeros many
 mr:∀ k,RB many steps (f k) (f (k+1))
 at':∀ k,k<=rest.length->(zeros many :: rest)[k]? = some (f k)
 fh:∀ k,rest.length<=k->f k=f rest.length
theorem Chain.sq:∀ {cur:List Int} {rest:List (List Int)},Chain many steps cur rest->∃ f:Nat->List Int,f 0=cur/\(∀ k,RB many steps (f k) (f (k+1)))/\(∀ k,k<=rest.length->(cur :: rest)[k]? = some (f k))/\∀ k,rest.length<=k->f k=f rest.length
 |cur,[],h=>⟨fun _=>cur,rfl,fun _=>h,fun k hk=>by
   have:k=0:=Nat.le_zero.mp hk
   subst this
   rfl,fun _ _=>rfl⟩
 |cur,mr :: rest,h=>by
  obtain⟨f,f0,fn,fa,fs⟩:=h.2.2.sq
  refine⟨fun k=>Nat.casesOn k cur f,rfl,fun k=>?_,fun k hk=>?_,fun k hk=>?_⟩
  ·cases k with
   |zero=>show RB many steps cur (f 0);rw[f0];exact h.1
   |succ k=>exact fn k
  ·cases k with
   |zero=>rfl
   |succ k=>exact fa k (Nat.le_of_succ_le_succ hk)
  ·cases k with
   |zero=>exact absurd hk (by simp)
   |succ k=>exact fs k (Nat.le_of_succ_le_succ hk)
theorem Chain.rds{rest:List (List Int)}(h:Chain many steps (zeros many) rest):∃ f,Rds many steps rest f:=by
 obtain⟨f,a,b,c,d⟩:=h.sq
 exact⟨f,a,b,c,d⟩
def Ur(a b:P2):Prop:=a.1<b.1\/(a.1=b.1/\a.2<b.2)
structure Tbl(many:Int)(k:List Int)(ps:List P2):Prop where
 up:ps.Pairwise Ur
 mem:∀ x,x∈ps↔fA many x/\rk k x.1=rk k x.2
theorem RB.pT{ps:List P2}(h:RB many l k k)(aC:fT many l)(hm:∀ x,x∈ps↔fA many x/\rk k x.1=rk k x.2):∀ x∈ps,ja l ps x:=fun x hx=>by
 have OU:=(hm x).mp hx
 have a:=(h.iff aC OU.1.1 OU.1.2).mp OU.2
 refine⟨fun d e he=>?_,fun d o ho=>?_⟩
 ·obtain⟨o,ho,m⟩:=a.2.1 d e he
  exact⟨o,ho,(hm _).mpr ⟨⟨⟨(aC _ he).2.2.2.1,(aC _ he).2.2.2.2⟩,(aC _ ho).2.2.2.1,(aC _ ho).2.2.2.2⟩,m⟩⟩
 ·obtain⟨e,he,m⟩:=a.2.2 d o ho
  exact⟨e,he,(hm _).mpr ⟨⟨⟨(aC _ he).2.2.2.1,(aC _ he).2.2.2.2⟩,(aC _ ho).2.2.2.1,(aC _ ho).2.2.2.2⟩,m⟩⟩
theorem Bq(cur:List Int)(rest:List (List Int)):(cur :: rest)[rest.length]? = some (jh cur rest):=by
 unfold jh
 rw[List.getLast_eq_getElem]
 simp
theorem Kinds.rb(h:Kinds many l k):RB many l k k:=by
 obtain⟨rest,hc,rfl⟩:=h
 exact hc.last
theorem Kinds.same{ps:List P2}(h:Kinds many l k)(aC:fT many l)(hi:∀ x∈ps,fA many x)(hb:∀ x∈ps,ja l ps x):∀ x∈ps,rk k x.1=rk k x.2:=by
 obtain⟨rest,hc,rfl⟩:=h
 obtain⟨f,hf⟩:=hc.rds
 have go:∀ i,∀ x∈ps,rk (f i) x.1=rk (f i) x.2:=fun i=>by
  induction i with
  |zero=>intro x _;rw[hf.zero,kj,kj]
  |succ i ih =>
   intro x hx
   have b:=hb x hx
   refine((hf.mr i).iff aC (hi x hx).1 (hi x hx).2).mpr ⟨ih x hx,fun d e he=>?_,fun d o ho=>?_⟩
   ·obtain⟨o,ho,m⟩:=b.1 d e he
    exact⟨o,ho,ih _ m⟩
   ·obtain⟨e,he,m⟩:=b.2 d o ho
    exact⟨e,he,ih _ m⟩
 have e:=hf.at' rest.length (bX _)
 rw[Bq] at e
 rw[Option.some.inj e]
 exact go _
theorem Uq.kinds{ps best:List P2}(h:Uq l ps best)(aC:fT many l)(xk:∀ x,x∈ps↔fA many x)(hk:Kinds many l k)(x:P2):x∈best↔fA many x/\rk k x.1=rk k x.2:=by
 constructor
 ·intro hx
  exact⟨(xk x).mp (h.sub x hx),hk.same aC (fun y hy=>(xk y).mp (h.sub y hy)) h.both x hx⟩
 ·intro hx
  have hm:∀ y,y∈ps.filter (fun y=>decide (rk k y.1=rk k y.2))↔fA many y/\rk k y.1=rk k y.2:=fun y=>by
   rw[sQ,xk,decide_eq_true_iff]
  exact h.max _ (fun y hy=>(sQ.mp hy).1) (hk.rb.pT aC hm) x ((hm x).mpr hx)
def fH:WS :=
 (kC (yi (wB (rn TJ NW (wC (.int 0)) (ae 1) (aw dn (ae 0) (wC (.int 0))))))
 xf
 di)
def aK:i6:=fun ds Q=>∃ (many:Int) (l:List cq) (s:Int),ds=[mD many l,.int s]/\0<=s/\s<many/\Q .sh .non
theorem mF (ds Q) (h:aK ds Q):ds.length=["m", "state"].length:=by obtain⟨_,_,_,rfl,_⟩:=h;rfl
theorem pC:∀ ds Q,aK ds Q->fH { nx:=fun _=>Q .sh .non,rt:=Q } (bh 2 ds):=by
 rintro ds Q ⟨many,l,s,rfl,h0,h1,h⟩
 unfold fH mD
 walk_at "q"
 refine R.T (decide_eq_true h0) ?_
 walk_at "q"
 refine R.F (by simp[h1]) ?_
 walk_at "q"
 exact h
def lr:WS :=
 (bT (dr 1 mU)
 (bT (fI 0 (kH (cO (aw dn (ae 0) (wC (.int 1)))) (gT 3 (aX (gN 2) (aX (gN 3) (aX (gN 4) gP))))
 (fI 4 (fI 3 (fI 2 (Ra 1 (mN (ak (ae 2) (ak (ae 3) bS))) (ae 4)))))))
 (rZ 1)))
def dF:i6:=fun ds Q=>∃ (many:Int) (l:List cq),ds=[mD many l]/\l.length<=10000/\∀ kvs,BE l kvs->Q (.ow true) (.dT kvs)
theorem sU (ds Q) (h:dF ds Q):ds.length=["m"].length:=by obtain⟨_,_,rfl,_⟩:=h;rfl
theorem xX:∀ ds Q,dF ds Q->lr { nx:=fun _=>Q .sh .non,rt:=Q } (bh 5 ds):=by
 rintro ds Q ⟨many,l,rfl,hz,h⟩
 unfold lr mD
 walk_at "q"
 refine aR _ (fun i ρ=>∃ (kvs:Kn) (o2 o3 o4:Option Sl),BE (l.take i) kvs/\kvs.length<=i/\ρ=[some (.sh (.tup [.int many,.list (l.map dz)])),some (.ow true (.dT kvs)),o2,o3,o4]) ⟨[],_,_,_,BE.nil,by simp,rfl⟩ ?_ ?_
 ·rintro i x ρ hx ⟨kvs,o2,o3,o4,hw,hk,rfl⟩ N hN
  have hi:=(iL.mp hx).1
  rw[b4] at hi
  obtain⟨p,d,r,rfl,hs,et⟩:=wX hx
  walk_at "q"
  refine⟨by lia,?_,hN _ ⟨_,_,_,_,by rw[et];exact hw.put p d r,by have:=zy [.inl p,.inr d] (.int r) kvs;lia,rfl⟩⟩
  rw[hw p d]
  have:=zW (l.take i) p d
  rw[lh] at this
  split
  ·trivial
  ·show List.length _<_
   rw[b4]
   exact G9 (by lia)
 ·rintro ρ ⟨kvs,o2,o3,o4,hw,hk,rfl⟩
  rw[b4,ub] at hw
  walk_at "q"
  exact h kvs hw
def jg:WS :=
 (bT (dr 1 (eG (cH (aw dn (ae 0) (wC (.int 0)))) (gN 0) sD (qq bS) 1 []))
 (bT (fI 0 (kH (cO (aw dn (ae 0) (wC (.int 1)))) (gT 3 (aX (gN 2) (aX (gN 3) (aX (gN 4) gP))))
 (fI 4 (fI 3 (DH (Om (sF 1) (ae 2)) (mN (ak (ae 3) (ak (ae 4) bS))))))))
 (rZ 1)))
def bQ:i6:=fun ds Q=>∃ (many:Int) (steps:List cq),ds=[mD many steps]/\(0<=many/\many<=1000)/\fT many steps/\steps.length<=1000/\Q (.ow true) (gV many steps)
theorem rN (ds Q) (h:bQ ds Q):ds.length=["m"].length:=by obtain⟨_,_,rfl,_⟩:=h;rfl
theorem wN:∀ ds Q,bQ ds Q->jg { nx:=fun _=>Q .sh .non,rt:=Q } (bh 5 ds):=by
 rintro ds Q ⟨many,steps,rfl,hm,aC,hl,h⟩
 unfold jg mD
 walk_at "q"
 refine⟨by lia,by lia,?_⟩
 refine cN (fun _=>true) (fun _=>.list []) (fun ρ=>∃ o,ρ=[o]) _ _ _ ⟨_,rfl⟩ ?_ ?_
 ·rintro x hx ρ ⟨o,rfl⟩ N1 N2 n1 n2
  walk_at "q"
  exact⟨.inr rfl,n2 _ ⟨_,rfl⟩ rfl⟩
 rw[Cw]
 refine aR _ (fun i ρ=>∃ o2 o3 o4,ρ=[some (.sh (.tup [.int many,.list (steps.map dz)])),some (.ow true (.list (qV many (steps.take i)))),o2,o3,o4]) ⟨none,none,none,by simp⟩ ?_ ?_
 ·rintro i x ρ hx ⟨o2,o3,o4,rfl⟩ N hN
  obtain⟨p,d,r,rfl,hs,ht⟩:=wX hx
  have ok:=aC _ hs
  walk_at "q"
  refine⟨p.toNat,.list ((kM (steps.take i) p).map kf),uG ok.1 (by rw[oE];have:=ok.2.1;lia),zP _ ok.1 ok.2.1,rfl,?_⟩
  walk_at "q"
  refine⟨?_,?_⟩
  ·have:=tZ (steps.take i) p
   have:(steps.take i).length<=steps.length:=by rw[lh];lia
   lia
  ·refine hN _ ⟨some (.sh (.int p)),some (.sh (.str d)),some (.sh (.int r)),?_⟩
   rw[Cr _ _ _ ok.1 ok.2.1,<- ht]
 ·rintro ρ ⟨o2,o3,o4,rfl⟩
  walk_at "q"
  rw[ub]
  exact h
def o_:WS :=
 (h9 (mN (ak (aw dn (ae 1) (ae 2)) (ak (g9 gB (eG (gU (aw dn (ae 0) (ae 2))) (gT 2 (aX (gN 0) (aX (gN 1) gP))) sD (mN (ak (ae 0) (ak (aw dn (ae 2) (ae 1)) bS))) 2 [1])) bS))))
def fC:i6:=fun ds Q=>∃ (many:Int) (steps:List cq) (b5:List Int) (s:Int),ds=[gV many steps,.list (b5.map .int),.int s]/\(0<=s/\s<many)/\b5.length=many.toNat/\fT many steps/\steps.length<=1000/\∀ k,DS steps b5 s k->Q (.ow true) (gp k)
theorem vG (ds Q) (h:fC ds Q):ds.length=["exits", "ranks", "state"].length:=by obtain⟨_,_,_,_,rfl,_⟩:=h;rfl
theorem Bm:∀ ds Q,fC ds Q->o_ { nx:=fun _=>Q .sh .non,rt:=Q } (bh 3 ds):=by
 rintro ds Q ⟨many,steps,b5,s,rfl,hs,hr,aC,hl,h⟩
 unfold o_ gV
 walk_at "q"
 refine⟨_,m7 hr hs.1 hs.2,?_⟩
 walk_at "q"
 refine⟨_,vP steps hs.1 hs.2,?_⟩
 walk_at "q"
 refine cN (fun _=>true) (fun d=>match d with
  |.tup [.str x,.int e]=>.tup [.str x,.int (rk b5 e)]
  |d=>d) (fun ρ=>∃ o0 o1,ρ=[o0,o1,some (.sh (.list (b5.map .int)))]) _ _ _ ⟨_,_,rfl⟩ ?_ ?_
 ·rintro x hx ρ ⟨o0,o1,rfl⟩ N1 N2 n1 n2
  obtain⟨p,hp,rfl⟩:=cK.mp hx
  obtain⟨t,ht,e1,e2⟩:=uo hp
  obtain⟨x,e⟩:=p
  have ok:=aC t ht
  obtain⟨t1,t2,t3⟩:=t
  cases e2
  unfold kf
  walk_at "q"
  refine⟨_,m7 hr ok.2.2.2.1 ok.2.2.2.2,?_⟩
  walk_at "q"
  exact⟨.inl rfl,n2 _ ⟨_,_,rfl⟩ rfl⟩
 have e1:((kM steps s).map kf |>.filter fun _=>true).map (fun d=>match d with
   |.tup [.str x,.int e]=>.tup [.str x,.int (rk b5 e)]
   |d=>d)=((kM steps s).map fun p=>(p.1,rk b5 p.2)).map kf:=by
  rw[Pg.mpr fun _ _=>rfl,fR,fR]
  rfl
 rw[e1]
 refine z9 (ps:=(kM steps s).map fun p=>(p.1,rk b5 p.2)) (m:=.ow true) (Q:=fun _ d=>Q (.ow true) (.tup [.int (rk b5 s),d])) (by rw[b4];exact iO (tZ steps s) hl) fun l up mem=>?_
 refine h (rk b5 s,l) ⟨rfl,up,fun p=>(mem p).trans ⟨fun hp=>?_,fun hp=>?_⟩⟩
 ·obtain⟨q,hq,rfl⟩:=cK.mp hp
  obtain⟨t,ht,e1,rfl⟩:=uo hq
  exact⟨t,ht,e1,rfl⟩
 ·obtain⟨t,ht,rfl,rfl⟩:=hp
  exact cK.mpr ⟨t.2,yJ ht,rfl⟩
def eQ:WS :=
 (bT (kC (wB (aw NW (ae 1) (g9 Bn (ae 0))))
 (h9 (aw dn (ae 0) (ae 1)))
 di)
 (h9 (wC (.int 0))))
def aH:i6:=fun ds Q=>∃ (ns:List Int) (k:Int),ds=[.list (ns.map .int),.int k]/\0<=k/\Q .sh (.int (ns.getD k.toNat 0))
theorem jQ (ds Q) (h:aH ds Q):ds.length=["_law_script", "_law_k"].length:=by obtain⟨_,_,rfl,_⟩:=h;rfl
theorem nQ:∀ ds Q,aH ds Q->eQ { nx:=fun _=>Q .sh .non,rt:=Q } (bh 2 ds):=by
 rintro ds Q ⟨ns,k,rfl,hk,h⟩
 unfold eQ
 walk_at "q"
 refine R.D (fun hl=>?_) fun hl=>?_
 ·walk_at "q"
  have hn:k.toNat<ns.length:=by lia
  refine⟨.int ns[k.toNat],?_,?_⟩
  ·have:=HL (xs:=ns.map D.int) (j:=k.toNat) (v:=.int ns[k.toNat]) (by simp[hn])
   rwa[xB hk] at this
  ·show Q .sh _;simpa[List.getD,hn] using h
 ·walk_at "q"
  have:ns.getD k.toNat 0=0:=by
   have:ns.length<=k.toNat:=by lia
   simp[List.getD,ua this]
  rwa[this] at h
def gq:WS :=
 (bT (dr 3 (aw dn (qq (ak (wC (.int 1000003)) (ak (wC (.int 998244353)) (ak (wC (.int 104729)) (ak (wC (.int 2147483647)) (ak (wC (.int 15485863)) (ak (wC (.int 32452843)) bS))))))) (ae 1)))
 (h9 (aw vT (aw A9 (aw vT (aw og (ae 0) (aw dn (qq (ak (wC (.int 48271)) (ak (wC (.int 69621)) (ak (wC (.int 16807)) (ak (wC (.int 40692)) (ak (wC (.int 39373)) (ak (wC (.int 22571)) bS))))))) (ae 1))) (ae 3)) (wC (.int 11))) (ae 2))))
def aB:i6:=fun ds Q=>∃ c w m:Int,ds=[.int c,.int w,.int m]/\(0<=w/\w<6)/\0<m/\∀ r,0<=r->r<m->Q .sh (.int r)
theorem nu (ds Q) (h:aB ds Q):ds.length=["_law_cell", "_law_way", "_law_many"].length:=by obtain⟨_,_,_,rfl,_⟩:=h;rfl
theorem rF:∀ ds Q,aB ds Q->gq { nx:=fun _=>Q .sh .non,rt:=Q } (bh 4 ds):=by
 rintro ds Q ⟨c,w,m,rfl,hw,hm,h⟩
 unfold gq
 walk_at "q"
 obtain⟨p,hp,ep⟩:=iw (l:=[1000003,998244353,104729,2147483647,15485863,32452843]) hw.1 hw.2
 obtain⟨q,hq,eq⟩:=iw (l:=[48271,69621,16807,40692,39373,22571]) hw.1 hw.2
 have g7:=(by decide:∀ p∈([1000003,998244353,104729,2147483647,15485863,32452843]:List Int),0<p) p hp
 have YC:=(by decide:∀ p∈([48271,69621,16807,40692,39373,22571]:List Int),0<p/\p<100000) q hq
 refine⟨.int p,ep,?_⟩
 walk_at "q"
 refine⟨.int q,eq,?_⟩
 walk_at "q"
 have:=xJ (c*q % p / 11) hm
 exact⟨bw (by lia) (by lia),g7,hm,h _ this.1 this.2⟩
def iu:WS :=
 (bT (dr 2 (eG (cH (ae 0)) (gN 0) sD (qq bS) 1 []))
 (bT (fI 1 (kH (cO (ae 1)) (gT 3 (aX (gN 3) (aX (gN 4) (aX (gN 5) gP))))
 (fI 5 (fI 4 (DH (Om (sF 2) (ae 3)) (mN (ak (ae 4) (ak (ae 5) bS))))))))
 (rZ 2)))
def cD:i6:=fun ds Q=>∃ (many:Int) (steps:List cq),ds=[.int many,.list (steps.map dz)]/\(0<=many/\many<=1000)/\fT many steps/\steps.length<=10000/\Q (.ow true) (gV many steps)
theorem pG (ds Q) (h:cD ds Q):ds.length=["_law_many", "_law_steps"].length:=by obtain⟨_,_,rfl,_⟩:=h;rfl
theorem ud:∀ ds Q,cD ds Q->iu { nx:=fun _=>Q .sh .non,rt:=Q } (bh 6 ds):=by
 rintro ds Q ⟨many,steps,rfl,hm,aC,hl,h⟩
 unfold iu
 walk_at "q"
 refine⟨by lia,by lia,?_⟩
 refine cN (fun _=>true) (fun _=>.list []) (fun ρ=>∃ o,ρ=[o]) _ _ _ ⟨_,rfl⟩ ?_ ?_
 ·rintro x hx ρ ⟨o,rfl⟩ N1 N2 n1 n2
  walk_at "q"
  exact⟨.inr rfl,n2 _ ⟨_,rfl⟩ rfl⟩
 rw[Cw]
 refine aR _ (fun i ρ=>∃ o2 o3 o4,ρ=[some (.sh (.int many)),some (.sh (.list (steps.map dz))),some (.ow true (.list (qV many (steps.take i)))),o2,o3,o4]) ⟨none,none,none,by simp⟩ ?_ ?_
 ·rintro i x ρ hx ⟨o2,o3,o4,rfl⟩ N hN
  obtain⟨p,d,r,rfl,hs,ht⟩:=wX hx
  have ok:=aC _ hs
  walk_at "q"
  refine⟨p.toNat,.list ((kM (steps.take i) p).map kf),uG ok.1 (by rw[oE];have:=ok.2.1;lia),zP _ ok.1 ok.2.1,rfl,?_⟩
  walk_at "q"
  refine⟨?_,?_⟩
  ·have:=tZ (steps.take i) p
   have:(steps.take i).length<=steps.length:=by rw[lh];lia
   lia
  ·refine hN _ ⟨some (.sh (.int p)),some (.sh (.str d)),some (.sh (.int r)),?_⟩
   rw[Cr _ _ _ ok.1 ok.2.1,<- ht]
 ·rintro ρ ⟨o2,o3,o4,rfl⟩
  walk_at "q"
  rw[ub]
  exact h
def dw:WS :=
 (bT (fI 0 (kH (cO (aw dn (ae 0) (ae 1))) (gT 2 (aX (gN 4) (aX (gN 5) gP)))
 (kC (yi (wB (g9 OL (eG (gU (aw dn (ae 0) (ae 2))) (gT 2 (aX (gN 0) (aX (gN 1) gP))) (wB (aw kQ (ae 0) (ae 2))) (aw (zS false) (mN (ak (ae 4) (ak (ae 1) bS))) (ae 3)) 2 [4,3,5]))))
 (h9 (wC (.bl false)))
 di)))
 (bT (fI 0 (kH (cO (aw dn (ae 0) (ae 2))) (gT 2 (aX (gN 4) (aX (gN 6) gP)))
 (kC (yi (wB (g9 OL (eG (gU (aw dn (ae 0) (ae 1))) (gT 2 (aX (gN 0) (aX (gN 1) gP))) (wB (aw kQ (ae 0) (ae 2))) (aw (zS false) (mN (ak (ae 1) (ak (ae 3) bS))) (ae 4)) 2 [4,6,3]))))
 (h9 (wC (.bl false)))
 di)))
 (h9 (wC (.bl true)))))
def aV:i6:=fun ds Q=>∃ (many:Int) (l:List cq) (ks:List P2) (p:P2),ds=[gV many l,.int p.1,.int p.2,.dT (eI ks)]/\fA many p/\∀ b,(b=true↔ja l ks p)->Q .sh (.bl b)
theorem iH (ds Q) (h:aV ds Q):ds.length=["_law_rows_here", "_law_one", "_law_other", "_law_pairs"].length:=by obtain⟨_,_,_,_,rfl,_⟩:=h;rfl
def Us(d:Str)(x:D):Bool:=match x with
 |.tup [.str n,_]=>decide (n=d)
 |_=>false
def Ut(f:Int->Bool)(x:D):D:=match x with
 |.tup [_,.int o]=>.bl (f o)
 |_=>.non
theorem yP:∃ bs:List Bool,(((kM l s).map kf).filter (Us d)).map (Ut f)=bs.map D.bl/\(bs.any (fun b=>b)=true↔∃ o,(s,d,o)∈l/\f o=true):=by
 refine⟨((kM l s).filter fun t=>decide (t.1=d)).map fun t=>f t.2,?_,?_⟩
 ·rw[List.filter_map,fR,fR]
  rfl
 ·rw[List.any_map,AI]
  constructor
  ·rintro⟨⟨n,o⟩,ho,z⟩
   obtain⟨ho,e⟩:=sQ.mp ho
   have e:n=d:=of_decide_eq_true e
   exact⟨o,fZ.mp (e ▸ ho),z⟩
  ·rintro⟨o,ho,z⟩
   exact⟨(d,o),sQ.mpr ⟨fZ.mpr ho,decide_eq_true rfl⟩,z⟩
theorem jR:∀ ds Q,aV ds Q->dw { nx:=fun _=>Q .sh .non,rt:=Q } (bh 7 ds):=by
 rintro ds Q ⟨many,l,ks,⟨p,q⟩,rfl,hp,h⟩
 unfold dw
 walk_at "q"
 refine⟨_,vP l hp.1.1 hp.1.2,?_⟩
 walk_at "q"
 refine aR _ (fun j ρ=>∃ (o4 o5:Option Sl),(∀ t∈(kM l p).take j,∃ o,(q,t.1,o)∈l/\(t.2,o)∈ks)/\ρ=[some (.sh (gV many l)),some (.sh (.int p)),some (.sh (.int q)),some (.sh (.dT (eI ks))),o4,o5,none]) ⟨_,_,(fun p hp=>by simp at hp),rfl⟩ ?_ ?_
 ·rintro j x ρ hx ⟨o4,o5,hj,rfl⟩ N hN
  obtain⟨d,e,rfl,sA,Kk⟩:=Es hx
  walk_at "q"
  refine⟨_,vP l hp.2.1 hp.2.2,?_⟩
  walk_at "q"
  refine cN (Us d) (Ut fun o=>decide ((e,o)∈ks)) (fun ρ=>∃ o0 o1,ρ=[o0,o1,some (.sh (.str d)),some (.sh (.dT (eI ks))),some (.sh (.int e))]) _ _ _ ⟨_,_,rfl⟩ ?_ ?_
  ·rintro x hx ρ ⟨o0,o1,rfl⟩ N1 N2 n1 n2
   obtain⟨⟨n,o⟩,hc,rfl⟩:=cK.mp hx
   rw[show kf (n,o)=.tup [.str n,.int o] from rfl] at *
   walk_at "q"
   by_cases en:n=d
   ·rw[if_pos (by simp[en])]
    have e1:=gF ks (e,o)
    unfold i9 at e1
    rw[e1]
    exact⟨.inl rfl,n2 _ ⟨_,_,rfl⟩ (decide_eq_true en)⟩
   ·rw[if_neg (by simp[en])]
    exact n1 _ ⟨_,_,rfl⟩ (decide_eq_false en)
  obtain⟨bs,e1,e2⟩:=yP (l:=l) (s:=q) (d:=d) (f:=fun o=>decide ((e,o)∈ks))
  refine⟨bs,e1,?_⟩
  refine R.B (fun hb=>?_) fun hb=>?_
  ·walk_at "q"
   refine h false ⟨(fun z=>by cases z),fun z=>?_⟩
   obtain⟨o,ho,m⟩:=z.1 d e (fZ.mp sA)
   rw[e2.mpr ⟨o,ho,decide_eq_true m⟩] at hb
   cases hb
  ·walk_at "q"
   have hb:bs.any (fun b=>b)=true:=by simpa using hb
   obtain⟨o,ho,m⟩:=e2.mp hb
   exact hN _ ⟨_,_,j_ Kk hj ⟨o,ho,of_decide_eq_true m⟩,rfl⟩
 rintro ρ ⟨o4,o5,hj,rfl⟩
 rw[b4,ub] at hj
 have hf:AB l ks p q:=fun d e he=>hj (d,e) (fZ.mpr he)
 walk_at "q"
 refine⟨_,vP l hp.2.1 hp.2.2,?_⟩
 walk_at "q"
 refine aR _ (fun j ρ=>∃ (o4 o6:Option Sl),(∀ t∈(kM l q).take j,∃ e,(p,t.1,e)∈l/\(e,t.2)∈ks)/\ρ=[some (.sh (gV many l)),some (.sh (.int p)),some (.sh (.int q)),some (.sh (.dT (eI ks))),o4,o5,o6]) ⟨_,_,(fun p hp=>by simp at hp),rfl⟩ ?_ ?_
 ·rintro j x ρ hx ⟨o4,o6,hj,rfl⟩ N hN
  obtain⟨d,o,rfl,sA,Kk⟩:=Es hx
  walk_at "q"
  refine⟨_,vP l hp.1.1 hp.1.2,?_⟩
  walk_at "q"
  refine cN (Us d) (Ut fun e=>decide ((e,o)∈ks)) (fun ρ=>∃ o0 o1,ρ=[o0,o1,some (.sh (.str d)),some (.sh (.int o)),some (.sh (.dT (eI ks)))]) _ _ _ ⟨_,_,rfl⟩ ?_ ?_
  ·rintro x hx ρ ⟨o0,o1,rfl⟩ N1 N2 n1 n2
   obtain⟨⟨n,e⟩,hc,rfl⟩:=cK.mp hx
   rw[show kf (n,e)=.tup [.str n,.int e] from rfl] at *
   walk_at "q"
   by_cases en:n=d
   ·rw[if_pos (by simp[en])]
    have e1:=gF ks (e,o)
    unfold i9 at e1
    rw[e1]
    exact⟨.inl rfl,n2 _ ⟨_,_,rfl⟩ (decide_eq_true en)⟩
   ·rw[if_neg (by simp[en])]
    exact n1 _ ⟨_,_,rfl⟩ (decide_eq_false en)
  obtain⟨bs,e1,e2⟩:=yP (l:=l) (s:=p) (d:=d) (f:=fun e=>decide ((e,o)∈ks))
  refine⟨bs,e1,?_⟩
  refine R.B (fun hb=>?_) fun hb=>?_
  ·walk_at "q"
   refine h false ⟨(fun z=>by cases z),fun z=>?_⟩
   obtain⟨e,he,m⟩:=z.2 d o (fZ.mp sA)
   rw[e2.mpr ⟨e,he,decide_eq_true m⟩] at hb
   cases hb
  ·walk_at "q"
   have hb:bs.any (fun b=>b)=true:=by simpa using hb
   obtain⟨e,he,m⟩:=e2.mp hb
   exact hN _ ⟨_,_,j_ Kk hj ⟨e,he,of_decide_eq_true m⟩,rfl⟩
 ·rintro ρ ⟨o4,o6,hj,rfl⟩
  rw[b4,ub] at hj
  walk_at "q"
  exact h true ⟨fun _=>⟨hf,fun d o ho=>hj (d,o) (fZ.mpr ho)⟩,fun _=>rfl⟩
def eF:WS :=
 (bT (dr 2 (eG (cH (g9 Bn (ae 1))) (gN 0) sD (aM fC (ak (ae 1) (ak (ae 2) (ak (ae 0) bS)))) 1 [0,1]))
 (bT (dr 3 (qq bS))
 (bT (fI 2 (kH (cO (g9 wU (ae 2))) (gN 4)
 (kC (wB (aw (Q8 true) (ae 4) (ae 3)))
 (fI 4 (DH (sF 3) (ae 4)))
 di)))
 (h9 (eG (gU (ae 2)) (gN 0) sD (uC (ae 1) (ae 0)) 1 [3])))))
def aW:i6:=fun ds Q=>∃ (many:Int) (steps:List cq) (b5:List Int),ds=[gV many steps,.list (b5.map .int)]/\(0<=many/\many<=1000)/\b5.length=many.toNat/\fT many steps/\steps.length<=1000/\∀ r,RB many steps b5 r->Q (.ow true) (.list (r.map .int))
theorem jM (ds Q) (h:aW ds Q):ds.length=["exits", "ranks"].length:=by obtain⟨_,_,_,rfl,_⟩:=h;rfl
theorem mY:∀ ds Q,aW ds Q->eF { nx:=fun _=>Q .sh .non,rt:=Q } (bh 5 ds):=by
 rintro ds Q ⟨many,steps,b5,rfl,hm,hr,aC,hl,h⟩
 unfold eF gV
 walk_at "q"
 refine⟨by lia,by lia,?_⟩
 refine cL (fun n out=>∃ l:List Ky,out=l.map gp/\l.length=n/\∀ (i:Nat) k,l[i]? = some k->DS steps b5 i k) (fun ρ=>∃ o,ρ=[o,some (.sh (.list (qV many steps))),some (.sh (.list (b5.map .int)))]) _ 0 [] _ _ ⟨_,rfl⟩ ⟨[],rfl,rfl,fun i k hk=>by simp at hk⟩ ?_ ?_
 ·rintro j y hy ρ ⟨o,rfl⟩ out ⟨l,rfl,Rm,hk⟩ N1 N2 oD
  have hj:=(b8 hy).1
  obtain⟨_,rfl⟩:=b8 hy
  walk_at "q"
  refine⟨many,steps,b5,0+(j:Nat),rfl,by lia,hr,aC,hl,fun k qk=>?_⟩
  walk_at "q"
  refine⟨.inr rfl,oD _ _ ⟨_,rfl⟩ ⟨l++[k],by simp,by simp[Rm],fun i k' jS=>?_⟩⟩
  rcases GB i l.length with hi|hi
  ·rw[DV hi] at jS
   exact hk i k' jS
  ·rw[yA hi] at jS
   have vw:i-l.length=0:=by
    rcases Nat.eq_zero_or_pos (i-l.length) with z|z
    ·exact z
    ·rw[ua (by simp;lia)] at jS;cases jS
   rw[vw] at jS
   cases jS
   have:((i:Nat):Int)=0+(j:Nat):=by lia
   rw[this]
   exact qk
 rintro out ⟨l,e,Rm,hk⟩
 simp only[BU] at e
 subst e
 rw[bL,tj] at Rm
 have FD:∀ k∈l,sN k:=fun k rg=>by
  obtain⟨i,hi⟩:=LD.mp rg
  exact(hk i k hi).ok aC
 refine⟨fun d hd=>?_,fun ms pm pw=>?_⟩
 ·obtain⟨k,rg,rfl⟩:=cK.mp hd
  exact⟨Cg (FD k rg) 9,(FD k rg).tP⟩
 obtain⟨l2,rfl,vk⟩:=Um (f:=gp) (P:=fun k=>k∈l) (ks:=ms) fun d hd=>by
  obtain⟨k,rg,e⟩:=cK.mp (pm.mem_iff.mp hd)
  exact⟨k,e.symm,rg⟩
 have back:∀ k∈l,k∈l2:=fun k rg=>by
  obtain⟨j,hj,e⟩:=cK.mp (pm.mem_iff.mpr (cK.mpr ⟨k,rg,rfl⟩))
  rw[<- yU e];exact hj
 have il':l2.length=l.length:=by have:=pm.length_eq;simpa using this
 rw[pE] at pw
 have pw:l2.Pairwise fun a b=>qE b a=false:=pw
 refine aR _ (fun i ρ=>∃ (diff:List Ky) (fl:Bool) (o4:Option Sl),diff.Pairwise (fun a b=>qE a b=true)/\(∀ k,k∈diff↔k∈l2.take i)/\diff.length<=i/\ρ=[some (.sh (.list (qV many steps))),some (.sh (.list (b5.map .int))),some (.sh (.list (l.map gp))),some (.ow fl (.list (diff.map gp))),o4]) ⟨[],true,none,.nil,by simp,by simp,rfl⟩ ?_ ?_
 ·rintro i x ρ hx ⟨diff,fl,o4,up,mem,dl,rfl⟩ N hN
  obtain⟨hi,OU⟩:=iL.mp hx
  have hX:i<l2.length:=by simpa using hi
  have hxe:x=gp l2[i]:=by rw[<- OU];simp
  subst hxe
  have rg:l2[i]∈l:=vk _ (D3 hX)
  have tk:l2.take (i+1)=l2.take i++[l2[i]]:=by rw[D1,kS hX];rfl
  have Rn:∀ k∈diff,sN k:=fun k OV=>FD k (vk k (DZ ((mem k).mp OV)))
  generalize ek:l2[i]=k at *
  walk_at "q"
  refine⟨Cg (FD k rg) 9,Cq Rn 8,?_⟩
  rw[Hd]
  by_cases hd:k∈diff
  ·refine R.F (by simp[hd]) ?_
   walk_at "q"
   refine hN _ ⟨diff,fl,_,up,fun k'=>?_,by lia,rfl⟩
   rw[mem,tk,dP,kU]
   exact⟨.inl,fun z=>z.elim id fun e=>by rw[e];exact(mem k).mp hd⟩
  ·refine R.T (by simp[hd]) ?_
   walk_at "q"
   refine⟨by lia,?_⟩
   refine hN _ ⟨diff++[k],fl && (gp k).flat,some (.sh (gp k)),?_,fun k'=>?_,by simp;lia,by simp⟩
   ·refine FI.mpr ⟨up,by simp,fun a ha b hb=>?_⟩
    rw[kU.mp hb]
    cases h3:qE a k with
    |true=>rfl
    |false =>
     have h4:qE k a=false:=by
      obtain⟨j,hj⟩:=LD.mp ((mem a).mp ha)
      obtain⟨Iy,KW⟩:=iL.mp hj
      have T3:j<i:=by rw[lh] at Iy;lia
      have:=BO.mp pw j i (by lia) hX T3
      rw[ek] at this
      rw[List.getElem_take] at KW
      rwa[KW] at this
     exact absurd (Fw (Rn a ha) (FD k rg) h3 h4) fun e=>hd (by rw[<- e];exact ha)
   ·rw[dP,kU,mem,tk,dP,kU]
 ·rintro ρ ⟨diff,fl,o4,up,mem,dl,rfl⟩
  rw[b4,ub] at mem
  have md:∀ k,k∈diff↔k∈l:=fun k=>(mem k).trans ⟨vk k,back k⟩
  have Rn:∀ k∈diff,sN k:=fun k OV=>FD k ((md k).mp OV)
  walk_at "q"
  refine cL (fun n out=>∃ r:List Int,out=r.map .int/\r.length=n/\∀ (i:Nat) x,r[i]? = some x->0<=x/\diff[x.toNat]? = l[i]?) (fun ρ=>∃ o,ρ=[o,some (.sh (.list (diff.map gp)))]) _ 0 [] _ _ ⟨_,rfl⟩ ⟨[],rfl,rfl,fun i k hk=>by simp at hk⟩ ?_ ?_
  ·rintro j y hy ρ ⟨o,rfl⟩ out ⟨r,rfl,Uu,ER⟩ N1 N2 oD
   obtain⟨hj,hy'⟩:=iL.mp hy
   have oq:j<l.length:=by simpa using hj
   have hye:y=gp l[j]:=by rw[<- hy'];simp
   subst hye
   have rg:l[j]∈l:=D3 oq
   have hlj:l[j]? = some l[j]:=kS oq
   generalize l[j]=k at *
   have OV:=(md k).mpr rg
   have xh:=List.idxOf_lt_length_of_mem OV
   walk_at "q"
   refine⟨Cq Rn 8,Cg (FD k rg) 9,diff.idxOf k,⟨gp k,?_,by rw[vZ];exact decide_eq_true rfl⟩,fun i z hi hz=>?_,.inl rfl,oD _ _ ⟨_,rfl⟩ ⟨r++[((diff.idxOf k:Nat):Int)],by simp,by simp[Uu],fun i x hx=>?_⟩⟩
   ·rw[kX,kS xh,List.getElem_idxOf xh];rfl
   ·rw[kX,kS (by lia)] at hz
    cases hz
    rw[vZ]
    refine decide_eq_false fun e=>?_
    have:=List.not_of_lt_findIdx (p:=(· == k)) (xs:=diff) hi
    rw[show diff[i]=k from e] at this
    simp at this
   ·rcases GB i r.length with hi|hi
    ·rw[DV hi] at hx
     exact ER i x hx
    ·rw[yA hi] at hx
     have vw:i-r.length=0:=by
      rcases Nat.eq_zero_or_pos (i-r.length) with z|z
      ·exact z
      ·rw[ua (by simp;lia)] at hx;cases hx
     rw[vw] at hx
     cases hx
     have:i=j:=by lia
     subst this
     refine⟨by lia,?_⟩
     rw[hlj,GN,kS xh,List.getElem_idxOf xh]
  rintro out ⟨r,e,Uu,ER⟩
  simp only[BU] at e
  subst e
  rw[b4,tj] at Uu
  refine h r ⟨fun s=>l.getD s.toNat (0,[]),diff,by lia,fun s a b=>?_,up,fun k=>?_,fun s a b=>?_⟩
  ·have hs:s.toNat<l.length:=by lia
   have:=hk s.toNat l[s.toNat] (kS hs)
   rw[xB a] at this
   simpa[List.getD,hs] using this
  ·rw[md]
   constructor
   ·intro rg
    obtain⟨i,hi,rfl⟩:=Rw.mp rg
    exact⟨(i:Nat),by lia,by simp[List.getD,hi]⟩
   ·rintro⟨s,hs,rfl⟩
    have hs:s.toNat<l.length:=by lia
    simp[List.getD,hs]
  ·have hs:s.toNat<r.length:=by lia
   have gx:s.toNat<l.length:=by lia
   have:=ER s.toNat r[s.toNat] (kS hs)
   simpa[rk,List.getD,hs,gx] using this
def fM:WS :=
 (fI 1 (kH (cO (ae 1)) (gN 2)
 (bT (tG (aM aK (ak (ae 0) (ak (aw dn (ae 2) (wC (.int 0))) bS))))
 (tG (aM aK (ak (ae 0) (ak (aw dn (ae 2) (wC (.int 1))) bS)))))))
def bD:i6:=fun ds Q=>∃ (many:Int) (l:List cq) (ps:List P2),ds=[mD many l,.list (ps.map eh)]/\(∀ p∈ps,fA many p)/\Q .sh .non
theorem lD (ds Q) (h:bD ds Q):ds.length=["m", "pairs"].length:=by obtain⟨_,_,_,rfl,_⟩:=h;rfl
theorem pD:∀ ds Q,bD ds Q->fM { nx:=fun _=>Q .sh .non,rt:=Q } (bh 3 ds):=by
 rintro ds Q ⟨many,l,ps,rfl,hi,h⟩
 unfold fM mD
 walk_at "q"
 refine aR _ (fun i ρ=>∃ o:Option Sl,ρ=[some (.sh (.tup [.int many,.list (l.map dz)])),some (.sh (.list (ps.map eh))),o]) ⟨_,rfl⟩ ?_ ?_
 ·rintro i x ρ hx ⟨o,rfl⟩ N hN
  obtain⟨p,q,rfl,hm,tk⟩:=nH hx
  have ip:=hi _ hm
  walk_at "q"
  refine⟨many,l,p,rfl,ip.1.1,ip.1.2,?_⟩
  walk_at "q"
  refine⟨many,l,q,rfl,ip.2.1,ip.2.2,?_⟩
  walk_at "q"
  exact hN _ ⟨_,rfl⟩
 ·rintro ρ ⟨o,rfl⟩
  exact h
def dM:WS :=
 (bT (dr 2 mU)
 (bT (fI 1 (kH (cO (ae 1)) (gN 3)
 (qw (sF 2) (ae 3) (wC (.bl true)))))
 (bT (dr 4 (aM bQ (ak (ae 0) bS)))
 (bT (dr 5 (aM dF (ak (ae 0) bS)))
 (bT (fI 5 (fI 4 (fI 2 (Dk (ae 2) (gT 2 (aX (gN 6) (aX (gN 7) gP)))
 (fI 4 (kH (cO (aw dn (ae 4) (ae 6))) (gT 2 (aX (gN 8) (aX (gN 9) gP)))
 (fI 8 (fI 7 (fI 9 (kC (yi (wB (g9 OL (eG (gU (Q9 (ae 5) (mN (ak (ae 7) (ak (ae 8) bS))) (Q7 (qq bS)))) (gN 0) sD (aw (zS false) (mN (ak (ae 1) (ak (ae 0) bS))) (ae 2)) 1 [9,2]))))
 (h9 (wC (.bl false)))
 di))))))))))
 (h9 (wC (.bl true))))))))
def aQ:i6:=fun ds Q=>∃ (many:Int) (l:List cq) (ps:List P2),ds=[mD many l,.list (ps.map eh)]/\(0<=many/\many<=1000)/\fT many l/\l.length<=1000/\ps.length<=10000/\(∀ p∈ps,fA many p)/\∀ b,(b=true↔SM l ps)->Q .sh (.bl b)
theorem jj (ds Q) (h:aQ ds Q):ds.length=["m", "pairs"].length:=by obtain⟨_,_,_,rfl,_⟩:=h;rfl
theorem lL:∀ ds Q,aQ ds Q->dM { nx:=fun _=>Q .sh .non,rt:=Q } (bh 10 ds):=by
 rintro ds Q ⟨many,l,ps,rfl,hm,aC,hl,xk,hr,h⟩
 unfold dM mD
 walk_at "q"
 refine aR _ (fun i ρ=>∃ (ks:List P2) (o3:Option Sl),yy (ps.take i) ks/\ρ=[some (.sh (.tup [.int many,.list (l.map dz)])),some (.sh (.list (ps.map eh))),some (.ow true (.dT (eI ks))),o3,none,none,none,none,none,none]) ⟨[],_,yy.nil,rfl⟩ ?_ ?_
 ·rintro i x ρ hx ⟨ks,o3,hd,rfl⟩ N hN
  obtain⟨p,q,rfl,hm,tk⟩:=nH hx
  have kE:=hd.len
  rw[lh] at kE
  walk_at "q"
  refine⟨by rw[gG];lia,?_⟩
  have e:=oR ks (p,q)
  unfold i9 at e
  rw[e]
  exact hN _ ⟨_,_,by rw[tk];exact hd.put (p,q),rfl⟩
 rintro ρ ⟨ks,o3,hd,rfl⟩
 rw[b4,ub] at hd
 walk_at "q"
 refine⟨many,l,rfl,hm,aC,by lia,?_⟩
 walk_at "q"
 refine⟨many,l,rfl,by lia,fun kvs hw=>?_⟩
 walk_at "q"
 refine aR _ (fun i ρ=>∃ (o6 o7 o8 o9:Option Sl),(∀ p∈ks.take i,AB l ks p.1 p.2)/\ρ=[some (.sh (.tup [.int many,.list (l.map dz)])),some (.sh (.list (ps.map eh))),some (.sh (.dT (eI ks))),o3,some (.sh (gV many l)),some (.sh (.dT kvs)),o6,o7,o8,o9]) ⟨_,_,_,_,(fun p hp=>by simp at hp),rfl⟩ ?_ ?_
 ·rintro i x ρ hx ⟨o6,o7,o8,o9,hi,rfl⟩ N hN
  rw[xV] at hx
  obtain⟨p,q,rfl,tF,tk⟩:=nH hx
  have YQ:=hr _ ((hd.mem _).mp tF)
  walk_at "q"
  refine⟨_,vP l YQ.1.1 YQ.1.2,?_⟩
  walk_at "q"
  refine aR _ (fun j ρ=>∃ (o8 o9:Option Sl),(∀ t∈(kM l p).take j,∃ o,(q,t.1,o)∈l/\(t.2,o)∈ks)/\ρ=[some (.sh (.tup [.int many,.list (l.map dz)])),some (.sh (.list (ps.map eh))),some (.sh (.dT (eI ks))),o3,some (.sh (gV many l)),some (.sh (.dT kvs)),some (.sh (.int p)),some (.sh (.int q)),o8,o9]) ⟨_,_,(fun p hp=>by simp at hp),rfl⟩ ?_ ?_
  ·rintro j x ρ hx ⟨o8,o9,hj,rfl⟩ N hN
   obtain⟨d,e,rfl,sA,Kk⟩:=Es hx
   walk_at "q"
   refine Cd hw ?_
   walk_at "q"
   refine cN (fun _=>true) (YM fun o=>.bl (decide ((e,o)∈ks))) (fun ρ=>∃ o,ρ=[o,some (.sh (.int e)),some (.sh (.dT (eI ks)))]) _ _ _ ⟨_,rfl⟩ ?_ ?_
   ·rintro x hx ρ ⟨o,rfl⟩ N1 N2 n1 n2
    obtain⟨c,hc,rfl⟩:=cK.mp hx
    walk_at "q"
    have e1:=gF ks (e,c)
    unfold i9 at e1
    rw[e1]
    exact⟨.inl rfl,n2 _ ⟨_,rfl⟩ rfl⟩
   rw[DX]
   refine⟨(dq l q d).map fun o=>decide ((e,o)∈ks),by rw[fR];rfl,?_⟩
   refine R.B (fun hb=>?_) fun hb=>?_
   ·walk_at "q"
    have hb:((dq l q d).map fun o=>decide ((e,o)∈ks)).any (fun b=>b)=false:=by simpa using hb
    refine h false ⟨(fun z=>by cases z),fun z=>?_⟩
    have z:SM l ps:=z
    obtain⟨o,ho,m⟩:=z _ ((hd.mem _).mp tF) d e (fZ.mp sA)
    have:((dq l q d).map fun o=>decide ((e,o)∈ks)).any (fun b=>b)=true:=AI.mpr ⟨_,cK.mpr ⟨o,vz.mpr ho,rfl⟩,decide_eq_true ((hd.mem _).mpr m)⟩
    rw[hb] at this
    exact this
   ·walk_at "q"
    have hb:((dq l q d).map fun o=>decide ((e,o)∈ks)).any (fun b=>b)=true:=by simpa using hb
    rw[List.any_map] at hb
    obtain⟨o,ho,z⟩:=AI.mp hb
    exact hN _ ⟨_,_,j_ Kk hj ⟨o,vz.mp ho,of_decide_eq_true z⟩,rfl⟩
  ·rintro ρ ⟨o8,o9,hj,rfl⟩
   rw[b4,ub] at hj
   exact hN _ ⟨_,_,_,_,j_ tk hi fun d e he=>hj (d,e) (fZ.mpr he),rfl⟩
 ·rintro ρ ⟨o6,o7,o8,o9,hi,rfl⟩
  rw[b4,gG,ub] at hi
  walk_at "q"
  exact h true ⟨fun _ p hp=>(AB.congr hd.mem).mp (hi p ((hd.mem p).mpr hp)),fun _=>rfl⟩
def fO:WS :=
 (bT (kH (cH (wC (.int 6))) (gN 7)
 (bT (dr 8 (lO (wC (.str "")) (eG (cH (ae 2)) (gN 0) sD (aw dn (ae 4) (aw vT (aw ft (aw dn (ae 2) (ae 0)) (aw og (ae 3) (g9 Rf (aw kQ (ae 0) (ae 1))))) (wC (.int 26)))) 1 [3,4,7,1])))
 (bT (kC (wB (aw kQ (ae 5) (wC (.int 1))))
 (dr 8 (lO (wC (.str "")) (eG (cH (aw ft (ae 7) (wC (.int 1)))) (gN 0) sD (aw dn (ae 2) (aw dn (ae 1) (ae 0))) 1 [4,1])))
 di)
 (bT (kC (wB (aw kQ (ae 5) (wC (.int 2))))
 (bT (dr 9 (eG (cH (aM aB (ak (aw ft (ae 0) (ae 7)) (ak (wC (.int 4)) (ak (wC (.int 6)) bS))))) (gN 0) sD (aw dn (ae 2) (aw dn (ae 1) (ae 0))) 1 [4,1]))
 (dr 8 (aw ft (aw dn (ae 1) (aw vT (aw ft (aw dn (ae 4) (wC (.int 0))) (aw og (wC (.int 11)) (ae 7))) (wC (.int 26)))) (lO (wC (.str "")) (ae 9)))))
 di)
 (bT (kC (wB (aw kQ (ae 5) (wC (.int 3))))
 (dr 8 (lO (wC (.str "")) (eG (cH (wC (.int 6))) (gN 0) sD (aw dn (ae 3) (aw vT (aw ft (aw dn (ae 1) (wC (.int 0))) (aw vT (aw ft (ae 0) (ae 2)) (wC (.int 6)))) (wC (.int 26)))) 1 [4,7,1])))
 di)
 (fI 8 (DH (sF 6) (ae 8))))))))
 (bT (dr 10 (aM aB (ak (ae 0) (ak (wC (.int 4)) (ak (wC (.int 2)) bS)))))
 (h9 (I0 (aw ft (qq (ak (wC (.str "*")) bS)) (ae 6)) (rE (ae 10)) (rE (aw ft (aw ft (ae 10) (wC (.int 1))) (aM aB (ak (ae 0) (ak (wC (.int 5)) (ak (wC (.int 7)) bS))))))))))
def g_:WS :=
 (bT (dr 1 (wC (.str "abcdefghijklmnopqrstuvwxyz")))
 (bT (dr 2 (aw ft (wC (.int 1)) (aM aB (ak (ae 0) (ak (wC (.int 0)) (ak (wC (.int 6)) bS))))))
 (bT (dr 3 (aM aB (ak (ae 0) (ak (wC (.int 1)) (ak (ae 2) bS)))))
 (bT (dr 4 (eG (cH (wC (.int 6))) (gN 0) sD (aM aB (ak (aw ft (aw og (ae 1) (aw ft (ae 0) (wC (.int 1)))) (ae 0)) (ak (wC (.int 2)) (ak (wC (.int 26)) bS)))) 1 [0]))
 (bT (dr 5 (aM aB (ak (ae 0) (ak (wC (.int 3)) (ak (wC (.int 4)) bS)))))
 (bT (dr 6 (qq bS))
 fO))))))
def cC:i6:=fun ds Q=>∃ c:Int,ds=[.int c]/\∀ names:List Str,1<=names.length->names.length<=7->(∀ n∈names,OS n)->Q (.ow true) (.list (names.map .str))
theorem pO (ds Q) (h:cC ds Q):ds.length=["_law_cell"].length:=by obtain⟨_,rfl,_⟩:=h;rfl
theorem pW(Q:Md->D->Prop)(c size at' kind:Int)(base:List Int)(hs:1<=size/\size<=6)(hk:0<=kind/\kind<4)(hb:base.length=6)(zk:∀ b∈base,0<=b/\b<26)
  (h:∀ names:List Str,1<=names.length->names.length<=7->(∀ n∈names,OS n)->Q (.ow true) (.list (names.map .str))) :
  fO { nx:=fun _=>Q .sh .non,rt:=Q } [some (.sh (.int c)),some (.sh (.str abc)),some (.sh (.int size)),some (.sh (.int at')),some (.ow true (.list (base.map .int))),some (.sh (.int kind)),some (.ow true (.list [])),none,none,none,none]:=by
 unfold fO
 walk_at "q"
 refine aR _ (fun i ρ=>∃ (words:List Str) (o7 o8 o9:Option Sl),words.length=i/\(∀ n∈words,Open n)/\ρ=[some (.sh (.int c)),some (.sh (.str abc)),some (.sh (.int size)),some (.sh (.int at')),some (.ow true (.list (base.map .int))),some (.sh (.int kind)),some (.ow true (.list (words.map .str))),o7,o8,o9,none]) ⟨[],_,_,_,rfl,(fun n hn=>nomatch hn),rfl⟩ ?_ ?_
 ·rintro i x ρ hx ⟨words,o7,o8,o9,hl,ho,rfl⟩ N hN
  obtain⟨hi,rfl⟩:=b8 hx
  have hi:i<6:=hi
  have push:∀ (w:Str) (YR:Option Sl),Open w->N [some (.sh (.int c)),some (.sh (.str abc)),some (.sh (.int size)),some (.sh (.int at')),some (.ow true (.list (base.map .int))),some (.sh (.int kind)),some (.ow true (.list (words.map .str++[.str w]))),some (.sh (.int (0+(i:Nat)))),some (.sh (.str w)),YR,none]:=fun w YR hw=>by
   rw[Bx]
   refine hN _ ⟨words++[w],_,_,_,by simp[hl],fun n hn=>?_,rfl⟩
   rcases dP.mp hn with hn|hn
   ·exact ho n hn
   ·rw[kU.mp hn];exact hw
  walk_at "q"
  refine⟨by lia,by lia,?_⟩
  refine cL (fun n out=>sM n out) (fun ρ=>∃ o,ρ=[o,some (.sh (.int at')),some (.sh (.list (base.map .int))),some (.sh (.int (0+(i:Nat)))),some (.sh (.str abc))]) _ 0 [] _ _ ⟨_,rfl⟩ sM.nil ?_ ?_
  ·rintro j y hy ρ ⟨o,rfl⟩ out ho N1 N2 oD
   obtain⟨hj,rfl⟩:=b8 hy
   walk_at "q"
   obtain⟨b,_,eb⟩:=iw (l:=base) (i:=0+(j:Nat)) (by lia) (by lia)
   refine⟨.int b,eb,?_⟩
   walk_at "q"
   refine⟨jf (by lia) (by lia),?_⟩
   obtain⟨ch,ec,lc⟩:=um (b+(0+(i:Nat))*(if decide (0+(j:Int)=at')=true then 1 else 0))
   refine⟨ch,ec,.inl rfl,oD _ _ ⟨_,rfl⟩ ?_⟩
   rw[tj] at ho ⊢
   exact ho.push lc
  intro out mG
  rw[bL] at mG
  simp only[tj,BU] at mG
  obtain⟨zs,ez,zl,wl0,we0⟩:=mG.join (by lia)
  refine⟨zs,ez,zl,?_⟩
  generalize Str.join _ zs=w0 at *
  have hw0:Open w0:=⟨by lia,by lia,we0⟩
  clear ez zl
  rcases (show kind=0\/kind=1\/kind=2\/kind=3 by lia) with rfl|rfl|rfl|rfl
  ·refine R.F (by decide) ?_
   walk_at "q"
   refine R.F (by decide) ?_
   walk_at "q"
   refine R.F (by decide) ?_
   walk_at "q"
   exact⟨by lia,push w0 _ hw0⟩
  ·refine R.T (by decide) ?_
   walk_at "q"
   refine⟨by lia,by lia,?_⟩
   refine cL (fun n out=>sM n out) (fun ρ=>∃ o,ρ=[o,some (.sh (.list (base.map .int))),some (.sh (.str abc))]) _ 0 [] _ _ ⟨_,rfl⟩ sM.nil ?_ ?_
   ·rintro j y hy ρ ⟨o,rfl⟩ out ho N1 N2 oD
    obtain⟨hj,rfl⟩:=b8 hy
    walk_at "q"
    obtain⟨b,mb,eb⟩:=iw (l:=base) (i:=0+(j:Nat)) (by lia) (by lia)
    refine⟨.int b,eb,?_⟩
    walk_at "q"
    obtain⟨ch,ec,lc⟩:=yO (zk b mb).1 (zk b mb).2
    refine⟨ch,ec,.inl rfl,oD _ _ ⟨_,rfl⟩ ?_⟩
    rw[tj] at ho ⊢
    exact ho.push lc
   intro out mG
   rw[bL] at mG
   simp only[tj,BU] at mG
   obtain⟨zs,ez,zl,Ro,OW⟩:=mG.join (by lia)
   refine⟨zs,ez,zl,?_⟩
   generalize Str.join _ zs=w1 at *
   refine R.F (by decide) ?_
   walk_at "q"
   refine R.F (by decide) ?_
   walk_at "q"
   exact⟨by lia,push w1 _ ⟨by lia,by lia,OW⟩⟩
  ·refine R.F (by decide) ?_
   walk_at "q"
   refine⟨_,4,6,rfl,by decide,by decide,fun r r0 r1=>?_⟩
   walk_at "q"
   refine⟨by lia,by lia,?_⟩
   refine cL (fun n out=>sM n out) (fun ρ=>∃ o,ρ=[o,some (.sh (.list (base.map .int))),some (.sh (.str abc))]) _ 0 [] _ _ ⟨_,rfl⟩ sM.nil ?_ ?_
   ·rintro j y hy ρ ⟨o,rfl⟩ out ho N1 N2 oD
    obtain⟨hj,rfl⟩:=b8 hy
    walk_at "q"
    obtain⟨b,mb,eb⟩:=iw (l:=base) (i:=0+(j:Nat)) (by lia) (by lia)
    refine⟨.int b,eb,?_⟩
    walk_at "q"
    obtain⟨ch,ec,lc⟩:=yO (zk b mb).1 (zk b mb).2
    refine⟨ch,ec,.inl rfl,oD _ _ ⟨_,rfl⟩ ?_⟩
    rw[tj] at ho ⊢
    exact ho.push lc
   intro out mG
   rw[bL] at mG
   simp only[tj,BU] at mG
   obtain⟨b0,mb0,eb0⟩:=iw (l:=base) (i:=0) (by lia) (by lia)
   refine⟨.int b0,eb0,?_⟩
   walk_at "q"
   obtain⟨ch,ec,lc⟩:=um (b0+11*(0+(i:Nat)))
   refine⟨jf (by lia) (by lia),ch,ec,?_⟩
   obtain⟨zs,ez,zl,Ro,OW⟩:=mG.join (by lia)
   refine⟨zs,ez,zl,?_⟩
   generalize Str.join _ zs=w1 at *
   refine⟨by rw[jc];lia,?_⟩
   refine R.F (by decide) ?_
   walk_at "q"
   exact⟨by lia,push _ _ ⟨by rw[dW,jc];lia,by rw[dW,jc];lia,Ay (Aj lc) OW⟩⟩
  ·refine R.F (by decide) ?_
   walk_at "q"
   refine R.F (by decide) ?_
   walk_at "q"
   refine cL (fun n out=>sM n out) (fun ρ=>∃ o,ρ=[o,some (.sh (.list (base.map .int))),some (.sh (.int (0+(i:Nat)))),some (.sh (.str abc))]) _ 0 [] _ _ ⟨_,rfl⟩ sM.nil ?_ ?_
   ·rintro j y hy ρ ⟨o,rfl⟩ out ho N1 N2 oD
    obtain⟨hj,rfl⟩:=b8 hy
    walk_at "q"
    obtain⟨b,mb,eb⟩:=iw (l:=base) (i:=0) (by lia) (by lia)
    refine⟨.int b,eb,?_⟩
    walk_at "q"
    obtain⟨ch,ec,lc⟩:=um (b+(0+(j:Int)+(0+(i:Nat))) % 6)
    refine⟨ch,ec,.inl rfl,oD _ _ ⟨_,rfl⟩ ?_⟩
    rw[tj] at ho ⊢
    exact ho.push lc
   intro out mG
   rw[bL] at mG
   simp only[tj,BU] at mG
   obtain⟨zs,ez,zl,Ro,OW⟩:=mG.join (by decide)
   refine⟨zs,ez,zl,?_⟩
   generalize Str.join _ zs=w1 at *
   exact⟨by lia,push w1 _ ⟨by rw[Ro];decide,by rw[Ro];decide,OW⟩⟩
 ·rintro ρ ⟨words,o7,o8,o9,hl,ho,rfl⟩
  rw[bL] at hl
  walk_at "q"
  refine⟨c,4,2,rfl,by decide,by decide,fun f f0 f1=>?_⟩
  walk_at "q"
  refine⟨by lia,.inl ⟨lW words,?_⟩⟩
  refine⟨c,5,7,rfl,by decide,by decide,fun r r0 r1=>?_⟩
  walk_at "q"
  refine .inl ⟨lW words,?_⟩
  have e:(D.str "*" :: words.map D.str)=(("*" : Str) :: words).map D.str:=rfl
  rw[e,zV]
  have hc:=Il (l:=("*" : Str) :: words) (a:=f) (b:=f+1+r) f0 (by lia) (by simp;lia)
  refine h _ hc.1 (iO hc.2.1 (by simp;lia)) fun n hn=>?_
  rcases dv.mp (hc.2.2 n hn) with rfl|hn
  ·exact .inl rfl
  ·exact .inr (ho n hn)
theorem sO:∀ ds Q,cC ds Q->g_ { nx:=fun _=>Q .sh .non,rt:=Q } (bh 11 ds):=by
 rintro ds Q ⟨c,rfl,h⟩
 unfold g_
 walk_at "q"
 refine⟨c,0,6,rfl,by decide,by decide,fun s s0 s1=>?_⟩
 walk_at "q"
 refine⟨c,1,1+s,rfl,by decide,by lia,fun at' a0 a1=>?_⟩
 walk_at "q"
 refine cL (fun n out=>∃ bs:List Int,out=bs.map .int/\bs.length=n/\∀ b∈bs,0<=b/\b<26) (fun ρ=>∃ o,ρ=[o,some (.sh (.int c))]) _ 0 [] _ _ ⟨_,rfl⟩ ⟨[],rfl,rfl,fun b hb=>nomatch hb⟩ ?_ ?_
 ·rintro j y hy ρ ⟨o,rfl⟩ out ⟨bs,rfl,hl,zk⟩ N1 N2 oD
  have hj:=(b8 hy).1
  obtain⟨hj,rfl⟩:=b8 hy
  walk_at "q"
  refine⟨bw (by lia) (by lia),_,2,26,rfl,by decide,by decide,fun r r0 r1=>?_⟩
  walk_at "q"
  refine⟨.inl rfl,oD _ _ ⟨_,rfl⟩ ⟨bs++[r],by simp,by simp[hl],fun b hb=>?_⟩⟩
  rcases dP.mp hb with hb|hb
  ·exact zk b hb
  ·rw[kU.mp hb];exact⟨r0,r1⟩
 rintro out ⟨base,e,hb,zk⟩
 simp only[BU] at e
 subst e
 rw[bL] at hb
 refine⟨c,3,4,rfl,by decide,by decide,fun kind k0 k1=>?_⟩
 walk_at "q"
 exact pW Q c _ at' kind base (by lia) ⟨k0,k1⟩ (by simpa using hb) zk h
def h_:WS :=
 (bT (dr 4 (aM aH (ak (ae 0) (ak (aw ft (wC (.int 3)) (aw vT (aw ft (aw og (wC (.int 7)) (ae 1)) (aw og (wC (.int 11)) (ae 2))) (wC (.int 60)))) bS))))
 (h9 (aM aB (ak (aw ft (aw ft (ae 4) (aw og (aM aH (ak (ae 0) (ak (wC (.int 2)) bS))) (aw ft (ae 1) (wC (.int 2))))) (aw og (aw ft (ae 1) (wC (.int 1))) (aw ft (aw ft (ae 1) (wC (.int 5))) (ae 2)))) (ak (ae 2) (ak (ae 3) bS))))))
def aJ:i6:=fun ds Q=>∃ (ns:List Int) (k w m:Int),ds=[.list (ns.map .int),.int k,.int w,.int m]/\(0<=k/\k<=1000)/\(0<=w/\w<6)/\0<m/\∀ r,0<=r->r<m->Q .sh (.int r)
theorem pB (ds Q) (h:aJ ds Q):ds.length=["_law_script", "_law_k", "_law_way", "_law_many"].length:=by obtain⟨_,_,_,_,rfl,_⟩:=h;rfl
theorem sY:∀ ds Q,aJ ds Q->h_ { nx:=fun _=>Q .sh .non,rt:=Q } (bh 5 ds):=by
 rintro ds Q ⟨ns,k,w,m,rfl,hk,hw,hm,h⟩
 unfold h_
 walk_at "q"
 have a:=xJ (7*k+11*w) (show(0:Int)<60 by decide)
 refine⟨bw (by lia) (by lia),bw (by lia) (by lia),ns,_,rfl,by lia,?_⟩
 generalize ns.getD _ 0=c1
 walk_at "q"
 refine⟨ns,2,rfl,by decide,?_⟩
 generalize ns.getD _ 0=c2
 walk_at "q"
 refine⟨bw (by lia) (by lia),bw (by lia) (by lia),_,w,m,rfl,hw,hm,fun r r0 r1=>?_⟩
 walk_at "q"
 exact h r r0 r1
def fK:WS :=
 (bT (dr 2 mU)
 (bT (fI 1 (kH (cO (ae 1)) (gN 3)
 (qw (sF 2) (ae 3) (wC (.bl true)))))
 (yL (wB (wC (.bl true)))
 (bT (dr 4 (eG (gU (g9 t_ (ae 2))) (gN 0) (yi (wB (aM aV (ak (ae 2) (ak (aw dn (ae 0) (wC (.int 0))) (ak (aw dn (ae 0) (wC (.int 1))) (ak (ae 1) bS))))))) (ae 0) 1 [2,0]))
 (bT (kC (wB (aw kQ (ae 4) (qq bS)))
 (h9 (g9 jn (ae 2)))
 di)
 (fI 4 (kH (cO (ae 4)) (gN 3)
 (fI 3 (DQ (sF 2) (ae 3))))))))))
def bu:i6:=fun ds Q=>∃ (many:Int) (l:List cq) (ps:List P2),ds=[gV many l,.list (ps.map eh)]/\ps.length<=10000/\(∀ p∈ps,fA many p)/\∀ out,Uq l ps out->Q (.ow true) (.list (out.map eh))
theorem lN (ds Q) (h:bu ds Q):ds.length=["_law_rows_here", "_law_some"].length:=by obtain⟨_,_,_,rfl,_⟩:=h;rfl
theorem pM:∀ ds Q,bu ds Q->fK { nx:=fun _=>Q .sh .non,rt:=Q } (bh 5 ds):=by
 rintro ds Q ⟨many,l,ps,rfl,xk,hr,h⟩
 unfold fK
 walk_at "q"
 refine aR _ (fun i ρ=>∃ (ks:List P2) (o3:Option Sl),yy (ps.take i) ks/\ρ=[some (.sh (gV many l)),some (.sh (.list (ps.map eh))),some (.ow true (.dT (eI ks))),o3,none]) ⟨[],_,yy.nil,rfl⟩ ?_ ?_
 ·rintro i x ρ hx ⟨ks,o3,hd,rfl⟩ N hN
  obtain⟨p,q,rfl,hm,tk⟩:=nH hx
  have kE:=hd.len
  rw[lh] at kE
  walk_at "q"
  refine⟨by rw[gG];lia,?_⟩
  have e:=oR ks (p,q)
  unfold i9 at e
  rw[e]
  exact hN _ ⟨_,_,by rw[tk];exact hd.put (p,q),rfl⟩
 rintro ρ ⟨ks0,o3,hd,rfl⟩
 rw[b4,ub] at hd
 walk_at "q"
 refine⟨fun ρ=>∃ (ks:List P2) (o3 o4:Option Sl),(ks.Nodup/\(∀ p∈ks,p∈ps)/\(∀ T:List P2,(∀ p∈T,p∈ps)->(∀ p∈T,ja l T p)->∀ p∈T,p∈ks)/\ks.length<=ps.length)/\ρ=[some (.sh (gV many l)),some (.sh (.list (ps.map eh))),some (.ow true (.dT (eI ks))),o3,o4],
  fun ρ=>match ρ with
   |[_,_,some (.ow _ (.dT l)),_,_]=>l.length
   |_=>0,⟨ks0,_,_,⟨hd.nd,fun p hp=>(hd.mem p).mp hp,fun T a _ p hp=>(hd.mem _).mpr (a p hp),hd.len⟩,rfl⟩,?_⟩
 rintro ρ ⟨ks,o3,o4,⟨YS,Ow,Uv,hlen⟩,rfl⟩
 walk_at "q"
 rw[show List.map (fun kv:List Key × D=>D.tup (kv.1.map ot)) (eI ks)=ks.map eh from xV ks]
 refine cN (YN fun p=>!pP l ks p) (fun x=>x) (fun ρ=>∃ o,ρ=[o,some (.sh (.dT (eI ks))),some (.sh (gV many l))]) _ _ _ ⟨_,rfl⟩ ?_ ?_
 ·rintro x hx ρ ⟨o,rfl⟩ N1 N2 n1 n2
  obtain⟨c,hc,rfl⟩:=cK.mp hx
  rw[show eh c=.tup [.int c.1,.int c.2] from rfl] at *
  walk_at "q"
  refine⟨many,l,ks,c,rfl,hr c (Ow c hc),fun b hb=>?_⟩
  walk_at "q"
  have eb:b=pP l ks c:=by rw[xt,qP];exact hb
  subst eb
  cases e:pP l ks c with
  |true=>exact n1 _ ⟨_,rfl⟩ (by show(!pP l ks c)=false;rw[e];rfl)
  |false=>exact⟨.inl rfl,n2 _ ⟨_,rfl⟩ (by show(!pP l ks c)=true;rw[e];rfl)⟩
 rw[z7]
 have hg:∀ x,x∈ks.filter (fun p=>!pP l ks p)↔x∈ks/\¬ ja l ks x:=fun x=>by
  rw[sQ,<- qP (l:=l) (ks:=ks) (p:=x)]
  simp
 have YT:(ks.filter fun p=>!pP l ks p).Nodup:=YS.sublist List.filter_sublist
 generalize ks.filter (fun p=>!pP l ks p)=gone at hg YT ⊢
 refine⟨Jv _ 10,rfl,?_⟩
 rw[zm]
 by_cases ge:gone=[]
 ·refine R.T (decide_eq_true ge) ?_
  walk_at "q"
  have hb:∀ p∈ks,ja l ks p:=fun p hp=>Classical.byContradiction fun z=>by
   have:=(hg p).mpr ⟨hp,z⟩
   rw[ge] at this
   cases this
  refine uf fun out pm=>?_
  rw[Aa]
  exact h out ⟨fun p hp=>Ow p (pm.mem_iff.mp hp),fun p hp=>(ja.congr fun x=>pm.mem_iff).mpr (hb p (pm.mem_iff.mp hp)),fun T a b p hp=>pm.mem_iff.mpr (Uv T a b p hp),by rw[pm.length_eq];exact hlen⟩
 ·refine R.F (decide_eq_false ge) ?_
  walk_at "q"
  refine aR _ (fun i ρ=>∃ (fq:List P2) (o3:Option Sl),fq.Nodup/\(∀ x,x∈fq↔x∈ks/\x∉gone.take i)/\fq.length+i=ks.length/\ρ=[some (.sh (gV many l)),some (.sh (.list (ps.map eh))),some (.ow true (.dT (eI fq))),o3,some (.sh (.list (gone.map eh)))]) ⟨ks,_,YS,(fun x=>by simp),rfl,rfl⟩ ?_ ?_
  ·rintro i x ρ hx ⟨fq,o3,tS,hm,Q6,rfl⟩ N hN
   obtain⟨p,q,rfl,hgm,tk⟩:=nH hx
   walk_at "q"
   have hn:(p,q)∉gone.take i:=fun z=>by
    have:(gone.take (i+1)).Nodup:=YT.sublist (List.take_sublist _ _)
    rw[tk,iN] at this
    exact this.2.2 _ z _ (kU.mpr rfl) rfl
   refine⟨by rw[gw];exact pK.mpr ((hm _).mpr ⟨((hg _).mp hgm).1,hn⟩),fun j d hj=>?_⟩
   have oq:fq[j]? = some (p,q):=by
    unfold eI at hj
    rw[kX] at hj
    obtain⟨y,hy,e⟩:=LX.mp hj
    rw[hy,xj (q:=(p,q)) (Prod.mk.inj e).1]
   rw[nU]
   have Rl:=(iL.mp oq).1
   refine hN _ ⟨_,_,tS.sublist (List.eraseIdx_sublist _ _),fun x=>?_,by rw[List.length_eraseIdx_of_lt Rl];lia,rfl⟩
   rw[Cj fq j _ tS oq,hm,tk,dP,kU,not_or,and_assoc]
  ·rintro ρ ⟨fq,o3,tS,hm,Q6,rfl⟩
   rw[b4] at hm Q6
   rw[ub] at hm
   have gl:0<gone.length:=List.length_pos_iff.mpr ge
   refine⟨⟨fq,_,_,⟨tS,fun p hp=>Ow p ((hm p).mp hp).1,fun T a b p hp=>(hm _).mpr ⟨Uv T a b p hp,fun y=>((hg _).mp y).2 ((b p hp).mono (Uv T a b))⟩,by lia⟩,rfl⟩,?_⟩
   show(eI fq).length<(eI ks).length
   rw[gG,gG]
   lia
def il:WS :=
 (bT (dr 1 (aM bQ (ak (ae 0) bS)))
 (bT (dr 2 (qq (ak (aw zZ (qq (ak (wC (.int 0)) bS)) (aw dn (ae 0) (wC (.int 0)))) bS)))
 (bT (dr 3 (aM aW (ak (ae 1) (ak (aw dn (ae 2) (wC (.int 0))) bS))))
 (bT (yL (wB (aw Bi (ae 3) (aw dn (ae 2) (g9 NX (wC (.int 1))))))
 (zx 2 3 (aM aW (ak (ae 1) (ak (ae 3) bS)))))
 (rZ 2)))))
def YV(rs:List (List Int)):D:=.list (rs.map AA)
def cF:i6:=fun ds Q=>∃ (many:Int) (steps:List cq),ds=[mD many steps]/\(1<=many/\many<=100)/\fT many steps/\steps.length<=1000/\∀ rest,Chain many steps (zeros many) rest->rest.length<=10000->Q (.ow true) (YV (zeros many :: rest))
theorem oY (ds Q) (h:cF ds Q):ds.length=["m"].length:=by obtain⟨_,_,rfl,_⟩:=h;rfl
theorem yj(cur:List Int)(pre:List (List Int)):fi ((cur :: pre).map AA) (-1)=some (AA (jh cur pre)):=by
 have e:(cur :: pre).map AA=((cur :: pre).dropLast.map AA)++[AA (jh cur pre)]:=by
  conv=>lhs;rw[<- List.dropLast_concat_getLast (show cur :: pre≠[] by simp)]
  rw[sR]
  rfl
 rw[e]
 exact bJ' _ _
theorem wz(cur mr:List Int)(pre:List (List Int)):jh cur (pre++[mr])=mr:=by
 unfold jh
 rw[List.getLast_cons (by simp),List.getLast_concat]
theorem sZ:∀ ds Q,cF ds Q->il { nx:=fun _=>Q .sh .non,rt:=Q } (bh 4 ds):=by
 rintro ds Q ⟨many,steps,rfl,hm,aC,hl,h⟩
 unfold il
 have hmm:many*many<=10000:=by
  have:=Int.mul_le_mul hm.2 hm.2 (by lia) (by lia)
  lia
 have e0:bh 4 [mD many steps]=[some (.sh (mD many steps)),none,none,none]:=rfl
 rw[e0]
 walk_at "q"
 refine⟨many,steps,rfl,by lia,aC,hl,?_⟩
 unfold gV
 walk_at "q"
 unfold mD
 walk_at "q"
 refine⟨by lia,?_⟩
 rw[wZ]
 refine⟨many,steps,zeros many,rfl,by lia,by simp[zeros],aC,hl,fun r hr=>?_⟩
 walk_at "q"
 refine⟨fun ρ=>∃ (pre:List (List Int)) (cur mr:List Int),wj many cur/\RB many steps cur mr/\(∀ rest,Chain many steps cur rest->Chain many steps (zeros many) (pre++rest))/\jh (zeros many) pre=cur/\(pre.length:Int)<=cur.sum/\cur.sum<=many*many /\
   ρ=[some (.sh (.tup [.int many,.list (steps.map dz)])),some (.ow true (.list (qV many steps))),some (.ow true (.list ((zeros many :: pre).map AA))),some (.ow true (.list (mr.map .int)))],
  fun ρ=>match ρ with
   |[_,_,some (.ow _ (.list rs)),_]=>20000-rs.length
   |_=>0,⟨[],zeros many,r,tX hm.1,hr,fun rest hc=>hc,rfl,?_,?_,rfl⟩,?_⟩
 ·simp[zeros]
 ·have:0<=many*many:=PF (by lia) (by lia)
  simp[zeros];lia
 rintro ρ ⟨pre,cur,mr,hd,hb,hc,hla,hp,hs,rfl⟩
 walk_at "q"
 refine⟨_,yj _ _,?_⟩
 rw[hla]
 unfold AA
 walk_at "q"
 refine⟨zB _ _,zB _ _,?_⟩
 rw[Jz]
 by_cases e:mr=cur
 ·rw[if_neg (by simp[e])]
  rw[e] at hb
  have:=hc [] hb
  rw[pS] at this
  exact h pre this (by lia)
 ·rw[if_pos (by simp[e])]
  have ge':=hb.sum aC hd (by lia) e
  refine⟨qG _,by lia,?_⟩
  refine⟨many,steps,mr,rfl,by lia,(hb.Bt aC).1,aC,hl,fun r2 Tp=>?_⟩
  walk_at "q"
  refine⟨⟨pre++[mr],mr,r2,hb.Bt aC,Tp,fun rest wq=>?_,wz _ _ _,by simp;lia,ge'.2,by simp[AA]⟩,?_⟩
  ·have:=hc (mr :: rest) ⟨hb,e,wq⟩
   simpa using this
  ·simp
   lia
def jm:WS :=
 (bT (tG (aM bD (ak (ae 0) (ak (ae 1) bS))))
 (h9 (Ak (aM aQ (ak (ae 0) (ak (ae 1) bS))) (aM aQ (ak (ae 0) (ak (eG (gU (ae 1)) (gT 2 (aX (gN 0) (aX (gN 1) gP))) sD (mN (ak (ae 1) (ak (ae 0) bS))) 2 []) bS))))))
def cB:i6:=fun ds Q=>∃ (many:Int) (l:List cq) (ps:List P2),ds=[mD many l,.list (ps.map eh)]/\(0<=many/\many<=1000)/\fT many l/\l.length<=1000/\ps.length<=10000/\(∀ p∈ps,fA many p)/\∀ b,(b=true↔∀ p∈ps,ja l ps p)->Q .sh (.bl b)
theorem qZ (ds Q) (h:cB ds Q):ds.length=["m", "pairs"].length:=by obtain⟨_,_,_,rfl,_⟩:=h;rfl
def YW:D->D
 |.tup [a,b]=>.tup [b,a]
 |d=>d
theorem Ds(ps:List P2):(((ps.map eh).filter fun _=>true).map YW)=(BG ps).map eh:=by
 rw[Pg.mpr fun _ _=>rfl,fR]
 unfold BG
 rw[fR]
 rfl
theorem Hm{ps:List P2}(h:∀ p∈ps,fA many p):∀ p∈BG ps,fA many p:=by
 rintro⟨a,b⟩ hp
 have:=h _ (l_.mp hp)
 exact⟨this.2,this.1⟩
theorem Fi(ps:List P2):(BG ps).length=ps.length:=by simp[BG]
theorem v_:∀ ds Q,cB ds Q->jm { nx:=fun _=>Q .sh .non,rt:=Q } (bh 2 ds):=by
 rintro ds Q ⟨many,l,ps,rfl,hm,aC,hl,xk,a,h1⟩
 unfold jm mD
 walk_at "q"
 refine⟨many,l,ps,rfl,a,?_⟩
 walk_at "q"
 refine⟨many,l,ps,rfl,hm,aC,hl,xk,a,fun b hb=>?_⟩
 walk_at "q"
 refine R.B (fun eb=>?_) fun eb=>?_
 ·walk_at "q"
  refine cN (fun _=>true) YW (fun ρ=>∃ o1 o2,ρ=[o1,o2]) _ _ _ ⟨_,_,rfl⟩ ?_ ?_
  ·rintro x hx ρ ⟨o1,o2,rfl⟩ N1 N2 n1 n2
   obtain⟨c,hc,rfl⟩:=cK.mp hx
   rw[show eh c=.tup [.int c.1,.int c.2] from rfl]
   walk_at "q"
   exact⟨.inl rfl,n2 _ ⟨_,_,rfl⟩ rfl⟩
  rw[Ds]
  refine⟨many,l,BG ps,rfl,hm,aC,hl,by rw[Fi];exact xk,Hm a,fun b2 hb2=>?_⟩
  walk_at "q"
  exact h1 b2 (by rw[<- zH,hb2];exact⟨fun z=>⟨hb.mp eb,z⟩,fun z=>z.2⟩)
 ·walk_at "q"
  exact h1 false ⟨(fun z=>by cases z),fun z=>by rw[<- eb];exact hb.mpr (zH.mpr z).1⟩
def cj:WS :=
 (bT (dr 7 (aM cC (ak (aM aH (ak (ae 0) (ak (wC (.int 1)) bS))) bS)))
 (bT (dr 8 mU)
 (bT (kH (cH (aw Ey (ae 6) (aw A9 (ae 1) (aw og (ae 3) (ae 3))))) (gN 9)
 (bT (dr 10 (aM aJ (ak (ae 0) (ak (ae 9) (ak (wC (.int 0)) (ak (ae 4) bS))))))
 (bT (dr 11 (aM aJ (ak (ae 0) (ak (ae 9) (ak (wC (.int 1)) (ak (ae 4) bS))))))
 (bT (dr 12 (aw dn (ae 7) (aM aJ (ak (ae 0) (ak (ae 9) (ak (wC (.int 2)) (ak (g9 Bn (ae 7)) bS)))))))
 (bT (dr 13 (aM aJ (ak (ae 0) (ak (ae 9) (ak (wC (.int 3)) (ak (wC (.int 3)) bS))))))
 (kH (cH (ae 3)) (gN 14)
 (kH (cH (ae 3)) (gN 15)
 (kC (IU (wB (aw kQ (ae 13) (wC (.int 2)))) (wB (aw kQ (ae 15) (aw vT (aw ft (ae 13) (ae 14)) (ae 3)))))
 (qw (sF 8) (mN (ak (aw ft (ae 10) (aw og (ae 4) (ae 14))) (ak (ae 12) (ak (aw ft (ae 11) (aw og (ae 4) (ae 15))) bS)))) (wC (.bl true)))
 di))))))))
 (bT (kH (cH (aw QC (aw og (ae 3) (ae 4)) (wC (.int 1)))) (gN 9)
 (kC (TF (wB (aw kQ (aM aB (ak (ae 2) (ak (wC (.int 4)) (ak (wC (.int 3)) bS)))) (wC (.int 1)))) (wB (aw TK (aw vT (aw ft (ae 9) (wC (.int 1))) (ae 4)) (wC (.int 0)))))
 (qw (sF 8) (mN (ak (ae 9) (ak (aw dn (ae 7) (wC (.int 0))) (ak (aw ft (ae 9) (wC (.int 1))) bS)))) (wC (.bl true)))
 di))
 (h9 (mN (ak (aw og (ae 3) (ae 4)) (ak (g9 jn (ae 8)) bS))))))))
def cu:WS :=
 (bT (dr 6 (aM aB (ak (ae 2) (ak (wC (.int 3)) (ak (aw og (wC (.int 3)) (ae 4)) bS)))))
 (bT (kC (wB (aw kQ (ae 5) (wC (.int 2))))
 (fI 1 (dr 6 (ae 1)))
 di)
 cj))
def eU:WS :=
 (bT (dr 2 (aM aH (ak (ae 0) (ak (wC (.int 0)) bS))))
 (bT (dr 3 (aw ft (wC (.int 1)) (aw A9 (aM aB (ak (ae 2) (ak (wC (.int 0)) (ak (wC (.int 3)) bS)))) (wC (.int 2)))))
 (bT (dr 4 (aw ft (wC (.int 1)) (aM aB (ak (ae 2) (ak (wC (.int 1)) (ak (wC (.int 8)) bS))))))
 (bT (dr 5 (aM aB (ak (ae 2) (ak (wC (.int 2)) (ak (wC (.int 8)) bS)))))
 (bT (kC (wB (aw kQ (ae 5) (wC (.int 1))))
 (dr 4 (aw A9 (wC (.int 20)) (ae 3)))
 di)
 (bT (kC (wB (aw kQ (ae 5) (wC (.int 3))))
 (dr 4 (aw ft (wC (.int 1)) (aM aB (ak (ae 2) (ak (wC (.int 5)) (ak (aw A9 (wC (.int 20)) (ae 3)) bS))))))
 di)
 cu))))))
def bz:i6:=fun ds Q=>∃ (ns:List Int) (most:Int),ds=[.list (ns.map .int),.int most]/\(1<=most/\most<=100)/\∀ (many:Int) (steps:List cq),1<=many->many<=20->fT many steps->steps.length<=500->steps.Pairwise (fun a b=>cc a b=true)->Q (.ow true) (mD many steps)
theorem jP (ds Q) (h:bz ds Q):ds.length=["_law_script", "_law_most"].length:=by obtain⟨_,_,rfl,_⟩:=h;rfl
theorem fQ{Q:Md->D->Prop}{ns:List Int}{most shape copies states size many:Int}(hc:copies=1\/copies=2)(hs:1<=states)(oB:copies*states<=20)(hmm:0<=many/\many<=1000)(FE:1<=most/\most<=100)
  (h:∀ (many:Int) (steps:List cq),1<=many->many<=20->fT many steps->steps.length<=500->steps.Pairwise (fun a b=>cc a b=true)->Q (.ow true) (mD many steps)) :
  cj { nx:=fun _=>Q .sh .non,rt:=Q } [some (.sh (.list (ns.map .int))),some (.sh (.int most)),some (.sh (.int shape)),some (.sh (.int copies)),some (.sh (.int states)),some (.sh (.int size)),some (.sh (.int many)),none,none,none,none,none,none,none,none,none]:=by
 have pV:states<=20:=by rcases hc with rfl|rfl<;>lia
 unfold cj
 walk_at "q"
 refine⟨ns,1,rfl,by decide,?_⟩
 generalize ns.getD _ 0=c1
 walk_at "q"
 refine⟨c1,rfl,fun names n1 n7 hd=>?_⟩
 walk_at "q"
 have GW:copies*copies=1\/copies*copies=4:=by rcases hc with rfl|rfl<;>decide
 refine⟨bw (by lia) (by lia),by lia,?_⟩
 have gg':∃ r:Int,(if most / (copies*copies)<many then most / (copies*copies) else many)=r/\0<=r/\r<=100:=by
  refine⟨_,rfl,?_⟩
  have:0<=most / (copies*copies)/\most / (copies*copies)<=100:=by rcases GW with e|e<;>rw[e]<;>lia
  split<;>lia
 obtain⟨r,er,r0,r1⟩:=gg'
 rw[er]
 refine⟨by lia,by lia,?_⟩
 refine aR _ (fun i ρ=>∃ (kvs:Kn) (o9 o10 o11 o12 o13 o14 wc:Option Sl),tT (DM (copies*states)) kvs/\kvs.length<=4*i/\ρ=[some (.sh (.list (ns.map .int))),some (.sh (.int most)),some (.sh (.int shape)),some (.sh (.int copies)),some (.sh (.int states)),some (.sh (.int size)),some (.sh (.int many)),some (.ow true (.list (names.map .str))),some (.ow true (.dT kvs)),o9,o10,o11,o12,o13,o14,wc]) ⟨[],_,_,_,_,_,_,_,tT.nil,bX _,rfl⟩ ?_ ?_
 ·rintro i x ρ hx ⟨kvs,o9,o10,o11,o12,o13,o14,wc,hk,kE,rfl⟩ N hN
  obtain⟨hi,rfl⟩:=b8 hx
  walk_at "q"
  refine⟨ns,_,0,states,rfl,by lia,by decide,by lia,fun one a0 a1=>?_⟩
  walk_at "q"
  refine⟨ns,_,1,states,rfl,by lia,by decide,by lia,fun two b0 b1=>?_⟩
  walk_at "q"
  refine⟨ns,_,2,(names.length:Nat),rfl,by lia,by decide,by lia,fun w w0 w1=>?_⟩
  obtain⟨n,hn,en⟩:=xg (names:=names) w0 w1
  walk_at "q"
  refine⟨_,en,?_⟩
  walk_at "q"
  refine⟨ns,_,3,3,rfl,by lia,by decide,by decide,fun way y0 y1=>?_⟩
  walk_at "q"
  refine⟨by lia,by lia,?_⟩
  refine aR _ (fun j ρ=>∃ (kvs:Kn) (o14 wc:Option Sl),tT (DM (copies*states)) kvs/\kvs.length<=4*i+2*j/\ρ=[some (.sh (.list (ns.map .int))),some (.sh (.int most)),some (.sh (.int shape)),some (.sh (.int copies)),some (.sh (.int states)),some (.sh (.int size)),some (.sh (.int many)),some (.ow true (.list (names.map .str))),some (.ow true (.dT kvs)),some (.sh (.int (0+(i:Nat)))),some (.sh (.int one)),some (.sh (.int two)),some (.sh (.str n)),some (.sh (.int way)),o14,wc]) ⟨kvs,_,_,hk,by lia,rfl⟩ ?_ ?_
  ·clear hk kE
   rintro j x ρ hx ⟨kvs,o14,wc,hk,kE,rfl⟩ N hN
   obtain⟨hj,rfl⟩:=b8 hx
   walk_at "q"
   refine⟨by lia,by lia,?_⟩
   refine aR _ (fun l ρ=>∃ (kvs:Kn) (wc:Option Sl),tT (DM (copies*states)) kvs/\kvs.length<=4*i+2*j+l/\ρ=[some (.sh (.list (ns.map .int))),some (.sh (.int most)),some (.sh (.int shape)),some (.sh (.int copies)),some (.sh (.int states)),some (.sh (.int size)),some (.sh (.int many)),some (.ow true (.list (names.map .str))),some (.ow true (.dT kvs)),some (.sh (.int (0+(i:Nat)))),some (.sh (.int one)),some (.sh (.int two)),some (.sh (.str n)),some (.sh (.int way)),some (.sh (.int (0+(j:Nat)))),wc]) ⟨kvs,_,hk,by lia,rfl⟩ ?_ ?_
   ·clear hk kE
    rintro l x ρ hx ⟨kvs,wc,hk,kE,rfl⟩ N hN
    obtain⟨hl,rfl⟩:=b8 hx
    have go:y9 states (0+(j:Nat))/\y9 states (0+(l:Nat))/\kvs.length<16777216/\N [some (.sh (.list (ns.map .int))),some (.sh (.int most)),some (.sh (.int shape)),some (.sh (.int copies)),some (.sh (.int states)),some (.sh (.int size)),some (.sh (.int many)),some (.ow true (.list (names.map .str))),some (.ow true (.dT (mM kvs (iF (one+states*(0+(j:Nat)),n,two+states*(0+(l:Nat)))) (.bl true)))),some (.sh (.int (0+(i:Nat)))),some (.sh (.int one)),some (.sh (.int two)),some (.sh (.str n)),some (.sh (.int way)),some (.sh (.int (0+(j:Nat)))),some (.sh (.int (0+(l:Nat))))]:=by
     have c1:=yC (one:=one) (states:=states) (j:=0+(j:Nat)) (copies:=copies) a0 a1 (by lia) (by lia)
     have c2:=yC (one:=two) (states:=states) (j:=0+(l:Nat)) (copies:=copies) b0 b1 (by lia) (by lia)
     refine⟨bw (by lia) (by lia),bw (by lia) (by lia),by lia,?_⟩
     have:=jW kvs (iF (one+states*(0+(j:Nat)),n,two+states*(0+(l:Nat)))) (D.bl true)
     exact hN _ ⟨_,_,hk.put (s:=(one+states*(0+(j:Nat)),n,two+states*(0+(l:Nat)))) ⟨c1.1,c1.2,hd n hn,c2.1,c2.2⟩,by omega,rfl⟩
    walk_at "q"
    refine R.D (fun e=>?_) fun e=>?_
    ·walk_at "q"
     exact go
    ·walk_at "q"
     refine⟨by lia,R.D (fun e=>?_) fun e=>?_⟩
     ·walk_at "q"
      exact go
     ·walk_at "q"
      exact hN _ ⟨kvs,_,hk,by lia,rfl⟩
   ·clear hk kE
    rintro ρ ⟨kvs,wc,hk,kE,rfl⟩
    rw[bL] at kE
    exact hN _ ⟨kvs,_,_,hk,by lia,rfl⟩
  ·clear hk kE
   rintro ρ ⟨kvs,o14,wc,hk,kE,rfl⟩
   rw[bL] at kE
   exact hN _ ⟨kvs,_,_,_,_,_,_,_,hk,by lia,rfl⟩
 ·rintro ρ ⟨kvs,o9,o10,o11,o12,o13,o14,wc,hk,kE,rfl⟩
  rw[bL] at kE
  walk_at "q"
  have ip':1<=copies*states:=by rcases hc with rfl|rfl<;>lia
  refine⟨bw (by lia) (by lia),by lia,by lia,?_⟩
  refine aR _ (fun i ρ=>∃ (kvs:Kn) (o9:Option Sl),tT (DM (copies*states)) kvs/\kvs.length<=400+i/\ρ=[some (.sh (.list (ns.map .int))),some (.sh (.int most)),some (.sh (.int shape)),some (.sh (.int copies)),some (.sh (.int states)),some (.sh (.int size)),some (.sh (.int many)),some (.ow true (.list (names.map .str))),some (.ow true (.dT kvs)),o9,o10,o11,o12,o13,o14,wc]) ⟨kvs,_,hk,by lia,rfl⟩ ?_ ?_
  ·clear hk kE
   rintro i x ρ hx ⟨kvs,o9,hk,kE,rfl⟩ N hN
   obtain⟨hi,rfl⟩:=b8 hx
   walk_at "q"
   refine⟨_,4,3,rfl,by decide,by decide,fun q q0 q1=>?_⟩
   walk_at "q"
   refine R.D (fun e=>?_) fun e=>?_
   ·walk_at "q"
    refine⟨by lia,R.D (fun e2=>?_) fun e2=>?_⟩
    ·obtain⟨n,hn,en⟩:=xg (names:=names) (i:=0) (by decide) (by lia)
     walk_at "q"
     refine⟨_,en,?_⟩
     walk_at "q"
     refine⟨by lia,?_⟩
     have:=jW kvs (iF (0+(i:Nat),n,0+(i:Nat)+1)) (D.bl true)
     exact hN _ ⟨_,_,hk.put (s:=(0+(i:Nat),n,0+(i:Nat)+1)) ⟨(by lia : (0:Int)<=0+(i:Nat)),(by lia : 0+((i:Nat):Int)<copies*states),hd n hn,(by lia : (0:Int)<=0+(i:Nat)+1),(by lia : 0+((i:Nat):Int)+1<copies*states)⟩,by lia,rfl⟩
    ·walk_at "q"
     exact hN _ ⟨kvs,_,hk,by lia,rfl⟩
   ·walk_at "q"
    exact hN _ ⟨kvs,_,hk,by lia,rfl⟩
  ·clear hk kE
   rintro ρ ⟨kvs,o9,hk,kE,rfl⟩
   rw[bL] at kE
   walk_at "q"
   refine⟨bw (by lia) (by lia),?_⟩
   refine hk.DW fun steps pm hP pw hlen=>?_
   rw[vQ]
   exact h _ steps (by rcases hc with rfl|rfl<;>lia) oB hP (by lia) pw
theorem du{Q:Md->D->Prop}{ns:List Int}{most shape copies states size:Int}(hc:copies=1\/copies=2)(hs:1<=states)(oB:copies*states<=20)(FE:1<=most/\most<=100)
  (h:∀ (many:Int) (steps:List cq),1<=many->many<=20->fT many steps->steps.length<=500->steps.Pairwise (fun a b=>cc a b=true)->Q (.ow true) (mD many steps)) :
  cu { nx:=fun _=>Q .sh .non,rt:=Q } [some (.sh (.list (ns.map .int))),some (.sh (.int most)),some (.sh (.int shape)),some (.sh (.int copies)),some (.sh (.int states)),some (.sh (.int size)),none,none,none,none,none,none,none,none,none,none]:=by
 have pV:states<=20:=by rcases hc with rfl|rfl<;>lia
 obtain⟨w8,e8⟩:∃ w8,w8=cj:=⟨_,rfl⟩
 unfold cu
 rw[<- e8]
 walk_at "q"
 refine⟨jf (by lia) (by lia),_,3,_,rfl,by decide,by lia,fun many m0 m1=>?_⟩
 walk_at "q"
 refine R.D (fun e=>?_) fun e=>?_
 ·walk_at "q"
  rw[e8]
  exact fQ hc hs oB ⟨by lia,by lia⟩ FE h
 ·walk_at "q"
  rw[e8]
  exact fQ hc hs oB ⟨by lia,by lia⟩ FE h
theorem nj:∀ ds Q,bz ds Q->eU { nx:=fun _=>Q .sh .non,rt:=Q } (bh 16 ds):=by
 rintro ds Q ⟨ns,most,rfl,FE,h⟩
 obtain⟨w6,e6⟩:∃ w6,w6=cu:=⟨_,rfl⟩
 unfold eU
 rw[<- e6]
 walk_at "q"
 refine⟨ns,0,rfl,by decide,?_⟩
 generalize ns.getD _ 0=shape
 walk_at "q"
 refine⟨shape,0,3,rfl,by decide,by decide,fun c c0 c1=>?_⟩
 walk_at "q"
 refine⟨shape,1,8,rfl,by decide,by decide,fun st s0 s1=>?_⟩
 walk_at "q"
 refine⟨shape,2,8,rfl,by decide,by decide,fun size z0 z1=>?_⟩
 walk_at "q"
 have hc:1+c / 2=1\/1+c / 2=2:=by lia
 generalize 1+c / 2=copies at hc ⊢
 refine R.D (fun e=>?_) fun e=>?_
 ·walk_at "q"
  refine⟨by lia,?_⟩
  refine R.F (by simp;lia) ?_
  walk_at "q"
  rw[e6]
  exact du hc (by rcases hc with rfl|rfl<;>lia) (by rcases hc with rfl|rfl<;>lia) FE h
 ·walk_at "q"
  refine R.D (fun e=>?_) fun e=>?_
  ·walk_at "q"
   refine⟨by lia,?_⟩
   refine⟨shape,5,_,rfl,by decide,by rcases hc with rfl|rfl<;>lia,fun q q0 q1=>?_⟩
   walk_at "q"
   rw[e6]
   exact du hc (by lia) (by rcases hc with rfl|rfl<;>lia) FE h
  ·walk_at "q"
   rw[e6]
   exact du hc (by lia) (by rcases hc with rfl|rfl<;>lia) FE h
def jo:WS :=
 (h9 (Rj (aM cF (ak (ae 0) bS)) (g9 NX (wC (.int 1)))))
def bj:i6:=fun ds Q=>∃ (many:Int) (steps:List cq),ds=[mD many steps]/\(1<=many/\many<=100)/\fT many steps/\steps.length<=1000/\∀ k,Kinds many steps k->Q (.ow true) (.list (k.map .int))
theorem rA (ds Q) (h:bj ds Q):ds.length=["m"].length:=by obtain⟨_,_,rfl,_⟩:=h;rfl
theorem wH:∀ ds Q,bj ds Q->jo { nx:=fun _=>Q .sh .non,rt:=Q } (bh 1 ds):=by
 rintro ds Q ⟨many,steps,rfl,hm,aC,hl,h⟩
 unfold jo
 rw[show bh 1 [mD many steps]=[some (.sh (mD many steps))] from rfl]
 walk_at "q"
 refine⟨many,steps,rfl,hm,aC,hl,fun rest hc hr=>?_⟩
 unfold YV
 walk_at "q"
 refine⟨_,yj _ _,?_⟩
 unfold AA
 walk_at "q"
 exact h _ ⟨rest,hc,rfl⟩
def sJ:WS :=
 (bT (tG (aM aK (ak (ae 0) (ak (ae 1) bS))))
 (bT (tG (aM aK (ak (ae 0) (ak (ae 2) bS))))
 (bT (dr 3 (aM bj (ak (ae 0) bS)))
 (h9 (aw kQ (aw dn (ae 3) (ae 1)) (aw dn (ae 3) (ae 2)))))))
def dY:i6:=fun ds Q=>∃ (many:Int) (l:List cq) (p q:Int),ds=[mD many l,.int p,.int q]/\(1<=many/\many<=100)/\fT many l/\l.length<=1000/\fA many (p,q)/\∀ k,Kinds many l k->Q .sh (.bl (decide (rk k p=rk k q)))
theorem yh (ds Q) (h:dY ds Q):ds.length=["m", "p", "q"].length:=by obtain⟨_,_,_,_,rfl,_⟩:=h;rfl
theorem Gp:∀ ds Q,dY ds Q->sJ { nx:=fun _=>Q .sh .non,rt:=Q } (bh 4 ds):=by
 rintro ds Q ⟨many,l,p,q,rfl,hm,aC,hl,hx,h⟩
 unfold sJ
 rw[show bh 4 [mD many l,.int p,.int q]=[some (.sh (mD many l)),some (.sh (.int p)),some (.sh (.int q)),none] from rfl]
 walk_at "q"
 refine⟨many,l,p,rfl,hx.1.1,hx.1.2,?_⟩
 walk_at "q"
 refine⟨many,l,q,rfl,hx.2.1,hx.2.2,?_⟩
 walk_at "q"
 refine⟨many,l,rfl,hm,aC,hl,fun k hk=>?_⟩
 walk_at "q"
 refine⟨_,m7 hk.rb.len hx.1.1 hx.1.2,?_⟩
 walk_at "q"
 refine⟨_,m7 hk.rb.len hx.2.1 hx.2.2,?_⟩
 walk_at "q"
 exact h k hk
def jd:WS :=
 (bT (kC (yi (wB (aM dY (ak (ae 0) (ak (ae 1) (ak (ae 2) bS))))))
 (h9 (wC .non))
 di)
 (bT (dr 3 (aM bj (ak (ae 0) bS)))
 (bT (dr 4 (qq bS))
 (bT (kH (cH (aw dn (ae 0) (wC (.int 0)))) (gN 5)
 (fI 5 (T_ (sF 4) (eG (cH (aw dn (ae 0) (wC (.int 0)))) (gN 0) (wB (aw kQ (aw dn (ae 2) (ae 1)) (aw dn (ae 2) (ae 0)))) (mN (ak (ae 1) (ak (ae 0) bS))) 1 [5,3]))))
 (rZ 4)))))
def bN:i6:=fun ds Q=>∃ (many:Int) (l:List cq) (p q:Int),ds=[mD many l,.int p,.int q]/\(1<=many/\many<=100)/\fT many l/\l.length<=1000/\fA many (p,q)/\∀ k,Kinds many l k->(rk k p≠rk k q->Q .sh .non)/\(rk k p=rk k q->∀ ps,Tbl many k ps->ps.length<=10000->Q (.ow true) (.list (ps.map eh)))
theorem qp (ds Q) (h:bN ds Q):ds.length=["m", "p", "q"].length:=by obtain⟨_,_,_,_,rfl,_⟩:=h;rfl
def YX(k:List Int)(a:Int)(x:D):Bool:=match x with
 |.int b=>decide (rk k a=rk k b)
 |_=>false
def YY(a:Int)(x:D):D:=.tup [.int a,x]
theorem Ir(k:List Int)(a:Int)(n:Nat):∃ os:List P2,((nR 0 n).filter (YX k a)).map (YY a)=os.map eh/\os.Pairwise Ur/\(∀ x,x∈os↔x.1=a/\(0<=x.2/\x.2<n)/\rk k a=rk k x.2)/\os.length<=n:=by
 refine⟨((List.range n).filter fun i:Nat=>decide (rk k a=rk k (0+(i:Nat)))).map fun i:Nat=>((a,0+((i:Nat):Int)):P2),?_,?_,fun x=>?_,?_⟩
 ·unfold nR
  rw[List.filter_map,fR,fR]
  rfl
 ·rw[pE]
  refine(List.pairwise_lt_range.filter _).imp fun {i j} h=>.inr ⟨rfl,?_⟩
  show(0:Int)+(i:Nat)<0+(j:Nat)
  lia
 ·rw[cK]
  constructor
  ·rintro⟨i,hi,rfl⟩
   obtain⟨h1,h2⟩:=sQ.mp hi
   have h1:=oi.mp h1
   exact⟨rfl,⟨(by lia : (0:Int)<=0+(i:Nat)),(by lia : (0:Int)+(i:Nat)<n)⟩,of_decide_eq_true h2⟩
  ·rintro⟨h1,h2,h3⟩
   obtain⟨c,d⟩:=x
   have h1:c=a:=h1
   have h2:0<=d/\d<n:=h2
   subst h1
   refine⟨d.toNat,sQ.mpr ⟨oi.mpr (by lia),decide_eq_true ?_⟩,?_⟩
   ·rw[xB h2.1,Int.zero_add]
    exact h3
   ·rw[xB h2.1,Int.zero_add]
 ·rw[b4]
  exact iO (Rv _ _) (by rw[Ph];exact bX _)
theorem vM:∀ ds Q,bN ds Q->jd { nx:=fun _=>Q .sh .non,rt:=Q } (bh 6 ds):=by
 rintro ds Q ⟨many,l,p,q,rfl,hm,aC,hl,hx,h1⟩
 unfold jd
 rw[show bh 6 [mD many l,.int p,.int q]=[some (.sh (mD many l)),some (.sh (.int p)),some (.sh (.int q)),none,none,none] from rfl]
 walk_at "q"
 refine⟨many,l,p,q,rfl,hm,aC,hl,hx,fun k hk=>?_⟩
 ·walk_at "q"
  by_cases e:rk k p=rk k q
  ·refine R.F (by rw[decide_eq_true e];rfl) ?_
   walk_at "q"
   refine⟨many,l,rfl,hm,aC,hl,fun k2 qk=>?_⟩
   rw[qk.uniq aC hk]
   unfold mD
   walk_at "q"
   refine⟨by lia,by lia,?_⟩
   refine aR _ (fun i ρ=>∃ (ps:List P2) (o5:Option Sl),(ps.Pairwise Ur/\(∀ x,x∈ps↔(fA many x/\rk k x.1=rk k x.2)/\x.1<i)/\ps.length<=100*i)/\ρ=[some (.sh (.tup [.int many,.list (l.map dz)])),some (.sh (.int p)),some (.sh (.int q)),some (.ow true (.list (k.map .int))),some (.ow true (.list (ps.map eh))),o5]) ⟨[],_,⟨.nil,fun x=>⟨fun z=>(nomatch z),fun z=>absurd z.2 (by have:=z.1.1.1.1;lia)⟩,bX _⟩,rfl⟩ ?_ ?_
   ·rintro i x ρ Uw ⟨ps,o5,⟨up,mem,pl⟩,rfl⟩ N hN
    obtain⟨hi,rfl⟩:=b8 Uw
    walk_at "q"
    refine⟨by lia,by lia,?_⟩
    refine cN (YX k (0+(i:Nat))) (YY (0+(i:Nat))) (fun ρ=>∃ o,ρ=[o,some (.sh (.int (0+(i:Nat)))),some (.sh (.list (k.map .int)))]) _ _ _ ⟨_,rfl⟩ ?_ ?_
    ·rintro y hy ρ ⟨o,rfl⟩ N1 N2 n1 n2
     obtain⟨j,hj,rfl⟩:=cK.mp hy
     have hj:=oi.mp hj
     walk_at "q"
     refine⟨_,m7 hk.rb.len (by lia) (by lia),?_⟩
     walk_at "q"
     refine⟨_,m7 hk.rb.len (by lia) (by lia),?_⟩
     walk_at "q"
     by_cases en:rk k (0+(i:Nat))=rk k (0+(j:Nat))
     ·rw[if_pos (decide_eq_true en)]
      exact⟨.inl rfl,n2 _ ⟨_,rfl⟩ (decide_eq_true en)⟩
     ·rw[if_neg (by rw[decide_eq_true_iff];exact en)]
      exact n1 _ ⟨_,rfl⟩ (decide_eq_false en)
    obtain⟨os,eo,oup,YZ,ol⟩:=Ir k (0+(i:Nat)) many.toNat
    rw[eo]
    refine⟨eN _,by simp;lia,hN _ ⟨ps++os,_,⟨?_,fun x=>?_,by rw[ng];lia⟩,by rw[sR]⟩⟩
    ·refine FI.mpr ⟨up,oup,fun a ha b hb=>.inl ?_⟩
     have h3:=((mem a).mp ha).2
     have h4:=((YZ b).mp hb).1
     lia
    ·rw[dP,mem,YZ]
     constructor
     ·rintro(⟨z,y⟩|⟨z1,z2,z3⟩)
      ·exact⟨z,by lia⟩
      ·exact⟨⟨⟨by lia,by lia⟩,by rw[z1];exact z3⟩,by lia⟩
     ·rintro⟨⟨z,y⟩,w⟩
      by_cases c:x.1<i
      ·exact .inl ⟨⟨z,y⟩,c⟩
      ·have c:x.1=0+(i:Nat):=by lia
       have z2:=z.2
       exact .inr ⟨c,by lia,by rw[<- c];exact y⟩
   ·rintro ρ ⟨ps,o5,⟨up,mem,pl⟩,rfl⟩
    rw[bL] at mem pl
    walk_at "q"
    exact(h1 k hk).2 e ps ⟨up,fun x=>(mem x).trans ⟨fun z=>z.1,fun z=>⟨z,by have:=z.1.1.2;lia⟩⟩⟩ (by lia)
  ·refine R.T (by rw[decide_eq_false e];rfl) ?_
   walk_at "q"
   exact(h1 k hk).1 e
def ik:WS :=
 (bT (dr 3 (aM dY (ak (ae 0) (ak (aw dn (ae 1) (wC (.int 0))) (ak (aw dn (ae 1) (wC (.int 1))) bS)))))
 (bT (kC (IU (yi (wB (g9 (QH "bool") (ae 3)))) (wB (aw Bi (ae 3) (ae 2))))
 (h9 (wC (.bl false)))
 di)
 (h9 (aw kQ (aw FZ (aM bN (ak (ae 0) (ak (aw dn (ae 1) (wC (.int 0))) (ak (aw dn (ae 1) (wC (.int 1))) bS)))) (wC .non)) (ae 2)))))
def cJ:i6:=fun ds Q=>∃ (many:Int) (l:List cq) (x:P2) (k:List Int),ds=[mD many l,eh x,.bl (decide (rk k x.1=rk k x.2))]/\(1<=many/\many<=100)/\fT many l/\l.length<=1000/\fA many x/\Kinds many l k/\Q .sh (.bl true)
theorem oK (ds Q) (h:cJ ds Q):ds.length=["_law_m", "_law_pair", "_law_good"].length:=by obtain⟨_,_,_,_,rfl,_⟩:=h;rfl
theorem tE:∀ ds Q,cJ ds Q->ik { nx:=fun _=>Q .sh .non,rt:=Q } (bh 4 ds):=by
 rintro ds Q ⟨many,l,x,k,rfl,hm,aC,hl,hx,hk,h⟩
 unfold ik
 rw[show eh x=.tup [.int x.1,.int x.2] from rfl]
 walk_at "q"
 refine⟨many,l,x.1,x.2,rfl,hm,aC,hl,hx,fun k2 qk=>?_⟩
 rw[qk.uniq aC hk]
 walk_at "q"
 refine R.F (by decide) ?_
 walk_at "q"
 refine⟨many,l,x.1,x.2,rfl,hm,aC,hl,hx,fun k2 qk=>?_⟩
 rw[qk.uniq aC hk]
 refine⟨fun ne=>?_,fun e ps ht htl=>?_⟩
 ·rw[decide_eq_false ne]
  walk_at "q"
  exact h
 ·rw[decide_eq_true e]
  walk_at "q"
  exact h
def jY:WS :=
 (kH (cO (Uj (aM bN (ak (ae 7) (ak (aw dn (ae 6) (wC (.int 0))) (ak (aw dn (ae 6) (wC (.int 1))) bS)))) (qq bS))) (gN 14)
 (kC (wB (aw (zS true) (ae 14) (ae 5)))
 (h9 (wC (.bl false)))
 di))
def kh:WS :=
 (fI 2 (fI 1 (h9 (aw kQ (ae 7) (mN (ak (ae 1) (ak (ae 2) bS)))))))
def jX:WS :=
 (bT (kH (cO (aw ft (I0 (ae 11) lC (rE (wC (.int 4)))) (I0 (g9 jn (ae 5)) lC (rE (wC (.int 4)))))) (gN 6)
 (bT (kC (yi (wB (aM cJ (ak (ae 7) (ak (ae 6) (ak (aw (zS false) (ae 6) (ae 5)) bS))))))
 (h9 (wC (.bl false)))
 di)
 jY))
 kh)
def uA:WS :=
 (bT (fI 13 (kH (cO (ae 13)) (gT 2 (aX (gN 9) (aX (gN 10) gP)))
 (kC (wB (aw Bi (aw dn (ae 8) (ae 9)) (aw dn (ae 8) (ae 10))))
 (h9 (wC (.bl false)))
 di)))
 jX)
def jU:WS :=
 (bT (kC (IU (wB (aw Am (aM cB (ak (ae 7) (ak (g9 t_ (ae 13)) bS))) (wC (.bl true)))) (wB (aw Am (aM cB (ak (ae 7) (ak (g9 jn (ae 5)) bS))) (wC (.bl true)))))
 (h9 (wC (.bl false)))
 di)
 uA)
def uv:WS :=
 (bT (dr 13 (aM bu (ak (ae 3) (ak (aw ft (ae 11) (I0 (g9 t_ (ae 5)) lC (rE (aM aJ (ak (ae 0) (ak (wC (.int 80)) (ak (wC (.int 2)) (ak (aw ft (g9 Bn (ae 5)) (wC (.int 1))) bS)))))))) bS))))
 jU)
def qi:WS :=
 (bT (dr 11 (qq bS))
 (bT (kH (cH (aw og (wC (.int 4)) (ae 1))) (gN 12)
 (DH (sF 11) (mN (ak (aM aJ (ak (ae 0) (ak (aw ft (wC (.int 90)) (ae 12)) (ak (wC (.int 0)) (ak (ae 1) bS))))) (ak (aM aJ (ak (ae 0) (ak (aw ft (wC (.int 90)) (ae 12)) (ak (wC (.int 1)) (ak (ae 1) bS))))) bS)))))
 uv))
def pU:WS :=
 (bT (fI 4 (kH (cO (ae 4)) (gT 2 (aX (gN 9) (aX (gN 10) gP)))
 (fI 10 (fI 9 (kC (wB (aw Bi (aw kQ (aw dn (ae 8) (ae 9)) (aw dn (ae 8) (ae 10))) (aw (zS false) (mN (ak (ae 9) (ak (ae 10) bS))) (ae 5))))
 (h9 (wC (.bl false)))
 di)))))
 qi)
def oZ:WS :=
 (bT (fI 1 (dr 7 (mN (ak (ae 1) (ak (g9 t_ (ae 2)) bS)))))
 (bT (dr 8 (aM bj (ak (ae 7) bS)))
 (bT (kC (IU (yi (wB (g9 (QH "list") (ae 8)))) (wB (aw Bi (g9 Bn (ae 8)) (ae 1))))
 (h9 (wC (.bl false)))
 di)
 pU)))
def Gq:WS :=
 (bT (GD 1 2 (Q7 (aM bz (ak (ae 0) (ak (wC (.int 100)) bS)))))
 (bT (dr 3 (aM cD (ak (ae 1) (ak (ae 2) bS))))
 (bT (dr 4 (eG (cH (aw og (ae 1) (ae 1))) (gN 0) sD (mN (ak (aw A9 (ae 0) (ae 1)) (ak (aw vT (ae 0) (ae 1)) bS))) 1 [1]))
 (bT (dr 5 mU)
 (bT (kH (cO (aM bu (ak (ae 3) (ak (ae 4) bS)))) (gN 6)
 (qw (sF 5) (ae 6) (wC (.bl true))))
 oZ)))))
abbrev K0:i6:=X5
theorem Gg (ds Q) (h:K0 ds Q):ds.length=["_law_script"].length:=by obtain⟨_,rfl,_⟩:=h;rfl
theorem BP{Q:Md->D->Prop}{ns:List Int}{many:Int}{steps:List cq}{o3 o4 o5 o6 o8 o9 o10 o11 o12 o13 o14:Option Sl}(aC:fT many steps)(h:∀ m,Q m (.bl true)) :
  kh { nx:=fun _=>Q .sh .non,rt:=Q } [some (.sh (.list (ns.map .int))),some (.sh (.int many)),some (.sh (.list (steps.map dz))),o3,o4,o5,o6,some (.ow true (.tup [.int many,.list (steps.map dz)])),o8,o9,o10,o11,o12,o13,o14]:=by
 unfold kh
 walk_at "q"
 refine⟨YG 9 aC,YG 9 aC,?_⟩
 rw[show gS (.tup [.int many,.list (steps.map dz)]) (.tup [.int many,.list (steps.map dz)])=true from eq_self (fO' _ _)]
 exact h _
theorem zJ(l:List P2)(lo hi:Option Int):kB (l.map eh) lo hi=(kB l lo hi).map eh:=by
 unfold kB
 rw[b4,List.map_take,List.map_drop]
theorem zF(l:List P2):(l.map i9).map kc=l.map eh:=by rw[fR];rfl
section
variable {Q:Md->D->Prop}{ns:List Int}{many:Int}{steps:List cq}{ks:List P2}{k:List Int}(m1:1<=many)(m2:many<=20)(aC:fT many steps)(hl:steps.length<=500)(hk:Kinds many steps k)(kl:ks.length<=400)(bk:∀ x,x∈ks↔fA many x/\rk k x.1=rk k x.2)(h:∀ m,Q m (.bl true))
include m1 m2 aC hl hk kl bk h
theorem z8{N B:L2.Q.Env->Prop}{o4 o9 o10 o11 o12 o13 o14:Option Sl}{p q:Int}(hx:fA many (p,q))(hN:∀ o14,N [some (.sh (.list (ns.map .int))),some (.sh (.int many)),some (.sh (.list (steps.map dz))),some (.ow true (gV many steps)),o4,some (.ow true (.dT (eI ks))),some (.sh (.tup [.int p,.int q])),some (.ow true (.tup [.int many,.list (steps.map dz)])),some (.ow true (.list (k.map .int))),o9,o10,o11,o12,o13,o14]) :
  jY { nx:=N,ct:=N,bk:=B,rt:=Q } [some (.sh (.list (ns.map .int))),some (.sh (.int many)),some (.sh (.list (steps.map dz))),some (.ow true (gV many steps)),o4,some (.ow true (.dT (eI ks))),some (.sh (.tup [.int p,.int q])),some (.ow true (.tup [.int many,.list (steps.map dz)])),some (.ow true (.list (k.map .int))),o9,o10,o11,o12,o13,o14]:=by
 unfold jY
 walk_at "q"
 refine⟨many,steps,p,q,rfl,by lia,aC,by lia,hx,fun k2 qk=>?_⟩
 rw[qk.uniq aC hk]
 have go:∀ ps:List P2,(∀ x∈ps,x∈ks)->iQ (gN 14) (kC (wB (aw (zS true) (ae 14) (ae 5))) (h9 (wC (.bl false))) di) { nx:=N,ct:=N,bk:=B,rt:=Q } (ps.map eh) [some (.sh (.list (ns.map .int))),some (.sh (.int many)),some (.sh (.list (steps.map dz))),some (.ow true (gV many steps)),o4,some (.ow true (.dT (eI ks))),some (.sh (.tup [.int p,.int q])),some (.ow true (.tup [.int many,.list (steps.map dz)])),some (.ow true (.list (k.map .int))),o9,o10,o11,o12,o13,o14]:=fun ps hp=>by
  refine aR _ (fun i ρ=>∃ (o14:Option Sl),ρ=[some (.sh (.list (ns.map .int))),some (.sh (.int many)),some (.sh (.list (steps.map dz))),some (.ow true (gV many steps)),o4,some (.ow true (.dT (eI ks))),some (.sh (.tup [.int p,.int q])),some (.ow true (.tup [.int many,.list (steps.map dz)])),some (.ow true (.list (k.map .int))),o9,o10,o11,o12,o13,o14]) ⟨_,rfl⟩ ?_ ?_
  ·rintro i x ρ Uw ⟨o14,rfl⟩ N hN
   obtain⟨a,b,rfl,hm,tk⟩:=nH Uw
   walk_at "q"
   have e1:=gF ks (a,b)
   unfold i9 at e1
   rw[e1,decide_eq_true (hp _ hm)]
   walk_at "q"
   exact hN _ ⟨_,rfl⟩
  ·rintro ρ ⟨o14,rfl⟩
   exact hN _
 refine⟨fun ne=>?_,fun e ps ht htl=>?_⟩
 ·walk_at "q"
  exact hN _
 ·walk_at "q"
  split
  ·exact go ps fun x hx=>(bk x).mpr ((ht.mem x).mp hx)
  ·exact hN _
theorem zQ{o4 o6 o9 o10 o12 o13:Option Sl}{so:List P2}(DT:∀ x∈so,fA many x)(Bz:so.length<=1000) :
  jX { nx:=fun _=>Q .sh .non,rt:=Q } [some (.sh (.list (ns.map .int))),some (.sh (.int many)),some (.sh (.list (steps.map dz))),some (.ow true (gV many steps)),o4,some (.ow true (.dT (eI ks))),o6,some (.ow true (.tup [.int many,.list (steps.map dz)])),some (.ow true (.list (k.map .int))),o9,o10,some (.ow true (.list (so.map eh))),o12,o13,none]:=by
 obtain⟨w0,e0⟩:∃ w0,w0=jY:=⟨_,rfl⟩
 obtain⟨w15,Ux⟩:∃ w15,w15=kh:=⟨_,rfl⟩
 unfold jX
 rw[<- e0,<- Ux]
 walk_at "q"
 refine .inl ⟨eN _,uf fun out pm=>?_⟩
 rw[zF,zJ,zJ]
 have c1:=gM so none (some 4)
 have c2:=gM out none (some 4)
 have i1:∀ x∈kB so none (some 4),fA many x:=fun x hx=>DT x (FK (DZ hx))
 have i2:∀ x∈kB out none (some 4),fA many x:=fun x hx=>((bk x).mp (pm.mem_iff.mp (FK (DZ hx)))).1
 have pl:=pm.length_eq
 refine .inl ⟨eN _,by rw[b4,b4];lia,.inl ⟨eN _,eN _,?_⟩⟩
 rw[<- sR]
 have i3:=fA.app i1 i2
 generalize kB so none (some 4)++kB out none (some 4)=vs at *
 refine aR _ (fun i ρ=>∃ (o6 o14:Option Sl),ρ=[some (.sh (.list (ns.map .int))),some (.sh (.int many)),some (.sh (.list (steps.map dz))),some (.ow true (gV many steps)),o4,some (.ow true (.dT (eI ks))),o6,some (.ow true (.tup [.int many,.list (steps.map dz)])),some (.ow true (.list (k.map .int))),o9,o10,some (.ow true (.list (so.map eh))),o12,o13,o14]) ⟨_,_,rfl⟩ ?_ ?_
 ·rintro i x ρ hx ⟨o6,o14,rfl⟩ N hN
  obtain⟨p,q,rfl,hm,tk⟩:=nH hx
  have ip:=i3 _ hm
  walk_at "q"
  have e1:=gF ks (p,q)
  unfold i9 at e1
  rw[e1,show decide ((p,q)∈ks)=decide (rk k p=rk k q) from decide_eq_decide.mpr ((bk _).trans ⟨fun z=>z.2,fun z=>⟨ip,z⟩⟩)]
  refine⟨many,steps,(p,q),k,rfl,by lia,aC,by lia,ip,hk,?_⟩
  walk_at "q"
  rw[e0]
  exact z8 m1 m2 aC hl hk kl bk h ip fun o14=>hN _ ⟨_,_,rfl⟩
 ·rintro ρ ⟨o6,o14,rfl⟩
  rw[Ux]
  exact BP (ns:=ns) (o3:=some (.ow true (gV many steps))) (o4:=o4) (o5:=some (.ow true (.dT (eI ks)))) (o6:=o6) (o8:=some (.ow true (.list (k.map .int)))) (o9:=o9) (o10:=o10) (o11:=some (.ow true (.list (so.map eh)))) (o12:=o12) (o13:=o13) (o14:=o14) aC h
theorem Az{o4 o6 o9 o10 o12:Option Sl}{so left:List P2}(DT:∀ x∈so,fA many x)(Bz:so.length<=1000)(kb:∀ x∈ks,ja steps ks x)(QX:∀ x∈left,fA many x)(Y0:∀ x∈left,ja steps left x)(Rm:left.length<=2000) :
  jU { nx:=fun _=>Q .sh .non,rt:=Q } [some (.sh (.list (ns.map .int))),some (.sh (.int many)),some (.sh (.list (steps.map dz))),some (.ow true (gV many steps)),o4,some (.ow true (.dT (eI ks))),o6,some (.ow true (.tup [.int many,.list (steps.map dz)])),some (.ow true (.list (k.map .int))),o9,o10,some (.ow true (.list (so.map eh))),o12,some (.ow true (.list (left.map eh))),none]:=by
 obtain⟨w14,Uy⟩:∃ w14,w14=jX:=⟨_,rfl⟩
 unfold jU uA
 rw[<- Uy]
 walk_at "q"
 refine .inl ⟨eN _,many,steps,left,rfl,by lia,aC,by lia,by lia,QX,fun b hb=>?_⟩
 rw[hb.mpr Y0]
 walk_at "q"
 refine uf fun out pm=>?_
 rw[zF]
 have ob:∀ x∈out,ja steps out x:=fun x hx=>(ja.congr fun y=>pm.mem_iff).mpr (kb x (pm.mem_iff.mp hx))
 refine⟨many,steps,out,rfl,by lia,aC,by lia,by have:=pm.length_eq;lia,fun x hx=>((bk x).mp (pm.mem_iff.mp hx)).1,fun b hb=>?_⟩
 rw[hb.mpr ob]
 walk_at "q"
 refine R.F (by decide) ?_
 walk_at "q"
 refine aR _ (fun i ρ=>∃ (o9 o10:Option Sl),ρ=[some (.sh (.list (ns.map .int))),some (.sh (.int many)),some (.sh (.list (steps.map dz))),some (.ow true (gV many steps)),o4,some (.ow true (.dT (eI ks))),o6,some (.ow true (.tup [.int many,.list (steps.map dz)])),some (.ow true (.list (k.map .int))),o9,o10,some (.ow true (.list (so.map eh))),o12,some (.sh (.list (left.map eh))),none]) ⟨_,_,rfl⟩ ?_ ?_
 ·rintro i x ρ hx ⟨o9,o10,rfl⟩ N hN
  obtain⟨p,q,rfl,hm,tk⟩:=nH hx
  have ip:=QX _ hm
  have er:=hk.same aC QX Y0 _ hm
  have er:rk k p=rk k q:=er
  walk_at "q"
  refine⟨_,m7 hk.rb.len ip.1.1 ip.1.2,?_⟩
  walk_at "q"
  refine⟨_,m7 hk.rb.len ip.2.1 ip.2.2,?_⟩
  walk_at "q"
  refine R.F (by rw[decide_eq_true er];rfl) ?_
  walk_at "q"
  exact hN _ ⟨_,_,rfl⟩
 ·rintro ρ ⟨o9,o10,rfl⟩
  rw[Uy]
  exact zQ m1 m2 aC hl hk kl bk h DT Bz
theorem DP{o4 o6 o9 o10:Option Sl}(kb:∀ x∈ks,ja steps ks x) :
  qi { nx:=fun _=>Q .sh .non,rt:=Q } [some (.sh (.list (ns.map .int))),some (.sh (.int many)),some (.sh (.list (steps.map dz))),some (.ow true (gV many steps)),o4,some (.ow true (.dT (eI ks))),o6,some (.ow true (.tup [.int many,.list (steps.map dz)])),some (.ow true (.list (k.map .int))),o9,o10,none,none,none,none]:=by
 obtain⟨w12,Uz⟩:∃ w12,w12=jU:=⟨_,rfl⟩
 unfold qi uv
 rw[<- Uz]
 walk_at "q"
 refine⟨bw (by lia) (by lia),by lia,by lia,?_⟩
 refine aR _ (fun i ρ=>∃ (so:List P2) (o12:Option Sl),(∀ x∈so,fA many x)/\so.length=i/\ρ=[some (.sh (.list (ns.map .int))),some (.sh (.int many)),some (.sh (.list (steps.map dz))),some (.ow true (gV many steps)),o4,some (.ow true (.dT (eI ks))),o6,some (.ow true (.tup [.int many,.list (steps.map dz)])),some (.ow true (.list (k.map .int))),o9,o10,some (.ow true (.list (so.map eh))),o12,none,none]) ⟨[],_,(fun x hx=>nomatch hx),rfl,rfl⟩ ?_ ?_
 ·rintro i x ρ hx ⟨so,o12,DT,Bz,rfl⟩ N hN
  obtain⟨hi,rfl⟩:=b8 hx
  walk_at "q"
  refine⟨ns,_,0,many,rfl,by lia,by decide,by lia,fun p p0 p1=>?_⟩
  walk_at "q"
  refine⟨ns,_,1,many,rfl,by lia,by decide,by lia,fun q q0 q1=>?_⟩
  walk_at "q"
  refine⟨by lia,hN _ ⟨so++[(p,q)],_,fA.app DT fun x hx=>?_,by simp[Bz],(by rw[sR];rfl)⟩⟩
  rw[kU.mp hx]
  exact⟨⟨p0,p1⟩,q0,q1⟩
 ·rintro ρ ⟨so,o12,DT,Bz,rfl⟩
  rw[bL] at Bz
  walk_at "q"
  refine⟨ns,80,2,_,rfl,by decide,by decide,by lia,fun r r0 r1=>?_⟩
  walk_at "q"
  rw[show(eI ks).map (fun kv=>D.tup (kv.1.map ot))=ks.map eh from xV ks,zJ]
  have c1:=gM ks none (some r)
  have ci:∀ x∈so++kB ks none (some r),fA many x:=fA.app DT fun x hx=>((bk x).mp (FK (DZ hx))).1
  refine .inl ⟨eN _,by rw[b4];lia,.inl ⟨eN _,eN _,?_⟩⟩
  rw[<- sR]
  refine⟨many,steps,so++kB ks none (some r),rfl,by rw[ng];lia,ci,fun left hp=>?_⟩
  walk_at "q"
  rw[Uz]
  exact Az m1 m2 aC hl hk kl bk h DT (by lia) kb (fun x hx=>ci x (hp.sub x hx)) hp.both (by have:=hp.len;rw[ng] at this;lia)
theorem Dz{o6:Option Sl}{ps:List P2}(kb:∀ x∈ks,ja steps ks x)(xk:∀ x∈ps,fA many x) :
  pU { nx:=fun _=>Q .sh .non,rt:=Q } [some (.sh (.list (ns.map .int))),some (.sh (.int many)),some (.sh (.list (steps.map dz))),some (.ow true (gV many steps)),some (.ow true (.list (ps.map eh))),some (.ow true (.dT (eI ks))),o6,some (.ow true (.tup [.int many,.list (steps.map dz)])),some (.ow true (.list (k.map .int))),none,none,none,none,none,none]:=by
 obtain⟨w9,e9⟩:∃ w9,w9=qi:=⟨_,rfl⟩
 unfold pU
 rw[<- e9]
 walk_at "q"
 refine aR _ (fun i ρ=>∃ (o9 o10:Option Sl),ρ=[some (.sh (.list (ns.map .int))),some (.sh (.int many)),some (.sh (.list (steps.map dz))),some (.ow true (gV many steps)),some (.sh (.list (ps.map eh))),some (.ow true (.dT (eI ks))),o6,some (.ow true (.tup [.int many,.list (steps.map dz)])),some (.ow true (.list (k.map .int))),o9,o10,none,none,none,none]) ⟨_,_,rfl⟩ ?_ ?_
 ·rintro i x ρ hx ⟨o9,o10,rfl⟩ N hN
  obtain⟨p,q,rfl,hm,tk⟩:=nH hx
  have ip:=xk _ hm
  walk_at "q"
  refine⟨_,m7 hk.rb.len ip.1.1 ip.1.2,?_⟩
  walk_at "q"
  refine⟨_,m7 hk.rb.len ip.2.1 ip.2.2,?_⟩
  walk_at "q"
  have e1:=gF ks (p,q)
  unfold i9 at e1
  rw[e1,show decide ((p,q)∈ks)=decide (rk k p=rk k q) from decide_eq_decide.mpr ((bk _).trans ⟨fun z=>z.2,fun z=>⟨ip,z⟩⟩)]
  walk_at "q"
  exact hN _ ⟨_,_,rfl⟩
 ·rintro ρ ⟨o9,o10,rfl⟩
  rw[e9]
  exact DP m1 m2 aC hl hk kl bk h kb
end
theorem Gh{Q:Md->D->Prop}{ns:List Int}{many:Int}{steps:List cq}{ks ps:List P2}{o6:Option Sl}(m1:1<=many)(m2:many<=20)(aC:fT many steps)(hl:steps.length<=500)(kl:ks.length<=400)(bk:∀ k,Kinds many steps k->∀ x,x∈ks↔fA many x/\rk k x.1=rk k x.2)(kb:∀ x∈ks,ja steps ks x)(xk:∀ x∈ps,fA many x)(h:∀ m,Q m (.bl true)) :
  oZ { nx:=fun _=>Q .sh .non,rt:=Q } [some (.sh (.list (ns.map .int))),some (.sh (.int many)),some (.sh (.list (steps.map dz))),some (.ow true (gV many steps)),some (.ow true (.list (ps.map eh))),some (.ow true (.dT (eI ks))),o6,none,none,none,none,none,none,none,none]:=by
 obtain⟨w8,e8⟩:∃ w8,w8=pU:=⟨_,rfl⟩
 unfold oZ
 rw[<- e8]
 walk_at "q"
 refine .inl ⟨qT _,?_⟩
 refine⟨many,steps,rfl,by lia,aC,by lia,fun k hk=>?_⟩
 walk_at "q"
 refine R.F (by decide) ?_
 walk_at "q"
 have el:((k.length:Nat):Int)=many:=by rw[hk.rb.len];lia
 rw[el]
 refine R.F (by simp) ?_
 walk_at "q"
 rw[e8]
 exact Dz m1 m2 aC hl hk kl (bk k hk) h kb xk
theorem Kg:∀ ds Q,K0 ds Q->Gq { nx:=fun _=>Q .sh .non,rt:=Q } (bh 15 ds):=by
 rintro ds Q ⟨ns,rfl,hn,h⟩
 obtain⟨w5,e5⟩:∃ w5,w5=oZ:=⟨_,rfl⟩
 unfold Gq
 rw[<- e5]
 walk_at "q"
 refine⟨ns,100,rfl,by decide,fun many steps m1 m2 aC hl pw=>?_⟩
 unfold mD
 walk_at "q"
 refine⟨many,steps,rfl,by lia,aC,by lia,?_⟩
 walk_at "q"
 have mm:0<=many*many/\many*many<=400:=⟨PF (by lia) (by lia),Int.mul_le_mul m2 m2 (by lia) (by lia)⟩
 refine⟨bw (by lia) (by lia),by lia,by lia,?_⟩
 refine cL (fun n out=>∃ ps:List P2,out=ps.map eh/\ps.length=n/\(∀ p∈ps,fA many p)/\∀ i:Nat,i<n->(((i:Int) / many,(i:Int) % many):P2)∈ps) (fun ρ=>∃ o,ρ=[o,some (.sh (.int many))]) _ 0 [] _ _ ⟨_,rfl⟩ ⟨[],rfl,rfl,(fun p hp=>nomatch hp),fun i hi=>by lia⟩ ?_ ?_
 ·rintro j y hy ρ ⟨o,rfl⟩ out ⟨ps,rfl,kN,OX,E6⟩ N1 N2 oD
  obtain⟨hj,rfl⟩:=b8 hy
  walk_at "q"
  refine⟨by lia,by lia,.inl rfl,oD _ _ ⟨_,rfl⟩ ⟨ps++[(((j:Int) / many,(j:Int) % many):P2)],?_,by simp[kN],fA.app OX fun x hx=>?_,fun i hi=>?_⟩⟩
  ·rw[sR]
   simp[eh]
  ·rw[kU.mp hx]
   have:=xJ (j:Int) (show 0<many by lia)
   exact⟨⟨Int.ediv_nonneg (by lia) (by lia),Int.ediv_lt_of_lt_mul (by lia) (by lia)⟩,this⟩
  ·by_cases i5:i<j
   ·exact kF _ (E6 i (by lia))
   ·have:i=j:=by lia
    subst this
    exact eT _ (kU.mpr rfl)
 rintro out ⟨ps,e,kN,OX,E6⟩
 simp only[BU] at e
 subst e
 rw[bL] at kN E6
 have all:∀ x,fA many x->x∈ps:=fun x hx=>Av (n:=(many*many).toNat) (xB mm.1) (by simpa using E6) hx
 refine⟨many,steps,ps,rfl,by lia,OX,fun best hp=>?_⟩
 walk_at "q"
 have E7:=hp.len
 refine aR _ (fun i ρ=>∃ (ks:List P2) (o6:Option Sl),yy (best.take i) ks/\ρ=[some (.sh (.list (ns.map .int))),some (.sh (.int many)),some (.sh (.list (steps.map dz))),some (.ow true (gV many steps)),some (.ow true (.list (ps.map eh))),some (.ow true (.dT (eI ks))),o6,none,none,none,none,none,none,none,none]) ⟨[],_,yy.nil,rfl⟩ ?_ ?_
 ·rintro i x ρ hx ⟨ks,o6,hd,rfl⟩ N hN
  obtain⟨p,q,rfl,hm,tk⟩:=nH hx
  have kE:=hd.len
  rw[lh] at kE
  walk_at "q"
  refine⟨by rw[gG];lia,?_⟩
  have e:=oR ks (p,q)
  unfold i9 at e
  rw[e]
  exact hN _ ⟨_,_,by rw[tk];exact hd.put (p,q),rfl⟩
 ·rintro ρ ⟨ks,o6,hd,rfl⟩
  rw[b4,ub] at hd
  rw[e5]
  exact Gh m1 m2 aC hl (by have:=hd.len;lia) (fun k hk x=>(hd.mem x).trans (hp.kinds aC (fun x=>⟨OX x,all x⟩) hk x)) (fun x hx=>(ja.congr hd.mem).mpr (hp.both x ((hd.mem x).mp hx))) OX h
def top(i:Nat):Stmt:=PySem.Challenge.pw_kinlook_k36_whole_tables_are_kinds.main.body.getD i (.Pass ⟨0,0,0,0⟩)
abbrev bZ:Stmt:=top 4
abbrev nO:List Str:=["m", "state"]
abbrev fj:Stmt:=top 5
abbrev wL:List Str:=["m", "ways", "start", "deed", "end"]
abbrev cU:Stmt:=top 6
abbrev lA:List Str:=["m", "exits", "start", "deed", "end"]
abbrev fL:Stmt:=top 8
abbrev qz:List Str:=["exits", "ranks", "state"]
abbrev aU:Stmt:=top 9
abbrev dX:List Str:=["exits", "ranks", "keys", "different", "key"]
abbrev cV:Stmt:=top 10
abbrev rM:List Str:=["m", "exits", "rounds", "ranks"]
abbrev dH:Stmt:=top 11
abbrev ue:List Str:=["m"]
abbrev jr:Stmt:=top 12
abbrev BR:List Str:=["m", "p", "q", "kinds"]
abbrev b7:Stmt:=top 14
abbrev nq:List Str:=["m", "pairs", "pair"]
abbrev bf:Stmt:=top 15
abbrev fU:List Str:=["m", "pairs", "listed", "pair", "exits", "ways", "p", "q", "deed", "end"]
abbrev cT:Stmt:=top 16
abbrev mJ:List Str:=["m", "pairs"]
abbrev cR:Stmt:=top 17
abbrev mV:List Str:=["m", "p", "q", "kinds", "pairs", "a"]
abbrev bH:Stmt:=top 19
abbrev lV:List Str:=["_law_script", "_law_k"]
abbrev cI:Stmt:=top 20
abbrev qb:List Str:=["_law_cell", "_law_way", "_law_many", "_law_prime"]
abbrev aZ:Stmt:=top 21
abbrev cG:List Str:=["_law_cell", "_law_letters", "_law_size", "_law_at", "_law_base", "_law_kind", "_law_words", "_law_k", "_law_word", "_law_tail", "_law_first"]
abbrev cZ:Stmt:=top 22
abbrev qD:List Str:=["_law_script", "_law_k", "_law_way", "_law_many", "_law_cell"]
abbrev bF:Stmt:=top 23
abbrev kZ:List Str:=["_law_script", "_law_most", "_law_shape", "_law_copies", "_law_states", "_law_size", "_law_many", "_law_menu_here", "_law_steps", "_law_k", "_law_one", "_law_two", "_law_deed", "_law_way", "_law_j", "_law_i"]
abbrev cz:Stmt:=top 24
abbrev ju:List Str:=["_law_many", "_law_steps", "_law_rows_here", "_law_at", "_law_deed", "_law_to"]
abbrev aN:Stmt:=top 25
abbrev cX:List Str:=["_law_rows_here", "_law_one", "_law_other", "_law_pairs", "_law_deed", "_law_to", "_law_end"]
abbrev bB:Stmt:=top 26
abbrev gR:List Str:=["_law_rows_here", "_law_some", "_law_pairs", "_law_pair", "_law_gone"]
abbrev cY:Stmt:=top 27
abbrev rY:List Str:=["_law_m", "_law_pair", "_law_good", "_law_found"]
abbrev nF:Stmt:=top 28
abbrev Ci:List Str:=["_law_script", "_law_many", "_law_steps", "_law_rows_here", "_law_every", "_law_best", "_law_pair", "_law_handed", "_law_ranks", "_law_one", "_law_other", "_law_some", "_law_k", "_law_left", "_law_near"]
structure Txt(K:PySem.W.Frag)(mg:Str->Option Value):Prop where
 FG:mg "any" = none
 OY:mg "bool" = none
 OZ:mg "int" = none
 K2:mg "isinstance" = none
 BH:mg "len" = none
 BI:mg "list" = none
 O0:mg "min" = none
 mS:mg "range" = none
 O1:mg "set" = none
 AF:mg "sorted" = none
section
variable {P:Program}{w:World}{K:PySem.W.Frag}{mg:Str->Option Value}{base:Heap}
theorem gY:ku nO ["m", "state"] (cp bZ):=⟨rfl,rfl,rfl,by decide +kernel,rfl,by decide +kernel,by decide +kernel⟩
theorem m8 {f:Addr} {fd:FuncData} (F:hV K "check_state" "check_state" bZ f fd) (T:Txt K mg)  : gv P w K mg base gI 1 f fd ["m", "state"] (au K aK) :=
 mn.ok (t:=fH) F gY mF (fun dy A outer s H E hr =>
  have nd:=gY.nd
  have hu:=hr.units
  (ao (dR (iB (zU Iw Dg JX HF az (qv 1) (eB hu (qv 0) az)))
   zK
   aY))) pC
theorem nZ:ku wL ["m"] (cp fj):=⟨rfl,rfl,rfl,by decide +kernel,rfl,by decide +kernel,by decide +kernel⟩
theorem wO {f:Addr} {fd:FuncData} (F:hV K "ways_of" "ways_of" fj f fd) (T:Txt K mg)  : gv P w K mg base gI 1 f fd ["m"] (au K dF) :=
 mn.ok (t:=lr) F nZ sU (fun dy A outer s H E hr =>
  have nd:=nZ.nd
  have hu:=hr.units
  (aj (aG (i:=1) nd rfl (Or.inl rfl) mH)
   (aj (aP 0 (bR PassesOwn.never rfl (b_ (eB hu (qv 0) az)) (eY rfl (aF (aA (i:=2) nd rfl (Or.inl rfl)) (aF (aA (i:=3) nd rfl (Or.inl rfl)) (aF (aA (i:=4) nd rfl (Or.inl rfl)) dg))))
   (ao (aP 4 (aP 3 (aP 2 (Kq hu (pv 1) (fJ (aa (qv 2) (aa (qv 3) aq))) (qv 4))))))))
   (ao (lF (pv 1)))))) xX
theorem lU:ku lA ["m"] (cp cU):=⟨rfl,rfl,rfl,by decide +kernel,rfl,by decide +kernel,by decide +kernel⟩
theorem tD {f:Addr} {fd:FuncData} (F:hV K "exits_of" "exits_of" cU f fd) (T:Txt K mg)  : gv P w K mg base gI 1 f fd ["m"] (au K bQ) :=
 mn.ok (t:=jg) F lU rN (fun dy A outer s H E hr =>
  have nd:=lU.nd
  have hu:=hr.units
  (aj (dG (i:=1) (tn:=["state"]) (cn:=[]) (ix:=[]) nd rfl (Or.inl rfl) rfl (gW (bU T.mS (eB hu (qv 0) az))) (bC.of (sc:=cp cU) (N:=lA) rfl rfl (by decide +kernel)) (fun _ _ _ _=>(aA (i:=0) (show(["state"]:List Str).Nodup by decide +kernel) rfl (Or.inl rfl) (.inr rfl))) (fun _ _ _ _=>cW) (fun _ _ _ _=>(iy aq)))
   (aj (aP 0 (bR PassesOwn.never rfl (b_ (eB hu (qv 0) az)) (eY rfl (aF (aA (i:=2) nd rfl (Or.inl rfl)) (aF (aA (i:=3) nd rfl (Or.inl rfl)) (aF (aA (i:=4) nd rfl (Or.inl rfl)) dg))))
   (ao (aP 4 (aP 3 (qL (GX hu (dC (pv 1)) (qv 2)) (fJ (aa (qv 3) (aa (qv 4) aq)))))))))
   (ao (lF (pv 1)))))) wN
theorem qF:ku qz ["exits", "ranks", "state"] (cp fL):=⟨rfl,rfl,rfl,by decide +kernel,rfl,by decide +kernel,by decide +kernel⟩
theorem wR {f:Addr} {fd:FuncData} (F:hV K "key_of" "key_of" fL f fd) (T:Txt K mg)  : gv P w K mg base gI 1 f fd ["exits", "ranks", "state"] (au K fC) :=
 mn.ok (t:=o_) F qF vG (fun dy A outer s H E hr =>
  have nd:=qF.nd
  have hu:=hr.units
  (ao (bA (fJ (aa (eB hu (qv 1) (qv 2)) (aa (vV hu rfl T.AF rfl T.O1 (gf (tn:=["deed", "end"]) (cn:=["ranks"]) (ix:=[1]) rfl (ig (eB hu (qv 0) (qv 2))) (bC.of (sc:=cp fL) (N:=qz) rfl rfl (by decide +kernel)) (fun _ _ _ _=>(eY rfl (aF (aA (i:=0) (show(["deed", "end", "ranks"]:List Str).Nodup by decide +kernel) rfl (Or.inl rfl) (.inr rfl)) (aF (aA (i:=1) (show(["deed", "end", "ranks"]:List Str).Nodup by decide +kernel) rfl (Or.inl rfl) (.inr rfl)) dg)))) (fun _ _ _ _=>cW) (fun _ _ _ _=>(fJ (aa (qv 0) (aa (eB hu (qv 2) (qv 1)) aq)))))) aq)))))) Bm
theorem gj:ku lV ["_law_script", "_law_k"] (cp bH):=⟨rfl,rfl,rfl,by decide +kernel,rfl,by decide +kernel,by decide +kernel⟩
theorem lJ {f:Addr} {fd:FuncData} (F:hV K "_law_cell_at" "_law_cell_at" bH f fd) (T:Txt K mg)  : gv P w K mg base gI 1 f fd ["_law_script", "_law_k"] (au K aH) :=
 mn.ok (t:=eQ) F gj jQ (fun dy A outer s H E hr =>
  have nd:=gj.nd
  have hu:=hr.units
  (aj (dR (bK Dg HF (qv 1) (cQ fD qY rfl T.BH qx (qv 0)) (iS _))
   (ao (bA (eB hu (qv 0) (qv 1))))
   aY)
   (ao (bA az)))) nQ
theorem iZ:ku qb ["_law_cell", "_law_way", "_law_many"] (cp cI):=⟨rfl,rfl,rfl,by decide +kernel,rfl,by decide +kernel,by decide +kernel⟩
theorem pA {f:Addr} {fd:FuncData} (F:hV K "_law_digit" "_law_digit" cI f fd) (T:Txt K mg)  : gv P w K mg base gI 1 f fd ["_law_cell", "_law_way", "_law_many"] (au K aB) :=
 mn.ok (t:=gq) F iZ nu (fun dy A outer s H E hr =>
  have nd:=iZ.nd
  have hu:=hr.units
  (aj (aG (i:=3) nd rfl (Or.inl rfl) (eB hu (iy (aa az (aa az (aa az (aa az (aa az (aa az aq))))))) (qv 1)))
   (ao (bA (nJ (vN (nJ (gQ (qv 0) (eB hu (iy (aa az (aa az (aa az (aa az (aa az (aa az aq))))))) (qv 1))) (qv 3)) az) (qv 2)))))) rF
theorem jG:ku ju ["_law_many", "_law_steps"] (cp cz):=⟨rfl,rfl,rfl,by decide +kernel,rfl,by decide +kernel,by decide +kernel⟩
theorem qK {f:Addr} {fd:FuncData} (F:hV K "_law_rows" "_law_rows" cz f fd) (T:Txt K mg)  : gv P w K mg base gI 1 f fd ["_law_many", "_law_steps"] (au K cD) :=
 mn.ok (t:=iu) F jG pG (fun dy A outer s H E hr =>
  have nd:=jG.nd
  have hu:=hr.units
  (aj (dG (i:=2) (tn:=["_law_k"]) (cn:=[]) (ix:=[]) nd rfl (Or.inl rfl) rfl (gW (bU T.mS (qv 0))) (bC.of (sc:=cp cz) (N:=ju) rfl rfl (by decide +kernel)) (fun _ _ _ _=>(aA (i:=0) (show(["_law_k"]:List Str).Nodup by decide +kernel) rfl (Or.inl rfl) (.inr rfl))) (fun _ _ _ _=>cW) (fun _ _ _ _=>(iy aq)))
   (aj (aP 1 (bR PassesOwn.never rfl (b_ (qv 1)) (eY rfl (aF (aA (i:=3) nd rfl (Or.inl rfl)) (aF (aA (i:=4) nd rfl (Or.inl rfl)) (aF (aA (i:=5) nd rfl (Or.inl rfl)) dg))))
   (ao (aP 5 (aP 4 (qL (GX hu (dC (pv 2)) (qv 3)) (fJ (aa (qv 4) (aa (qv 5) aq)))))))))
   (ao (lF (pv 2)))))) ud
theorem e_:ku cX ["_law_rows_here", "_law_one", "_law_other", "_law_pairs"] (cp aN):=⟨rfl,rfl,rfl,by decide +kernel,rfl,by decide +kernel,by decide +kernel⟩
theorem je {f:Addr} {fd:FuncData} (F:hV K "_law_both_ways" "_law_both_ways" aN f fd) (T:Txt K mg)  : gv P w K mg base gI 1 f fd ["_law_rows_here", "_law_one", "_law_other", "_law_pairs"] (au K aV) :=
 mn.ok (t:=dw) F e_ iH (fun dy A outer s H E hr =>
  have nd:=e_.nd
  have hu:=hr.units
  (aj (aP 0 (bR PassesOwn.never rfl (b_ (eB hu (qv 0) (qv 1))) (eY rfl (aF (aA (i:=4) nd rfl (Or.inr rfl)) (aF (aA (i:=5) nd rfl (Or.inr rfl)) dg)))
   (ao (dR (iB (iM (cQ T9 xu rfl T.FG zM (gf (tn:=["_law_name", "_law_end"]) (cn:=["_law_deed", "_law_pairs", "_law_to"]) (ix:=[4,3,5]) rfl (ig (eB hu (qv 0) (qv 2))) (bC.of (sc:=cp aN) (N:=cX) rfl rfl (by decide +kernel)) (fun _ _ _ _=>(eY rfl (aF (aA (i:=0) (show(["_law_name", "_law_end", "_law_deed", "_law_pairs", "_law_to"]:List Str).Nodup by decide +kernel) rfl (Or.inl rfl) (.inr rfl)) (aF (aA (i:=1) (show(["_law_name", "_law_end", "_law_deed", "_law_pairs", "_law_to"]:List Str).Nodup by decide +kernel) rfl (Or.inl rfl) (.inr rfl)) dg)))) (fun _ _ _ _=>(oU (bK (oo (K:=K) hu) fW (qv 0) (qv 2) (iS _)))) (fun _ _ _ _=>(mq (ki (K:=K) hu) vD (fJ (aa (qv 4) (aa (qv 1) aq))) (qv 3) (by rfl)))))))
   (ao (bA nE))
   aY))))
   (aj (aP 0 (bR PassesOwn.never rfl (b_ (eB hu (qv 0) (qv 2))) (eY rfl (aF (aA (i:=4) nd rfl (Or.inr rfl)) (aF (aA (i:=6) nd rfl (Or.inr rfl)) dg)))
   (ao (dR (iB (iM (cQ T9 xu rfl T.FG zM (gf (tn:=["_law_name", "_law_to"]) (cn:=["_law_deed", "_law_end", "_law_pairs"]) (ix:=[4,6,3]) rfl (ig (eB hu (qv 0) (qv 1))) (bC.of (sc:=cp aN) (N:=cX) rfl rfl (by decide +kernel)) (fun _ _ _ _=>(eY rfl (aF (aA (i:=0) (show(["_law_name", "_law_to", "_law_deed", "_law_end", "_law_pairs"]:List Str).Nodup by decide +kernel) rfl (Or.inl rfl) (.inr rfl)) (aF (aA (i:=1) (show(["_law_name", "_law_to", "_law_deed", "_law_end", "_law_pairs"]:List Str).Nodup by decide +kernel) rfl (Or.inl rfl) (.inr rfl)) dg)))) (fun _ _ _ _=>(oU (bK (oo (K:=K) hu) fW (qv 0) (qv 2) (iS _)))) (fun _ _ _ _=>(mq (ki (K:=K) hu) vD (fJ (aa (qv 1) (aa (qv 3) aq))) (qv 4) (by rfl)))))))
   (ao (bA nE))
   aY))))
   (ao (bA nE))))) jR
theorem gm:ku dX ["exits", "ranks"] (cp aU):=⟨rfl,rfl,rfl,by decide +kernel,rfl,by decide +kernel,by decide +kernel⟩
theorem lu {f:Addr} {fd:FuncData} (F:hV K "ranks_behind" "ranks_behind" aU f fd) (T:Txt K mg) (gj':dk P w K mg base 1 "key_of" ["exits", "ranks", "state"] (au K fC)):gv P w K mg base gI 2 f fd ["exits", "ranks"] (au K aW) :=
 mn.ok (t:=eF) F gm jM (fun dy A outer s H E hr =>
  have nd:=gm.nd
  have hu:=hr.units
  (aj (dG (i:=2) (tn:=["state"]) (cn:=["exits", "ranks"]) (ix:=[0,1]) nd rfl (Or.inl rfl) rfl (gW (bU T.mS (cQ fD qY rfl T.BH qx (qv 1)))) (bC.of (sc:=cp aU) (N:=dX) rfl rfl (by decide +kernel)) (fun _ _ _ _=>(aA (i:=0) (show(["state", "exits", "ranks"]:List Str).Nodup by decide +kernel) rfl (Or.inl rfl) (.inr rfl))) (fun _ _ _ _=>cW) (fun _ _ _ _=>(aO gj' (hr.mono (by decide)) (aa (qv 1) (aa (qv 2) (aa (qv 0) aq))))))
   (aj (aG (i:=3) nd rfl (Or.inr rfl) (iy aq))
   (aj (aP 2 (bR PassesOwn.never rfl (b_ (cQ (Ji hu) z_ rfl T.AF fu (qv 2))) (aA (i:=4) nd rfl (Or.inl rfl))
   (ao (dR (bK (Fy (K:=K) hu) Jf (qv 4) (qv 3) (by rfl))
   (ao (aP 4 (qL (dC (pv 3)) (qv 4))))
   aY))))
   (ao (bA (gf (tn:=["key"]) (cn:=["different"]) (ix:=[3]) rfl (ig (qv 2)) (bC.of (sc:=cp aU) (N:=dX) rfl rfl (by decide +kernel)) (fun _ _ _ _=>(aA (i:=0) (show(["key", "different"]:List Str).Nodup by decide +kernel) rfl (Or.inl rfl) (.inr rfl))) (fun _ _ _ _=>cW) (fun _ _ _ _=>(Ef hu (qv 1) (qv 0)))))))))) mY
theorem gZ:ku nq ["m", "pairs"] (cp b7):=⟨rfl,rfl,rfl,by decide +kernel,rfl,by decide +kernel,by decide +kernel⟩
theorem mW {f:Addr} {fd:FuncData} (F:hV K "check_pairs" "check_pairs" b7 f fd) (T:Txt K mg) (O3:dk P w K mg base 1 "check_state" ["m", "state"] (au K aK)):gv P w K mg base gI 2 f fd ["m", "pairs"] (au K bD) :=
 mn.ok (t:=fM) F gZ lD (fun dy A outer s H E hr =>
  have nd:=gZ.nd
  have hu:=hr.units
  (ao (aP 1 (bR PassesOwn.never rfl (b_ (qv 1)) (aA (i:=2) nd rfl (Or.inl rfl))
   (aj (mj (aO O3 (hr.mono (by decide)) (aa (qv 0) (aa (eB hu (qv 2) az) aq))))
   (ao (mj (aO O3 (hr.mono (by decide)) (aa (qv 0) (aa (eB hu (qv 2) az) aq)))))))))) pD
theorem fV:ku fU ["m", "pairs"] (cp bf):=⟨rfl,rfl,rfl,by decide +kernel,rfl,by decide +kernel,by decide +kernel⟩
theorem jO {f:Addr} {fd:FuncData} (F:hV K "steps_matched" "steps_matched" bf f fd) (T:Txt K mg) (UA:dk P w K mg base 1 "exits_of" ["m"] (au K bQ)) (gk':dk P w K mg base 1 "ways_of" ["m"] (au K dF)):gv P w K mg base gI 2 f fd ["m", "pairs"] (au K aQ) :=
 mn.ok (t:=dM) F fV jj (fun dy A outer s H E hr =>
  have nd:=fV.nd
  have hu:=hr.units
  (aj (aG (i:=2) nd rfl (Or.inr rfl) mH)
   (aj (aP 1 (bR PassesOwn.never rfl (b_ (qv 1)) (aA (i:=3) nd rfl (Or.inl rfl))
   (ao (k_ hu (dC (pv 2)) (qv 3) nE))))
   (aj (aG (i:=4) nd rfl (Or.inl rfl) (aO UA (hr.mono (by decide)) (aa (qv 0) aq)))
   (aj (aG (i:=5) nd rfl (Or.inl rfl) (aO gk' (hr.mono (by decide)) (aa (qv 0) aq)))
   (aj (aP 5 (aP 4 (aP 2 (El PassesOwn.never rfl (qv 2) (eY rfl (aF (aA (i:=6) nd rfl (Or.inl rfl)) (aF (aA (i:=7) nd rfl (Or.inl rfl)) dg)))
   (ao (aP 4 (bR PassesOwn.never rfl (b_ (eB hu (qv 4) (qv 6))) (eY rfl (aF (aA (i:=8) nd rfl (Or.inl rfl)) (aF (aA (i:=9) nd rfl (Or.inr rfl)) dg)))
   (ao (aP 8 (aP 7 (aP 9 (dR (iB (iM (cQ T9 xu rfl T.FG zM (gf (tn:=["other"]) (cn:=["end", "listed"]) (ix:=[9,2]) rfl (ig (Kd hu (qv 5) (fJ (aa (qv 7) (aa (qv 8) aq))) (Yp (iy aq)))) (bC.of (sc:=cp bf) (N:=fU) rfl rfl (by decide +kernel)) (fun _ _ _ _=>(aA (i:=0) (show(["other", "end", "listed"]:List Str).Nodup by decide +kernel) rfl (Or.inl rfl) (.inr rfl))) (fun _ _ _ _=>cW) (fun _ _ _ _=>(mq (ki (K:=K) hu) vD (fJ (aa (qv 1) (aa (qv 0) aq))) (qv 2) (by rfl)))))))
   (ao (bA nE))
   aY)))))))) (fun _ _=>trivial)))))
   (ao (bA nE)))))))) lL
theorem jF:ku cG ["_law_cell"] (cp aZ):=⟨rfl,rfl,rfl,by decide +kernel,rfl,by decide +kernel,by decide +kernel⟩
theorem su {f:Addr} {fd:FuncData} (F:hV K "_law_menu" "_law_menu" aZ f fd) (T:Txt K mg) (rh:dk P w K mg base 1 "_law_digit" ["_law_cell", "_law_way", "_law_many"] (au K aB)):gv P w K mg base gI 2 f fd ["_law_cell"] (au K cC) :=
 mn.ok (t:=g_) F jF pO (fun dy A outer s H E hr =>
  have nd:=jF.nd
  have hu:=hr.units
  (aj (aG (i:=1) nd rfl (Or.inr rfl) wy)
   (aj (aG (i:=2) nd rfl (Or.inl rfl) (bY az (aO rh (hr.mono (by decide)) (aa (qv 0) (aa az (aa az aq))))))
   (aj (aG (i:=3) nd rfl (Or.inr rfl) (aO rh (hr.mono (by decide)) (aa (qv 0) (aa az (aa (qv 2) aq)))))
   (aj (aG (i:=4) nd rfl (Or.inr rfl) (gf (tn:=["_law_j"]) (cn:=["_law_cell"]) (ix:=[0]) rfl (gW (bU T.mS az)) (bC.of (sc:=cp aZ) (N:=cG) rfl rfl (by decide +kernel)) (fun _ _ _ _=>(aA (i:=0) (show(["_law_j", "_law_cell"]:List Str).Nodup by decide +kernel) rfl (Or.inl rfl) (.inr rfl))) (fun _ _ _ _=>cW) (fun _ _ _ _=>(aO rh (hr.mono (by decide)) (aa (bY (gQ (qv 1) (bY (qv 0) az)) (qv 0)) (aa az (aa az aq)))))))
   (aj (aG (i:=5) nd rfl (Or.inl rfl) (aO rh (hr.mono (by decide)) (aa (qv 0) (aa az (aa az aq)))))
   (aj (aG (i:=6) nd rfl (Or.inl rfl) (iy aq))
   (aj (bR PassesOwn.never rfl (bU T.mS az) (aA (i:=7) nd rfl (Or.inr rfl))
   (aj (aG (i:=8) nd rfl (Or.inl rfl) (uN wy (gf (tn:=["_law_j"]) (cn:=["_law_at", "_law_base", "_law_k", "_law_letters"]) (ix:=[3,4,7,1]) rfl (gW (bU T.mS (qv 2))) (bC.of (sc:=cp aZ) (N:=cG) rfl rfl (by decide +kernel)) (fun _ _ _ _=>(aA (i:=0) (show(["_law_j", "_law_at", "_law_base", "_law_k", "_law_letters"]:List Str).Nodup by decide +kernel) rfl (Or.inl rfl) (.inr rfl))) (fun _ _ _ _=>cW) (fun _ _ _ _=>(eB hu (qv 4) (nJ (bY (eB hu (qv 2) (qv 0)) (gQ (qv 3) (iW bb' Hf rfl T.OZ CV (mq (oo (K:=K) hu) fW (qv 0) (qv 1) (iS _))))) az))))))
   (aj (dR (bK (oo (K:=K) hu) fW (qv 5) az (iS _))
   (ao (aG (i:=8) nd rfl (Or.inl rfl) (uN wy (gf (tn:=["_law_j"]) (cn:=["_law_base", "_law_letters"]) (ix:=[4,1]) rfl (gW (bU T.mS (bY (qv 7) az))) (bC.of (sc:=cp aZ) (N:=cG) rfl rfl (by decide +kernel)) (fun _ _ _ _=>(aA (i:=0) (show(["_law_j", "_law_base", "_law_letters"]:List Str).Nodup by decide +kernel) rfl (Or.inl rfl) (.inr rfl))) (fun _ _ _ _=>cW) (fun _ _ _ _=>(eB hu (qv 2) (eB hu (qv 1) (qv 0))))))))
   aY)
   (aj (dR (bK (oo (K:=K) hu) fW (qv 5) az (iS _))
   (aj (dG (i:=9) (tn:=["_law_j"]) (cn:=["_law_base", "_law_letters"]) (ix:=[4,1]) nd rfl (Or.inl rfl) rfl (gW (bU T.mS (aO rh (hr.mono (by decide)) (aa (bY (qv 0) (qv 7)) (aa az (aa az aq)))))) (bC.of (sc:=cp aZ) (N:=cG) rfl rfl (by decide +kernel)) (fun _ _ _ _=>(aA (i:=0) (show(["_law_j", "_law_base", "_law_letters"]:List Str).Nodup by decide +kernel) rfl (Or.inl rfl) (.inr rfl))) (fun _ _ _ _=>cW) (fun _ _ _ _=>(eB hu (qv 2) (eB hu (qv 1) (qv 0)))))
   (ao (aG (i:=8) nd rfl (Or.inl rfl) (bY (eB hu (qv 1) (nJ (bY (eB hu (qv 4) az) (gQ az (qv 7))) az)) (uN wy (qv 9))))))
   aY)
   (aj (dR (bK (oo (K:=K) hu) fW (qv 5) az (iS _))
   (ao (aG (i:=8) nd rfl (Or.inl rfl) (uN wy (gf (tn:=["_law_j"]) (cn:=["_law_base", "_law_k", "_law_letters"]) (ix:=[4,7,1]) rfl (gW (bU T.mS az)) (bC.of (sc:=cp aZ) (N:=cG) rfl rfl (by decide +kernel)) (fun _ _ _ _=>(aA (i:=0) (show(["_law_j", "_law_base", "_law_k", "_law_letters"]:List Str).Nodup by decide +kernel) rfl (Or.inl rfl) (.inr rfl))) (fun _ _ _ _=>cW) (fun _ _ _ _=>(eB hu (qv 3) (nJ (bY (eB hu (qv 1) az) (nJ (bY (qv 0) (qv 2)) az)) az)))))))
   aY)
   (ao (aP 8 (qL (dC (pv 6)) (qv 8)))))))))
   (aj (aG (i:=10) nd rfl (Or.inl rfl) (aO rh (hr.mono (by decide)) (aa (qv 0) (aa az (aa az aq)))))
   (ao (bA (pq (bY (iy (aa wy aq)) (qv 6)) (lz (qv 10)) (lz (bY (bY (qv 10) az) (aO rh (hr.mono (by decide)) (aa (qv 0) (aa az (aa az aq)))))))))))))))))) sO
theorem jx:ku qD ["_law_script", "_law_k", "_law_way", "_law_many"] (cp cZ):=⟨rfl,rfl,rfl,by decide +kernel,rfl,by decide +kernel,by decide +kernel⟩
theorem rG {f:Addr} {fd:FuncData} (F:hV K "_law_draw" "_law_draw" cZ f fd) (T:Txt K mg) (O4:dk P w K mg base 1 "_law_cell_at" ["_law_script", "_law_k"] (au K aH)) (rh:dk P w K mg base 1 "_law_digit" ["_law_cell", "_law_way", "_law_many"] (au K aB)):gv P w K mg base gI 2 f fd ["_law_script", "_law_k", "_law_way", "_law_many"] (au K aJ) :=
 mn.ok (t:=h_) F jx pB (fun dy A outer s H E hr =>
  have nd:=jx.nd
  have hu:=hr.units
  (aj (aG (i:=4) nd rfl (Or.inl rfl) (aO O4 (hr.mono (by decide)) (aa (qv 0) (aa (bY az (nJ (bY (gQ az (qv 1)) (gQ az (qv 2))) az)) aq))))
   (ao (bA (aO rh (hr.mono (by decide)) (aa (bY (bY (qv 4) (gQ (aO O4 (hr.mono (by decide)) (aa (qv 0) (aa az aq))) (bY (qv 1) az))) (gQ (bY (qv 1) az) (bY (bY (qv 1) az) (qv 2)))) (aa (qv 2) (aa (qv 3) aq)))))))) sY
theorem g8:ku gR ["_law_rows_here", "_law_some"] (cp bB):=⟨rfl,rfl,rfl,by decide +kernel,rfl,by decide +kernel,by decide +kernel⟩
theorem m5 {f:Addr} {fd:FuncData} (F:hV K "_law_pruned" "_law_pruned" bB f fd) (T:Txt K mg) (gl':dk P w K mg base 1 "_law_both_ways" ["_law_rows_here", "_law_one", "_law_other", "_law_pairs"] (au K aV)):gv P w K mg base gI 2 f fd ["_law_rows_here", "_law_some"] (au K bu) :=
 mn.ok (t:=fK) F g8 lN (fun dy A outer s H E hr =>
  have nd:=g8.nd
  have hu:=hr.units
  (aj (aG (i:=2) nd rfl (Or.inr rfl) mH)
   (aj (aP 1 (bR PassesOwn.never rfl (b_ (qv 1)) (aA (i:=3) nd rfl (Or.inl rfl))
   (ao (k_ hu (dC (pv 2)) (qv 3) nE))))
   (ao (uJ PassesOwn.never (iM nE)
   (aj (dG (i:=4) (tn:=["_law_pair"]) (cn:=["_law_pairs", "_law_rows_here"]) (ix:=[2,0]) nd rfl (Or.inl rfl) rfl (ig (iW gJ pX rfl T.BI lY (qv 2))) (bC.of (sc:=cp bB) (N:=gR) rfl rfl (by decide +kernel)) (fun _ _ _ _=>(aA (i:=0) (show(["_law_pair", "_law_pairs", "_law_rows_here"]:List Str).Nodup by decide +kernel) rfl (Or.inl rfl) (.inr rfl))) (fun _ _ _ _=>(oU (iB (iM (aO gl' (hr.mono (by decide)) (aa (qv 2) (aa (eB hu (qv 0) az) (aa (eB hu (qv 0) az) (aa (qv 1) aq))))))))) (fun _ _ _ _=>(qv 0)))
   (aj (dR (bK (oo (K:=K) hu) fW (qv 4) (iy aq) (iS _))
   (ao (bA (cQ pJ iJ rfl T.AF fu (qv 2))))
   aY)
   (ao (aP 4 (bR PassesOwn.never rfl (b_ (qv 4)) (aA (i:=3) nd rfl (Or.inl rfl))
   (ao (aP 3 (Gz (Vu (Nat.add_le_add_left (by decide:1<=64) _) hu) (dC (pv 2)) (qv 3)))))))))))))) pM
theorem jw:ku rM ["m"] (cp cV):=⟨rfl,rfl,rfl,by decide +kernel,rfl,by decide +kernel,by decide +kernel⟩
theorem rP {f:Addr} {fd:FuncData} (F:hV K "rounds_of" "rounds_of" cV f fd) (T:Txt K mg) (UA:dk P w K mg base 1 "exits_of" ["m"] (au K bQ)) (Y1:dk P w K mg base 2 "ranks_behind" ["exits", "ranks"] (au K aW)):gv P w K mg base gI 3 f fd ["m"] (au K cF) :=
 mn.ok (t:=il) F jw oY (fun dy A outer s H E hr =>
  have nd:=jw.nd
  have hu:=hr.units
  (aj (aG (i:=1) nd rfl (Or.inl rfl) (aO UA (hr.mono (by decide)) (aa (qv 0) aq)))
   (aj (aG (i:=2) nd rfl (Or.inl rfl) (iy (aa (Jj (iy (aa az aq)) (eB hu (qv 0) az)) aq)))
   (aj (aG (i:=3) nd rfl (Or.inl rfl) (aO Y1 (hr.mono (by decide)) (aa (qv 1) (aa (eB hu (qv 2) az) aq))))
   (aj (uJ PassesOwn.never (bK (M0 (K:=K) hu) yN (qv 3) (eB hu (qv 2) (G8 az)) (iS _))
   (Af nd rfl (Or.inl rfl) (pv 2) (pv 3) (aO Y1 (hr.mono (by decide)) (aa (qv 1) (aa (qv 3) aq)))))
   (ao (lF (pv 2)))))))) sZ
theorem lZ:ku mJ ["m", "pairs"] (cp cT):=⟨rfl,rfl,rfl,by decide +kernel,rfl,by decide +kernel,by decide +kernel⟩
theorem sI {f:Addr} {fd:FuncData} (F:hV K "is_table" "is_table" cT f fd) (T:Txt K mg) (gm':dk P w K mg base 2 "check_pairs" ["m", "pairs"] (au K bD)) (Y2:dk P w K mg base 2 "steps_matched" ["m", "pairs"] (au K aQ)):gv P w K mg base gI 3 f fd ["m", "pairs"] (au K cB) :=
 mn.ok (t:=jm) F lZ qZ (fun dy A outer s H E hr =>
  have nd:=lZ.nd
  have hu:=hr.units
  (aj (mj (aO gm' (hr.mono (by decide)) (aa (qv 0) (aa (qv 1) aq))))
   (ao (bA (J2 (aO Y2 (hr.mono (by decide)) (aa (qv 0) (aa (qv 1) aq))) (Iu (aO Y2 (hr.mono (by decide)) (aa (qv 0) (aa (gf (tn:=["p", "q"]) (cn:=[]) (ix:=[]) rfl (ig (qv 1)) (bC.of (sc:=cp cT) (N:=mJ) rfl rfl (by decide +kernel)) (fun _ _ _ _=>(eY rfl (aF (aA (i:=0) (show(["p", "q"]:List Str).Nodup by decide +kernel) rfl (Or.inl rfl) (.inr rfl)) (aF (aA (i:=1) (show(["p", "q"]:List Str).Nodup by decide +kernel) rfl (Or.inl rfl) (.inr rfl)) dg)))) (fun _ _ _ _=>cW) (fun _ _ _ _=>(fJ (aa (qv 1) (aa (qv 0) aq))))) aq))))))))) v_
theorem gC:ku kZ ["_law_script", "_law_most"] (cp bF):=⟨rfl,rfl,rfl,by decide +kernel,rfl,by decide +kernel,by decide +kernel⟩
theorem lq {f:Addr} {fd:FuncData} (F:hV K "_law_machine" "_law_machine" bF f fd) (T:Txt K mg) (O4:dk P w K mg base 1 "_law_cell_at" ["_law_script", "_law_k"] (au K aH)) (rh:dk P w K mg base 1 "_law_digit" ["_law_cell", "_law_way", "_law_many"] (au K aB)) (gn':dk P w K mg base 2 "_law_menu" ["_law_cell"] (au K cC)) (DU:dk P w K mg base 2 "_law_draw" ["_law_script", "_law_k", "_law_way", "_law_many"] (au K aJ)):gv P w K mg base gI 3 f fd ["_law_script", "_law_most"] (au K bz) :=
 mn.ok (t:=eU) F gC jP (fun dy A outer s H E hr =>
  have nd:=gC.nd
  have hu:=hr.units
  (aj (aG (i:=2) nd rfl (Or.inl rfl) (aO O4 (hr.mono (by decide)) (aa (qv 0) (aa az aq))))
   (aj (aG (i:=3) nd rfl (Or.inl rfl) (bY az (vN (aO rh (hr.mono (by decide)) (aa (qv 2) (aa az (aa az aq)))) az)))
   (aj (aG (i:=4) nd rfl (Or.inl rfl) (bY az (aO rh (hr.mono (by decide)) (aa (qv 2) (aa az (aa az aq))))))
   (aj (aG (i:=5) nd rfl (Or.inl rfl) (aO rh (hr.mono (by decide)) (aa (qv 2) (aa az (aa az aq)))))
   (aj (dR (bK (oo (K:=K) hu) fW (qv 5) az (iS _))
   (ao (aG (i:=4) nd rfl (Or.inl rfl) (vN az (qv 3))))
   aY)
   (aj (dR (bK (oo (K:=K) hu) fW (qv 5) az (iS _))
   (ao (aG (i:=4) nd rfl (Or.inl rfl) (bY az (aO rh (hr.mono (by decide)) (aa (qv 2) (aa az (aa (vN az (qv 3)) aq)))))))
   aY)
   (aj (aG (i:=6) nd rfl (Or.inl rfl) (aO rh (hr.mono (by decide)) (aa (qv 2) (aa az (aa (gQ az (qv 4)) aq)))))
   (aj (dR (bK (oo (K:=K) hu) fW (qv 5) az (iS _))
   (ao (aP 1 (aG (i:=6) nd rfl (Or.inl rfl) (qv 1))))
   aY)
   (aj (aG (i:=7) nd rfl (Or.inl rfl) (aO gn' (hr.mono (by decide)) (aa (aO O4 (hr.mono (by decide)) (aa (qv 0) (aa az aq))) aq)))
   (aj (aG (i:=8) nd rfl (Or.inl rfl) mH)
   (aj (bR PassesOwn.never rfl (bU T.mS (FJ Hu Gw rfl T.O0 G6 (qv 6) (vN (qv 1) (gQ (qv 3) (qv 3))))) (aA (i:=9) nd rfl (Or.inl rfl))
   (aj (aG (i:=10) nd rfl (Or.inl rfl) (aO DU (hr.mono (by decide)) (aa (qv 0) (aa (qv 9) (aa az (aa (qv 4) aq))))))
   (aj (aG (i:=11) nd rfl (Or.inl rfl) (aO DU (hr.mono (by decide)) (aa (qv 0) (aa (qv 9) (aa az (aa (qv 4) aq))))))
   (aj (aG (i:=12) nd rfl (Or.inl rfl) (eB hu (qv 7) (aO DU (hr.mono (by decide)) (aa (qv 0) (aa (qv 9) (aa az (aa (cQ fD qY rfl T.BH qx (qv 7)) aq)))))))
   (aj (aG (i:=13) nd rfl (Or.inl rfl) (aO DU (hr.mono (by decide)) (aa (qv 0) (aa (qv 9) (aa az (aa az aq))))))
   (ao (bR PassesOwn.never rfl (bU T.mS (qv 3)) (aA (i:=14) nd rfl (Or.inl rfl))
   (ao (bR PassesOwn.never rfl (bU T.mS (qv 3)) (aA (i:=15) nd rfl (Or.inl rfl))
   (ao (dR (NV (Ae (bK (oo (K:=K) hu) fW (qv 13) az (iS _)) (uF (bK (oo (K:=K) hu) fW (qv 15) (nJ (bY (qv 13) (qv 14)) (qv 3)) (iS _)))))
   (ao (k_ hu (dC (pv 8)) (fJ (aa (bY (qv 10) (gQ (qv 4) (qv 14))) (aa (qv 12) (aa (bY (qv 11) (gQ (qv 4) (qv 15))) aq)))) nE))
   aY)))))))))))
   (aj (bR PassesOwn.never rfl (bU T.mS (J4 (gQ (qv 3) (qv 4)) az)) (aA (i:=9) nd rfl (Or.inl rfl))
   (ao (dR (NV (G4 (bK (oo (K:=K) hu) fW (aO rh (hr.mono (by decide)) (aa (qv 2) (aa az (aa az aq)))) az (iS _)) (Ff (bK Ie JB (nJ (bY (qv 9) az) (qv 4)) az (iS _)))))
   (ao (k_ hu (dC (pv 8)) (fJ (aa (qv 9) (aa (eB hu (qv 7) az) (aa (bY (qv 9) az) aq)))) nE))
   aY)))
   (ao (bA (fJ (aa (gQ (qv 3) (qv 4)) (aa (cQ pJ iJ rfl T.AF fu (qv 8)) aq)))))))))))))))))) nj
theorem lE:ku ue ["m"] (cp dH):=⟨rfl,rfl,rfl,by decide +kernel,rfl,by decide +kernel,by decide +kernel⟩
theorem tL {f:Addr} {fd:FuncData} (F:hV K "kinds_of" "kinds_of" dH f fd) (T:Txt K mg) (gp':dk P w K mg base 3 "rounds_of" ["m"] (au K cF)):gv P w K mg base gI 4 f fd ["m"] (au K bj) :=
 mn.ok (t:=jo) F lE rA (fun dy A outer s H E hr =>
  have nd:=lE.nd
  have hu:=hr.units
  (ao (bA (JN (aO gp' (hr.mono (by decide)) (aa (qv 0) aq)) (G8 az))))) wH
theorem vp:ku BR ["m", "p", "q"] (cp jr):=⟨rfl,rfl,rfl,by decide +kernel,rfl,by decide +kernel,by decide +kernel⟩
theorem Al {f:Addr} {fd:FuncData} (F:hV K "alike" "alike" jr f fd) (T:Txt K mg) (O3:dk P w K mg base 1 "check_state" ["m", "state"] (au K aK)) (O5:dk P w K mg base 4 "kinds_of" ["m"] (au K bj)):gv P w K mg base gI 5 f fd ["m", "p", "q"] (au K dY) :=
 mn.ok (t:=sJ) F vp yh (fun dy A outer s H E hr =>
  have nd:=vp.nd
  have hu:=hr.units
  (aj (mj (aO O3 (hr.mono (by decide)) (aa (qv 0) (aa (qv 1) aq))))
   (aj (mj (aO O3 (hr.mono (by decide)) (aa (qv 0) (aa (qv 2) aq))))
   (aj (aG (i:=3) nd rfl (Or.inl rfl) (aO O5 (hr.mono (by decide)) (aa (qv 0) aq)))
   (ao (bA (mq (oo (K:=K) hu) fW (eB hu (qv 3) (qv 1)) (eB hu (qv 3) (qv 2)) (iS _)))))))) Gp
theorem lX:ku mV ["m", "p", "q"] (cp cR):=⟨rfl,rfl,rfl,by decide +kernel,rfl,by decide +kernel,by decide +kernel⟩
theorem sV {f:Addr} {fd:FuncData} (F:hV K "table_of" "table_of" cR f fd) (T:Txt K mg) (O5:dk P w K mg base 4 "kinds_of" ["m"] (au K bj)) (UB:dk P w K mg base 5 "alike" ["m", "p", "q"] (au K dY)):gv P w K mg base gI 6 f fd ["m", "p", "q"] (au K bN) :=
 mn.ok (t:=jd) F lX qp (fun dy A outer s H E hr =>
  have nd:=lX.nd
  have hu:=hr.units
  (aj (dR (iB (iM (aO UB (hr.mono (by decide)) (aa (qv 0) (aa (qv 1) (aa (qv 2) aq))))))
   (ao (bA IK))
   aY)
   (aj (aG (i:=3) nd rfl (Or.inr rfl) (aO O5 (hr.mono (by decide)) (aa (qv 0) aq)))
   (aj (aG (i:=4) nd rfl (Or.inl rfl) (iy aq))
   (aj (bR PassesOwn.never rfl (bU T.mS (eB hu (qv 0) az)) (aA (i:=5) nd rfl (Or.inr rfl))
   (ao (aP 5 (Jg (dC (pv 4)) (gf (tn:=["b"]) (cn:=["a", "kinds"]) (ix:=[5,3]) rfl (gW (bU T.mS (eB hu (qv 0) az))) (bC.of (sc:=cp cR) (N:=mV) rfl rfl (by decide +kernel)) (fun _ _ _ _=>(aA (i:=0) (show(["b", "a", "kinds"]:List Str).Nodup by decide +kernel) rfl (Or.inl rfl) (.inr rfl))) (fun _ _ _ _=>(oU (bK (oo (K:=K) hu) fW (eB hu (qv 2) (qv 1)) (eB hu (qv 2) (qv 0)) (iS _)))) (fun _ _ _ _=>(fJ (aa (qv 1) (aa (qv 0) aq)))))))))
   (ao (lF (pv 4)))))))) vM
theorem jz:ku rY ["_law_m", "_law_pair", "_law_good"] (cp cY):=⟨rfl,rfl,rfl,by decide +kernel,rfl,by decide +kernel,by decide +kernel⟩
theorem rO {f:Addr} {fd:FuncData} (F:hV K "_law_told" "_law_told" cY f fd) (T:Txt K mg) (UB:dk P w K mg base 5 "alike" ["m", "p", "q"] (au K dY)) (UC:dk P w K mg base 6 "table_of" ["m", "p", "q"] (au K bN)):gv P w K mg base gI 7 f fd ["_law_m", "_law_pair", "_law_good"] (au K cJ) :=
 mn.ok (t:=ik) F jz oK (fun dy A outer s H E hr =>
  have nd:=jz.nd
  have hu:=hr.units
  (aj (aG (i:=3) nd rfl (Or.inl rfl) (aO UB (hr.mono (by decide)) (aa (qv 0) (aa (eB hu (qv 1) az) (aa (eB hu (qv 1) az) aq)))))
   (aj (dR (NV (Ae (iB (iM (HW T.K2 (qv 3) (Jh T.OY Ft)))) (uF (bK (M0 (K:=K) hu) yN (qv 3) (qv 2) (iS _)))))
   (ao (bA nE))
   aY)
   (ao (bA (mq (oo (K:=K) hu) fW (mq aS' Gn (aO UC (hr.mono (by decide)) (aa (qv 0) (aa (eB hu (qv 1) az) (aa (eB hu (qv 1) az) aq)))) IK (iS _)) (qv 2) (iS _))))))) tE
theorem CQ:ku Ci ["_law_script"] (cp nF):=⟨rfl,rfl,rfl,by decide +kernel,rfl,by decide +kernel,by decide +kernel⟩
theorem gq' {f:Addr} {fd:FuncData} (F:hV K "law" "law" nF f fd) (T:Txt K mg) (gr':dk P w K mg base 3 "_law_machine" ["_law_script", "_law_most"] (au K bz)) (gs':dk P w K mg base 1 "_law_rows" ["_law_many", "_law_steps"] (au K cD)) (Y3:dk P w K mg base 2 "_law_pruned" ["_law_rows_here", "_law_some"] (au K bu)) (O5:dk P w K mg base 4 "kinds_of" ["m"] (au K bj)) (Y4:dk P w K mg base 3 "is_table" ["m", "pairs"] (au K cB)) (gt':dk P w K mg base 7 "_law_told" ["_law_m", "_law_pair", "_law_good"] (au K cJ)) (UC:dk P w K mg base 6 "table_of" ["m", "p", "q"] (au K bN)) (DU:dk P w K mg base 2 "_law_draw" ["_law_script", "_law_k", "_law_way", "_law_many"] (au K aJ)):gv P w K mg base gI 8 f fd ["_law_script"] (au K K0) :=
 mn.ok (t:=Gq) F CQ Gg (fun dy A outer s H E hr =>
  have nd:=CQ.nd
  have hu:=hr.units
  (aj (Ez (i:=1) (j:=2) rfl nd rfl (Or.inr rfl) rfl (Or.inl rfl) (Yp (aO gr' (hr.mono (by decide)) (aa (qv 0) (aa az aq)))))
   (aj (aG (i:=3) nd rfl (Or.inl rfl) (aO gs' (hr.mono (by decide)) (aa (qv 1) (aa (qv 2) aq))))
   (aj (dG (i:=4) (tn:=["_law_k"]) (cn:=["_law_many"]) (ix:=[1]) nd rfl (Or.inl rfl) rfl (gW (bU T.mS (gQ (qv 1) (qv 1)))) (bC.of (sc:=cp nF) (N:=Ci) rfl rfl (by decide +kernel)) (fun _ _ _ _=>(aA (i:=0) (show(["_law_k", "_law_many"]:List Str).Nodup by decide +kernel) rfl (Or.inl rfl) (.inr rfl))) (fun _ _ _ _=>cW) (fun _ _ _ _=>(fJ (aa (vN (qv 0) (qv 1)) (aa (nJ (qv 0) (qv 1)) aq)))))
   (aj (aG (i:=5) nd rfl (Or.inl rfl) mH)
   (aj (bR PassesOwn.never rfl (b_ (aO Y3 (hr.mono (by decide)) (aa (qv 3) (aa (qv 4) aq)))) (aA (i:=6) nd rfl (Or.inl rfl))
   (ao (k_ hu (dC (pv 5)) (qv 6) nE)))
   (aj (aP 1 (aG (i:=7) nd rfl (Or.inl rfl) (fJ (aa (qv 1) (aa (iW gJ pX rfl T.BI lY (qv 2)) aq)))))
   (aj (aG (i:=8) nd rfl (Or.inl rfl) (aO O5 (hr.mono (by decide)) (aa (qv 7) aq)))
   (aj (dR (NV (Ae (iB (iM (HW T.K2 (qv 8) (Jh T.BI lY)))) (uF (bK (M0 (K:=K) hu) yN (cQ fD qY rfl T.BH qx (qv 8)) (qv 1) (iS _)))))
   (ao (bA nE))
   aY)
   (aj (aP 4 (bR PassesOwn.never rfl (b_ (qv 4)) (eY rfl (aF (aA (i:=9) nd rfl (Or.inl rfl)) (aF (aA (i:=10) nd rfl (Or.inl rfl)) dg)))
   (ao (aP 10 (aP 9 (dR (bK (M0 (K:=K) hu) yN (mq (oo (K:=K) hu) fW (eB hu (qv 8) (qv 9)) (eB hu (qv 8) (qv 10)) (iS _)) (mq (ki (K:=K) hu) vD (fJ (aa (qv 9) (aa (qv 10) aq))) (qv 5) (by rfl)) (iS _))
   (ao (bA nE))
   aY))))))
   (aj (aG (i:=11) nd rfl (Or.inl rfl) (iy aq))
   (aj (bR PassesOwn.never rfl (bU T.mS (gQ az (qv 1))) (aA (i:=12) nd rfl (Or.inl rfl))
   (ao (qL (dC (pv 11)) (fJ (aa (aO DU (hr.mono (by decide)) (aa (qv 0) (aa (bY az (qv 12)) (aa az (aa (qv 1) aq))))) (aa (aO DU (hr.mono (by decide)) (aa (qv 0) (aa (bY az (qv 12)) (aa az (aa (qv 1) aq))))) aq))))))
   (aj (aG (i:=13) nd rfl (Or.inl rfl) (aO Y3 (hr.mono (by decide)) (aa (qv 3) (aa (bY (qv 11) (pq (iW gJ pX rfl T.BI lY (qv 5)) sW (lz (aO DU (hr.mono (by decide)) (aa (qv 0) (aa az (aa az (aa (bY (cQ fD qY rfl T.BH qx (qv 5)) az) aq)))))))) aq))))
   (aj (dR (NV (Ae (bK xY xN (aO Y4 (hr.mono (by decide)) (aa (qv 7) (aa (iW gJ pX rfl T.BI lY (qv 13)) aq))) nE (iS _)) (uF (bK xY xN (aO Y4 (hr.mono (by decide)) (aa (qv 7) (aa (cQ pJ iJ rfl T.AF fu (qv 5)) aq))) nE (iS _)))))
   (ao (bA nE))
   aY)
   (aj (aP 13 (bR PassesOwn.never rfl (b_ (qv 13)) (eY rfl (aF (aA (i:=9) nd rfl (Or.inl rfl)) (aF (aA (i:=10) nd rfl (Or.inl rfl)) dg)))
   (ao (dR (bK (M0 (K:=K) hu) yN (eB hu (qv 8) (qv 9)) (eB hu (qv 8) (qv 10)) (iS _))
   (ao (bA nE))
   aY))))
   (aj (bR PassesOwn.never rfl (b_ (bY (pq (qv 11) sW (lz az)) (pq (cQ pJ iJ rfl T.AF fu (qv 5)) sW (lz az)))) (aA (i:=6) nd rfl (Or.inl rfl))
   (aj (dR (iB (iM (aO gt' (hr.mono (by decide)) (aa (qv 7) (aa (qv 6) (aa (mq (ki (K:=K) hu) vD (qv 6) (qv 5) (by rfl)) aq))))))
   (ao (bA nE))
   aY)
   (ao (bR PassesOwn.never rfl (b_ (JG (aO UC (hr.mono (by decide)) (aa (qv 7) (aa (eB hu (qv 6) az) (aa (eB hu (qv 6) az) aq)))) (Iu (iy aq)))) (aA (i:=14) nd rfl (Or.inl rfl))
   (ao (dR (bK (HN (K:=K) hu) vD (qv 14) (qv 5) (by rfl))
   (ao (bA nE))
   aY))))))
   (ao (aP 2 (aP 1 (bA (mq (oo (K:=K) hu) fW (qv 7) (fJ (aa (qv 1) (aa (qv 2) aq))) (iS _)))))))))))))))))))))) Kg
end
theorem O6{us:List Value}(h:us.length=1):∃ a0,us=[a0]:=by
 cases us with
 |nil=>simp at h
 |cons a0 us =>
 cases us with
 |nil=>exact⟨_,rfl⟩
 |cons b us=>simp at h
theorem BM{us:List Value}(h:us.length=2):∃ a0 a1,us=[a0,a1]:=by
 cases us with
 |nil=>simp at h
 |cons a0 us =>
 cases us with
 |nil=>simp at h
 |cons a1 us =>
 cases us with
 |nil=>exact⟨_,_,rfl⟩
 |cons b us=>simp at h
theorem O7{us:List Value}(h:us.length=3):∃ a0 a1 a2,us=[a0,a1,a2]:=by
 cases us with
 |nil=>simp at h
 |cons a0 us =>
 cases us with
 |nil=>simp at h
 |cons a1 us =>
 cases us with
 |nil=>simp at h
 |cons a2 us =>
 cases us with
 |nil=>exact⟨_,_,_,rfl⟩
 |cons b us=>simp at h
theorem Y5{us:List Value}(h:us.length=4):∃ a0 a1 a2 a3,us=[a0,a1,a2,a3]:=by
 cases us with
 |nil=>simp at h
 |cons a0 us =>
 cases us with
 |nil=>simp at h
 |cons a1 us =>
 cases us with
 |nil=>simp at h
 |cons a2 us =>
 cases us with
 |nil=>simp at h
 |cons a3 us =>
 cases us with
 |nil=>exact⟨_,_,_,_,rfl⟩
 |cons b us=>simp at h
theorem all_mk {l:PySem.W.OpenLaw} {w:World} {K:PySem.W.Frag} {h:Heap} {mg:Str->Option Value} {fa:Addr} (X:K.In h) (G:h.Ns mainGlobals mg) (hfa:mg "law" = some (.ref fa))
  (a0:PySem.W.nsIn K mainGlobals "check_state" = some (some (.ref f0))) (l0:K.lookup f0=some ⟨o0,d0,.func (PySem.W.fnOf "check_state" "check_state" (iX bZ) (hU bZ) (cp bZ) .none v0 j0 p0 e0 r0 u0),t0⟩) (c0:PySem.W.codeIn K r0 "check_state" = true) (k0:PySem.W.keepIn K (.ref f0)=true)
  (a1:PySem.W.nsIn K mainGlobals "ways_of" = some (some (.ref f1))) (l1:K.lookup f1=some ⟨o1,d1,.func (PySem.W.fnOf "ways_of" "ways_of" (iX fj) (hU fj) (cp fj) .none v1 j1 p1 e1 r1 u1),t1⟩) (c1:PySem.W.codeIn K r1 "ways_of" = true) (k1:PySem.W.keepIn K (.ref f1)=true)
  (a2:PySem.W.nsIn K mainGlobals "exits_of" = some (some (.ref f2))) (l2:K.lookup f2=some ⟨o2,d2,.func (PySem.W.fnOf "exits_of" "exits_of" (iX cU) (hU cU) (cp cU) .none v2 j2 p2 e2 r2 u2),t2⟩) (c2:PySem.W.codeIn K r2 "exits_of" = true) (k2:PySem.W.keepIn K (.ref f2)=true)
  (a3:PySem.W.nsIn K mainGlobals "key_of" = some (some (.ref f3))) (l3:K.lookup f3=some ⟨o3,d3,.func (PySem.W.fnOf "key_of" "key_of" (iX fL) (hU fL) (cp fL) .none v3 j3 p3 e3 r3 u3),t3⟩) (c3:PySem.W.codeIn K r3 "key_of" = true) (k3:PySem.W.keepIn K (.ref f3)=true)
  (a4:PySem.W.nsIn K mainGlobals "ranks_behind" = some (some (.ref f4))) (l4:K.lookup f4=some ⟨o4,d4,.func (PySem.W.fnOf "ranks_behind" "ranks_behind" (iX aU) (hU aU) (cp aU) .none v4 j4 p4 e4 r4 u4),t4⟩) (c4:PySem.W.codeIn K r4 "ranks_behind" = true) (k4:PySem.W.keepIn K (.ref f4)=true)
  (a5:PySem.W.nsIn K mainGlobals "rounds_of" = some (some (.ref f5))) (l5:K.lookup f5=some ⟨o5,d5,.func (PySem.W.fnOf "rounds_of" "rounds_of" (iX cV) (hU cV) (cp cV) .none v5 j5 p5 e5 r5 u5),t5⟩) (c5:PySem.W.codeIn K r5 "rounds_of" = true) (k5:PySem.W.keepIn K (.ref f5)=true)
  (a6:PySem.W.nsIn K mainGlobals "kinds_of" = some (some (.ref f6))) (l6:K.lookup f6=some ⟨o6,d6,.func (PySem.W.fnOf "kinds_of" "kinds_of" (iX dH) (hU dH) (cp dH) .none v6 j6 p6 e6 r6 u6),t6⟩) (c6:PySem.W.codeIn K r6 "kinds_of" = true) (k6:PySem.W.keepIn K (.ref f6)=true)
  (a7:PySem.W.nsIn K mainGlobals "alike" = some (some (.ref f7))) (l7:K.lookup f7=some ⟨o7,d7,.func (PySem.W.fnOf "alike" "alike" (iX jr) (hU jr) (cp jr) .none v7 j7 p7 e7 r7 u7),t7⟩) (c7:PySem.W.codeIn K r7 "alike" = true) (k7:PySem.W.keepIn K (.ref f7)=true)
  (a8:PySem.W.nsIn K mainGlobals "check_pairs" = some (some (.ref f8))) (l8:K.lookup f8=some ⟨o8,d8,.func (PySem.W.fnOf "check_pairs" "check_pairs" (iX b7) (hU b7) (cp b7) .none v8 j8 p8 e8 r8 u8),t8⟩) (c8:PySem.W.codeIn K r8 "check_pairs" = true) (k8:PySem.W.keepIn K (.ref f8)=true)
  (a9:PySem.W.nsIn K mainGlobals "steps_matched" = some (some (.ref f9))) (l9:K.lookup f9=some ⟨o9,d9,.func (PySem.W.fnOf "steps_matched" "steps_matched" (iX bf) (hU bf) (cp bf) .none v9 j9 p9 e9 r9 u9),t9⟩) (c9:PySem.W.codeIn K r9 "steps_matched" = true) (k9:PySem.W.keepIn K (.ref f9)=true)
  (UD:PySem.W.nsIn K mainGlobals "is_table" = some (some (.ref Y6))) (l10:K.lookup Y6=some ⟨o10,d10,.func (PySem.W.fnOf "is_table" "is_table" (iX cT) (hU cT) (cp cT) .none v10 j10 p10 e10 SY u10),t10⟩) (UE:PySem.W.codeIn K SY "is_table" = true) (UG:PySem.W.keepIn K (.ref Y6)=true)
  (UH:PySem.W.nsIn K mainGlobals "table_of" = some (some (.ref Y7))) (UI:K.lookup Y7=some ⟨o11,d11,.func (PySem.W.fnOf "table_of" "table_of" (iX cR) (hU cR) (cp cR) .none v11 j11 p11 e11 r11 u11),t11⟩) (UJ:PySem.W.codeIn K r11 "table_of" = true) (UK:PySem.W.keepIn K (.ref Y7)=true)
  (UL:PySem.W.nsIn K mainGlobals "_law_cell_at" = some (some (.ref Y8))) (UM:K.lookup Y8=some ⟨o12,d12,.func (PySem.W.fnOf "_law_cell_at" "_law_cell_at" (iX bH) (hU bH) (cp bH) .none v12 j12 p12 Uz r12 u12),t12⟩) (UN:PySem.W.codeIn K r12 "_law_cell_at" = true) (UO:PySem.W.keepIn K (.ref Y8)=true)
  (UQ:PySem.W.nsIn K mainGlobals "_law_digit" = some (some (.ref Y9))) (UR:K.lookup Y9=some ⟨o13,d13,.func (PySem.W.fnOf "_law_digit" "_law_digit" (iX cI) (hU cI) (cp cI) .none v13 j13 p13 e13 r13 u13),t13⟩) (UT:PySem.W.codeIn K r13 "_law_digit" = true) (UU:PySem.W.keepIn K (.ref Y9)=true)
  (UW:PySem.W.nsIn K mainGlobals "_law_menu" = some (some (.ref Y_))) (UX:K.lookup Y_=some ⟨o14,d14,.func (PySem.W.fnOf "_law_menu" "_law_menu" (iX aZ) (hU aZ) (cp aZ) .none v14 j14 p14 Uy r14 u14),t14⟩) (UY:PySem.W.codeIn K r14 "_law_menu" = true) (UZ:PySem.W.keepIn K (.ref Y_)=true)
  (U0:PySem.W.nsIn K mainGlobals "_law_draw" = some (some (.ref Za))) (U4:K.lookup Za=some ⟨wc,d15,.func (PySem.W.fnOf "_law_draw" "_law_draw" (iX cZ) (hU cZ) (cp cZ) .none v15 j15 p15 Ux r15 u15),t15⟩) (U5:PySem.W.codeIn K r15 "_law_draw" = true) (U6:PySem.W.keepIn K (.ref Za)=true)
  (U7:PySem.W.nsIn K mainGlobals "_law_machine" = some (some (.ref Zb))) (U8:K.lookup Zb=some ⟨o16,d16,.func (PySem.W.fnOf "_law_machine" "_law_machine" (iX bF) (hU bF) (cp bF) .none v16 j16 p16 e16 r16 u16),t16⟩) (c16:PySem.W.codeIn K r16 "_law_machine" = true) (U9:PySem.W.keepIn K (.ref Zb)=true)
  (U_:PySem.W.nsIn K mainGlobals "_law_rows" = some (some (.ref Zc))) (Va:K.lookup Zc=some ⟨o17,d17,.func (PySem.W.fnOf "_law_rows" "_law_rows" (iX cz) (hU cz) (cp cz) .none v17 j17 p17 e17 r17 u17),t17⟩) (Vb:PySem.W.codeIn K r17 "_law_rows" = true) (Vc:PySem.W.keepIn K (.ref Zc)=true)
  (Vd:PySem.W.nsIn K mainGlobals "_law_both_ways" = some (some (.ref Zd))) (Ve:K.lookup Zd=some ⟨o18,d18,.func (PySem.W.fnOf "_law_both_ways" "_law_both_ways" (iX aN) (hU aN) (cp aN) .none v18 j18 p18 e18 r18 u18),t18⟩) (Vf:PySem.W.codeIn K r18 "_law_both_ways" = true) (Vg:PySem.W.keepIn K (.ref Zd)=true)
  (Vh:PySem.W.nsIn K mainGlobals "_law_pruned" = some (some (.ref Ze))) (Vi:K.lookup Ze=some ⟨o19,d19,.func (PySem.W.fnOf "_law_pruned" "_law_pruned" (iX bB) (hU bB) (cp bB) .none v19 j19 p19 e19 r19 u19),t19⟩) (Vj:PySem.W.codeIn K r19 "_law_pruned" = true) (Vk:PySem.W.keepIn K (.ref Ze)=true)
  (Vl:PySem.W.nsIn K mainGlobals "_law_told" = some (some (.ref Zf))) (Vm:K.lookup Zf=some ⟨o20,d20,.func (PySem.W.fnOf "_law_told" "_law_told" (iX cY) (hU cY) (cp cY) .none v20 j20 p20 e20 r20 u20),t20⟩) (Vn:PySem.W.codeIn K r20 "_law_told" = true) (Vo:PySem.W.keepIn K (.ref Zf)=true)
  (Vp:PySem.W.nsIn K mainGlobals "law" = some (some (.ref Zg))) (Vq:K.lookup Zg=some ⟨o21,d21,.func (PySem.W.fnOf "law" "law" (iX nF) (hU nF) (cp nF) .none v21 j21 p21 Yu Zh u21),t21⟩) (Vr:PySem.W.codeIn K Zh "law" = true) (Vs:PySem.W.keepIn K (.ref Zg)=true)
  (FG:PySem.W.nsIn K mainGlobals "any" = some none)
  (OY:PySem.W.nsIn K mainGlobals "bool" = some none)
  (OZ:PySem.W.nsIn K mainGlobals "int" = some none)
  (K2:PySem.W.nsIn K mainGlobals "isinstance" = some none)
  (BH:PySem.W.nsIn K mainGlobals "len" = some none)
  (BI:PySem.W.nsIn K mainGlobals "list" = some none)
  (O0:PySem.W.nsIn K mainGlobals "min" = some none)
  (mS:PySem.W.nsIn K mainGlobals "range" = some none)
  (O1:PySem.W.nsIn K mainGlobals "set" = some none)
  (AF:PySem.W.nsIn K mainGlobals "sorted" = some none)
  : ∃ fd:FuncData,(∀ (s:Shared) (v:Value),BindsTo s fd ⟨[v],[]⟩ [("_law_script",v)])/\∀ base:Heap,K.In base->base.Ns mainGlobals mg->gv l.prog w K mg base gI 8 fa fd ["_law_script"] (au K K0):=by
 have e:=hfa.symm.trans (PySem.W.mg_of X G Vp)
 cases e
 have T:Txt K mg:=⟨PySem.W.mg_none_of X G FG,PySem.W.mg_none_of X G OY,PySem.W.mg_none_of X G OZ,PySem.W.mg_none_of X G K2,PySem.W.mg_none_of X G BH,PySem.W.mg_none_of X G BI,PySem.W.mg_none_of X G O0,PySem.W.mg_none_of X G mS,PySem.W.mg_none_of X G O1,PySem.W.mg_none_of X G AF⟩
 have F0:=lS (st:=bZ) l0 c0 k0
 have F1:=lS (st:=fj) l1 c1 k1
 have F2:=lS (st:=cU) l2 c2 k2
 have F3:=lS (st:=fL) l3 c3 k3
 have F4:=lS (st:=aU) l4 c4 k4
 have F5:=lS (st:=cV) l5 c5 k5
 have F6:=lS (st:=dH) l6 c6 k6
 have F7:=lS (st:=jr) l7 c7 k7
 have F8:=lS (st:=b7) l8 c8 k8
 have F9:=lS (st:=bf) l9 c9 k9
 have Zi:=lS (st:=cT) l10 UE UG
 have Zj:=lS (st:=cR) UI UJ UK
 have Zk:=lS (st:=bH) UM UN UO
 have Zm:=lS (st:=cI) UR UT UU
 have Zn:=lS (st:=aZ) UX UY UZ
 have Zo:=lS (st:=cZ) U4 U5 U6
 have Zq:=lS (st:=bF) U8 c16 U9
 have Zr:=lS (st:=cz) Va Vb Vc
 have Zt:=lS (st:=aN) Ve Vf Vg
 have Zu:=lS (st:=bB) Vi Vj Vk
 have Zv:=lS (st:=cY) Vm Vn Vo
 have F21:=lS (st:=nF) Vq Vr Vs
 refine⟨PySem.W.fnOf "law" "law" (iX nF) (hU nF) (cp nF) .none v21 j21 p21 Yu Zh u21,fun s v=>.of_eq rfl,fun base _ _=>?_⟩
 have C0:dk l.prog w K mg base 1 "check_state" ["m", "state"] (au K aK):=F0.mB (PySem.W.mg_of X G a0) (m8 F0 T ) fun _ _ _ _ _ _ us hl=>by obtain⟨_,_,rfl⟩:=BM hl;rfl
 have C1:dk l.prog w K mg base 1 "ways_of" ["m"] (au K dF):=F1.mB (PySem.W.mg_of X G a1) (wO F1 T ) fun _ _ _ _ _ _ us hl=>by obtain⟨_,rfl⟩:=O6 hl;rfl
 have C2:dk l.prog w K mg base 1 "exits_of" ["m"] (au K bQ):=F2.mB (PySem.W.mg_of X G a2) (tD F2 T ) fun _ _ _ _ _ _ us hl=>by obtain⟨_,rfl⟩:=O6 hl;rfl
 have C3:dk l.prog w K mg base 1 "key_of" ["exits", "ranks", "state"] (au K fC):=F3.mB (PySem.W.mg_of X G a3) (wR F3 T ) fun _ _ _ _ _ _ us hl=>by obtain⟨_,_,_,rfl⟩:=O7 hl;rfl
 have Zw:dk l.prog w K mg base 1 "_law_cell_at" ["_law_script", "_law_k"] (au K aH):=Zk.mB (PySem.W.mg_of X G UL) (lJ Zk T ) fun _ _ _ _ _ _ us hl=>by obtain⟨_,_,rfl⟩:=BM hl;rfl
 have Vt:dk l.prog w K mg base 1 "_law_digit" ["_law_cell", "_law_way", "_law_many"] (au K aB):=Zm.mB (PySem.W.mg_of X G UQ) (pA Zm T ) fun _ _ _ _ _ _ us hl=>by obtain⟨_,_,_,rfl⟩:=O7 hl;rfl
 have C17:dk l.prog w K mg base 1 "_law_rows" ["_law_many", "_law_steps"] (au K cD):=Zr.mB (PySem.W.mg_of X G U_) (qK Zr T ) fun _ _ _ _ _ _ us hl=>by obtain⟨_,_,rfl⟩:=BM hl;rfl
 have C18:dk l.prog w K mg base 1 "_law_both_ways" ["_law_rows_here", "_law_one", "_law_other", "_law_pairs"] (au K aV):=Zt.mB (PySem.W.mg_of X G Vd) (je Zt T ) fun _ _ _ _ _ _ us hl=>by obtain⟨_,_,_,_,rfl⟩:=Y5 hl;rfl
 have C4:dk l.prog w K mg base 2 "ranks_behind" ["exits", "ranks"] (au K aW):=F4.mB (PySem.W.mg_of X G a4) (lu F4 T C3) fun _ _ _ _ _ _ us hl=>by obtain⟨_,_,rfl⟩:=BM hl;rfl
 have C8:dk l.prog w K mg base 2 "check_pairs" ["m", "pairs"] (au K bD):=F8.mB (PySem.W.mg_of X G a8) (mW F8 T C0) fun _ _ _ _ _ _ us hl=>by obtain⟨_,_,rfl⟩:=BM hl;rfl
 have C9:dk l.prog w K mg base 2 "steps_matched" ["m", "pairs"] (au K aQ):=F9.mB (PySem.W.mg_of X G a9) (jO F9 T C2 C1) fun _ _ _ _ _ _ us hl=>by obtain⟨_,_,rfl⟩:=BM hl;rfl
 have C14:dk l.prog w K mg base 2 "_law_menu" ["_law_cell"] (au K cC):=Zn.mB (PySem.W.mg_of X G UW) (su Zn T Vt) fun _ _ _ _ _ _ us hl=>by obtain⟨_,rfl⟩:=O6 hl;rfl
 have Zx:dk l.prog w K mg base 2 "_law_draw" ["_law_script", "_law_k", "_law_way", "_law_many"] (au K aJ):=Zo.mB (PySem.W.mg_of X G U0) (rG Zo T Zw Vt) fun _ _ _ _ _ _ us hl=>by obtain⟨_,_,_,_,rfl⟩:=Y5 hl;rfl
 have C19:dk l.prog w K mg base 2 "_law_pruned" ["_law_rows_here", "_law_some"] (au K bu):=Zu.mB (PySem.W.mg_of X G Vh) (m5 Zu T C18) fun _ _ _ _ _ _ us hl=>by obtain⟨_,_,rfl⟩:=BM hl;rfl
 have C5:dk l.prog w K mg base 3 "rounds_of" ["m"] (au K cF):=F5.mB (PySem.W.mg_of X G a5) (rP F5 T C2 C4) fun _ _ _ _ _ _ us hl=>by obtain⟨_,rfl⟩:=O6 hl;rfl
 have C10:dk l.prog w K mg base 3 "is_table" ["m", "pairs"] (au K cB):=Zi.mB (PySem.W.mg_of X G UD) (sI Zi T C8 C9) fun _ _ _ _ _ _ us hl=>by obtain⟨_,_,rfl⟩:=BM hl;rfl
 have C16:dk l.prog w K mg base 3 "_law_machine" ["_law_script", "_law_most"] (au K bz):=Zq.mB (PySem.W.mg_of X G U7) (lq Zq T Zw Vt C14 Zx) fun _ _ _ _ _ _ us hl=>by obtain⟨_,_,rfl⟩:=BM hl;rfl
 have C6:dk l.prog w K mg base 4 "kinds_of" ["m"] (au K bj):=F6.mB (PySem.W.mg_of X G a6) (tL F6 T C5) fun _ _ _ _ _ _ us hl=>by obtain⟨_,rfl⟩:=O6 hl;rfl
 have C7:dk l.prog w K mg base 5 "alike" ["m", "p", "q"] (au K dY):=F7.mB (PySem.W.mg_of X G a7) (Al F7 T C0 C6) fun _ _ _ _ _ _ us hl=>by obtain⟨_,_,_,rfl⟩:=O7 hl;rfl
 have Zy:dk l.prog w K mg base 6 "table_of" ["m", "p", "q"] (au K bN):=Zj.mB (PySem.W.mg_of X G UH) (sV Zj T C6 C7) fun _ _ _ _ _ _ us hl=>by obtain⟨_,_,_,rfl⟩:=O7 hl;rfl
 have C20:dk l.prog w K mg base 7 "_law_told" ["_law_m", "_law_pair", "_law_good"] (au K cJ):=Zv.mB (PySem.W.mg_of X G Vl) (rO Zv T C7 Zy) fun _ _ _ _ _ _ us hl=>by obtain⟨_,_,_,rfl⟩:=O7 hl;rfl
 exact gq' F21 T C16 C17 C19 C6 C10 C20 Zy Zx
theorem walk{l:PySem.W.OpenLaw}{q:Program}{loose:List Str}{XP:(Str->Option Value)->Heap->Prop}{YP:World->Heap->Prop}{d:DefRec}{K:Params->PySem.W.Frag}(hn:l.most=some 63)(MS:d.params.defaults=[])
  (hY:∀ (w:World) (h:Heap),YP w h->(K w.params).In h)
  (F:∀ (w:World) (mg:Str->Option Value) (fa:Addr) (h:Heap),(K w.params).In h->h.Ns mainGlobals mg->mg d.name=some (.ref fa) ->
   ∃ fd:FuncData,(∀ (s:Shared) (u:Value),BindsTo s fd ⟨[u],[]⟩ [("_law_script",u)])/\∀ base:Heap,(K w.params).In base->base.Ns mainGlobals mg->gv l.prog w (K w.params) mg base gI 8 fa fd ["_law_script"] (au (K w.params) K0)) :
  PySem.W.WalkO q loose XP YP l.row.toRowW d [] (fun f vs=>PySem.call f vs) :=
 L2.cF' (n:=63) (k:=8) (x := "_law_script") (CX:=fun _=>gI) (sp:=fun w=>au (K w.params) K0) hn (by decide) MS ⟨rfl,by decide,by decide⟩ hY F (fun w H a ns hl hO hS=>Ce hl hS) fun _ _ _ _ _ z=>z
end L2.Q.Uk
open PySem PySem.W PyProof.Rows
namespace PySem.W.Fast
def tw1699430017219821848:=0
def tw14300144811269888641:=0
def tw55932907541632445:=0
def tw3487968600757922210:=0
def tw14150513908034245509:=0
def tw18073642191686719195:=0
def tw10936662043430629292:=0
def tw6948091539500418804:=0
def tw9059401198946412747:=0
def tw6636271091432207497:=0
def tw17540596536510459092:=0
def tw4969103123045388049:=0
def tw9208304714041142699:=0
def tw13104049791885881183:=0
def tw9883547265125849320:=0
def tw16106414454601180162:=0
def tw13192921475037501887:=0
def tw12493318281376898928:=0
def tw12991603376555811725:=0
def tw3038201837261521957:=0
end PySem.W.Fast
set_option maxRecDepth 100000 in
set_option maxHeartbeats 0 in
theorem PySem.Challenge.cw_kinlook_k36_whole_tables_are_kinds_holds : PySem.Challenge.rw_kinlook_k36_whole_tables_are_kinds.Holds := by
 w_on;o_law;k_head;(case hw=>w_witness2)
 k_fill
 refine L2.Q.Uk.walk (l:=PySem.Challenge.rw_kinlook_k36_whole_tables_are_kinds) rfl rfl (fun w h Y=>PySem.W.kIn_of Y) ?F
 case F =>
  intro w mg fa h KX G MV
  refine' L2.Q.Uk.all_mk KX G MV ?a0 ?l0 ?c0 ?k0 ?a1 ?l1 ?c1 ?k1 ?a2 ?l2 ?c2 ?k2 ?a3 ?l3 ?c3 ?k3 ?a4 ?l4 ?c4 ?k4 ?a5 ?l5 ?c5 ?k5 ?a6 ?l6 ?c6 ?k6 ?a7 ?l7 ?c7 ?k7 ?a8 ?l8 ?c8 ?k8 ?a9 ?l9 ?c9 ?k9 ?UD ?l10 ?UE ?UG ?UH ?UI ?UJ ?UK ?UL ?UM ?UN ?UO ?UQ ?UR ?UT ?UU ?UW ?UX ?UY ?UZ ?U0 ?U4 ?U5 ?U6 ?U7 ?U8 ?c16 ?U9 ?U_ ?Va ?Vb ?Vc ?Vd ?Ve ?Vf ?Vg ?Vh ?Vi ?Vj ?Vk ?Vl ?Vm ?Vn ?Vo ?Vp ?Vq ?Vr ?Vs ?FG ?OY ?OZ ?K2 ?BH ?BI ?O0 ?mS ?O1 ?AF
  (case a0=>k_is)
  (case l0=>k_is)
  (case c0=>k_is)
  (case k0=>k_is)
  (case a1=>k_is)
  (case l1=>k_is)
  (case c1=>k_is)
  (case k1=>k_is)
  (case a2=>k_is)
  (case l2=>k_is)
  (case c2=>k_is)
  (case k2=>k_is)
  (case a3=>k_is)
  (case l3=>k_is)
  (case c3=>k_is)
  (case k3=>k_is)
  (case a4=>k_is)
  (case l4=>k_is)
  (case c4=>k_is)
  (case k4=>k_is)
  (case a5=>k_is)
  (case l5=>k_is)
  (case c5=>k_is)
  (case k5=>k_is)
  (case a6=>k_is)
  (case l6=>k_is)
  (case c6=>k_is)
  (case k6=>k_is)
  (case a7=>k_is)
  (case l7=>k_is)
  (case c7=>k_is)
  (case k7=>k_is)
  (case a8=>k_is)
  (case l8=>k_is)
  (case c8=>k_is)
  (case k8=>k_is)
  (case a9=>k_is)
  (case l9=>k_is)
  (case c9=>k_is)
  (case k9=>k_is)
  (case UD=>k_is)
  (case l10=>k_is)
  (case UE=>k_is)
  (case UG=>k_is)
  (case UH=>k_is)
  (case UI=>k_is)
  (case UJ=>k_is)
  (case UK=>k_is)
  (case UL=>k_is)
  (case UM=>k_is)
  (case UN=>k_is)
  (case UO=>k_is)
  (case UQ=>k_is)
  (case UR=>k_is)
  (case UT=>k_is)
  (case UU=>k_is)
  (case UW=>k_is)
  (case UX=>k_is)
  (case UY=>k_is)
  (case UZ=>k_is)
  (case U0=>k_is)
  (case U4=>k_is)
  (case U5=>k_is)
  (case U6=>k_is)
  (case U7=>k_is)
  (case U8=>k_is)
  (case c16=>k_is)
  (case U9=>k_is)
  (case U_=>k_is)
  (case Va=>k_is)
  (case Vb=>k_is)
  (case Vc=>k_is)
  (case Vd=>k_is)
  (case Ve=>k_is)
  (case Vf=>k_is)
  (case Vg=>k_is)
  (case Vh=>k_is)
  (case Vi=>k_is)
  (case Vj=>k_is)
  (case Vk=>k_is)
  (case Vl=>k_is)
  (case Vm=>k_is)
  (case Vn=>k_is)
  (case Vo=>k_is)
  (case Vp=>k_is)
  (case Vq=>k_is)
  (case Vr=>k_is)
  (case Vs=>k_is)
  (case FG=>k_is)
  (case OY=>k_is)
  (case OZ=>k_is)
  (case K2=>k_is)
  (case BH=>k_is)
  (case BI=>k_is)
  (case O0=>k_is)
  (case mS=>k_is)
  (case O1=>k_is)
  (case AF=>k_is)
