import PyProof.Rows.All
import Wide.All
import OpenK.AllK
import Wide.FinOn
import Lean
import PyProof.EqAt
import PyProof.EqKinds
import PyProof.TupleCall
import PyProof.CompUse
import PyProof.NeData
import PyProof.WalksEnum
import PyProof.EnumMake
import PyProof.ZipIter
import PyProof.Rows.EnumRows
import PyProof.Rows.FactsT2
import KE.KDictList
import PyProof.Rows.SortRuns
import PyProof.Rows.SortWalk
import KE.KSortTup
import PyProof.Rows.SortStr
import PyProof.ListRange
import PyProof.StrOps2
import PyProof.StrBlock2
import PyProof.AutoIntG3
import PyProof.ListMulRight
import PyProof.Rows.ListMulArg
import PyProof.Rows.CallKwBuiltin
import PyProof.Rows.StrMul
import KE.KMinBuiltin
import PyProof.TupleKey
import PyProof.SetKind
import PyProof.Rows.SetFrom
import PyProof.DictWalks
import KE.KRevIter
import PyProof.AutoSeq1
import PyProof.P3Eq
import PyProof.MeetsSeq3
import PyProof.FactsAll.list_2
import PyProof.FactsAll.tuple_2
import PyProof.Rows.RowHeap
import PyProof.FactsAll.list_3
import PySem.Challenge.RW_kinlook_k51_kin_and_alike
open PySem renaming wpAny_bind->ag,wpAny_pure->aI,wpAny_mono->oI
open List renaming mem_cons_of_mem->b5,mem_cons_self->bX,length_map->bT,mem_map->b9,mem_append_right->fF,mem_cons->df,mem_append->dS,getElem?_eq_some_iff->iN,size_toArray->hX,nodup_append->ip,mem_append_left->i9,map_cons->fo,length_append->kA,sublist_append_right->oo,mem_of_getElem?->ll,getElem?_eq_getElem->oq,nodup_cons->ja,pairwise_map->ly,mem_singleton->nv,getElem?_map->ny,append_nil->lI,map_map->js,getElem?_eq_none->sA,nodup_nil->lP,replicate_succ->tF,getElem?_append_right->BM,map_append->sC,length_cons->tI,flatten_cons->vk,drop_eq_getElem_cons->BO,mem_range->sD,filterMap_cons->yk,length_take->vn,pairwise_iff_getElem->DL,zip_cons_cons->zI,getElem?_append_left->FE,sublist_append_left->FG,not_mem_nil->zS,take_length->z0,mem_filter->z3,getD_eq_getElem?_getD->JY,nil_sublist->BQ,ext_getElem?->DM,take_add_one->DS,all_cons->z5,any_cons->An,length_drop->DT,append_eq_nil_iff->Kb,nodup_iff_pairwise_ne->ND,mem_iff_getElem?->Ki,find?_cons->DU,getElem?_set_ne->Kj,map_congr_left->Kk,length_eq_zero_iff->NF,length_zip->FH,length_singleton->NH,mem_of_mem_take->NJ,all_eq_true->Kx,any_eq_true->KG,getElem_mem->KL,filter_eq_self->NK,getElem?_replicate->Qc,append_assoc->NM,getElem?_set_self->Qe,drop_of_length_le->Qf,length_replicate->Qg,cons_append->NP,map_fst_zip->NQ,countP_cons->NR,cons_ne_nil->NS,mem_flatten->NT,mem_of_mem_drop->Qh,nil_append->NV,mem_filterMap->Qi,filterMap_map->Qj,contains_cons->Qk,length_range->Ql,lookup_cons->Qm,drop_length->Qn,all_map->NW
open PySem.Heap renaming get?_push_of_some->eW,lt_size->dy,get?_push_size->jv,get?_update_self->FI,get?_update_other->KP,size_update->DV,get?_push_ne->FK,get?_update_ne->Qo
open Nat renaming le_refl->ck,ne_of_lt->eM,lt_of_lt_of_le->kN,le_trans->gS,zero_le->gV,le_of_lt->ot,lt_succ_of_lt->vt,lt_succ_of_le->BU,le_of_not_lt->FL,pow_succ->yn,mul_le_mul->B1,not_lt_zero->DZ,lt_irrefl->B3,min_self->D1,zero_add->D2,lt_or_ge->D3,mul_assoc->FP,le_succ->D4,ne_of_gt->FR,le_of_eq->FT,le_of_lt_succ->NX,le_add_right->Qp,mod_lt->FU,lt_of_le_of_lt->Yp,eq_zero_or_pos->Qq,one_mul->KW,lt_trans->Qr,sub_zero->NZ,mul_comm->N0,succ_pos->N3
open Bool renaming false_ne_true->iq,false_eq_true->kP,and_eq_true->kQ,eq_iff_iff->yv,not_true->N4,and_true->N5
open Array renaming getElem?_toList->sF,getElem?_eq_getElem->wm,getD_eq_getD_getElem?->B4,length_toList->yy,getElem?_eq_none->FV,getElem?_eq_some_iff->N6,toArray_toList->N7
open Int renaming toNat_of_nonneg->D5,le_refl->wo,emod_lt_of_pos->FX,emod_nonneg->D6,toNat_natCast->FY,le_of_lt->GA,le_trans->Qs
open Option renaming map_eq_some_iff->K0,map_some->K2,isSome_iff_exists->Qt,isSome_map->Qu
local macro_rules | `(command| def $i:declId $s:optDeclSig $v:declVal)=>`(command| noncomputable def $i:declId $s:optDeclSig $v:declVal)
local macro_rules | `(command| abbrev $i:declId $s:optDeclSig $v:declVal)=>`(command| noncomputable abbrev $i:declId $s:optDeclSig $v:declVal)
set_option compiler.extract_closed false
local macro_rules | `(tactic| walk_at "l") => `(tactic| first | lia | omega)
local macro_rules | `(tactic| walk_at "s1") => `(tactic| solve_by_elim (maxDepth := 4) [Nat.lt_of_lt_of_le, Nat.lt_of_le_of_lt, Nat.le_trans, Nat.lt_trans, Nat.le_of_lt, Nat.le_of_not_lt])
local macro_rules | `(tactic| walk_at "s2") => `(tactic| solve_by_elim (maxDepth := 5) [Nat.lt_of_lt_of_le, Nat.lt_of_le_of_lt, Nat.le_trans, Nat.le_of_lt, Nat.le_of_not_lt, Nat.lt_of_not_le, Nat.lt_of_succ_lt, Nat.le_of_succ_le])
local macro_rules | `(tactic| walk_at "s3") => `(tactic| solve_by_elim (maxDepth := 5) [Int.lt_of_lt_of_le, Int.lt_of_le_of_lt, Int.le_trans, Int.le_of_lt, Int.not_lt.mp, Int.not_le.mp])
local macro_rules | `(tactic| walk_at "s4") => `(tactic| solve_by_elim (maxDepth := 5) [Nat.le_trans, Nat.lt_of_lt_of_le, Nat.le_of_lt, Nat.le_add_right, Nat.le_add_left, Nat.add_le_add_left, Nat.add_lt_add_left, Nat.succ_le_succ, Nat.sub_le])
theorem L2.fq{α β:Type _}{A B C:α->β->Prop}{G:Prop}(x:∃ a b,A a b/\B a b/\C a b)(k:∀ a b,A a b->B a b->C a b->G):G :=
 let ⟨a,b,p,q,r⟩:=x
 k a b p q r
set_option Elab.async false
set_option linter.all false
set_option maxRecDepth 100000
namespace L2
open PySem PySem.Spec PyProof.Rows
abbrev Key:=Sum Int Str
def D7:Key->Value->Bool
 |.inl k,v=>Value.isInt k v
 |.inr x,v=>Value.isStrOf x v
def Yq(w:World):Key->Int
 |.inl k=>hashInt k
 |.inr x=>hashStr w x
theorem wq:∀ {k:Key} {v:Value},D7 k v=true->(∃ i t,k=Sum.inl i/\v=Value.int i t)\/(∃ x t,k=Sum.inr x/\v=Value.str x t)
 |.inl i,v,h=>by
  obtain⟨t,e⟩:=Value.isInt_shape (k:=i) (v:=v) h
  exact .inl ⟨i,t,rfl,e⟩
 |.inr x,v,h=>by
  obtain⟨t,e⟩:=Value.isStrOf_shape (x:=x) (v:=v) h
  exact .inr ⟨x,t,rfl,e⟩
theorem Yr(i:Int)(t:Tok):D7 (.inl i) (.int i t)=true:=by simp[D7,Value.isInt]
theorem Ys(x:Str)(t:Tok):D7 (.inr x) (.str x t)=true:=by simp[D7,Value.isStrOf]
theorem UT(a b:Int):decide ((Sum.inl a:Key)=Sum.inl b)=(a == b):=by
 by_cases e:a=b
 ·subst e;simp
 ·have h:¬ (Sum.inl a:Key)=Sum.inl b:=fun q=>e (Sum.inl.inj q)
  rw[decide_eq_false h]
  exact(beq_eq_false_iff_ne.mpr e).symm
theorem UU(a b:Str):decide ((Sum.inr a:Key)=Sum.inr b)=decide (a=b):=by
 by_cases e:a=b
 ·subst e;simp
 ·have h:¬ (Sum.inr a:Key)=Sum.inr b:=fun q=>e (Sum.inr.inj q)
  rw[decide_eq_false h,decide_eq_false e]
theorem Yt(a:Int)(b:Str):decide ((Sum.inl a:Key)=Sum.inr b)=false:=decide_eq_false (fun q=>nomatch q)
theorem Yu(a:Str)(b:Int):decide ((Sum.inr a:Key)=Sum.inl b)=false:=decide_eq_false (fun q=>nomatch q)
def i6(prog:Program)(w:World):PySem.KeyKind prog w Key where
 is:=D7
 hash:=Yq w
 inj:=fun v a b ha hb=>by
  rcases wq ha with⟨i,t,rfl,rfl⟩|⟨x,t,rfl,rfl⟩
  ·rcases wq hb with⟨j,u,rfl,e⟩|⟨y,u,rfl,e⟩
   ·injection e with e1 _;rw[e1]
   ·exact nomatch e
  ·rcases wq hb with⟨j,u,rfl,e⟩|⟨y,u,rfl,e⟩
   ·exact nomatch e
   ·injection e with e1 _;rw[e1]
 byValue:=fun k v h=>by
  rcases wq h with⟨i,t,rfl,rfl⟩|⟨x,t,rfl,rfl⟩<;>rfl
 pyHash:=fun hv h=>by
  rcases wq hv with⟨i,t,rfl,rfl⟩|⟨x,t,rfl,rfl⟩
  ·exact wpAny_pyHash_int h
  ·exact wpAny_pyHash_str h
 eqBool:=fun hu hv h=>by
  rcases wq hu with⟨i,t,rfl,rfl⟩|⟨x,t,rfl,rfl⟩
  ·rcases wq hv with⟨j,u,rfl,rfl⟩|⟨y,u,rfl,rfl⟩
   ·rw[UT] at h;exact wpAny_eqBool_int h
   ·rw[Yt] at h;exact SeqAt.EqAt.int_str i t y u _ _ _ _ h
  ·rcases wq hv with⟨j,u,rfl,rfl⟩|⟨y,u,rfl,rfl⟩
   ·rw[Yu] at h;exact SeqAt.EqAt.str_int x t j u _ _ _ _ h
   ·rw[UU] at h;exact wpAny_eqBool_str h
 «strs» := fun k x t v h=>by
  rcases wq h with⟨i,u,rfl,e⟩|⟨y,u,rfl,e⟩
  ·exact nomatch e
  ·injection e with e1 _
   subst e1
   cases v<;>rfl
theorem Yv(prog:Program)(w:World)(i:Int)(t:Tok):(i6 prog w).is (.inl i) (.int i t)=true:=Yr i t
theorem Yw(prog:Program)(w:World)(x:Str)(t:Tok):(i6 prog w).is (.inr x) (.str x t)=true:=Ys x t
inductive V where
 |non|bl (b:Bool)|int (i:Int)|str (x:Str)|qq (b:Array UInt8)|Ap (b:UInt64)|ref (a:Addr)|ty (n:String)
 deriving DecidableEq
def RelV:V->Value->Prop
 |.non,u=>u=Value.none
 |.bl b,u=>u=Value.bool b
 |.int i,u=>∃ t,u=Value.int i t
 |.str x,u=>∃ t,u=Value.str x t
 |.qq b,u=>∃ t,u=Value.bytes b t
 |.Ap b,u=>∃ t,u=Value.float b t
 |.ref a,u=>u=Value.ref a
 |.ty n,u=>u=Value.type n
abbrev Vals:List V->List Value->Prop:=Paired RelV
theorem Vals.length(r:Vals xs us):xs.length=us.length:=Paired.length r
theorem Vals.get:∀ {xs:List V} {us:List Value} {i:Nat} {x:V},Vals xs us->xs[i]? = some x->∃ u,us[i]? = some u/\RelV x u
 |_,_,_,_,.nil,e=>by simp at e
 |_,_,0,_,.cons r _,e=>by simp at e;subst e;exact⟨_,rfl,r⟩
 |_,_,i+1,x,.cons _ t,e=>by
  obtain⟨u,h1,h2⟩:=Vals.get (i:=i) (x:=x) t (by simpa using e)
  exact⟨u,by simpa using h1,h2⟩
theorem Vals.append:∀ {xs ys:List V} {us ws:List Value},Vals xs us->Vals ys ws->Vals (xs++ys) (us++ws)
 |_,_,_,_,.nil,s=>s
 |_,_,_,_,.cons r t,s=>.cons r (Vals.append t s)
theorem Vals.take:∀ {xs:List V} {us:List Value} (n:Nat),Vals xs us->Vals (xs.take n) (us.take n)
 |_,_,0,_=>.nil
 |_,_,_+1,.nil=>.nil
 |_,_,n+1,.cons r t=>.cons r (Vals.take n t)
theorem Vals.drop:∀ {xs:List V} {us:List Value} (n:Nat),Vals xs us->Vals (xs.drop n) (us.drop n)
 |_,_,0,r=>r
 |_,_,_+1,.nil=>.nil
 |_,_,n+1,.cons _ t=>Vals.drop n t
def tJ:Option V->Option Value->Prop
 |some v,some u=>RelV v u
 |none,none=>True
 |_,_=>False
def KV{κ:Type}:List (κ × V)->List (κ × Value)->Prop:=Paired fun(p:κ × V) (q:κ × Value)=>p.1=q.1/\RelV p.2 q.2
def kV:Key->V
 |.inl i=>.int i
 |.inr x=>.str x
inductive HO where
 /-- a list -/
 |lst (xs:List V)
 /-- a tuple (never changes) -/
 |tup (xs:List V)
 /-- a dict whose keys are ints and texts;one whose keys are tuples of ints and texts (the empty one is both) -/
 |dK (kvs:List (Key × V))|dT (kvs:List (List Key × V))
 /-- a set of ints: its members,its size -/
 |set (S:Int->Bool) (n:Nat)
 /-- an instance of the class at C,its dict at dx,its attributes -/
 |ins (C dx:Addr) (fs:List (Str × V))
 /-- the dict of the instance at x -/
 |own (x:Addr)
 /-- the dict of an exception -/
 |xd (fs:List (Str × V))
 /-- a bound method,f of x -/
 |met (f x:Addr)
 /-- a range object lo,lo+1,.. below hi -/
 |N8 (lo hi:Int)
 /-- a thing that is known to the object (the script;a dict while a loop walks it): read,never written while it is so -/
 |mw (o:Obj) (u:HO)
 /-- a code object's table -/
 |B5 (ps:Array Value)
 /-- any other thing,by what is true of its one object (a def of gF' own: gG' a S n:=HO.ext fun h=>..) -/
 |ext (φ:Heap->Prop)
abbrev Hp:=Addr->Option HO
def upd(H:Hp)(a:Addr)(o:HO):Hp:=fun b=>if b=a then some o else H b
theorem gd:upd H a o a=some o:=by unfold upd;rw[if_pos rfl]
theorem dP(h:b≠a):upd H a o b=H b:=by unfold upd;rw[if_neg h]
theorem UW{H:Hp}{a b:Addr}{o u:HO}(h:H a=some o)(h':H b=some u)(d:o≠u):a≠b:=by
 intro e;subst e;rw[h] at h';exact d (Option.some.inj h')
theorem vv{H:Hp}{a b:Addr}{o:HO}(h:H a=some o)(h':H b=none):a≠b:=by
 intro e;subst e;rw[h] at h';cases h'
section
variable (P:Program)(w:World)
def eP(H:Hp)(h:Heap)(a:Addr):HO->Prop
 |.lst xs=>xs.length<=sizeLine/\∃ (its:List Value) (n:Nat),Vals xs its/\h.get? a=some { cls:=.type "list",data:=.seq its.toArray n }
 |.tup xs=>xs.length<=sizeLine/\∃ its:List Value,Vals xs its/\IsTup h a its.toArray
 |.dK kvs=>kvs.length<=sizeLine/\(a == sysModules)=false/\∃ vs,KV kvs vs/\h.DictOf (i6 P w) a vs
 |.dT kvs=>kvs.length<=sizeLine/\(a == sysModules)=false/\∃ xs:List (List Key × Addr × Value),
   Paired (fun(p:List Key × V) (q:List Key × Addr × Value)=>p.1=q.1/\H q.2.1=some (.tup (p.1.map kV))/\RelV p.2 q.2.2) kvs xs /\
   ∃ o es ep,h.get? a=some o/\o.ExactDict/\o.data=.dict es ep/\es.toList=xs.map (entryOfKey (tupleKind (i6 P w)))/\(xs.map (·.1)).Nodup
 |.set S n=>h.SetOf (intKind P w) a S n
 |.ins C dx fs=>H dx=some (.own a)/\fs.length<=1000/\dx≠a/\h.get? a=some (PySem.W.instObj C dx) /\
   ∃ mA,h.Ns1 dx mA/\(∀ f,tJ (fs.lookup f) (mA f))/\PySem.Within mA (fs.map (·.1))
 |.own _=>∃ o,h.get? a=some o
 |.xd fs=>∃ mA,h.Ns1 a mA/\∀ f,tJ (fs.lookup f) (mA f)
 |.N8 lo hi=>∃ t u v,h.get? a=some { cls:=.type "range",data:=.fields #[.int lo t,.int hi u,.int 1 v] }
 |.mw o u=>h.get? a=some o/\eP H h a u
 |.B5 ps=>h.get? a=some { cls:=.none,data:=.fields ps }
 |.met f x=>h.get? a=some (PySem.W.methodObj (.ref f) (.ref x))
 |.ext φ=>φ h/\(∃ o,h.get? a=some o)/\∀ h1 h2:Heap,φ h1->(∀ o,h1.get? a=some o->h2.get? a=some o)->φ h2
def fR(H:Hp)(h:Heap):Prop:=∀ a o,H a=some o->eP P w H h a o
end
section
variable {P:Program}{w:World}{H H':Hp}{h h':Heap}{a:Addr}{o:HO}
theorem eP.lt(x:eP P w H h a o):a<h.objs.size:=by
 cases o with
 |lst xs=>obtain⟨_,_,_,_,e⟩:=x;exact dy e
 |tup xs=>obtain⟨_,_,_,p⟩:=x;exact p.lt
 |dK kvs=>obtain⟨_,_,_,_,o,_,_,e,_⟩:=x;exact dy e
 |dT kvs=>obtain⟨_,_,_,_,o,_,_,e,_⟩:=x;exact dy e
 |set S n=>obtain⟨o,_,_,_,e,_⟩:=x;exact dy e
 |ins C dx fs=>obtain⟨_,_,_,e,_⟩:=x;exact dy e
 |own y=>obtain⟨_,e⟩:=x;exact dy e
 |xd fs=>obtain⟨_,⟨_,_,_,e,_⟩,_⟩:=x;exact dy e
 |N8 lo hi=>obtain⟨_,_,_,e⟩:=x;exact dy e
 |mw ob u=>obtain⟨e,_⟩:=x;exact dy e
 |B5 ps=>exact dy (show h.get? a=some _ from x)
 |met f y=>exact dy (show h.get? a=some _ from x)
 |ext φ=>obtain⟨_,⟨_,e⟩,_⟩:=x;exact dy e
theorem Paired.Qw{α β:Type}{F G:α->β->Prop}:∀ {UX:List α} {UY:List β},Paired F UX UY->(∀ a b,F a b->G a b)->Paired G UX UY
 |_,_,.nil,_=>.nil
 |_,_,.cons r t,f=>.cons (f _ _ r) (Paired.Qw t f)
theorem eP.eh(x:eP P w H h a o)(k:∀ b u,(b=a\/H b=some (.own a))->h.get? b=some u->h'.get? b=some u)
  (ho:∀ b,H b=some (.own a)->H' b=some (.own a)) (ht:∀ b xs,H b=some (.tup xs)->H' b=some (.tup xs)):eP P w H' h' a o:=by
 induction o with
 |lst xs=>obtain⟨z,its,n,r,e⟩:=x;exact⟨z,its,n,r,k _ _ (.inl rfl) e⟩
 |tup xs=>obtain⟨z,its,r,ob,e,c⟩:=x;exact⟨z,its,r,ob,k _ _ (.inl rfl) e,c⟩
 |dK kvs=>obtain⟨z,y,vs,r,ob,es,ep,e,c⟩:=x;exact⟨z,y,vs,r,ob,es,ep,k _ _ (.inl rfl) e,c⟩
 |dT kvs =>
  obtain⟨z,y,xs,r,ob,es,ep,e,c⟩:=x
  exact⟨z,y,xs,Paired.Qw r fun p q z=>⟨z.1,ht _ _ z.2.1,z.2.2⟩,ob,es,ep,k _ _ (.inl rfl) e,c⟩
 |set S n=>obtain⟨ob,es,ep,t,e,c⟩:=x;exact⟨ob,es,ep,t,k _ _ (.inl rfl) e,c⟩
 |ins C dx fs =>
  obtain⟨d,z,ne,e,mA,⟨od,es,ep,e2,c⟩,r⟩:=x
  exact⟨ho _ d,z,ne,k _ _ (.inl rfl) e,mA,⟨od,es,ep,k _ _ (.inr d) e2,c⟩,r⟩
 |own y=>obtain⟨ob,e⟩:=x;exact⟨ob,k _ _ (.inl rfl) e⟩
 |xd fs=>obtain⟨mA,⟨od,es,ep,e,c⟩,r⟩:=x;exact⟨mA,⟨od,es,ep,k _ _ (.inl rfl) e,c⟩,r⟩
 |N8 lo hi=>obtain⟨t,u,v,e⟩:=x;exact⟨t,u,v,k _ _ (.inl rfl) e⟩
 |mw ob u ih=>obtain⟨e,q⟩:=x;exact⟨k _ _ (.inl rfl) e,ih q⟩
 |B5 ps =>
  have e:h.get? a=some { cls:=.none,data:=.fields ps }:=x
  show h'.get? a=some { cls:=.none,data:=.fields ps }
  exact k a _ (.inl rfl) e
 |met f y =>
  have e:h.get? a=some (PySem.W.methodObj (.ref f) (.ref y)):=x
  show h'.get? a=some (PySem.W.methodObj (.ref f) (.ref y))
  exact k a _ (.inl rfl) e
 |ext φ=>obtain⟨p,⟨o,e⟩,st⟩:=x;exact⟨st _ _ p fun o q=>k _ _ (.inl rfl) q,⟨o,k _ _ (.inl rfl) e⟩,st⟩
theorem fR.lt(x:fR P w H h)(e:H a=some o):a<h.objs.size:=(x a o e).lt
theorem fR.fresh(x:fR P w H h)(e:h.objs.size<=a):H a=none:=by
 cases q:H a with
 |none=>rfl
 |some u=>exact absurd (kN (x.lt q) e) (B3 _)
theorem fR.kept(x:fR P w H h)(k:∀ b u,h.get? b=some u->h'.get? b=some u):fR P w H h':=fun a o e =>
 (x a o e).eh (fun b u _ q=>k b u q) (fun _ q=>q) fun _ _ q=>q
theorem fR.laid(x:fR P w H h)(k:∀ b u,h.get? b=some u->h'.get? b=some u)(hp:h.objs.size<=a)(new:eP P w (upd H a o) h' a o):fR P w (upd H a o) h':=fun b u e=>by
 have hn:=x.fresh hp
 by_cases hb:b=a
 ·subst hb;rw[gd] at e;cases e;exact new
 ·rw[dP hb] at e
  exact(x b u e).eh (fun c v _ q=>k c v q) (fun c q=>by rw[dP (vv q hn)];exact q) fun c xs q=>by rw[dP (vv q hn)];exact q
end
def Rd(H:Hp)(a:Addr)(u:HO):Prop:=H a=some u\/∃ o,H a=some (.mw o u)
theorem Rd.ok{P:Program}(r:Rd H a u)(x:fR P w H h):eP P w H h a u:=by
 rcases r with r|⟨o,r⟩
 ·exact x a u r
 ·obtain⟨_,q⟩:=x a _ r
  exact q
def Lc:Option HO->Prop
 |some (.lst _)=>True
 |some (.dK _)=>True
 |some (.dT _)=>True
 |some (.set _ _)=>True
 |some (.ins _ _ _)=>True
 |some (.ext _)=>True
 |_=>False
section
variable {P:Program}{w:World}{H:Hp}{h h':Heap}{x e:Addr}{o':HO}
theorem fR.write(ok:fR P w H h)(mu:Lc (H x))(he:e=x\/H e=some (.own x))(k:∀ b u,b≠e->h.get? b=some u->h'.get? b=some u)(GB:∃ u,h'.get? e=some u)
  (new:eP P w (upd H x o') h' x o'):fR P w (upd H x o') h':=fun b u q=>by
 have UZ:∀ c y,H c=some (.own y)->c≠x:=fun c y r z=>by subst z;rw[r] at mu;exact mu
 have Yx:∀ c xs,H c=some (.tup xs)->c≠x:=fun c xs r z=>by subst z;rw[r] at mu;exact mu
 by_cases hb:b=x
 ·subst hb;rw[gd] at q;cases q;exact new
 ·rw[dP hb] at q
  by_cases D8:b=e
  ·have q':H b=some (.own x):=by
    rcases he with z|z
    ·exact absurd (D8.trans z) hb
    ·rw[D8];exact z
   rw[q] at q';cases q'
   obtain⟨v,hv⟩:=GB
   exact⟨v,by rw[D8];exact hv⟩
  ·refine(ok b u q).eh (fun c v hc r=>k c v ?_ r) (fun c r=>by rw[dP (UZ c b r)];exact r) fun c xs r=>by rw[dP (Yx c xs r)];exact r
   rcases hc with rfl|hc
   ·exact D8
   ·rintro rfl
    rcases he with z|z
    ·exact UZ c b hc z
    ·rw[hc] at z;cases z;exact hb rfl
end
structure Un(fs ex:List Addr)(H H':Hp)(h h':Heap):Prop where
 keep:∀ b o,h.get? b=some o->H b=none->b∉fs->b∉ex->h'.get? b=some o
 slot:∀ b o,h.get? b=some o->H b=none->b∈fs->b∉ex->∃ sl,h'.get? b=some { o with slots:=sl }
 free:∀ b o,h.get? b=some o->H b=none->b∉ex->H' b=none
 there:∀ b o,h.get? b=some o->b∉ex->∃ o',h'.get? b=some o'
 iO:∀ b xs,H b=some (.tup xs)->H' b=some (.tup xs)
 sL:∀ b o u,H b=some (.mw o u)->H' b=some (.mw o u)
 tN:∀ b ps,H b=some (.B5 ps)->∃ more,H' b=some (.B5 (ps++more))
section
variable {fs ex:List Addr}{H H1:Hp}{h h1 h':Heap}{a x e:Addr}{o:HO}
theorem Un.any(u:Un fs ex H H1 h h1)(q:h.get? b=some ob)(n:H b=none)(hx:b∉ex):∃ sl,h1.get? b=some { ob with slots:=sl }:=by
 by_cases hb:b∈fs
 ·exact u.slot b ob q n hb hx
 ·exact⟨ob.slots,u.keep b ob q n hb hx⟩
theorem Un.kept(k:∀ b u,h.get? b=some u->h'.get? b=some u):Un fs ex H H h h' :=
 ⟨fun b ob q _ _ _=>k b ob q,fun b ob q _ _ _=>⟨ob.slots,k b ob q⟩,fun _ _ _ n _=>n,fun b ob q _=>⟨ob,k b ob q⟩,fun _ _ q=>q,fun _ _ _ q=>q,fun _ ps q=>⟨#[],by rw[q];simp⟩⟩
theorem Un.refl:Un fs ex H H h h:=Un.kept fun _ _ q=>q
theorem Un.laid(k:∀ b u,h.get? b=some u->h'.get? b=some u)(hp:h.objs.size<=a)(hn:H a=none):Un fs ex H (upd H a o) h h' where
 keep:=fun b u q _ _ _=>k b u q
 slot:=fun b u q _ _ _=>⟨u.slots,k b u q⟩
 free:=fun b u q n _=>by rw[dP (eM (kN (dy q) hp))];exact n
 there:=fun b u q _=>⟨u,k b u q⟩
 iO:=fun b xs q=>by rw[dP (vv q hn)];exact q
 sL:=fun b u xs q=>by rw[dP (vv q hn)];exact q
 tN:=fun b ps q=>⟨#[],by rw[dP (vv q hn),q];simp⟩
theorem Un.write(mu:Lc (H x))(he:e=x\/H e=some (.own x))(k:∀ b u,b≠e->h.get? b=some u->h'.get? b=some u)(GB:∃ u,h'.get? e=some u):Un fs ex H (upd H x o) h h':=by
 have hx:∀ b,H b=none->b≠x:=fun b n z=>by subst z;rw[n] at mu;exact mu
 have hb:∀ b,H b=none->b≠e:=fun b n z=>by
  subst z
  rcases he with r|r
  ·exact hx b n r
  ·rw[n] at r;cases r
 have hm:∀ b u,H b=some u->¬ Lc (some u)->b≠x:=fun b u q nm z=>by subst z;rw[q] at mu;exact nm mu
 refine⟨fun b u q n _ _=>k b u (hb b n) q,fun b u q n _ _=>⟨u.slots,k b u (hb b n) q⟩,fun b u q n _=>by rw[dP (hx b n)];exact n,fun b u q _=>?_,
  fun b xs q=>by rw[dP (hm b _ q fun z=>z)];exact q,fun b u xs q=>by rw[dP (hm b _ q fun z=>z)];exact q,fun b ps q=>⟨#[],by rw[dP (hm b _ q fun z=>z),q];simp⟩⟩
 by_cases D8:b=e
 ·subst D8;exact GB
 ·exact⟨u,k b u D8 q⟩
end
def N9(h:Heap)(H:Hp):List Addr:=(List.range h.objs.size).filter fun a=>(H a).isSome
def Au(h:Heap)(H:Hp):Heap:=PySem.W.hideAll h (N9 h H)
theorem Yy(h:Heap)(H:Hp):(Au h H).objs.size=h.objs.size:=PySem.W.hideAll_size _ _
theorem Yz(e:h.get? b=some o)(n:H b=none):(Au h H).get? b=some o :=
 PySem.W.hideAll_get _ e fun hm=>by
  have q:(H b).isSome=true:=(z3.mp hm).2
  rw[n] at q;simp at q
theorem YB(e:(Au h H).get? b=some o):h.get? b=some o/\H b=none:=by
 have e':h.get? b=some o:=PySem.W.of_hideAll (N9 h H) e
 refine⟨e',?_⟩
 cases q:H b with
 |none=>rfl
 |some x =>
  have hm:b∈N9 h H:=z3.mpr ⟨sD.mpr (dy e'),by simp[q]⟩
  have z:(Au h H).get? b=none:=PySem.W.hideAll_none (N9 h H) hm
  rw[z] at e;cases e
def YC(g h:Heap)(L:Addr):List (Addr × Obj):=(List.range h.objs.size).filterMap fun a=>if a=L\/(g.get? a).isSome=true then none else (h.get? a).map fun o=>(a,o)
def rest(g h:Heap)(L d:Addr):List (Addr × Obj):=(YC g h L).filter fun p=>decide (p.1≠d)
structure Mod(K:PySem.W.Frag)(mg:Str->Option Value)(base:Heap):Prop where
 B6:K.In base
 glob:base.Ns mainGlobals mg
 blt:∃ mb,base.Ns builtinsNs mb/\∀ x:Str,x ≠ "__name__"->mb x=bootBuiltins x
 nolimit:base.NoLimit
structure Cx where
 prog:Program
 w:World
 K:PySem.W.Frag
 mg:Str->Option Value
 base:Heap
 A:Around
 N:List Str
 eR:Shared
 wt:Hp
 env:Env
 outer:List Env
 stack:List Env
 ex:List Addr
 fn:Str->Bool
 calm:Bool
 pn:List (Addr × Obj)
 xe:Value->Shared->Prop
def fh(l:List Env):List Addr:=l.filterMap (·.frame)
abbrev Cx.fs(X:Cx):List Addr:=fh X.outer
def N_(sc:Scope)(x:Str):Prop:=sc.names.lookup x=some .local\/sc.names.lookup x=some .cell\/sc.names.lookup x=some .free
def Loc(sc:Scope)(x:Str):Prop:=sc.names.lookup x=some .local\/sc.names.lookup x=some .cell
def Look(env:Env)(h:Heap)(m:Str->Option Value)(x:Str)(u:Value):Prop :=
 (env.kindOf x=some .local/\m x=some u)\/((env.kindOf x=some .cell\/env.kindOf x=some .free)/\∃ c,env.cells.lookup x=some c/\h.IsCell c (some u))
structure Cx.Ok(X:Cx):Prop where
 mod:Mod X.K X.mg X.base
 kind:X.env.scope.kind=.function
 glob:X.env.globals=mainGlobals
 blt:X.env.builtins=builtinsNs
 above:X.eR.heap.objs.size<=X.env.locals
 inj:∀ x y c,X.env.cells.lookup x=some c->X.env.cells.lookup y=some c->x=y
 has:∀ x,(X.env.kindOf x=some .cell\/X.env.kindOf x=some .free)->∃ c,X.env.cells.lookup x=some c
 yA:∀ x c,X.fn x=true->X.env.cells.lookup x=some c->X.eR.heap.objs.size<=c
 hd:X.calm=true->X.A.handled=none
 frames:X.A.frames=some X.stack
 AA:X.stack=X.outer\/(X.stack=X.env :: X.outer/\X.env.frame=some X.env.locals)
 AB:∀ b∈X.ex,b≠X.env.locals/\∀ x c,X.env.cells.lookup x=some c->c≠b
 bs:∀ b o,X.base.get? b=some o->X.eR.heap.get? b=some o/\X.wt b=none
 tP:X.base.objs.size<=X.eR.heap.objs.size
 yB:∀ b o,X.base.get? b=some o->b∉X.ex
 yT:∀ b∈X.ex,b∉X.fs
 oP:X.eR.heap.FunFrames X.base X.outer
 wx:∀ b∈X.fs,X.wt b=none
structure Inv(X:Cx)(pins:List (Addr × Obj))(σ:List (Option V))(H:Hp)(s:Shared):Prop where
 ok:X.Ok
 os:s.os=X.eR.os
 bare:AllBare s.gens
 base:Un X.fs X.ex X.wt H X.eR.heap s.heap
 loc:∃ m,s.heap.Ns X.env.locals m/\∀ (i:Nat) (x:Str) (v:V),X.N[i]? = some x->σ[i]? = some (some v)->N_ X.env.scope x->∃ u,RelV v u/\Look X.env s.heap m x u
 cell:∀ x c,X.env.cells.lookup x=some c->∃ v,s.heap.IsCell c v
 free:H X.env.locals=none
 ox:∀ x c,X.env.cells.lookup x=some c->H c=none
 pin:∀ p∈X.pn++pins,s.heap.get? p.1=some p.2/\H p.1=none/\p.1≠X.env.locals/\p.1∉X.fs/\∀ v,p.2.data≠.cell v
 aE:fR X.prog X.w H s.heap
 len:σ.length=X.N.length
section
variable {X:Cx}{pins:List (Addr × Obj)}{σ:List (Option V)}{H H':Hp}{s:Shared}{h':Heap}
theorem Cx.Ok.YD(ok:X.Ok)(e:X.base.get? b=some o):b∉X.fs:=fun hb=>by
 have:=(ok.oP.mem hb).1
 rw[e] at this;cases this
theorem Inv.bs(I:Inv X pins σ H s):∀ b o,X.base.get? b=some o->s.heap.get? b=some o/\H b=none:=fun b o e =>
 ⟨I.base.keep b o (I.ok.bs b o e).1 (I.ok.bs b o e).2 (I.ok.YD e) (I.ok.yB b o e),I.base.free b o (I.ok.bs b o e).1 (I.ok.bs b o e).2 (I.ok.yB b o e)⟩
theorem Inv.bk(I:Inv X pins σ H s):∀ b o,X.base.get? b=some o->s.heap.get? b=some o:=fun b o e=>(I.bs b o e).1
theorem Inv.mod(I:Inv X pins σ H s):Mod X.K X.mg X.base:=I.ok.mod
theorem Inv.kB(I:Inv X pins σ H s):X.K.In s.heap:=I.ok.mod.B6.keeps I.bk
theorem Inv.lt(I:Inv X pins σ H s):X.env.locals<s.heap.objs.size:=let ⟨_,hn,_⟩:=I.loc;hn.lt
theorem Inv.sz(I:Inv X pins σ H s):X.eR.heap.objs.size<=s.heap.objs.size:=gS I.ok.above (ot I.lt)
theorem Inv.YF(I:Inv X pins σ H s)(h:s.heap.objs.size<=a):a∉X.fs:=fun hb=>by
 obtain⟨_,o,ho,_⟩:=I.ok.oP.mem hb
 exact absurd (kN (dy ho) (gS I.sz h)) (B3 _)
theorem Inv.B7(I:Inv X pins σ H s):∀ x c,X.env.cells.lookup x=some c->c≠X.env.locals:=fun x c e z=>by
 obtain⟨v,o,ho,hd⟩:=I.cell x c e
 obtain⟨m,⟨o',es,ep,mz,Qx,_⟩,_⟩:=I.loc
 rw[z,mz] at ho;cases ho;rw[Qx] at hd;cases hd
theorem Inv.oP(I:Inv X pins σ H s):s.heap.FunFrames X.base X.outer:=by
 have all:∀ (l:List Env),(∀ b∈fh l,b∈X.fs)->X.eR.heap.FunFrames X.base l->s.heap.FunFrames X.base l:=by
  intro l
  induction l with
  |nil=>intro _ _;trivial
  |cons env r ih =>
   intro hs hl
   obtain⟨hk,⟨L,o,hf,hn,ho,hd⟩,hr⟩:=hl
   have hL:L∈X.fs:=hs L (by unfold fh;rw[yk,hf];exact bX)
   obtain⟨sl,e⟩:=I.base.slot L o ho (I.ok.wx L hL) hL fun z=>I.ok.yT L z hL
   exact⟨hk,⟨L,_,hf,hn,e,hd⟩,ih (fun b hb=>hs b (by unfold fh;rw[yk,hf];exact b5 _ hb)) hr⟩
 exact all X.outer (fun _ hb=>hb) I.ok.oP
theorem Inv.stack(I:Inv X pins σ H s):s.heap.FunFrames X.base X.stack:=by
 rcases I.ok.AA with e|⟨e,hf⟩
 ·rw[e];exact I.oP
 ·rw[e]
  obtain⟨m,hn,_⟩:=I.loc
  refine .cons (by rw[I.ok.kind];decide) hf hn ?_ I.oP
  exact Heap.get?_none_of_le (gS I.ok.tP I.ok.above)
theorem Inv.Qy(I:Inv X pins σ H s):∀ b∈fh X.stack,b∈X.env.locals :: X.fs:=fun b hb=>by
 rcases I.ok.AA with e|⟨e,hf⟩
 ·rw[e] at hb;exact b5 _ hb
 ·rw[e] at hb
  unfold fh at hb
  rw[yk,hf] at hb
  exact hb
theorem Inv.Qz(I:Inv X pins σ H s):∀ b∈fh X.stack,H b=none:=fun b hb=>by
 rcases df.mp (I.Qy b hb) with e|hb
 ·rw[e];exact I.free
 ·obtain⟨_,o,ho,_⟩:=I.ok.oP.mem hb
  exact I.base.free b o ho (I.ok.wx b hb) fun z=>I.ok.yT b z hb
theorem Inv.step{g':Array GenState}{t':Nat}{d':Drawn}{ch:List Addr}(I:Inv X pins σ H s)
  (vw:∀ b∈ch,(b∈X.ex\/X.eR.heap.objs.size<=b)/\b≠X.env.locals/\(∀ x c,X.env.cells.lookup x=some c->c≠b)/\∀ p∈X.pn++pins,p.1≠b)
  (keep:∀ b o,b≠X.env.locals->b∉X.fs->b∉ch->s.heap.get? b=some o->H b=none->h'.get? b=some o)
  (slot:∀ b o,b≠X.env.locals->b∈X.fs->b∉ch->s.heap.get? b=some o->H b=none->∃ sl,h'.get? b=some { o with slots:=sl }) (free:∀ b o,b∉ch->s.heap.get? b=some o->H b=none->H' b=none)
  (there:∀ b o,b∉ch->s.heap.get? b=some o->∃ o',h'.get? b=some o')
  (iO:∀ b xs,H b=some (.tup xs)->H' b=some (.tup xs)) (sL:∀ b o u,H b=some (.mw o u)->H' b=some (.mw o u)) (tN:∀ b ps,H b=some (.B5 ps)->∃ more,H' b=some (.B5 (ps++more)))
  (ns:∀ m,s.heap.Ns X.env.locals m->h'.Ns X.env.locals m) (aE:fR X.prog X.w H' h') (hg:AllBare g') :
  Inv X pins σ H' { s with heap:=h',gens:=g',drawn:=d',toks:=t' }:=by
 have Lv:∀ b o,X.eR.heap.get? b=some o->b≠X.env.locals:=fun b o e=>eM (kN (dy e) I.ok.above)
 have Oa:∀ b o,X.eR.heap.get? b=some o->b∉X.ex->b∉ch:=fun b o e hx hb=>by
  rcases (vw b hb).1 with z|z
  ·exact hx z
  ·exact absurd (kN (dy e) z) (B3 _)
 have cellK:∀ x c,X.env.cells.lookup x=some c->∀ v,s.heap.IsCell c v->h'.IsCell c v:=fun x c e v cy=>by
  obtain⟨o,ho,hd⟩:=cy
  have LB:c∉ch:=fun z=>(vw c z).2.2.1 x c e rfl
  by_cases hc:c∈X.fs
  ·obtain⟨sl,q⟩:=slot c o (I.B7 x c e) hc LB ho (I.ox x c e)
   exact⟨_,q,hd⟩
  ·exact⟨o,keep c o (I.B7 x c e) hc LB ho (I.ox x c e),hd⟩
 refine⟨I.ok,I.os,hg,⟨fun b o e n hb hx=>?_,fun b o e n hb hx=>?_,fun b o e n hx=>?_,fun b o e hx=>?_,fun b xs e=>iO b xs (I.base.iO b xs e),fun b o xs e=>sL b o xs (I.base.sL b o xs e),fun b ps e=>?_⟩,?_,fun x c e=>?_,?_,fun x c e=>?_,fun p hp=>?_,aE,I.len⟩
 ·exact keep b o (Lv b o e) hb (Oa b o e hx) (I.base.keep b o e n hb hx) (I.base.free b o e n hx)
 ·obtain⟨sl,e1⟩:=I.base.slot b o e n hb hx
  obtain⟨YG,e2⟩:=slot b _ (Lv b o e) hb (Oa b o e hx) e1 (I.base.free b o e n hx)
  exact⟨YG,e2⟩
 ·obtain⟨o',e1⟩:=I.base.there b o e hx
  exact free b o' (Oa b o e hx) e1 (I.base.free b o e n hx)
 ·obtain⟨o',e1⟩:=I.base.there b o e hx
  exact there b o' (Oa b o e hx) e1
 ·obtain⟨m1,e1⟩:=I.base.tN b ps e
  obtain⟨m2,e2⟩:=tN b _ e1
  exact⟨m1++m2,by rw[e2,Array.append_assoc]⟩
 ·obtain⟨m,hn,hl⟩:=I.loc
  refine⟨m,ns m hn,fun i x v e1 e2 e3=>?_⟩
  obtain⟨u,r,l⟩:=hl i x v e1 e2 e3
  refine⟨u,r,?_⟩
  rcases l with l|⟨k,c,e,z⟩
  ·exact .inl l
  ·exact .inr ⟨k,c,e,cellK x c e _ z⟩
 ·obtain⟨v,z⟩:=I.cell x c e
  exact⟨v,cellK x c e v z⟩
 ·obtain⟨m,⟨o,_,_,ho,_⟩,_⟩:=I.loc
  exact free _ o (fun z=>(vw _ z).2.1 rfl) ho I.free
 ·obtain⟨v,o,ho,hd⟩:=I.cell x c e
  exact free c o (fun z=>(vw c z).2.2.1 x c e rfl) ho (I.ox x c e)
 ·obtain⟨e,n,ne,nf,d⟩:=I.pin p hp
  have LB:p.1∉ch:=fun z=>(vw p.1 z).2.2.2 p hp rfl
  exact⟨keep p.1 p.2 ne nf LB e n,free p.1 p.2 LB e n,ne,nf,d⟩
theorem Inv.un{t':Nat}(I:Inv X pins σ H s)(u:Un X.fs [] H H' s.heap h')(aE:fR X.prog X.w H' h'):Inv X pins σ H' { s with heap:=h',toks:=t' }:=by
 obtain⟨m,⟨o,es,ep,ho,r⟩,_⟩:=id I.loc
 obtain⟨sl,hL⟩:=u.any ho I.free (by simp)
 exact I.step (g':=s.gens) (d':=s.drawn) (ch:=[]) (fun _ z=>nomatch z) (fun b o _ hb _ e n=>u.keep b o e n hb (by simp)) (fun b o _ hb _ e n=>u.slot b o e n hb (by simp)) (fun b o _ e n=>u.free b o e n (by simp)) (fun b o _ e=>u.there b o e (by simp)) u.iO u.sL u.tN (fun m' hm=>by
  obtain⟨o',QB,QC,mz,r'⟩:=hm
  rw[ho] at mz;cases mz
  exact⟨_,QB,QC,hL,r'⟩) aE I.bare
theorem Inv.call{g':Array GenState}{t':Nat}{d':Drawn}{ch:List Addr}(I:Inv X pins σ H s)(u:Un (fh X.stack) ch H H' s.heap h')(aE:fR X.prog X.w H' h')(hg:AllBare g')
  (vw:∀ b∈ch,(b∈X.ex\/X.eR.heap.objs.size<=b)/\b≠X.env.locals/\(∀ x c,X.env.cells.lookup x=some c->c≠b)/\∀ p∈X.pn++pins,p.1≠b) :
  Inv X pins σ H' { s with heap:=h',gens:=g',drawn:=d',toks:=t' }:=by
 obtain⟨m,⟨o,es,ep,ho,r⟩,_⟩:=id I.loc
 obtain⟨sl,hL⟩:=u.any ho I.free fun z=>(vw _ z).2.1 rfl
 exact I.step (ch:=ch) vw (fun b o hL hb hc e n=>u.keep b o e n (fun z=>(df.mp (I.Qy b z)).elim hL hb) hc) (fun b o _ _ hc e n=>u.any e n hc) (fun b o hc e n=>u.free b o e n hc) (fun b o hc e=>u.there b o e hc) u.iO u.sL u.tN (fun m' hm=>by
  obtain⟨o',QB,QC,mz,r'⟩:=hm
  rw[ho] at mz;cases mz
  exact⟨_,QB,QC,hL,r'⟩) aE hg
theorem Inv.turned{t':Nat}{it:Addr}(I:Inv X pins σ H s)(k:∀ b o,b≠it->s.heap.get? b=some o->h'.get? b=some o)(hn:H it=none)(hL:it≠X.env.locals)
  (h1:it∈X.ex\/X.eR.heap.objs.size<=it) (h2:∀ x c,X.env.cells.lookup x=some c->c≠it) (h3:∀ p∈X.pn++pins,p.1≠it):Inv X pins σ H { s with heap:=h',toks:=t' }:=by
 have B8:∀ b u,H b=some u->b≠it:=fun b u e z=>by rw[z,hn] at e;cases e
 refine I.step (g':=s.gens) (d':=s.drawn) (ch:=[it]) (fun b hb=>?_) (fun b o _ _ hc e _=>k b o (fun z=>hc (by simp[z])) e) (fun b o _ _ hc e _=>⟨o.slots,k b o (fun z=>hc (by simp[z])) e⟩) (fun _ _ _ _ n=>n)
  (fun b o hc e=>⟨o,k b o (fun z=>hc (by simp[z])) e⟩) (fun _ _ e=>e) (fun _ _ _ e=>e) (fun b ps e=>⟨#[],by rw[e];simp⟩) (fun m hm=>?_) (fun b u e=>?_) I.bare
 ·have e:b=it:=by simpa using hb
  subst e
  exact⟨h1,hL,h2,h3⟩
 ·obtain⟨o,es,ep,ho,r⟩:=hm
  exact⟨o,es,ep,k _ o (Ne.symm hL) ho,r⟩
 ·refine(I.aE b u e).eh (fun c v hc q=>k c v ?_ q) (fun _ q=>q) fun _ _ q=>q
  rcases hc with z|z
  ·rw[z];exact B8 b u e
  ·exact B8 c _ z
theorem Inv.tok(I:Inv X pins σ H s)(t:Nat):Inv X pins σ H { s with toks:=t }:=I.un (h':=s.heap) (t':=t) Un.refl I.aE
theorem Inv.kept(I:Inv X pins σ H s)(k:∀ b u,s.heap.get? b=some u->h'.get? b=some u):Inv X pins σ H { s with heap:=h',toks:=t' }:=I.un (Un.kept k) (I.aE.kept k)
theorem Inv.laid(I:Inv X pins σ H s)(k:∀ b u,s.heap.get? b=some u->h'.get? b=some u)(hp:s.heap.objs.size<=a)(new:eP X.prog X.w (upd H a o) h' a o) :
  Inv X pins σ (upd H a o) { s with heap:=h',toks:=t' }:=I.un (Un.laid k hp (I.aE.fresh hp)) (I.aE.laid k hp new)
theorem Inv.write(I:Inv X pins σ H s)(mu:Lc (H x))(he:e=x\/H e=some (.own x))(k:∀ b u,b≠e->s.heap.get? b=some u->h'.get? b=some u)(GB:∃ u,h'.get? e=some u)
  (new:eP X.prog X.w (upd H x o) h' x o):Inv X pins σ (upd H x o) { s with heap:=h',toks:=t' }:=I.un (Un.write mu he k GB) (I.aE.write mu he k GB new)
theorem Inv.U0(I:Inv X pins σ H s)(h:∀ p∈nE,s.heap.get? p.1=some p.2/\H p.1=none/\p.1≠X.env.locals/\p.1∉X.fs/\∀ v,p.2.data≠.cell v):Inv X nE σ H s :=
 ⟨I.ok,I.os,I.bare,I.base,I.loc,I.cell,I.free,I.ox,fun p hp=>(dS.mp hp).elim (fun z=>I.pin p (i9 _ z)) (h p),I.aE,I.len⟩
theorem U1{N:List Str}(hN:N.Nodup){i j:Nat}{x:Str}(a:N[i]? = some x)(b:N[j]? = some x):i=j:=by
 obtain⟨h1,e1⟩:=iN.mp a
 obtain⟨h2,e2⟩:=iN.mp b
 exact(List.getElem_inj hN).mp (e1.trans e2.symm)
theorem QD{M:Model}{A:Around}{E:Value->Shared->Prop}{i:Nat}{x:Str}{v:V}{u:Value}{Q:Unit->Shared->Prop}(I:Inv X pins σ H s)(hN:X.N.Nodup)(hi:X.N[i]? = some x)(hx:Loc X.env.scope x)(r:RelV v u)
  (h:∀ s',Inv X pins (σ.set i (some v)) H s'->(∃ a,Heap.SameBut a s.heap s'.heap/\(a=X.env.locals\/X.env.cells.lookup x=some a))->Q () s') (hf:X.fn x=true\/X.env.scope.names.lookup x=some .local:=by first|exact .inl rfl|exact .inr rfl|assumption):wpAny M A (storeName X.env x u) Q E s:=by
 obtain⟨m,hn,hl⟩:=id I.loc
 have QF:(X.env.scope.kind == .class || (X.env.scope.kind == .module && X.env.locals != X.env.globals))=false:=by rw[I.ok.kind];rfl
 have U2:i<σ.length:=by rw[I.len];exact(iN.mp hi).1
 have B7:=I.B7
 have tracked:∀ {a:Addr} {h':Heap},(∃ o,s.heap.get? a=some o/\H a=none)->Heap.SameBut a s.heap h'->fR X.prog X.w H h':=fun {a h'} ha hs b ob e=>by
  obtain⟨_,_,U3⟩:=ha
  refine(I.aE b ob e).eh (fun c w' hc q=>(hs.2 c ?_).trans q) (fun _ q=>q) fun _ _ q=>q
  rintro rfl
  rcases hc with rfl|hc
  ·rw[U3] at e;cases e
  ·rw[U3] at hc;cases hc
 rcases hx with hk|hk
 ·refine wpAny_storeName_local hk hn (fun h' QH hs=>?_) QF
  obtain⟨oL,_,_,vx,_⟩:=id hn
  refine h _ ⟨I.ok,I.os,I.bare,⟨fun b o e n hb hx=>?_,fun b o e n hb hx=>?_,I.base.free,fun b o e hx=>?_,I.base.iO,I.base.sL,I.base.tN⟩,⟨_,QH,fun j y v' e1 e2 e3=>?_⟩,fun y c e=>?_,I.free,I.ox,fun p hp=>?_,tracked ⟨oL,vx,I.free⟩ hs,by simpa using I.len⟩ ⟨_,hs,.inl rfl⟩
  ·exact(hs.2 b (eM (kN (dy e) I.ok.above))).trans (I.base.keep b o e n hb hx)
  ·obtain⟨sl,e1⟩:=I.base.slot b o e n hb hx
   exact⟨sl,(hs.2 b (eM (kN (dy e) I.ok.above))).trans e1⟩
  ·obtain⟨o',e1⟩:=I.base.there b o e hx
   exact⟨o',(hs.2 b (eM (kN (dy e) I.ok.above))).trans e1⟩
  ·by_cases hj:j=i
   ·subst hj
    rw[hi] at e1;cases e1
    rw[Qe U2] at e2
    cases e2
    exact⟨u,r,.inl ⟨hk,by simp⟩⟩
   ·rw[Kj (Ne.symm hj)] at e2
    obtain⟨u',r',q⟩:=hl j y v' e1 e2 e3
    refine⟨u',r',?_⟩
    rcases q with⟨k,e⟩|⟨k,c,e,z⟩
    ·refine .inl ⟨k,?_⟩
     have:y≠x:=fun e=>hj (U1 hN e1 (e ▸ hi))
     simp[this,e]
    ·exact .inr ⟨k,c,e,z.sameBut hs (B7 y c e)⟩
  ·obtain⟨w',z⟩:=I.cell y c e
   exact⟨w',z.sameBut hs (B7 y c e)⟩
  ·obtain⟨e,n,ne,nf,d⟩:=I.pin p hp
   exact⟨(hs.2 p.1 ne).trans e,n,ne,nf,d⟩
 ·have QJ:X.fn x=true:=by
   rcases hf with z|z
   ·exact z
   ·rw[z] at hk;cases hk
  obtain⟨c,hc⟩:=I.ok.has x (.inl hk)
  obtain⟨w',z⟩:=I.cell x c hc
  refine wpAny_storeName_cell I.ok.kind hk hc z (fun h' vE hs=>?_)
  obtain⟨oc,U4,YH⟩:=id z
  refine h { s with heap:=h' } ⟨I.ok,I.os,I.bare,⟨fun b o e n hb hx=>?_,fun b o e n hb hx=>?_,I.base.free,fun b o e hx=>?_,I.base.iO,I.base.sL,I.base.tN⟩,⟨m,hn.sameBut hs (Ne.symm (B7 x c hc)),fun j y v' e1 e2 e3=>?_⟩,fun y c' e=>?_,I.free,I.ox,fun p hp=>?_,tracked ⟨oc,U4,I.ox x c hc⟩ hs,by simpa using I.len⟩ ⟨c,hs,.inr hc⟩
  ·exact(hs.2 b (eM (kN (dy e) (I.ok.yA x c QJ hc)))).trans (I.base.keep b o e n hb hx)
  ·obtain⟨sl,e1⟩:=I.base.slot b o e n hb hx
   exact⟨sl,(hs.2 b (eM (kN (dy e) (I.ok.yA x c QJ hc)))).trans e1⟩
  ·obtain⟨o',e1⟩:=I.base.there b o e hx
   exact⟨o',(hs.2 b (eM (kN (dy e) (I.ok.yA x c QJ hc)))).trans e1⟩
  ·by_cases hj:j=i
   ·subst hj
    rw[hi] at e1;cases e1
    rw[Qe U2] at e2
    cases e2
    exact⟨u,r,.inr ⟨.inl hk,c,hc,vE⟩⟩
   ·rw[Kj (Ne.symm hj)] at e2
    obtain⟨u',r',q⟩:=hl j y v' e1 e2 e3
    refine⟨u',r',?_⟩
    rcases q with q|⟨k,c',e,z'⟩
    ·exact .inl q
    ·refine .inr ⟨k,c',e,z'.sameBut hs ?_⟩
     rintro rfl
     exact hj (U1 hN e1 (I.ok.inj _ _ _ e hc ▸ hi))
  ·by_cases Ob:c'=c
   ·subst Ob;exact⟨_,vE⟩
   ·obtain⟨w2,z2⟩:=I.cell y c' e
    exact⟨w2,z2.sameBut hs Ob⟩
  ·obtain⟨e,n,ne,nf,d⟩:=I.pin p hp
   refine⟨(hs.2 p.1 ?_).trans e,n,ne,nf,d⟩
   intro q
   rw[q,U4] at e
   have q':oc=p.2:=Option.some.inj e
   exact d w' (by rw[<- q'];exact YH)
theorem U5(I:Inv X pins σ H s)(hN:X.N.Nodup)(hi:X.N[i]? = some x)(hx:Loc X.env.scope x)(r:RelV v u)
  (h:∀ s',Inv X pins (σ.set i (some v)) H s'->Q () s') (hf:X.fn x=true\/X.env.scope.names.lookup x=some .local:=by first|exact .inl rfl|exact .inr rfl|assumption):wpAny M A (storeName X.env x u) Q E s :=
 QD I hN hi hx r (fun s' I' _=>h s' I') hf
theorem Inv.YJ(I:Inv X pins σ H s)(ho:s'.os=s.os)(u:Un (fh X.stack) ch H H' s.heap s'.heap)(aE:fR X.prog X.w H' s'.heap)(hg:AllBare s'.gens)
  (vw:∀ b∈ch,(b∈X.ex\/X.eR.heap.objs.size<=b)/\b≠X.env.locals/\(∀ x c,X.env.cells.lookup x=some c->c≠b)/\∀ p∈X.pn++pins,p.1≠b):Inv X pins σ H' s':=by
 obtain⟨h',g',d',t',o'⟩:=s'
 have e:o'=s.os:=ho
 subst e
 exact I.call (g':=g') (t':=t') (d':=d') u aE hg vw
end
abbrev XK:=Value->Option Addr->Hp->Prop
abbrev St:=List (Option V)
abbrev VK:=V->Hp->Prop
abbrev TE:=St->Hp->VK->Prop
abbrev TT:=St->Hp->(Bool->Hp->Prop)->Prop
abbrev TA:=St->Hp->(List V->Hp->Prop)->Prop
structure Ends where
 nx:St->Hp->Prop
 rt:VK
 bk:St->Hp->Prop:=fun _ _=>False
 ct:St->Hp->Prop:=fun _ _=>False
abbrev TS:=Ends->St->Hp->Prop
def EP(X:Cx)(pins:List (Addr × Obj))(σ:St)(Q:VK)(u:Value)(s':Shared):Prop:=∃ v H',Inv X pins σ H' s'/\RelV v u/\Q v H'
def TP(X:Cx)(pins:List (Addr × Obj))(σ:St)(Q:Bool->Hp->Prop)(b:Bool)(s':Shared):Prop:=∃ H',Inv X pins σ H' s'/\Q b H'
def AP(X:Cx)(pins:List (Addr × Obj))(σ:St)(Q:List V->Hp->Prop)(us:List Value)(s':Shared):Prop:=∃ vs H',Inv X pins σ H' s'/\Vals vs us/\Q vs H'
def SP(X:Cx)(pins:List (Addr × Obj))(D:Ends)(f:Flow)(s':Shared):Prop :=
 match f with
 |.next=>∃ bp H',Inv X pins bp H' s'/\D.nx bp H'
 |.brk=>∃ bp H',Inv X pins bp H' s'/\D.bk bp H'
 |.cont=>∃ bp H',Inv X pins bp H' s'/\D.ct bp H'
 |.ret u=>∃ v bp H',Inv X pins bp H' s'/\RelV v u/\D.rt v H'
def PE(X:Cx)(e:Expr)(t:TE):Prop :=
 ∀ (pins:List (Addr × Obj)) (s:Shared) (σ:St) (H:Hp) (Q:VK),Inv X pins σ H s->t σ H Q->wpAny (model X.prog X.w) X.A (eval e X.env) (EP X pins σ Q) X.xe s
def PT(X:Cx)(e:Expr)(t:TT):Prop :=
 ∀ (pins:List (Addr × Obj)) (s:Shared) (σ:St) (H:Hp) (Q:Bool->Hp->Prop),Inv X pins σ H s->t σ H Q->wpAny (model X.prog X.w) X.A (isTrue e X.env (eval e X.env)) (TP X pins σ Q) X.xe s
def PW(X:Cx)(e:Expr)(t:TT):Prop :=
 ∀ (whole:Sem Value) (pins:List (Addr × Obj)) (s:Shared) (σ:St) (H:Hp) (Q:Bool->Hp->Prop),Inv X pins σ H s->t σ H Q->wpAny (model X.prog X.w) X.A (isTrue e X.env whole) (TP X pins σ Q) X.xe s
def PA(X:Cx)(es:List Expr)(t:TA):Prop :=
 ∀ (pos:Pos) (pins:List (Addr × Obj)) (s:Shared) (σ:St) (H:Hp) (Q:List V->Hp->Prop),Inv X pins σ H s->t σ H Q->wpAny (model X.prog X.w) X.A (spliced (backTo pos (starEach es X.env))) (AP X pins σ Q) X.xe s
def PS(X:Cx)(st:Stmt)(t:TS):Prop :=
 ∀ (pins:List (Addr × Obj)) (s:Shared) (σ:St) (H:Hp) (D:Ends),Inv X pins σ H s->t D σ H->wpAny (model X.prog X.w) X.A (exec st X.env) (SP X pins D) X.xe s
def mB(X:Cx)(st:List Stmt)(t:TS):Prop :=
 ∀ (pins:List (Addr × Obj)) (s:Shared) (σ:St) (H:Hp) (D:Ends),Inv X pins σ H s->t D σ H->wpAny (model X.prog X.w) X.A (execs st X.env) (SP X pins D) X.xe s
theorem cc{α:Type}{t:Sem α}{Q Q':α->Shared->Prop}{M:Model}{A:Around}{E:Value->Shared->Prop}{s:Shared}(h:wpAny M A t Q E s)(hQ:∀ a s,Q a s->Q' a s):wpAny M A t Q' E s:=oI h hQ fun _ _ x=>x
section
variable {X:Cx}
def y0(i:Nat):TE:=fun σ H Q=>∃ v,σ[i]? = some (some v)/\Q v H
def tC(v:V):TE:=fun _ H Q=>Q v H
theorem U6 (hN:X.N[i]? = some x) (hv:N_ X.env.scope x) (hd:(x == ("__debug__" : Str))=false:=by decide) (oy:(x == ("__classdict__" : Str))=false:=by decide):PE X (.Name x pos) (y0 i):=by
 intro pins s σ H Q I h
 obtain⟨v,e,h⟩:=h
 obtain⟨m,hn,hl⟩:=I.loc
 obtain⟨u,r,l⟩:=hl i x v hN e hv
 have fin:EP X pins σ Q u s:=⟨v,H,I,r,h⟩
 rcases l with⟨hk,hm⟩|⟨hk,c,hc,U7⟩
 ·exact wpAny_Name (wpAny_loadName_local I.ok.kind hk hn hm fin) hd
 ·rcases hk with hk|hk
  ·exact wpAny_Name (wpAny_loadName_cell I.ok.kind hk hc U7 fin) hd
  ·exact wpAny_Name (wpAny_loadName_free I.ok.kind hk hc U7 fin oy) hd
theorem YK{i j pos}:PE X (.Constant (.int i) j pos) (tC (.int i)):=fun _ _ _ H _ I h=>wpAny_Constant_int ⟨.int i,H,I.tok _,⟨_,rfl⟩,h⟩
theorem YL{b j pos}:PE X (.Constant (.bool b) j pos) (tC (.bl b)):=fun _ _ _ H _ I h=>Constant_bool ⟨.bl b,H,I,rfl,h⟩
theorem YM{x j pos}:PE X (.Constant (.str x) j pos) (tC (.str x)):=fun _ _ _ H _ I h=>Calls.Constant_str ⟨.str x,H,I.tok _,⟨_,rfl⟩,h⟩
def Gl(X:Cx)(x:Str):Prop:=X.env.kindOf x=some .globalImplicit
theorem Oc(I:Inv X pins σ H s)(hg:Gl X x)(hm:X.mg x=some u)(h:Q u s)
  (hd:(x == ("__debug__" : Str))=false:=by decide):wpAny (model X.prog X.w) X.A (eval (.Name x pos) X.env) Q E s :=
 Calls.Name_function_global I.ok.kind hg (Calls.loadGlobal_global (by rw[I.ok.glob];exact I.mod.glob.keeps I.bk) hm h) hd
theorem AF(I:Inv X pins σ H s)(hg:Gl X x)(hm:X.mg x=none)(hv:bootBuiltins x=some u)(h:Q u s)
  (hn:x ≠ "__name__" := by decide) (hd:(x == ("__debug__" : Str))=false:=by decide):wpAny (model X.prog X.w) X.A (eval (.Name x pos) X.env) Q E s:=by
 obtain⟨mb,h1,h2⟩:=I.mod.blt
 exact Calls.Name_function_global I.ok.kind hg (Calls.loadGlobal_builtin (by rw[I.ok.glob];exact I.mod.glob.keeps I.bk) hm (by rw[I.ok.blt];exact h1.keeps I.bk) ((h2 x hn).trans hv) h) hd
theorem y1 (hg:Gl X x) (hm:X.mg x=some u) (r:RelV v u) (hd:(x == ("__debug__" : Str))=false:=by decide):PE X (.Name x pos) (tC v) :=
 fun _ _ _ H _ I h=>Oc I hg hm ⟨v,H,I,r,h⟩ hd
theorem YN (hg:Gl X x) (hm:X.mg x=none) (hv:bootBuiltins x=some u) (r:RelV v u) (hn:x ≠ "__name__" := by decide) (hd:(x == ("__debug__" : Str))=false:=by decide):PE X (.Name x pos) (tC v) :=
 fun _ _ _ H _ I h=>AF I hg hm hv ⟨v,H,I,r,h⟩ hn hd
variable {a b:Expr}{ta tb:TE}{pos:Pos}
def tB(t:TE):TT:=fun σ H Q=>t σ H fun x H1=>∃ c,x=.bl c/\Q c H1
theorem YQ(h:PE X e t)(he:∀ whole,isTrue e X.env whole=(do let v <- whole;standAt e.pos;holding [v] (truthy v)):=by intro _;rfl):PT X e (tB t):=by
 intro pins s σ H Q I hw
 refine isTrue_plain (cc (h pins s σ H _ I hw) fun v s1 cf=>L2.fq cf fun x H1 I1 r1 q1=>?_) (he _)
 obtain⟨d,rfl,q⟩:=q1
 cases r1
 exact wpAny_truthy_bool ⟨H1,I1,q⟩
variable {tA Od:TT}{rest:List Expr}
def YR(t u:TT):TT:=fun σ H Q=>t σ H fun c H1=>if c=true then u σ H1 Q else Q false H1
def YS(t u:TT):TT:=fun σ H Q=>t σ H fun c H1=>if c=true then Q true H1 else u σ H1 Q
def YT(t:TT):TT:=fun σ H Q=>t σ H fun c H1=>Q (!c) H1
theorem pw_and1(ha:PT X a tA):PW X (.BoolOp .And [a] pos) tA:=by
 intro wh pins s σ H Q I h
 refine isTrue_and (cc (ha pins s σ H Q I h) fun c s1 e=>?_)
 cases c with
 |true=>exact isTrue_and_nil e
 |false=>exact e
theorem pw_or1(ha:PT X a tA):PW X (.BoolOp .Or [a] pos) tA:=by
 intro wh pins s σ H Q I h
 refine isTrue_or (cc (ha pins s σ H Q I h) fun c s1 e=>?_)
 cases c with
 |false=>exact isTrue_or_nil e
 |true=>exact e
theorem pw_and(ha:PT X a tA)(hb:PW X (.BoolOp .And (b :: rest) pos) Od):PW X (.BoolOp .And (a :: b :: rest) pos) (YR tA Od):=by
 intro wh pins s σ H Q I h
 refine isTrue_and (cc (ha pins s σ H _ I h) fun c s1 cy=>?_)
 obtain⟨H1,I1,q1⟩:=cy
 cases c with
 |true=>exact hb wh pins s1 σ H1 Q I1 q1
 |false=>exact⟨H1,I1,q1⟩
theorem pw_or(ha:PT X a tA)(hb:PW X (.BoolOp .Or (b :: rest) pos) Od):PW X (.BoolOp .Or (a :: b :: rest) pos) (YS tA Od):=by
 intro wh pins s σ H Q I h
 refine isTrue_or (cc (ha pins s σ H _ I h) fun c s1 cy=>?_)
 obtain⟨H1,I1,q1⟩:=cy
 cases c with
 |true=>exact⟨H1,I1,q1⟩
 |false=>exact hb wh pins s1 σ H1 Q I1 q1
theorem YV(ha:PT X a tA):PT X (.UnaryOp .Not a pos) (YT tA):=by
 intro pins s σ H Q I h
 exact isTrue_not (ha pins s σ H (fun c H1=>Q (!c) H1) I h)
def YW(ta tb:TE):TE:=fun σ H Q=>ta σ H fun x H1=>∃ c,x=.bl c/\if c=true then tb σ H1 Q else Q (.bl false) H1
def YX(ta tb:TE):TE:=fun σ H Q=>ta σ H fun x H1=>∃ c,x=.bl c/\if c=true then Q (.bl true) H1 else tb σ H1 Q
def YY(ta:TE):TE:=fun σ H Q=>ta σ H fun x H1=>∃ c,x=.bl c/\Q (.bl (!c)) H1
theorem YZ{op}(h:PE X a t):PE X (.BoolOp op [a] pos) t:=fun pins s σ H Q I hw=>BoolOp_one (h pins s σ H Q I hw)
theorem Y0(ha:PE X a ta)(hb:PE X (.BoolOp .And (b :: rest) pos) tb):PE X (.BoolOp .And (a :: b :: rest) pos) (YW ta tb):=by
 intro pins s σ H Q I h
 refine BoolOp_and (cc (ha pins s σ H _ I h) fun v s1 cf=>L2.fq cf fun x H1 I1 r1 q1=>?_)
 obtain⟨c,rfl,q1⟩:=q1
 cases r1
 refine wpAny_truthy_bool ?_
 cases c with
 |true=>exact hb pins s1 σ H1 Q I1 q1
 |false=>exact⟨.bl false,H1,I1,rfl,q1⟩
theorem Y1(ha:PE X a ta)(hb:PE X (.BoolOp .Or (b :: rest) pos) tb):PE X (.BoolOp .Or (a :: b :: rest) pos) (YX ta tb):=by
 intro pins s σ H Q I h
 refine BoolOp_or (cc (ha pins s σ H _ I h) fun v s1 cf=>L2.fq cf fun x H1 I1 r1 q1=>?_)
 obtain⟨c,rfl,q1⟩:=q1
 cases r1
 refine wpAny_truthy_bool ?_
 cases c with
 |false=>exact hb pins s1 σ H1 Q I1 q1
 |true=>exact⟨.bl true,H1,I1,rfl,q1⟩
theorem Y2(ha:PE X a ta):PE X (.UnaryOp .Not a pos) (YY ta):=by
 intro pins s σ H Q I h
 refine UnaryOp_ (cc (ha pins s σ H _ I h) fun v s1 cf=>L2.fq cf fun x H1 I1 r1 q1=>?_)
 obtain⟨c,rfl,q1⟩:=q1
 cases r1
 exact not_of (wpAny_truthy_bool ⟨.bl (!c),H1,I1,rfl,q1⟩)
end
def eB(K:PySem.W.Frag)(H:Hp)(a:Addr)(xs:List V):Prop :=
 Rd H a (.lst xs) \/
  ∃ (o:Obj) (its:Array Value) (n:Nat),K.lookup a=some o/\o.cls=.type "list"/\o.dict=none/\o.data=.seq its n/\its.size<=sizeLine/\Vals xs its.toList
def jI(K:PySem.W.Frag)(H:Hp)(a:Addr)(xs:List V):Prop :=
 Rd H a (.tup xs) \/
  ∃ (o:Obj) (its:Array Value) (n:Nat),K.lookup a=some o/\o.cls=.type "tuple"/\o.data=.seq its n/\its.size<=sizeLine/\Vals xs its.toList
def Y3:Value->Option V
 |.none=>some .non
 |.bool b=>some (.bl b)
 |.int i _=>some (.int i)
 |.str x _=>some (.str x)
 |.bytes b _=>some (.qq b)
 |.float b _=>some (.Ap b)
 |.ref a=>some (.ref a)
 |.type n=>some (.ty n)
 |_=>none
theorem RelV.abs(r:RelV x u):Y3 u=some x:=by
 cases x with
 |non=>cases r;rfl
 |bl _=>cases r;rfl
 |int _=>obtain⟨t,rfl⟩:=r;rfl
 |str _=>obtain⟨t,rfl⟩:=r;rfl
 |qq _=>obtain⟨t,rfl⟩:=r;rfl
 |Ap _=>obtain⟨t,rfl⟩:=r;rfl
 |ref _=>cases r;rfl
 |ty _=>cases r;rfl
theorem RelV.inj(r:RelV x u)(q:RelV y u):x=y:=Option.some.inj (r.abs.symm.trans q.abs)
theorem Vals.inj:∀ {xs ys:List V} {us:List Value},Vals xs us->Vals ys us->xs=ys
 |_,_,_,.nil,.nil=>rfl
 |_,_,_,.cons r t,.cons r' t'=>by rw[r.inj r',Vals.inj t t']
section
variable {X:Cx}{pins:List (Addr × Obj)}{σ:St}{H:Hp}{s:Shared}{a:Addr}{xs ys:List V}
theorem Inv.list(I:Inv X pins σ H s)(h:eB X.K H a xs):∃ its:List Value,Vals xs its/\PlainL s.heap a its.toArray/\xs.length<=sizeLine:=by
 rcases h with h|⟨o,its,n,hk,hc,hd,hs,hz,r⟩
 ·obtain⟨z,its,n,r,e⟩:=h.ok I.aE
  exact⟨its,r,⟨_,n,e,rfl,rfl,rfl⟩,z⟩
 ·refine⟨its.toList,r,⟨o,n,I.kB a o hk,hc,hd,by simpa using hs⟩,?_⟩
  have e:=r.length
  simp only[yy] at e
  lia
theorem Inv.tuple(I:Inv X pins σ H s)(h:jI X.K H a xs):∃ its:List Value,Vals xs its/\IsTup s.heap a its.toArray/\xs.length<=sizeLine:=by
 rcases h with h|⟨o,its,n,hk,hc,hs,hz,r⟩
 ·obtain⟨z,its,r,p⟩:=h.ok I.aE
  exact⟨its,r,p,z⟩
 ·refine⟨its.toList,r,⟨o,I.kB a o hk,hc,n,by simpa using hs⟩,?_⟩
  have e:=r.length
  simp only[yy] at e
  lia
theorem Inv.U8(I:Inv X pins σ H s)(h:eB X.K H a xs)(h':eB X.K H a ys):xs=ys:=by
 obtain⟨its,r,⟨o,n,e,_,_,d⟩,_⟩:=I.list h
 obtain⟨its',r',⟨o',n',e',_,_,d'⟩,_⟩:=I.list h'
 rw[e] at e';cases e'
 rw[d] at d'
 injection d' with d1 _
 have:its=its':=by simpa using congrArg Array.toList d1
 subst this
 exact r.inj r'
theorem Inv.Y4(I:Inv X pins σ H s)(h:jI X.K H a xs)(h':jI X.K H a ys):xs=ys:=by
 obtain⟨its,r,⟨o,e,_,n,d⟩,_⟩:=I.tuple h
 obtain⟨its',r',⟨o',e',_,n',d'⟩,_⟩:=I.tuple h'
 rw[e] at e';cases e'
 rw[d] at d'
 injection d' with d1 _
 have:its=its':=by simpa using congrArg Array.toList d1
 subst this
 exact r.inj r'
end
abbrev Cx.wish(X:Cx)(E:Value->Shared->Prop):Cx:={ X with xe:=E }
abbrev Cx.LD(X:Cx):Cx:=X.wish fun _ _=>False
theorem Cx.Ok.wish{X:Cx}(ok:X.Ok)(E:Value->Shared->Prop):(X.wish E).Ok :=
 ⟨ok.mod,ok.kind,ok.glob,ok.blt,ok.above,ok.inj,ok.has,ok.yA,ok.hd,ok.frames,ok.AA,ok.AB,ok.bs,ok.tP,ok.yB,ok.yT,ok.oP,ok.wx⟩
theorem Cx.Ok.B9{X:Cx}(ok:(X.wish E).Ok):X.Ok :=
 ⟨ok.mod,ok.kind,ok.glob,ok.blt,ok.above,ok.inj,ok.has,ok.yA,ok.hd,ok.frames,ok.AA,ok.AB,ok.bs,ok.tP,ok.yB,ok.yT,ok.oP,ok.wx⟩
section
variable {X:Cx}{pins:List (Addr × Obj)}{σ:St}{H:Hp}{s:Shared}{E:Value->Shared->Prop}
theorem Inv.wish(I:Inv X pins σ H s)(E:Value->Shared->Prop):Inv (X.wish E) pins σ H s:=⟨I.ok.wish E,I.os,I.bare,I.base,I.loc,I.cell,I.free,I.ox,I.pin,I.aE,I.len⟩
theorem Inv.B9(I:Inv (X.wish E) pins σ H s):Inv X pins σ H s:=⟨I.ok.B9,I.os,I.bare,I.base,I.loc,I.cell,I.free,I.ox,I.pin,I.aE,I.len⟩
theorem SP.B9{D:Ends}(h:SP (X.wish E) pins D f s'):SP X pins D f s':=by
 cases f with
 |next=>obtain⟨bp,H',I,q⟩:=h;exact⟨bp,H',I.B9,q⟩
 |brk=>obtain⟨bp,H',I,q⟩:=h;exact⟨bp,H',I.B9,q⟩
 |cont=>obtain⟨bp,H',I,q⟩:=h;exact⟨bp,H',I.B9,q⟩
 |ret u=>obtain⟨v,bp,H',I,r,q⟩:=h;exact⟨v,bp,H',I.B9,r,q⟩
theorem mB.LD{st:List Stmt}(h:mB X.LD st t):mB X st t:=fun pins s σ H D I hw =>
 oI (h pins s σ H D (I.wish _) hw) (fun _ _ q=>q.B9) fun _ _ z=>False.elim z
end
section
variable {X:Cx}{st:Stmt}{rest:List Stmt}{t u:TS}{e:Expr}{te:TE}{pos:Pos}
def Y5:TS:=fun D σ H=>D.nx σ H
def U9(t u:TS):TS:=fun D σ H=>t { D with nx:=u D } σ H
theorem U_:mB X [] Y5:=fun _ _ σ H _ I h=>wpAny_execs_nil ⟨σ,H,I,h⟩
theorem Va(h1:PS X st t)(h2:mB X rest u):mB X (st :: rest) (U9 t u):=by
 intro pins s σ H D I h
 refine wpAny_execs_cons (cc (h1 pins s σ H { D with nx:=u D } I h) fun f s1 q=>?_)
 cases f with
 |next =>
  obtain⟨bp,H',I',q⟩:=q
  exact h2 pins s1 bp H' D I' q
 |ret v=>exact q
 |brk=>exact q
 |cont=>exact q
theorem Vb(h1:PS X st t):mB X [st] t:=by
 intro pins s σ H D I h
 refine wpAny_execs_cons (cc (h1 pins s σ H D I h) fun f s1 q=>?_)
 cases f with
 |next=>exact wpAny_execs_nil q
 |ret v=>exact q
 |brk=>exact q
 |cont=>exact q
theorem Inv.quiet(I:Inv X pins σ H s):interactive X.env=false:=by simp[interactive,I.ok.kind]
def Y6(te:TE):TS:=fun D σ H=>te σ H fun _ H1=>D.nx σ H1
theorem LG(he:PE X e te)(hs:swapsWith e none pos.line X.env=pure false:=by rfl):PS X (.Expr e pos) (Y6 te):=by
 intro pins s σ H D I h
 exact wpAny_Expr_any (cc (he pins s σ H _ I h) fun v s1 cf=>L2.fq cf fun x H1 I1 r1 q1=>⟨σ,H1,I1,q1⟩) I.quiet hs
def Y7(te:TE):TS:=fun D σ H=>te σ H D.rt
theorem Oe(he:PE X e te):PS X (.Return (some e) pos) (Y7 te):=by
 intro pins s σ H D I h
 exact wpAny_Return_some (cc (he pins s σ H _ I h) fun v s1 cf=>L2.fq cf fun x H1 I1 r1 q1=>⟨x,σ,H1,I1,r1,q1⟩)
def Y8(c:TT)(t u:TS):TS:=fun D σ H=>c σ H fun b H1=>if b=true then t D σ H1 else u D σ H1
theorem Y9(hc:PT X c tc)(ha:mB X a t)(hb:mB X b u):PS X (.If c a b pos) (Y8 tc t u):=by
 intro pins s σ H D I h
 refine wpAny_If (cc (hc pins s σ H _ I h) fun d s1 cy=>?_)
 obtain⟨H1,I1,q1⟩:=cy
 cases d with
 |true=>exact ha pins s1 σ H1 D I1 q1
 |false=>exact hb pins s1 σ H1 D I1 q1
end
abbrev TG:=V->St->Hp->(St->Hp->Prop)->Prop
abbrev GH:=List V->St->Hp->(St->Hp->Prop)->Prop
def PG(X:Cx)(target:Expr)(t:TG):Prop :=
 ∀ (pins:List (Addr × Obj)) (s:Shared) (σ:St) (H:Hp) (v:V) (u:Value) (Q:St->Hp->Prop),Inv X pins σ H s->RelV v u->t v σ H Q ->
  wpAny (model X.prog X.w) X.A (assign target X.env u) (fun _ s'=>∃ bp H',Inv X pins bp H' s'/\Q bp H') X.xe s
def y3(X:Cx)(ts:List Expr)(t:GH):Prop :=
 ∀ (pins:List (Addr × Obj)) (s:Shared) (σ:St) (H:Hp) (vs:List V) (us:List Value) (Q:St->Hp->Prop),Inv X pins σ H s->Vals vs us->t vs σ H Q ->
  wpAny (model X.prog X.w) X.A (assignInOrder ((assignEach ts X.env).map (·.2)) us) (fun _ s'=>∃ bp H',Inv X pins bp H' s'/\Q bp H') X.xe s
section
variable {X:Cx}{pos:Pos}
def QK(i:Nat):TG:=fun v σ H Q=>Q (σ.set i (some v)) H
theorem Y_(hN:X.N.Nodup)(hi:X.N[i]? = some x)(hx:Loc X.env.scope x)(hf:X.fn x=true\/X.env.scope.names.lookup x=some .local:=by first|exact .inl rfl|exact .inr rfl|assumption):PG X (.Name x pos) (QK i):=by
 intro pins s σ H v u Q I r h
 exact wpAny_assign_Name (U5 I hN hi hx r (fun s' I'=>⟨_,H,I',h⟩) hf)
def Za:GH:=fun vs σ H Q=>vs=[]/\Q σ H
def Zb(t:TG)(u:GH):GH:=fun vs σ H Q=>∃ v r,vs=v :: r/\t v σ H fun bp H'=>u r bp H' Q
theorem Zc:y3 X [] Za:=by
 intro pins s σ H vs us Q I r h
 obtain⟨e,h⟩:=h
 subst e
 cases r
 exact assignInOrder_nil ⟨σ,H,I,h⟩
theorem Zd(h1:PG X e t)(h2:y3 X es u)
  (hs:(assignEach (e :: es) X.env).map (·.2)=assign e X.env :: (assignEach es X.env).map (·.2):=by rfl):y3 X (e :: es) (Zb t u):=by
 intro pins s σ H vs us Q I r h
 obtain⟨v,vr,e1,h⟩:=h
 subst e1
 cases r with
 |cons r rr =>
  rw[hs]
  refine assignInOrder_cons (cc (h1 pins s σ H _ _ _ I r h) fun _ s1 cy=>?_)
  obtain⟨GL,H1,I1,q1⟩:=cy
  exact h2 pins s1 GL H1 _ _ Q I1 rr q1
def Ze(K:PySem.W.Frag)(n:Nat)(t:GH):TG:=fun v σ H Q=>∃ a xs,v=.ref a/\jI K H a xs/\xs.length=n/\t xs σ H Q
theorem Zf(hc:X.calm=true)(h:y3 X es t)
  (hn:(assignEach es X.env).length=n:=by rfl) (jS:(assignEach es X.env).findIdx? (·.1)=none:=by rfl):PG X (.Tuple es k pos) (Ze X.K n t):=by
 intro pins s σ H v u Q I r hw
 obtain⟨a,xs,e1,hq,hl,hw⟩:=hw
 subst e1
 cases r
 obtain⟨its,rv,ht,hz⟩:=I.tuple hq
 refine assign_Tuple_tuple (I.ok.hd hc) ht (by simp[hn,<- hl,rv.length]) jS fun h' hx=>?_
 have I1:Inv X pins σ H { s with heap:=h' }:=I.kept (t':=s.toks) fun b o e=>hx b o (eM (dy e)) e
 exact h pins _ σ H xs _ Q I1 (by simpa using rv) hw
def Vc(te:TE)(g:TG):TS:=fun D σ H=>te σ H fun x H1=>g x σ H1 D.nx
theorem Og(hN:X.N.Nodup)(hi:X.N[i]? = some x)(hx:Loc X.env.scope x)(he:PE X e te)(hs:swapsWith e (some (.Name x pos')) pos.line X.env=pure false:=by rfl)(hf:X.fn x=true\/X.env.scope.names.lookup x=some .local:=by first|exact .inl rfl|exact .inr rfl|assumption) :
  PS X (.Assign [.Name x pos'] e pos) (Vc te (QK i)):=by
 intro pins s σ H D I h
 refine wpAny_Assign_Name (cc (he pins s σ H _ I h) fun v s1 cf=>L2.fq cf fun y H1 I1 r1 q1=>?_) hs
 exact U5 I1 hN hi hx r1 (fun s2 I2=>⟨_,H1,I2,q1⟩) hf
def Zg(c:TT)(tb:TS):TS:=fun D σ H=>∃ W:Nat->St->Hp->Prop,(∃ m,W m σ H)/\∀ m σ H,W m σ H ->
 c σ H fun b H1=>if b=true then ∃ N:St->Hp->Prop,(∀ bp H',N bp H'->∃ m',m'<m/\W m' bp H')/\tb { D with nx:=N,ct:=N,bk:=D.nx } σ H1 else D.nx σ H1
theorem Zh(hp:PassesOwn (model X.prog X.w) X.A X.env X.xe)(hc:PT X c tc)(hb:mB X body tb):PS X (.While c body [] pos) (Zg tc tb):=by
 intro pins s σ H D I h
 obtain⟨W,⟨m0,w0⟩,turn⟩:=h
 refine wpAny_While (codeAny_whileLoop (fun n s'=>∃ bp H',Inv X pins bp H' s'/\W n bp H') ?_ m0 ⟨σ,H,I,w0⟩)
 rintro n s1 ⟨GL,H1,I1,w1⟩
 refine wpAny_passesOwn hp (cc (hc pins s1 GL H1 _ I1 (turn n GL H1 w1)) fun b s2 cy=>?_)
 obtain⟨H2,I2,q2⟩:=cy
 cases b with
 |true =>
  obtain⟨N,hN,q2⟩:=q2
  rw[if_pos rfl]
  refine wpAny_passesOwn hp (cc (hb pins s2 GL H2 _ I2 q2) fun f s3 q3=>?_)
  cases f with
  |next =>
   obtain⟨oQ,H3,I3,n3⟩:=q3
   obtain⟨m',hm,w3⟩:=hN oQ H3 n3
   exact⟨m',hm,oQ,H3,I3,w3⟩
  |cont =>
   obtain⟨oQ,H3,I3,n3⟩:=q3
   obtain⟨m',hm,w3⟩:=hN oQ H3 n3
   exact⟨m',hm,oQ,H3,I3,w3⟩
  |brk=>exact q3
  |ret v=>exact q3
 |false =>
  rw[if_neg iq]
  exact wpAny_execs_nil ⟨GL,H2,I2,q2⟩
end
structure It where
 go:Nat->Hp->Prop
 mE:Nat->Hp->V->Hp->Prop
 stop:Nat->Hp->Prop
def vF(X:Cx)(pins:List (Addr × Obj))(H:Hp)(b:Addr):Prop :=
 H b=none/\b≠X.env.locals/\b∉X.fs/\(b∈X.ex\/X.eR.heap.objs.size<=b)/\(∀ x c,X.env.cells.lookup x=some c->c≠b)/\∀ p∈X.pn++pins,p.1≠b
theorem Inv.LH{X:Cx}(I:Inv X pins σ H s)(hb:s.heap.objs.size<=b)(hn:H' b=none):vF X pins H' b:=by
 refine⟨hn,FR (kN I.lt hb),I.YF hb,.inr (gS I.sz hb),fun x c e z=>?_,fun p hp z=>?_⟩
 ·obtain⟨v,q⟩:=I.cell x c e
  exact absurd (kN q.lt (by rw[z];exact hb)) (B3 _)
 ·exact absurd (kN (dy (I.pin p hp).1) (by rw[z];exact hb)) (B3 _)
structure Turn(P:Program)(w:World)(K:PySem.W.Frag)(tg:Expr)(J:It)(fp:List Addr)(it:Addr)(tn:Nat->Heap->Prop):Prop where
 mem:it∈fp
 obj:∀ i h,tn i h->∀ b∈fp,∃ o,h.get? b=some o/\∀ v,o.data≠.cell v
 keep:∀ i h h',tn i h->(∀ b∈fp,∀ o,h.get? b=some o->h'.get? b=some o)->tn i h'
 item:∀ (X:Cx),X.prog=P->X.w=w->X.K=K->X.calm=true->∀ (i:Nat) (pins:List (Addr × Obj)) (s:Shared) (σ:St) (H:Hp) (E:Value->Shared->Prop),Inv X pins σ H s->(∀ b∈fp,vF X pins H b)->tn i s.heap->J.go i H ->
  wpAny (model P w) X.A (pyNext (.ref it)) (fun r s1=>∃ u,r=some u /\
   wpAny (model P w) X.A (letOwnedTupleGo tg (.ref it) u) (fun _ s2=>∃ x H',Inv X pins σ H' s2/\RelV x u/\J.mE i H x H'/\tn (i+1) s2.heap/\∀ b∈fp,H' b=none) E s1) E s
 done:∀ (X:Cx),X.prog=P->X.w=w->X.K=K->X.calm=true->∀ (i:Nat) (pins:List (Addr × Obj)) (s:Shared) (σ:St) (H:Hp) (E:Value->Shared->Prop),Inv X pins σ H s->(∀ b∈fp,vF X pins H b)->tn i s.heap->J.stop i H ->
  wpAny (model P w) X.A (pyNext (.ref it)) (fun r s1=>r=none/\Inv X pins σ H s1) E s
 self:∀ (A:Around) (i:Nat) (s:Shared) (Q:Value->Shared->Prop) (E:Value->Shared->Prop),tn i s.heap->Q (.ref it) s->wpAny (model P w) A (pyIter (.ref it)) Q E s
abbrev TI:=St->Hp->(It->Hp->Prop)->Prop
def Vd(X:Cx)(pins:List (Addr × Obj))(σ:St)(tg:Expr)(R:It->Hp->Prop)(QL:Value)(s2:Shared):Prop :=
 ∃ (it:Addr) (fp:List Addr) (tn:Nat->Heap->Prop) (J:It) (H':Hp),QL=.ref it/\Inv X pins σ H' s2/\Turn X.prog X.w X.K tg J fp it tn/\tn 0 s2.heap/\(∀ b∈fp,vF X pins H' b)/\R J H'
def PI(X:Cx)(tg iter:Expr)(wi:TI):Prop :=
 ∀ (pins:List (Addr × Obj)) (s:Shared) (σ:St) (H:Hp) (R:It->Hp->Prop),Inv X pins σ H s->wi σ H R ->
  wpAny (model X.prog X.w) X.A (eval iter X.env) (fun v s1=>wpAny (model X.prog X.w) X.A (pyIter v) (Vd X pins σ tg R) X.xe s1) X.xe s
theorem QN(ho:s.heap.get? it=some o)(hc:o.cls=.type n)(hd:o.data=.fields vs)
  (hn:["enumerate", "zip", "dict_itemiterator", "dict_reverseitemiterator", "odict_iterator", "itertools.zip_longest", "itertools.pairwise"].contains n=false) (hQ:Q () s):wpAny M A (letOwnedTupleGo tg (.ref it) u) Q E s:=by
 unfold letOwnedTupleGo
 cases tg<;>first
  |exact aI hQ
  | (cases u<;>first
     |exact aI hQ
     | (refine ag (wpAny_load ho ?_)
        rw[hc,hd]
        show wpAny M A (if (["enumerate", "zip", "dict_itemiterator", "dict_reverseitemiterator", "odict_iterator", "itertools.zip_longest", "itertools.pairwise"].contains n && vs[0]? == some (rawInt _))=true then _ else _) Q E s
        rw[if_neg (by intro h;rw[hn,Bool.false_and] at h;cases h)]
        exact aI hQ))
def Oh(K:PySem.W.Frag)(a:Addr):It :=
 ⟨fun i H=>∃ xs x,eB K H a xs/\xs[i]? = some x,fun i H x H'=>H'=H/\∀ xs,eB K H a xs->xs[i]? = some x,fun i H=>∃ xs,eB K H a xs/\xs.length<=i⟩
def QQ(K:PySem.W.Frag)(a:Addr):It :=
 ⟨fun i H=>∃ xs x,jI K H a xs/\xs[i]? = some x,fun i H x H'=>H'=H/\∀ xs,jI K H a xs->xs[i]? = some x,fun i H=>∃ xs,jI K H a xs/\xs.length<=i⟩
def GN(lo:Int)(n:Nat):It:=⟨fun i _=>i<n,fun i H x H'=>H'=H/\x=.int (lo+i),fun i _=>n<=i⟩
theorem Zi{P:Program}{K:PySem.W.Frag}(a it:Addr):Turn P w K tg (Oh K a) [it] it (fun i h=>h.IsListIter it a i) where
 mem:=by simp
 obj:=fun i h st b hb=>by
  have e:b=it:=by simpa using hb
  subst e
  obtain⟨o,e,c,d⟩:=st
  exact⟨o,e,fun v z=>by rw[d] at z;cases z⟩
 keep:=fun i h h' st k=>st.at fun o e=>k it (by simp) o e
 item:=by
  intro X hP hw hK hc i pins s σ H E I hf st hg
  subst hP hw hK
  obtain⟨xs,x,hq,hx⟩:=hg
  obtain⟨its,rv,p,hz⟩:=I.list hq
  obtain⟨u,hu,ru⟩:=rv.get hx
  obtain⟨f0,f1,f2,f3,f4,f5⟩:=hf it (by simp)
  refine wpAny_pyNext_list_item st p.isList (x:=u) (by simpa using hu) fun h' bq sb=>?_
  have I1:Inv X pins σ H { s with heap:=h' }:=I.turned (t':=s.toks) (fun b o hb e=>(sb.2 b hb).trans e) f0 f1 f3 f4 f5
  obtain⟨o,e,c,d⟩:=id bq
  exact⟨u,rfl,QN (s:={ s with heap:=h' }) e c d (by decide) ⟨x,H,I1,ru,⟨rfl,fun ys hy=>by rw[I.U8 hy hq];exact hx⟩,bq,fun b hb=>(hf b hb).1⟩⟩
 done:=by
  intro X hP hw hK hc i pins s σ H E I hf st hg
  subst hP hw hK
  obtain⟨xs,hq,hx⟩:=hg
  obtain⟨its,rv,p,hz⟩:=I.list hq
  obtain⟨f0,f1,f2,f3,f4,f5⟩:=hf it (by simp)
  have hl:=rv.length
  exact wpAny_pyNext_list_end (I.ok.hd hc) st p.isList (by simp;lia) fun h' eb=>⟨rfl,I.turned (t':=s.toks) (fun b o hb e=>eb b o hb e) f0 f1 f3 f4 f5⟩
 self:=fun _ _ _ _ _ st h=>wpAny_pyIter_listiter st h
theorem Zj{P:Program}{K:PySem.W.Frag}(a it:Addr):Turn P w K tg (QQ K a) [it] it (fun i h=>h.IsTupleIter it a i) where
 mem:=by simp
 obj:=fun i h st b hb=>by
  have e:b=it:=by simpa using hb
  subst e
  obtain⟨o,e,c,d⟩:=st
  exact⟨o,e,fun v z=>by rw[d] at z;cases z⟩
 keep:=fun i h h' st k=>st.at fun o e=>k it (by simp) o e
 item:=by
  intro X hP hw hK hc i pins s σ H E I hf st hg
  subst hP hw hK
  obtain⟨xs,x,hq,hx⟩:=hg
  obtain⟨its,rv,p,hz⟩:=I.tuple hq
  obtain⟨u,hu,ru⟩:=rv.get hx
  obtain⟨f0,f1,f2,f3,f4,f5⟩:=hf it (by simp)
  refine wpAny_pyNext_tuple_item st (show s.heap.IsTuple a its.toArray from p) (x:=u) (by simpa using hu) fun h' bq sb=>?_
  have I1:Inv X pins σ H { s with heap:=h' }:=I.turned (t':=s.toks) (fun b o hb e=>(sb.2 b hb).trans e) f0 f1 f3 f4 f5
  obtain⟨o,e,c,d⟩:=id bq
  exact⟨u,rfl,QN (s:={ s with heap:=h' }) e c d (by decide) ⟨x,H,I1,ru,⟨rfl,fun ys hy=>by rw[I.Y4 hy hq];exact hx⟩,bq,fun b hb=>(hf b hb).1⟩⟩
 done:=by
  intro X hP hw hK hc i pins s σ H E I hf st hg
  subst hP hw hK
  obtain⟨xs,hq,hx⟩:=hg
  obtain⟨its,rv,p,hz⟩:=I.tuple hq
  obtain⟨f0,f1,f2,f3,f4,f5⟩:=hf it (by simp)
  have hl:=rv.length
  exact wpAny_pyNext_tuple_end (I.ok.hd hc) st (show s.heap.IsTuple a its.toArray from p) (by simp;lia) fun h' eb=>⟨rfl,I.turned (t':=s.toks) (fun b o hb e=>eb b o hb e) f0 f1 f3 f4 f5⟩
 self:=fun _ _ _ _ _ st h=>wpAny_pyIter_tupleiter st h
theorem Zk{P:Program}{K:PySem.W.Frag}(it:Addr)(lo:Int)(n:Nat):Turn P w K tg (GN lo n) [it] it (fun i h=>IsRangeIter h it (lo+(i:Nat)*1) ((n:Int)-(i:Nat)) 1) where
 mem:=by simp
 obj:=fun i h st b hb=>by
  have e:b=it:=by simpa using hb
  subst e
  exact⟨_,st,fun v z=>by
   have z':Data.fields _=Data.cell v:=z
   cases z'⟩
 keep:=fun i h h' st k=>k it (by simp) _ st
 item:=by
  intro X hP hw hK hc i pins s σ H E I hf st hg
  subst hP hw hK
  obtain⟨f0,f1,f2,f3,f4,f5⟩:=hf it (by simp)
  have W:=Walks.range (prog:=X.prog) (w:=X.w) (I.ok.hd hc) it lo 1 n
  refine W.item i s _ _ hg st fun v h' tk hv bq kk=>?_
  obtain⟨t,rfl⟩:=hv
  have I1:Inv X pins σ H { s with heap:=h',toks:=tk }:=I.turned (fun b o hb e=>kk b o (by simpa using hb) e) f0 f1 f3 f4 f5
  refine⟨_,rfl,QN (s:={ s with heap:=h',toks:=tk }) (n := "range_iterator") bq rfl rfl (by decide) ⟨.int (lo+i),H,I1,⟨t,?_⟩,⟨rfl,rfl⟩,bq,fun b hb=>(hf b hb).1⟩⟩
  rw[Int.mul_one]
 done:=by
  intro X hP hw hK hc i pins s σ H E I hf st hg
  subst hP hw hK
  obtain⟨f0,f1,f2,f3,f4,f5⟩:=hf it (by simp)
  exact wpAny_pyNext_range_end (I.ok.hd hc) st (by have:n<=i:=hg;lia) fun h' eb=>⟨rfl,I.turned (t':=s.toks) (fun b o hb e=>eb b o hb e) f0 f1 f3 f4 f5⟩
 self:=fun _ _ _ _ _ st h=>wpAny_pyIter_rangeiter st h
section
variable {X:Cx}{tg:Expr}
def Zm(K:PySem.W.Frag)(tl:TE):TI:=fun σ H R=>tl σ H fun x H1=>∃ a,x=.ref a/\(∃ xs,eB K H1 a xs)/\R (Oh K a) H1
def Zn(K:PySem.W.Frag)(tl:TE):TI:=fun σ H R=>tl σ H fun x H1=>∃ a,x=.ref a/\(∃ xs,jI K H1 a xs)/\R (QQ K a) H1
theorem Ve(hl:PE X l tl):PI X tg l (Zm X.K tl):=by
 intro pins s σ H R I h
 refine cc (hl pins s σ H _ I h) fun v s1 cf=>L2.fq cf fun x H1 I1 r1 q1=>?_
 obtain⟨a,e,⟨xs,hq⟩,q⟩:=q1
 subst e
 cases r1
 obtain⟨its,rv,p,hz⟩:=I1.list hq
 refine wpAny_pyIter_list p.isList ?_
 refine⟨s1.heap.objs.size,[s1.heap.objs.size],_,_,H1,rfl,I1.kept (t':=s1.toks) fun b o e=>eW _ e,Zi a _,⟨_,jv _ rfl,rfl,rfl⟩,fun b hb=>?_,q⟩
 have e:b=s1.heap.objs.size:=by simpa using hb
 subst e
 exact I1.LH (ck _) (I1.aE.fresh (ck _))
theorem Zo(hl:PE X l tl):PI X tg l (Zn X.K tl):=by
 intro pins s σ H R I h
 refine cc (hl pins s σ H _ I h) fun v s1 cf=>L2.fq cf fun x H1 I1 r1 q1=>?_
 obtain⟨a,e,⟨xs,hq⟩,q⟩:=q1
 subst e
 cases r1
 obtain⟨its,rv,p,hz⟩:=I1.tuple hq
 refine wpAny_pyIter_tuple (show s1.heap.IsTuple a its.toArray from p) ?_
 refine⟨s1.heap.objs.size,[s1.heap.objs.size],_,_,H1,rfl,I1.kept (t':=s1.toks) fun b o e=>eW _ e,Zj a _,⟨_,jv _ rfl,rfl,rfl⟩,fun b hb=>?_,q⟩
 have e:b=s1.heap.objs.size:=by simpa using hb
 subst e
 exact I1.LH (ck _) (I1.aE.fresh (ck _))
theorem Zq{R:It->Hp->Prop}{lo hi:Int}(I:Inv X pins σ H s)(h1:-(2 ^ 62)<=lo)(h2:lo<2 ^ 62)(h3:-(2 ^ 62)<=hi)(h4:hi<2 ^ 62)
  (q:R (GN lo (hi-lo).toNat) H):wpAny (model X.prog X.w) X.A (pyIter (.ref s.heap.objs.size)) (Vd X pins σ tg R) E { s with heap:=s.heap.push { cls:=.type "range",data:=.fields #[.int lo t,.int hi u,.int 1 v] },toks:=tk }:=by
 refine wpAny_pyIter_range (IsRange.new ..) (small_one h1 h2 h3 h4) ?_
 have I1:Inv X pins σ H { s with heap:=s.heap.push { cls:=.type "range",data:=.fields #[.int lo t,.int hi u,.int 1 v] },toks:=tk }:=I.kept fun b o e=>eW _ e
 refine⟨(s.heap.push { cls:=.type "range",data:=.fields #[.int lo t,.int hi u,.int 1 v] }).objs.size,[(s.heap.push { cls:=.type "range",data:=.fields #[.int lo t,.int hi u,.int 1 v] }).objs.size],_,_,H,rfl,
  I1.kept (t':=tk) fun b o e=>eW _ e,Zk _ lo (hi-lo).toNat,?_,fun b hb=>?_,q⟩
 ·have e1:lo+((0:Nat):Int)*1=lo:=by simp
  have e2:(((hi-lo).toNat:Nat):Int)-((0:Nat):Int)=Builtin.Range.rangeSize lo hi 1:=by rw[rangeSize_one];split<;>lia
  show IsRangeIter _ _ (lo+((0:Nat):Int)*1) ((((hi-lo).toNat:Nat):Int)-((0:Nat):Int)) 1
  rw[e1,e2]
  exact jv _ rfl
 ·have e:b=(s.heap.push { cls:=.type "range",data:=.fields #[.int lo t,.int hi u,.int 1 v] }).objs.size:=by simpa using hb
  subst e
  exact I1.LH (ck _) (I1.aE.fresh (ck _))
def Zr(ta:TA):TI:=fun σ H R=>ta σ H fun vs H1=>∃ j:Int,vs=[.int j]/\-(2 ^ 62)<=j/\j<2 ^ 62/\R (GN 0 j.toNat) H1
theorem Zt (hg:Gl X "range") (hm:X.mg "range" = none) (ha:PA X [a] ta) (hs:starEach [a] X.env=[(false,eval a X.env)]:=by rfl):PI X tg (.Call (.Name "range" p) [a] [] pos) (Zr ta):=by
 intro pins s σ H R I h
 refine Call_ (AF I hg hm boot_range (PyProof.Rows.callWith_type1 (cc (ha pos pins s σ H _ I h) fun us s1 cf=>L2.fq cf fun vs H1 I1 r1 q1=>?_) hs rfl))
 obtain⟨j,e,q1,q2,q⟩:=q1
 subst e
 cases r1 with
 |cons r rr =>
  cases rr
  obtain⟨t,rfl⟩:=r
  exact call_range_1 (Zq I1 (by lia) (by lia) q1 q2 (by simpa using q))
def Vf(wi:TI)(g:TG)(tb:TS):TS:=fun D σ H=>wi σ H fun J H1=>∃ W:Nat->Nat->St->Hp->Prop,(∃ m,W 0 m σ H1)/\∀ i m σ H,W i m σ H ->
 (J.stop i H/\D.nx σ H)\/(J.go i H/\∃ N:St->Hp->Prop,(∀ bp H',N bp H'->∃ m',m'<m/\W (i+1) m' bp H')/\∀ x H',J.mE i H x H'->g x σ H' fun ka H2=>tb { D with nx:=N,ct:=N,bk:=D.nx } ka H2)
def LJ(fp:List Addr)(h:Heap):List (Addr × Obj):=fp.filterMap fun b=>(h.get? b).map fun o=>(b,o)
theorem Oi(hb:b∈fp)(e:h.get? b=some o):(b,o)∈LJ fp h:=Qi.mpr ⟨b,hb,by rw[e];rfl⟩
theorem Zu(hp:p∈LJ fp h):p.1∈fp/\h.get? p.1=some p.2:=by
 obtain⟨b,hb,e⟩:=Qi.mp hp
 cases q:h.get? b with
 |none=>rw[q] at e;cases e
 |some o =>
  rw[q] at e
  have e':(b,o)=p:=Option.some.inj e
  subst e'
  exact⟨hb,q⟩
theorem Inv.pinned(I:Inv X pins σ H s)(hf:∀ b∈fp,vF X pins H b)(ho:∀ b∈fp,∃ o,s.heap.get? b=some o/\∀ v,o.data≠.cell v):Inv X (pins++LJ fp s.heap) σ H s :=
 I.U0 fun p hp=>(dS.mp hp).elim (fun z=>I.pin p (fF _ z)) fun z=>by
  obtain⟨hb,e⟩:=Zu z
  obtain⟨f0,f1,f2,_⟩:=hf p.1 hb
  obtain⟨o,e',d⟩:=ho p.1 hb
  rw[e] at e';cases e'
  exact⟨e,f0,f1,f2,d⟩
theorem Inv.Oj(I:Inv X (pins++pl) σ H s):Inv X pins σ H s:=I.U0 fun p hp=>I.pin p (fF _ (i9 _ hp))
theorem Zv(hp:PassesOwn (model X.prog X.w) X.A X.env X.xe)(hc:X.calm=true)(hi:PI X tg iter wi)(hg:PG X tg g)(hb:mB X body tb)
  (hs:∀ x,foldedSetIterable iter X.env x=pure x:=by intro _;rfl):PS X (.For tg iter body [] pos) (Vf wi g tb):=by
 intro pins s σ H D I h
 refine wpAny_For (cc (hi pins s σ H _ I h) fun v s1 h1=>cc h1 fun QL s2 h2=>?_) hs
 obtain⟨it,fp,tn,J,H2,e,I2,T,sM,f2,W,⟨m0,w0⟩,turn⟩:=h2
 subst e
 -- what stays true of the iterator's objects through the loop
 have stat:∀ {H':Hp},(∀ b∈fp,H' b=none)->∀ b∈fp,vF X pins H' b:=fun hn b hb=>⟨hn b hb,(f2 b hb).2⟩
 refine codeAny_forLoop_any (fun n s'=>∃ i bp H',Inv X pins bp H' s'/\tn i s'.heap/\(∀ b∈fp,H' b=none)/\W i n bp H') ?_ m0 ⟨0,σ,H2,I2,sM,fun b hb=>(f2 b hb).1,w0⟩
 rintro n s3 ⟨i,oQ,H3,I3,y6,Vg,w3⟩
 rcases turn i n oQ H3 w3 with⟨stop,qn⟩|⟨go,N,hN,step⟩
 ·refine wpAny_passesOwn hp (cc (T.done X rfl rfl rfl hc i pins s3 oQ H3 X.xe I3 (stat Vg) y6 stop) fun r s4 cy=>?_)
  obtain⟨hr,I4⟩:=cy
  subst hr
  exact wpAny_execs_nil ⟨oQ,H3,I4,qn⟩
 ·refine wpAny_passesOwn hp (cc (T.item X rfl rfl rfl hc i pins s3 oQ H3 X.xe I3 (stat Vg) y6 go) fun r s4 cy=>?_)
  obtain⟨u,hr,h4⟩:=cy
  subst hr
  refine wpAny_passesOwn hp (cc h4 fun _ s5 cy=>?_)
  obtain⟨x,H5,I5,r5,y5,GO,Ol⟩:=cy
  have Zw:=I5.pinned (stat Ol) (T.obj _ _ GO)
  refine wpAny_passesOwn hp (cc (hg _ s5 oQ H5 x u _ Zw r5 (step x H5 y5)) fun _ s6 cy=>?_)
  obtain⟨Zx,H6,I6,q6⟩:=cy
  refine wpAny_passesOwn hp (cc (hb _ s6 Zx H6 _ I6 q6) fun f s7 q7=>?_)
  have again:∀ {w4:St} {H7:Hp},Inv X (pins++LJ fp s5.heap) w4 H7 s7->N w4 H7->∃ m,m<n/\∃ i bp H',Inv X pins bp H' s7/\tn i s7.heap/\(∀ b∈fp,H' b=none)/\W i m bp H':=fun {w4 H7} I7 n7=>by
   obtain⟨m',hm,w7⟩:=hN w4 H7 n7
   refine⟨m',hm,i+1,w4,H7,I7.Oj,T.keep _ _ _ GO fun b hb o e=>(I7.pin (b,o) (fF _ (fF _ (Oi hb e)))).1,fun b hb=>?_,w7⟩
   obtain⟨o,e,d⟩:=T.obj _ _ GO b hb
   exact(I7.pin (b,o) (fF _ (fF _ (Oi hb e)))).2.1
  cases f with
  |next=>obtain⟨w4,H7,I7,n7⟩:=q7;exact again I7 n7
  |cont=>obtain⟨w4,H7,I7,n7⟩:=q7;exact again I7 n7
  |brk=>obtain⟨w4,H7,I7,q7⟩:=q7;exact⟨w4,H7,I7.Oj,q7⟩
  |ret v=>obtain⟨x7,w4,H7,I7,r7,q7⟩:=q7;exact⟨x7,w4,H7,I7.Oj,r7,q7⟩
end
abbrev R2:=V->V->Hp->VK->Prop
def cS(X:Cx)(f:Value->Value->Sem Value)(r:R2):Prop :=
 ∀ (pins:List (Addr × Obj)) (s:Shared) (σ:St) (H:Hp) (x y:V) (v u:Value) (Q:VK),Inv X pins σ H s->RelV x v->RelV y u->r x y H Q ->
  wpAny (model X.prog X.w) X.A (f v u) (EP X pins σ Q) X.xe s
def Om(X:Cx)(f:Value->Sem Value)(r:V->Hp->VK->Prop):Prop :=
 ∀ (pins:List (Addr × Obj)) (s:Shared) (σ:St) (H:Hp) (x:V) (v:Value) (Q:VK),Inv X pins σ H s->RelV x v->r x H Q ->
  wpAny (model X.prog X.w) X.A (f v) (EP X pins σ Q) X.xe s
def kb(X:Cx)(f:Value)(r:List V->Hp->VK->Prop):Prop :=
 ∀ (pins:List (Addr × Obj)) (s:Shared) (σ:St) (H:Hp) (xs:List V) (us:List Value) (Q:VK),Inv X pins σ H s->Vals xs us->r xs H Q ->
  wpAny (model X.prog X.w) X.A (call f us) (EP X pins σ Q) X.xe s
def Zy(X:Cx)(r:V->Hp->(Bool->Hp->Prop)->Prop):Prop :=
 ∀ (pins:List (Addr × Obj)) (s:Shared) (σ:St) (H:Hp) (x:V) (v:Value) (Q:Bool->Hp->Prop),Inv X pins σ H s->RelV x v->r x H Q ->
  wpAny (model X.prog X.w) X.A (truthy v) (TP X pins σ Q) X.xe s
def LM(r:R2)(ta tb:TE):TE:=fun σ H Q=>ta σ H fun x H1=>tb σ H1 fun y H2=>r x y H2 Q
def QR(r:V->Hp->VK->Prop)(ta:TE):TE:=fun σ H Q=>ta σ H fun x H1=>r x H1 Q
def rI(C:Int->Int->Prop)(g:Int->Int->V):R2:=fun x y H Q=>∃ i j,x=.int i/\y=.int j/\C i j/\Q (g i j) H
def GP(g:Int->Int->V):R2:=fun x y H Q=>∃ i j,x=.int i/\y=.int j/\Q (g i j) H
def rU(g:Int->V):V->Hp->VK->Prop:=fun x H Q=>∃ i,x=.int i/\Q (g i) H
section
variable {X:Cx}{a b:Expr}{ta tb:TE}{pos:Pos}
theorem QV(ha:PE X a ta)(hb:PE X b tb){pins:List (Addr × Obj)}{s:Shared}{σ:St}{H:Hp}{R:V->V->Hp->Prop}(I:Inv X pins σ H s)
  (h:ta σ H fun x H1=>tb σ H1 fun y H2=>R x y H2) {Q:Value->Shared->Prop} {f:Value->Value->Sem Value}
  (hf:∀ v u s2 x y H2,Inv X pins σ H2 s2->RelV x v->RelV y u->R x y H2->wpAny (model X.prog X.w) X.A (f v u) Q X.xe s2) :
  wpAny (model X.prog X.w) X.A (eval a X.env) (fun v eL=>wpAny (model X.prog X.w) X.A (eval b X.env) (fun u D9=>wpAny (model X.prog X.w) X.A (f v u) Q X.xe D9) X.xe eL) X.xe s:=by
 refine cc (ha pins s σ H _ I h) fun v s1 cf=>L2.fq cf fun x H1 I1 r1 q1=>?_
 refine cc (hb pins s1 σ H1 _ I1 q1) fun u s2 cf=>L2.fq cf fun y H2 I2 r2 q2=>?_
 exact hf v u s2 x y H2 I2 r1 r2 q2
theorem Zz{op:Operator}{r:R2}(ho:cS X (binaryOp op) r)(ha:PE X a ta)(hb:PE X b tb):PE X (.BinOp a op b pos) (LM r ta tb):=by
 intro pins s σ H Q I h
 exact wpAny_BinOp (QV ha hb I h fun v u s2 x y H2 I2 rx ry q=>ho pins s2 σ H2 x y v u Q I2 rx ry q)
theorem ZC(ho:Om X (unaryOp op) r)(ha:PE X a ta):PE X (.UnaryOp op a pos) (QR r ta):=by
 intro pins s σ H Q I h
 exact UnaryOp_ (cc (ha pins s σ H _ I h) fun v s1 cf=>L2.fq cf fun x H1 I1 r1 q1=>ho pins s1 σ H1 x v Q I1 r1 q1)
theorem Oo{f:Value->Value->Sem Value}{C:Int->Int->Prop}{g:Int->Int->Int}
  (rule:∀ (i j:Int) (t u:Tok) (s:Shared) (Q:Value->Shared->Prop) (E:Value->Shared->Prop),C i j->Q (.int (g i j) s.toks) { s with toks:=s.toks+1 }->wpAny (model X.prog X.w) X.A (f (.int i t) (.int j u)) Q E s) :
  cS X f (rI C fun i j=>.int (g i j)):=by
 intro pins s σ H x y v u Q I rx ry h
 obtain⟨i,j,rfl,rfl,hc,q⟩:=h
 obtain⟨t,rfl⟩:=rx
 obtain⟨t',rfl⟩:=ry
 exact rule i j t t' s _ _ hc ⟨.int (g i j),H,I.tok _,⟨_,rfl⟩,q⟩
theorem Vh{f:Value->Value->Sem Value}{g:Int->Int->Int}
  (rule:∀ (i j:Int) (t u:Tok) (s:Shared) (Q:Value->Shared->Prop) (E:Value->Shared->Prop),Q (.int (g i j) s.toks) { s with toks:=s.toks+1 }->wpAny (model X.prog X.w) X.A (f (.int i t) (.int j u)) Q E s) :
  cS X f (GP fun i j=>.int (g i j)):=by
 intro pins s σ H x y v u Q I rx ry h
 obtain⟨i,j,rfl,rfl,q⟩:=h
 obtain⟨t,rfl⟩:=rx
 obtain⟨t',rfl⟩:=ry
 exact rule i j t t' s _ _ ⟨.int (g i j),H,I.tok _,⟨_,rfl⟩,q⟩
theorem Vi{f:Value->Value->Sem Value}{g:Int->Int->Bool}
  (rule:∀ (i j:Int) (t u:Tok) (s:Shared) (Q:Value->Shared->Prop) (E:Value->Shared->Prop),Q (.bool (g i j)) s->wpAny (model X.prog X.w) X.A (f (.int i t) (.int j u)) Q E s) :
  cS X f (GP fun i j=>.bl (g i j)):=by
 intro pins s σ H x y v u Q I rx ry h
 obtain⟨i,j,rfl,rfl,q⟩:=h
 obtain⟨t,rfl⟩:=rx
 obtain⟨t',rfl⟩:=ry
 exact rule i j t t' s _ _ ⟨.bl (g i j),H,I,rfl,q⟩
def ZD(i j:Int):Prop:=0<j/\j<1073741824
def GU(i j:Int):Prop:=0<=j/\j<=1000000/\i.natAbs<2 ^ 64
def Ee(i j:Int):Prop:=(-(2 ^ 64)<i/\i<2 ^ 64)\/(-(2 ^ 64)<j/\j<2 ^ 64)
theorem Ee.ok(h:Ee i j):IntMulOk i j:=by
 rcases h with⟨h1,h2⟩|⟨h1,h2⟩
 ·exact .of_left (intBits_le_64 h1 h2)
 ·exact .of_right (intBits_le_64 h1 h2)
theorem ZE:cS X (binaryOp .Add) (GP fun i j=>.int (i+j)):=Vh fun _ _ _ _ _ _ _ q=>add_int q
theorem ZF:cS X (binaryOp .Sub) (GP fun i j=>.int (i-j)):=Vh fun _ _ _ _ _ _ _ q=>sub_int q
theorem ZG:cS X (binaryOp .Mult) (rI Ee fun i j=>.int (i*j)):=Oo fun _ _ _ _ _ _ _ hc q=>mul_int q hc.ok
theorem ZH:cS X (binaryOp .FloorDiv) (rI ZD fun i j=>.int (i / j)):=Oo fun i j _ _ _ _ _ hc q=>by
 have h1:(0:Int)<j:=hc.1
 have h2:j<1073741824:=hc.2
 exact floordiv_int (by lia) (by rw[Int.fdiv_eq_ediv_of_nonneg i (by exact GA ‹_›)];exact q) (.inl (PyProof.noPylong_small (by lia)))
theorem ZI:cS X (binaryOp .Mod) (rI (fun _ j=>0<j) fun i j=>.int (i % j)):=Oo fun i j _ _ _ _ _ hc q=>by
 have h1:(0:Int)<j:=hc
 exact mod_int' (by lia) (by rw[Int.fmod_eq_emod_of_nonneg i (by exact GA ‹_›)];exact q)
theorem ZJ:cS X (binaryOp .Pow) (rI GU fun i j=>.int (i ^ j.toNat)):=Oo fun _ _ _ _ _ _ _ hc q=>pow_int_small hc.1 hc.2.1 hc.2.2 q
theorem ZK{f:Value->Sem Value}{g:Int->Int}
  (rule:∀ (i:Int) (t:Tok) (s:Shared) (Q:Value->Shared->Prop) (E:Value->Shared->Prop),Q (.int (g i) s.toks) { s with toks:=s.toks+1 }->wpAny (model X.prog X.w) X.A (f (.int i t)) Q E s) :
  Om X f (rU fun i=>.int (g i)):=by
 intro pins s σ H x v Q I rx h
 obtain⟨i,rfl,q⟩:=h
 obtain⟨t,rfl⟩:=rx
 exact rule i t s _ _ ⟨.int (g i),H,I.tok _,⟨_,rfl⟩,q⟩
theorem ZL:Om X (unaryOp .USub) (rU fun i=>.int (-i)):=ZK fun _ _ _ _ _ q=>neg_int q
end
def Vj:V->V->Bool
 |.non,.non=>true|.non,.int _=>true|.int _,.non=>true|.non,.bl _=>true|.bl _,.non=>true|.non,.str _=>true|.str _,.non=>true
 |.int _,.int _=>true|.bl _,.bl _=>true|.str _,.str _=>true|.qq _,.qq _=>true
 |.int _,.str _=>true|.str _,.int _=>true|.bl _,.str _=>true|.str _,.bl _=>true
 |_,_=>false
def ZM:R2:=fun x y H Q=>Vj x y=true/\Q (.bl (decide (x=y))) H
def ZN:R2:=fun x y H Q=>Vj x y=true/\Q (.bl (!decide (x=y))) H
theorem Vk:decide (V.int i=V.int j)=(i == j):=by
 rw[yv]
 simp
theorem Vl:decide (V.bl i=V.bl j)=(i == j):=by
 rw[yv]
 simp
theorem Vm:decide (V.str i=V.str j)=(i == j):=by
 rw[yv]
 simp
theorem Vn:decide (V.qq i=V.qq j)=(i.toList == j.toList):=by
 rw[yv]
 cases i
 cases j
 simp
section
variable {X:Cx}{a b c:Expr}{ta tb tc:TE}{pos:Pos}
theorem gX(I:Inv X pins σ H s)(q:Q (.bl k) H)(e:k=k'):EP X pins σ Q (.bool k') s:=by
 subst e
 exact⟨.bl k,H,I,rfl,q⟩
theorem ZO:cS X (compareOp .Eq) ZM:=by
 intro pins s σ H x y v u Q I rx ry h
 obtain⟨hs,q⟩:=h
 cases x with
 |non =>
  cases rx
  cases y with
  |non=>cases ry;exact PySem.EqNone.eq_none_none (gX I q (by simp))
  |bl j=>cases ry;exact PySem.EqNone.eq_none_bool (gX I q (by simp))
  |int j=>obtain⟨t',rfl⟩:=ry;exact PySem.EqNone.eq_none_int (gX I q (by simp))
  |str j=>obtain⟨t',rfl⟩:=ry;exact PySem.EqNone.eq_none_str (gX I q (by simp))
  |_=>exact absurd (show false=true from hs) iq
 |bl i =>
  cases rx
  cases y with
  |non=>cases ry;exact PySem.EqNone.eq_bool_none (gX I q (by simp))
  |bl j=>cases ry;exact eq_bool (gX I q Vl)
  |str j=>obtain⟨t',rfl⟩:=ry;exact PySem.EqMixed.eq_bool_str (gX I q (by simp))
  |_=>exact absurd (show false=true from hs) iq
 |int i =>
  obtain⟨t,rfl⟩:=rx
  cases y with
  |non=>cases ry;exact PySem.EqNone.eq_int_none (gX I q (by simp))
  |int j=>obtain⟨t',rfl⟩:=ry;exact eq_int (gX I q Vk)
  |str j=>obtain⟨t',rfl⟩:=ry;exact PySem.EqMixed.eq_int_str (gX I q (by simp))
  |_=>exact absurd (show false=true from hs) iq
 |str i =>
  obtain⟨t,rfl⟩:=rx
  cases y with
  |non=>cases ry;exact PySem.EqNone.eq_str_none (gX I q (by simp))
  |bl j=>cases ry;exact PySem.EqMixed.eq_str_bool (gX I q (by simp))
  |int j=>obtain⟨t',rfl⟩:=ry;exact PySem.EqMixed.eq_str_int (gX I q (by simp))
  |str j=>obtain⟨t',rfl⟩:=ry;exact eq_str (gX I q Vm)
  |_=>exact absurd (show false=true from hs) iq
 |qq i =>
  obtain⟨t,rfl⟩:=rx
  cases y with
  |qq j=>obtain⟨t',rfl⟩:=ry;exact PySem.W.eq_bytes (gX I q Vn)
  |_=>exact absurd (show false=true from hs) iq
 |_=>cases y<;>exact absurd (show false=true from hs) iq
theorem ZP:cS X (compareOp .NotEq) ZN:=by
 intro pins s σ H x y v u Q I rx ry h
 obtain⟨hs,q⟩:=h
 cases x with
 |non =>
  cases rx
  cases y with
  |non=>cases ry;exact PySem.EqNone.ne_none_none (gX I q (by simp))
  |bl j=>cases ry;exact PySem.EqNone.ne_none_bool (gX I q (by simp))
  |int j=>obtain⟨t',rfl⟩:=ry;exact PySem.EqNone.ne_none_int (gX I q (by simp))
  |str j=>obtain⟨t',rfl⟩:=ry;exact PySem.EqNone.ne_none_str (gX I q (by simp))
  |_=>exact absurd (show false=true from hs) iq
 |bl i =>
  cases rx
  cases y with
  |non=>cases ry;exact PySem.EqNone.ne_bool_none (gX I q (by simp))
  |bl j=>cases ry;exact ne_bool (gX I q (congrArg not Vl))
  |str j=>obtain⟨t',rfl⟩:=ry;exact PySem.EqMixed.ne_bool_str (gX I q (by simp))
  |_=>exact absurd (show false=true from hs) iq
 |int i =>
  obtain⟨t,rfl⟩:=rx
  cases y with
  |non=>cases ry;exact PySem.EqNone.ne_int_none (gX I q (by simp))
  |int j=>obtain⟨t',rfl⟩:=ry;exact ne_int (gX I q (congrArg not Vk))
  |str j=>obtain⟨t',rfl⟩:=ry;exact PySem.EqMixed.ne_int_str (gX I q (by simp))
  |_=>exact absurd (show false=true from hs) iq
 |str i =>
  obtain⟨t,rfl⟩:=rx
  cases y with
  |non=>cases ry;exact PySem.EqNone.ne_str_none (gX I q (by simp))
  |bl j=>cases ry;exact PySem.EqMixed.ne_str_bool (gX I q (by simp))
  |int j=>obtain⟨t',rfl⟩:=ry;exact PySem.EqMixed.ne_str_int (gX I q (by simp))
  |str j=>obtain⟨t',rfl⟩:=ry;exact ne_str (gX I q (congrArg not Vm))
  |_=>exact absurd (show false=true from hs) iq
 |qq i =>
  obtain⟨t,rfl⟩:=rx
  cases y with
  |qq j=>obtain⟨t',rfl⟩:=ry;exact PySem.W.ne_bytes (gX I q (congrArg not Vn))
  |_=>exact absurd (show false=true from hs) iq
 |_=>cases y<;>exact absurd (show false=true from hs) iq
theorem ZQ:cS X (compareOp .Lt) (GP fun i j=>.bl (decide (i<j))):=Vi fun _ _ _ _ _ _ _ q=>lt_int q
theorem ZR:cS X (compareOp .LtE) (GP fun i j=>.bl (decide (i<=j))):=Vi fun _ _ _ _ _ _ _ q=>le_int q
theorem ZS:cS X (compareOp .Lt) (fun x y H Q=>∃ i j,x=.str i/\y=.str j/\Q (.bl (decide (i.cps.toList<j.cps.toList))) H):=by
 intro pins s σ H x y v u Q I rx ry h
 obtain⟨i,j,rfl,rfl,q⟩:=h
 obtain⟨t,rfl⟩:=rx
 obtain⟨t',rfl⟩:=ry
 exact lt_str (gX I q rfl)
theorem ZT:cS X (compareOp .In) (fun x y H Q=>∃ i j,x=.str i/\y=.str j/\Q (.bl (!(Builtin.Str.occurrences j i 0 j.length 1).isEmpty)) H):=by
 intro pins s σ H x y v u Q I rx ry h
 obtain⟨i,j,rfl,rfl,q⟩:=h
 obtain⟨t,rfl⟩:=rx
 obtain⟨t',rfl⟩:=ry
 exact in_str (gX I q rfl)
theorem ZU:cS X (compareOp .NotIn) (fun x y H Q=>∃ i j,x=.str i/\y=.str j/\Q (.bl (!(!(Builtin.Str.occurrences j i 0 j.length 1).isEmpty))) H):=by
 intro pins s σ H x y v u Q I rx ry h
 obtain⟨i,j,rfl,rfl,q⟩:=h
 obtain⟨t,rfl⟩:=rx
 obtain⟨t',rfl⟩:=ry
 exact notIn_str (gX I q rfl)
theorem cS.or(h:cS X f r)(h':cS X f r'):cS X f (fun x y H Q=>r x y H Q\/r' x y H Q):=by
 intro pins s σ H x y v u Q I rx ry q
 rcases q with q|q
 ·exact h pins s σ H x y v u Q I rx ry q
 ·exact h' pins s σ H x y v u Q I rx ry q
theorem qA(b:Expr)(h:op≠.In:=by decide)(h2:op≠.NotIn:=by decide):behindInMarks op b=false:=by
 have e1:(op == CmpOp.In)=false:=by cases op<;>first|rfl|exact absurd rfl h
 have e2:(op == CmpOp.NotIn)=false:=by cases op<;>first|rfl|exact absurd rfl h2
 cases b<;>simp[behindInMarks,e1,e2]
theorem ZV{op:CmpOp}{r:R2}(ho:cS X (compareOp op) r)(ha:PE X a ta)(hb:PE X b tb)(hm:behindInMarks op b=false):PE X (.Compare a [op] [b] pos) (LM r ta tb):=by
 intro pins s σ H Q I h
 exact wpAny_Compare1 (QV ha hb I h fun v u s2 x y H2 I2 rx ry q=>ho pins s2 σ H2 x y v u Q I2 rx ry q) hm
def QX(t:TE):TT:=fun σ H Q=>t σ H fun x H'=>∃ k,x=.bl k/\Q k H'
theorem ZW(ho:cS X (compareOp op) r)(ha:PE X a ta)(hb:PE X b tb)(hm:behindInMarks op b=false):PT X (.Compare a [op] [b] pos) (QX (LM r ta tb)):=by
 intro pins s σ H Q I h
 refine wpAny_isTrue_Compare1 (cc (ha pins s σ H _ I h) fun v s1 cf=>L2.fq cf fun x H1 I1 r1 q1=>cc (hb pins s1 σ H1 _ I1 q1) fun u s2 cf=>L2.fq cf fun y H2 I2 r2 q2 =>
  cc (ho pins s2 σ H2 x y v u _ I2 r1 r2 q2) fun c s3 ⟨z,H3,I3,r3,k,e,q3⟩=>?_) hm
 subst e
 cases r3
 exact wpAny_truthy_bool ⟨H3,I3,q3⟩
def Vo(r r':R2)(ta tb tc:TE):TE:=fun σ H Q=>ta σ H fun x H1=>tb σ H1 fun y H2=>r x y H2 fun z H3=>∃ k,z=.bl k /\
 (if k=true then tc σ H3 fun w' H4=>r' y w' H4 Q else Q (.bl false) H3)
theorem ZX(ho:cS X (compareOp op) r)(mz:cS X (compareOp op') r')(ha:PE X a ta)(hb:PE X b tb)(hc:PE X c tc)
  (hm:lastMarks [op,op'] [b,c]=false:=by with_unfolding_all rfl):PT X (.Compare a [op,op'] [b,c] pos) (QX (Vo r r' ta tb tc)):=by
 intro pins s σ H Q I h
 refine isTrue_chain (cc (ha pins s σ H _ I h) fun v s1 cf=>L2.fq cf fun x H1 I1 r1 q1=>test_link (cc (hb pins s1 σ H1 _ I1 q1) fun u s2 cf=>L2.fq cf fun y H2 I2 r2 q2 =>
  cc (ho pins s2 σ H2 x y v u _ I2 r1 r2 q2) fun d s3 ⟨z,H3,I3,r3,k,e,q3⟩=>?_)) hm
 subst e
 cases r3
 refine wpAny_truthy_bool ?_
 cases k with
 |false =>
  obtain⟨k',e',q'⟩:=q3
  cases e'
  exact ite_ff ⟨H3,I3,q'⟩
 |true =>
  refine ite_tt (test_last (cc (hc pins s3 σ H3 _ I3 q3) fun w' s4 ⟨z',H4,I4,r4,q4⟩=>cc (mz pins s4 σ H4 y z' u w' _ I4 r2 r4 q4) fun d' s5 cy=>?_))
  obtain⟨z2,H5,I5,r5,k2,e2,q5⟩:=cy
  subst e2
  cases r5
  exact wpAny_truthy_bool ⟨H5,I5,q5⟩
def QY(K:PySem.W.Frag)(x:V)(H:Hp)(k:Bool):Prop :=
 match x with
 |.non=>k=false
 |.bl b=>k=b
 |.int i=>k=(i != 0)
 |.str y=>y.length<=sizeLine/\k=((y.length:Int) != 0)
 |.qq y=>y.size<=sizeLine/\k=((y.size:Int) != 0)
 |.ref p=>(∃ xs,eB K H p xs/\k = !xs.isEmpty)\/(∃ xs,jI K H p xs/\k = !xs.isEmpty)\/∃ kvs,H p=some (.dK kvs)/\k = !kvs.isEmpty
 |_=>False
theorem ZY{κ:Type}{kvs:List (κ × V)}{vs:List (κ × Value)}(r:KV kvs vs):(!vs.isEmpty) = !kvs.isEmpty:=by
 cases r<;>rfl
theorem Vp(r:Vals xs its):(!its.toArray.isEmpty) = !xs.isEmpty:=by
 cases r<;>simp
theorem LN:(sizeLine:Nat)<2 ^ 63:=by rw[sizeLine_eq];decide
theorem ZZ:Zy X (fun x H Q=>∃ k,QY X.K x H k/\Q k H):=by
 intro pins s σ H x v Q I rx h
 obtain⟨k,e,q⟩:=h
 have hl:=LN
 have hs:sizeLine=16777216:=sizeLine_eq
 cases x with
 |non =>
  cases rx
  have e':k=false:=e
  subst e'
  exact truthy_none ⟨H,I,q⟩
 |bl b =>
  cases rx
  have e':k=b:=e
  subst e'
  exact wpAny_truthy_bool ⟨H,I,q⟩
 |int i =>
  obtain⟨t,rfl⟩:=rx
  have e':k=(i != 0):=e
  subst e'
  exact PySem.P.truthy_int ⟨H,I,q⟩
 |str y =>
  obtain⟨t,rfl⟩:=rx
  obtain⟨hy,e'⟩:y.length<=sizeLine/\k=((y.length:Int) != 0):=e
  subst e'
  exact PySem.P.truthy_str (by lia) ⟨H,I.tok _,q⟩
 |qq y =>
  obtain⟨t,rfl⟩:=rx
  obtain⟨hy,e'⟩:y.size<=sizeLine/\k=((y.size:Int) != 0):=e
  subst e'
  exact PySem.W.truthy_bytes (by lia) ⟨H,I.tok _,q⟩
 |ref p =>
  cases rx
  have e':(∃ xs,eB X.K H p xs/\k = !xs.isEmpty)\/(∃ xs,jI X.K H p xs/\k = !xs.isEmpty)\/∃ kvs,H p=some (.dK kvs)/\k = !kvs.isEmpty:=e
  rcases e' with⟨xs,hx,e'⟩|⟨xs,hx,e'⟩|⟨kvs,hx,e'⟩
  ·subst e'
   obtain⟨its,r,pl,hz⟩:=I.list hx
   have hlen:=r.length
   exact wpAny_truthy_list pl.isList (by simp only[hX];lia) ⟨H,I.tok _,by rw[Vp r];exact q⟩
  ·subst e'
   obtain⟨its,r,pl,hz⟩:=I.tuple hx
   have hlen:=r.length
   exact truthy_tuple pl (by simp only[hX];lia) ⟨H,I.tok _,by rw[Vp r];exact q⟩
  ·subst e'
   obtain⟨hz,hS,vs,r,m⟩:kvs.length<=sizeLine/\(p == sysModules)=false/\∃ vs,KV kvs vs/\s.heap.DictOf (i6 X.prog X.w) p vs:=I.aE p _ hx
   have hlen:kvs.length=vs.length:=Paired.length r
   exact wpAny_truthy_dict hS m (by lia) ⟨H,I.tok _,by rw[ZY r];exact q⟩
 |_=>exact(show False from e).elim
theorem Z0(ha:PE X a ta)(he:∀ whole,isTrue a X.env whole=(do let v <- whole;standAt a.pos;holding [v] (truthy v))) :
  PT X a (fun σ H Q=>ta σ H fun x H'=>∃ k,QY X.K x H' k/\Q k H'):=by
 intro pins s σ H Q I h
 exact isTrue_plain (cc (ha pins s σ H _ I h) fun v s1 cf=>L2.fq cf fun x H1 I1 r1 q1=>ZZ pins s1 σ H1 x v Q I1 r1 q1) (he _)
theorem Z1:cS X (binaryOp .Add) (fun x y H Q=>∃ i j,x=.str i/\y=.str j/\i.length+j.length<=sizeLine/\Q (.str (i++j)) H):=by
 intro pins s σ H x y v u Q I rx ry h
 obtain⟨i,j,rfl,rfl,hz,q⟩:=h
 obtain⟨t,rfl⟩:=rx
 obtain⟨t',rfl⟩:=ry
 exact add_str (fun t' tk=>⟨.str (i++j),H,I.tok _,⟨_,rfl⟩,q⟩) hz
theorem vals1(r:Vals [x] us):∃ u,us=[u]/\RelV x u:=by
 cases r with
 |cons r1 r2=>cases r2;exact⟨_,rfl,r1⟩
theorem vals2(r:Vals [x,y] us):∃ u w',us=[u,w']/\RelV x u/\RelV y w':=by
 cases r with
 |cons r1 r2 =>
  cases r2 with
  |cons r3 r4=>cases r4;exact⟨_,_,rfl,r1,r3⟩
theorem Z2 (hc:X.calm=true):kb X (.builtin "min") (fun xs H Q=>∃ i j,xs=[.int i,.int j]/\Q (.int (if j<i then j else i)) H):=by
 intro pins s σ H xs us Q I r h
 obtain⟨i,j,rfl,q⟩:=h
 obtain⟨u,w',rfl,⟨t,rfl⟩,⟨t',rfl⟩⟩:=vals2 r
 refine min_two_ints (I.ok.hd hc) fun h' tk k=>⟨_,H,I.kept k,?_,q⟩
 by_cases hj:j<i
 ·rw[if_pos hj,if_pos hj];exact⟨_,rfl⟩
 ·rw[if_neg hj,if_neg hj];exact⟨_,rfl⟩
def Z3(K:PySem.W.Frag)(x:V)(H:Hp)(n:Nat):Prop :=
 match x with
 |.str y=>y.length<=sizeLine/\n=y.length
 |.qq y=>y.size<=sizeLine/\n=y.size
 |.ref p=>(∃ xs,eB K H p xs/\n=xs.length)\/∃ xs,jI K H p xs/\n=xs.length
 |_=>False
theorem QZ:kb X (.builtin "len") (fun xs H Q=>∃ x n,xs=[x]/\Z3 X.K x H n/\Q (.int n) H):=by
 intro pins s σ H xs us Q I r h
 obtain⟨x,n,rfl,e,q⟩:=h
 obtain⟨u,rfl,rx⟩:=vals1 r
 have hl:=LN
 have hs:sizeLine=16777216:=sizeLine_eq
 cases x with
 |str y =>
  obtain⟨t,rfl⟩:=rx
  obtain⟨hy,e'⟩:y.length<=sizeLine/\n=y.length:=e
  subst e'
  exact len_str (by lia) ⟨.int _,H,I.tok _,⟨_,rfl⟩,q⟩
 |qq y =>
  obtain⟨t,rfl⟩:=rx
  obtain⟨hy,e'⟩:y.size<=sizeLine/\n=y.size:=e
  subst e'
  exact PySem.W.len_bytes (by walk_at "s4") ⟨.int _,H,I.tok _,⟨_,rfl⟩,q⟩
 |ref p =>
  cases rx
  have e':(∃ xs,eB X.K H p xs/\n=xs.length)\/∃ xs,jI X.K H p xs/\n=xs.length:=e
  rcases e' with⟨xs,hx,e'⟩|⟨xs,hx,e'⟩
  ·subst e'
   obtain⟨its,r',pl,hz⟩:=I.list hx
   have hlen:=r'.length
   exact Calls.call_len_list pl.isList (by simp only[hX];lia) ⟨.int xs.length,H,I.tok _,⟨_,by simp only[hX];rw[hlen]⟩,q⟩
  ·subst e'
   obtain⟨its,r',pl,hz⟩:=I.tuple hx
   have hlen:=r'.length
   exact len_tuple pl (by simp only[hX];lia) ⟨.int xs.length,H,I.tok _,⟨_,by simp only[hX];rw[hlen]⟩,q⟩
 |_=>exact(show False from e).elim
end
structure Q0(h:Heap)(x dx C:Addr)(mA:Str->Option Value):Prop where
 obj:h.get? x=some (PySem.W.instObj C dx)
 ns:h.Ns1 dx mA
 ne:dx≠x
theorem lookIn_ns{h:Heap}{dx:Addr}{mA:Str->Option Value}(n:h.Ns1 dx mA):∃ od,h.get? dx=some od/\∀ name,PySem.W.lookIn name od=some (mA name):=by
 obtain⟨o,es,ep,ho,hd,hk,_,hm⟩:=n
 refine⟨o,ho,fun name=>?_⟩
 have e:=hm name
 unfold nsFind findBy at e
 rw[<- Array.find?_toList] at e
 unfold PySem.W.lookIn
 rw[hd]
 dsimp only
 split
 ·rename_i y q
  rw[q] at e
  exact congrArg some e
 ·rename_i q
  rw[q] at e
  have a:es.toList.any (·.refKey)=false:=by
   rw[List.any_eq_false]
   intro y hy
   obtain⟨z,t,Z4⟩:=hk y (Array.mem_toList_iff.mp hy)
   simp[DictEntry.refKey,Z4]
  have a':¬ es.toList.any (·.refKey)=true:=by rw[a];exact iq
  rw[if_neg a']
  exact congrArg some e
theorem Q0.look(I:Q0 h x dx C mA):∃ od,PySem.W.InstAt h x (PySem.W.instObj C dx) C (some od)/\∀ name,PySem.W.lookIn name od=some (mA name) :=
 let ⟨od,ho,hl⟩:=lookIn_ns I.ns
 ⟨od,⟨I.obj,rfl,rfl,ho⟩,hl⟩
theorem tJ.some_of(r:tJ (some v) o):∃ u,o=some u/\RelV v u:=by
 cases o with
 |none=>exact(show False from r).elim
 |some u=>exact⟨u,rfl,r⟩
section
variable {P:Program}{w:World}{H:Hp}{h:Heap}{a C dx:Addr}{fs:List (Str × V)}
theorem Oq(aE:fR P w H h)(e:H a=some (.ins C dx fs)):∃ mA,Q0 h a dx C mA/\(∀ f,tJ (fs.lookup f) (mA f))/\PySem.Within mA (fs.map (·.1))/\fs.length<=1000/\H dx=some (.own a):=by
 obtain⟨d,z,ne,ob,mA,n,r,q⟩:=(show eP P w H h a (.ins C dx fs) from aE a _ e)
 exact⟨mA,⟨ob,n,ne⟩,r,q,z,d⟩
end
structure Q5(K:PySem.W.Frag)(C:Addr):Prop where
 pg:PySem.W.plainGet K C Str.empty=true
 hd:PySem.W.hasDictIn K C=true
 po:PySem.W.plainOver K C=true
 sa:PySem.W.findIn K (.ref C) "__setattr__" = some (some (.builtin "object.__setattr__"))
theorem Q5.get{K:PySem.W.Frag}(c:Q5 K C)(f:Str):PySem.W.plainGet K C f=true:=c.pg
section
variable {X:Cx}{pins:List (Addr × Obj)}{σ:St}{H:Hp}{s:Shared}{A:Around}{E:Value->Shared->Prop}{Q:Value->Shared->Prop}{c:Value}{b:Bool}
inductive vS(K:PySem.W.Frag)(H:Hp):V->Value->Prop where
 |non:vS K H .non (.type "NoneType")
 |bl (x:Bool):vS K H (.bl x) (.type "bool")
 |int (i:Int):vS K H (.int i) (.type "int")
 |str (x:Str):vS K H (.str x) (.type "str")
 |Ap (x:UInt64):vS K H (.Ap x) (.type "float")
 |lst {a:Addr} {xs:List V} (e:H a=some (.lst xs)):vS K H (.ref a) (.type "list")
 |mw {a:Addr} {o:Obj} {xs:List V} (e:H a=some (.mw o (.lst xs))):vS K H (.ref a) (.type "list")
 |tup {a:Addr} {xs:List V} (e:H a=some (.tup xs)):vS K H (.ref a) (.type "tuple")
 |dK {a:Addr} {kvs:List (Key × V)} (e:H a=some (.dK kvs)):vS K H (.ref a) (.type "dict")
 |dT {a:Addr} {kvs:List (List Key × V)} (e:H a=some (.dT kvs)):vS K H (.ref a) (.type "dict")
 |ins {a C dx:Addr} {fs:List (Str × V)} (e:H a=some (.ins C dx fs)) (cl:Q5 K C) (ha:PySem.W.findIn K (.ref C) "__class__" = some (some (.builtin "object.__class__")))
   (hn:PySem.W.specialIn K (.builtin "object.__class__") "__get__" = some (some (.builtin "getset_descriptor.__get__"))) (Vq:PySem.W.takesIn K (.builtin "object.__class__")=some true)
   (hm:PySem.W.mroIn K C (.type "object")=some true):vS K H (.ref a) (.ref C)
theorem LP(I:Inv X pins σ H s)(rx:RelV x u)(ty:vS X.K H x t)(e:PySem.W.kitOne X.K t c=some b)(h:∀ tk,Q (.bool b) { s with toks:=tk }) :
  wpAny (model X.prog X.w) A (call (.builtin "isinstance") [u,c]) Q E s:=by
 cases ty with
 |non=>cases (show u=Value.none from rx);exact PySem.W.kia_one PySem.W.kitx_none I.kB True.intro e (fun z=>nomatch z) h
 |bl y=>cases (show u=Value.bool y from rx);exact PySem.W.kia_one PySem.W.kitx_bool I.kB True.intro e (fun z=>nomatch z) h
 |int i=>obtain⟨t,q⟩:=(show ∃ t,u=Value.int i t from rx);cases q;exact PySem.W.kia_one PySem.W.kitx_int I.kB True.intro e (fun z=>nomatch z) h
 |str y=>obtain⟨t,q⟩:=(show ∃ t,u=Value.str y t from rx);cases q;exact PySem.W.kia_one PySem.W.kitx_str I.kB True.intro e (fun z=>nomatch z) h
 |Ap y=>obtain⟨t,q⟩:=(show ∃ t,u=Value.float y t from rx);cases q;exact PySem.W.kia_one PySem.W.kitx_float I.kB True.intro e (fun z=>nomatch z) h
 |@lst a xs ea =>
  cases (show u=Value.ref a from rx)
  obtain⟨_,_,n,_,h1⟩:=(show eP X.prog X.w H s.heap a (.lst xs) from I.aE a _ ea)
  exact PySem.W.kia_one PySem.W.kitx_list I.kB ⟨_,h1,rfl⟩ e (fun z=>nomatch z) h
 |@mw a ob xs ea =>
  cases (show u=Value.ref a from rx)
  obtain⟨_,_,_,n,_,h1⟩:=(show eP X.prog X.w H s.heap a (.mw ob (.lst xs)) from I.aE a _ ea)
  exact PySem.W.kia_one PySem.W.kitx_list I.kB ⟨_,h1,rfl⟩ e (fun z=>nomatch z) h
 |@tup a xs ea =>
  cases (show u=Value.ref a from rx)
  obtain⟨_,_,_,p⟩:=(show eP X.prog X.w H s.heap a (.tup xs) from I.aE a _ ea)
  obtain⟨o,h1,h2,_⟩:=p
  exact PySem.W.kia_one PySem.W.kitx_tuple I.kB ⟨o,h1,h2⟩ e (fun z=>nomatch z) h
 |@dK a kvs ea =>
  cases (show u=Value.ref a from rx)
  obtain⟨_,_,vs,_,p⟩:=(show eP X.prog X.w H s.heap a (.dK kvs) from I.aE a _ ea)
  obtain⟨o,es,ep,h1,h2,_⟩:=p
  exact PySem.W.kia_one PySem.W.kitx_dict I.kB ⟨o,h1,h2.1⟩ e (fun z=>nomatch z) h
 |@dT a kvs ea =>
  cases (show u=Value.ref a from rx)
  obtain⟨_,_,xs,_,o,es,ep,h1,h2,_⟩:=(show eP X.prog X.w H s.heap a (.dT kvs) from I.aE a _ ea)
  exact PySem.W.kia_one PySem.W.kitx_dict I.kB ⟨o,h1,h2.1⟩ e (fun z=>nomatch z) h
 |@ins a C dx fs ea cl ha hn Vq hm =>
  cases (show u=Value.ref a from rx)
  obtain⟨mA,O,_⟩:=Oq I.aE ea
  obtain⟨od,J,_⟩:=O.look
  exact PySem.W.kia_one (PySem.W.kitx_own (cl.get _) cl.hd ha hn Vq hm) I.kB J e (fun z=>nomatch z) h
end
structure kc(k:Nat)(A:Around):Prop where
 hd:A.handled=none
 dp:A.depth+3*k+5<recursionLimit
 un:A.units+16*k+200<cLine
theorem kc.mono(r:kc k A)(h:j<=k):kc j A:=⟨r.hd,by have:=r.dp;lia,by have:=r.un;lia⟩
theorem kc.deeper(r:kc (k+1) A)(env:Env):kc k (A.deeper env) :=
 ⟨r.hd,by have:=r.dp;show A.depth+1+3*k+5<_;lia,by have:=r.un;show A.units+3+16*k+200<_;lia⟩
theorem kc.depth(r:kc k A):A.depth<recursionLimit:=by have:=r.dp;lia
theorem kc.units(r:kc k A):A.units+64<cLine:=by have:=r.un;lia
def Q6:TA:=fun _ H Q=>Q [] H
def Q7(ta:TE)(tr:TA):TA:=fun σ H Q=>ta σ H fun x H1=>tr σ H1 fun xs H2=>Q (x :: xs) H2
section
variable {X:Cx}{e:Expr}{es:List Expr}{te:TE}{t:TA}{pos:Pos}
theorem qB:PA X [] Q6:=fun _ _ _ _ H Q I h=>Calls.spliced_nil ⟨[],H,I,.nil,h⟩
theorem nI(ha:PE X e te)(hr:PA X es t)(hs:starEach (e :: es) X.env=(false,eval e X.env) :: starEach es X.env:=by rfl):PA X (e :: es) (Q7 te t):=by
 intro pos pins s σ H Q I h
 rw[hs]
 show wpAny _ _ (spliced ((false,eval e X.env) :: backTo pos (starEach es X.env))) _ _ s
 refine Calls.spliced_cons (cc (ha pins s σ H _ I h) fun u s1 cf=>L2.fq cf fun x H1 I1 r1 q1=>?_)
 exact cc (hr pos pins s1 σ H1 _ I1 q1) fun us s2 cf=>L2.fq cf fun xs H2 I2 r2 q2=>⟨x :: xs,H2,I2,.cons r1 r2,q2⟩
def Z5(t:TA):TE:=fun σ H Q=>t σ H fun xs H1=>xs.length<=sizeLine/\∀ p,H1 p=none->Q (.ref p) (upd H1 p (.tup xs))
def Z6(t:TA):TE:=fun σ H Q=>t σ H fun xs H1=>xs.length<=sizeLine/\∀ p,H1 p=none->Q (.ref p) (upd H1 p (.lst xs))
theorem Vr{x1}(h:PA X es t):PE X (.Tuple es x1 pos) (Z5 t):=by
 intro pins s σ H Q I hq
 refine wpAny_Tuple_spliced (cc (h pos pins s σ H _ I hq) fun us s1 ⟨xs,H1,I1,r,z,q⟩=>⟨by rw[<- r.length];exact z,?_⟩)
 have hf:H1 s1.heap.objs.size=none:=I1.aE.fresh (ck _)
 refine⟨.ref s1.heap.objs.size,upd H1 s1.heap.objs.size (.tup xs),I1.laid (t':=s1.toks) (fun b u e=>eW _ e) (ck _) ?_,rfl,q _ hf⟩
 exact⟨z,us,r,⟨_,jv _ rfl,rfl,_,rfl⟩⟩
theorem Z7(h:PA X es t):PE X (.List es pos) (Z6 t):=by
 intro pins s σ H Q I hq
 refine wpAny_List_spliced (cc (h pos pins s σ H _ I hq) fun us s1 ⟨xs,H1,I1,r,z,q⟩=>⟨by rw[<- r.length];exact z,?_⟩)
 have hf:H1 s1.heap.objs.size=none:=I1.aE.fresh (ck _)
 refine⟨.ref s1.heap.objs.size,upd H1 s1.heap.objs.size (.lst xs),I1.laid (t':=s1.toks) (fun b u e=>eW _ e) (ck _) ?_,rfl,q _ hf⟩
 exact⟨z,us,0,r,jv _ rfl⟩
end
abbrev Sp:=List V->Hp->VK->XK->Prop
abbrev AG:=List Env->Hp->Shared->XK->Value->Shared->Prop
structure Ot(P:Program)(w:World)(K:PySem.W.Frag)(mg:Str->Option Value)(base:Heap)(A:Around)(outer:List Env)(s:Shared)(H:Hp):Prop where
 frames:A.frames=some outer
 mod:Mod K mg base
 bs:∀ b o,base.get? b=some o->s.heap.get? b=some o/\H b=none
 tP:base.objs.size<=s.heap.objs.size
 oP:s.heap.FunFrames base outer
 wx:∀ b∈fh outer,H b=none
 aE:fR P w H s.heap
 bare:AllBare s.gens
def CE(outer:List Env)(P:Program)(w:World)(H:Hp)(s:Shared)(Q:VK)(u:Value)(s':Shared):Prop :=
 ∃ v H',s'.os=s.os/\AllBare s'.gens/\Un (fh outer) [] H H' s.heap s'.heap/\fR P w H' s'.heap/\RelV v u/\Q v H'
def CR(CX:AG)(outer:List Env)(P:Program)(w:World)(H:Hp)(s:Shared)(Q:VK)(E:XK)(r:Result)(s':Shared):Prop :=
 match r with
 |.ok (.ret u)=>CE outer P w H s Q u s'
 |.ok _=>False
 |.error e=>CX outer H s E e s'
structure g7(P:Program)(w:World)(K:PySem.W.Frag)(mg:Str->Option Value)(base:Heap)(CX:AG)(k:Nat)(f:Addr)(fd:FuncData)(ps:List Str)(sp:Sp):Prop where
 len:∀ vs H Q E,sp vs H Q E->vs.length=ps.length
 run:∀ (A:Around) (outer:List Env) (s:Shared) (H:Hp) (args:Args) (us:List Value) (vs:List V) (Q:VK) (E:XK),kc k A->Ot P w K mg base A outer s H->BindsTo s fd args (ps.zip us)->Vals vs us->sp vs H Q E ->
  codeAny (model P w) A (.call (.ref f) args) (CR CX outer P w H s Q E) s
section
variable {X:Cx}{pins:List (Addr × Obj)}{σ:St}{H:Hp}{s s':Shared}
theorem Inv.Z8(I:Inv X pins σ H s):Ot X.prog X.w X.K X.mg X.base X.A X.stack s H :=
 ⟨I.ok.frames,I.ok.mod,I.bs,gS I.ok.tP I.sz,I.stack,I.Qz,I.aE,I.bare⟩
theorem Inv.after(I:Inv X pins σ H s)(h:CE X.stack X.prog X.w H s Q u s'):EP X pins σ Q u s':=by
 obtain⟨v,H',os,bare,un,aE,r,q⟩:=h
 obtain⟨hh,g,d,t,Q8⟩:=s'
 obtain rfl:Q8=s.os:=os
 exact⟨v,H',I.call (h':=hh) (g':=g) (d':=d) (t':=t) (ch:=[]) un aE bare (fun b z=>absurd z (by simp)),r,q⟩
end
def LS(sp:Sp)(Cb:List V)(E:XK)(t:TA):TE:=fun σ H Q=>t σ H fun vs H1=>sp (vs++Cb) H1 Q E
def Binds(K:PySem.W.Frag)(fd:FuncData)(ps:List Str)(ds:List Value):Prop :=
 ∀ (s:Shared) (us:List Value),K.In s.heap->(us++ds).length=ps.length->BindsTo s fd ⟨us,[]⟩ (ps.zip (us++ds))
theorem Binds.all{K:PySem.W.Frag}{ps:List Str}(h:∀ us:List Value,us.length=ps.length->bindArgs fd ⟨us,[]⟩=pure (ps.zip us)):Binds K fd ps []:=fun s us _ hl=>by
 rw[lI] at hl ⊢
 exact .of_eq (h us hl)
def Passes(CX:AG)(X:Cx)(E:XK):Prop:=∀ (pins:List (Addr × Obj)) (σ:St) (H:Hp) (s:Shared) (e:Value) (s':Shared),Inv X pins σ H s->CX X.stack H s E e s'->X.xe e s'
section
variable {X:Cx}{CX:AG}{k:Nat}{f:Addr}{fd:FuncData}{ps:List Str}{sp:Sp}{Cb:List V}{ds:List Value}{E:XK}{x:Str}{p pos:Pos}{e:Expr}{es:List Expr}{t:TA}
theorem Z9(F:g7 X.prog X.w X.K X.mg X.base CX k f fd ps sp)(hr:kc k X.A)(hb:Binds X.K fd ps ds)(hd:Vals Cb ds)(hx:Passes CX X E)
  (I:Inv X pins σ H s) (r:Vals vs us) (h:sp (vs++Cb) H Q E):wpAny (model X.prog X.w) X.A (call (.ref f) us) (EP X pins σ Q) X.xe s:=by
 have r2:Vals (vs++Cb) (us++ds):=r.append hd
 have hl:(us++ds).length=ps.length:=by rw[<- r2.length];exact F.len _ _ _ _ h
 refine wpAny_call (codeAny_mono (F.run X.A X.stack s H ⟨us,[]⟩ (us++ds) (vs++Cb) Q E hr I.Z8 (hb s us I.kB hl) r2 h) fun r s' hq=>?_)
 cases r with
 |error e=>exact hx pins σ H s e s' I hq
 |ok fl =>
  cases fl with
  |ret u=>exact I.after hq
  |next=>exact False.elim hq
  |brk=>exact False.elim hq
  |cont=>exact False.elim hq
theorem Vs(F:g7 X.prog X.w X.K X.mg X.base CX k f fd ps sp)(hr:kc k X.A)(hg:Gl X x)(hm:X.mg x=some (.ref f))(hk:PySem.W.keepIn X.K (.ref f)=true)(hb:Binds X.K fd ps ds)(hd:Vals Cb ds)(hx:Passes CX X E)
  (ha:PA X (e :: es) t) (gy:(x == ("__debug__" : Str))=false:=by decide) (he:starEach (e :: es) X.env=(false,eval e X.env) :: starEach es X.env:=by rfl) (ft:(backTo pos (starEach es X.env)).any (·.1)=false:=by rfl) :
  PE X (.Call (.Name x p) (e :: es) [] pos) (LS sp Cb E t):=by
 intro pins s σ H Q I h
 refine wpAny_Call_Name_kw (Oc I hg hm ?_ gy)
 refine PySem.W.callWith_K (h₀:=X.base) I.ok.mod.B6 hk (cc (ha pos pins s σ H _ I h) fun us s1 cf=>L2.fq cf fun vs H1 I1 r q=>⟨I1.kB,?_⟩) he ft
 exact Z9 F hr hb hd hx I1 r q
end
structure kC(N P:List Str)(sc:Scope):Prop where
 kind:sc.kind=.function
 co:sc.isCoroutine=false
 gen:sc.isGenerator=false
 nd:N.Nodup
 pre:N.take P.length=P
 par:∀ x∈P,sc.names.lookup x=some .local\/sc.names.lookup x=some .cell
 Z_:∀ y∈sc.names,y.2≠.free
theorem Vt{kindOf:Str->Option NameKind}:∀ {binds:List (Str × Value)} {m:Str->Option Value},(∀ v,(x,v)∉binds)->bindL kindOf binds m x=m x
 |[],_,_=>rfl
 | (n,v) :: r,m,h=>by
  unfold bindL
  rw[Vt fun w hw=>h w (b5 _ hw)]
  split
  ·have:x≠n:=by rintro rfl;exact h v bX
   simp[this]
  ·rfl
theorem Vu{kindOf:Str->Option NameKind}:∀ {binds:List (Str × Value)} {m:Str->Option Value},(∀ v,(x,v)∉binds)->bindC kindOf binds m x=m x
 |[],_,_=>rfl
 | (n,v) :: r,m,h=>by
  unfold bindC
  rw[Vu fun w hw=>h w (b5 _ hw)]
  split
  ·rfl
  ·have:x≠n:=by rintro rfl;exact h v bX
   simp[this]
theorem Vv{kindOf:Str->Option NameKind}:∀ {P:List Str} {vs:List Value} {i:Nat} {m:Str->Option Value},P.Nodup->P[i]? = some x->vs[i]? = some v->kindOf x=some .local ->
  bindL kindOf (P.zip vs) m x=some v
 |[],_,_,_,_,h,_,_=>by simp at h
 |_ :: _,[],_,_,_,_,h,_=>by simp at h
 |p :: P,w :: vs,0,m,nd,h1,h2,hk=>by
  simp at h1 h2;subst h1;subst h2
  show bindL kindOf ((p,w) :: P.zip vs) m p=_
  unfold bindL
  rw[Vt fun v hv=>(ja.mp nd).1 (List.of_mem_zip hv).1,if_pos hk]
  simp
 |p :: P,w :: vs,i+1,m,nd,h1,h2,hk=>by
  show bindL kindOf ((p,w) :: P.zip vs) m x=_
  unfold bindL
  exact Vv (i:=i) (ja.mp nd).2 (by simpa using h1) (by simpa using h2) hk
theorem Vw{kindOf:Str->Option NameKind}:∀ {P:List Str} {vs:List Value} {i:Nat} {m:Str->Option Value},P.Nodup->P[i]? = some x->vs[i]? = some v->kindOf x≠some .local ->
  bindC kindOf (P.zip vs) m x=some v
 |[],_,_,_,_,h,_,_=>by simp at h
 |_ :: _,[],_,_,_,_,h,_=>by simp at h
 |p :: P,w :: vs,0,m,nd,h1,h2,hk=>by
  simp at h1 h2;subst h1;subst h2
  show bindC kindOf ((p,w) :: P.zip vs) m p=_
  unfold bindC
  rw[Vu fun v hv=>(ja.mp nd).1 (List.of_mem_zip hv).1,if_neg hk]
  simp
 |p :: P,w :: vs,i+1,m,nd,h1,h2,hk=>by
  show bindC kindOf ((p,w) :: P.zip vs) m x=_
  unfold bindC
  exact Vw (i:=i) (ja.mp nd).2 (by simpa using h1) (by simpa using h2) hk
def start(N:List Str)(vs:List V):St:=vs.map some++List.replicate (N.length-vs.length) none
def qE(CX:AG)(P:Program)(w:World)(K:PySem.W.Frag)(mg:Str->Option Value)(base:Heap)(N:List Str)(qual:Str)(scope:Scope)(f:Addr)(cd:Value)(A:Around)(outer:List Env)(s:Shared)(H:Hp)(E:XK):Cx where
 prog:=P
 w:=w
 K:=K
 mg:=mg
 base:=base
 A:=A.deeper (envOfC qual scope s.heap.objs.size f cd)
 N:=N
 eR:=s
 wt:=H
 env:=envOfC qual scope s.heap.objs.size f cd
 outer:=outer
 stack:=envOfC qual scope s.heap.objs.size f cd :: outer
 ex:=[]
 calm:=true
 fn:=fun _=>true
 pn:=[]
 xe:=fun e s'=>wpAny (model P w) (A.deeper (envOfC qual scope s.heap.objs.size f cd)) (leaving (envOfC qual scope s.heap.objs.size f cd) e) (fun _ Ct=>CX outer H s E e Ct) (fun e' Ct=>CX outer H s E e' Ct) s'
theorem Vx{sc:Scope}{n:Nat}{x:Str}(h:sc.names.lookup x=some .cell):∃ c,(cellsFrom n sc.names []).lookup x=some c:=by
 have q:=PySem.W.cellsFrom_some sc.names n [] (.inl h)
 exact Qt.mp q
theorem aa'{CX:AG}{P:Program}{w:World}{K:PySem.W.Frag}{mg:Str->Option Value}{base:Heap}{N ps:List Str}{qual:Str}{scope:Scope}{f:Addr}{cd:Value}{A:Around}{outer:List Env}{s s1:Shared}{H:Hp}{E:XK}{us:List Value}{vs:List V}
  (S:kC N ps scope) (hd:A.handled=none) (e0:Ot P w K mg base A outer s H) (hl:vs.length=ps.length) (r:Vals vs us)
  (x:InCallC s s.heap.objs.size (bindL (envOfC qual scope s.heap.objs.size f cd).kindOf (ps.zip us) fun _=>none) (cellsFrom (s.heap.objs.size+1) scope.names []) (bindC (envOfC qual scope s.heap.objs.size f cd).kindOf (ps.zip us) fun _=>none) s1) :
  Inv (qE CX P w K mg base N qual scope f cd A outer s H E) [] (start N vs) H s1:=by
 have ft:ps.length<=N.length:=by have:=congrArg List.length S.pre;rw[vn] at this;lia
 obtain⟨h1,tk,rfl,hk⟩:=x.done
 have LV:∀ b:Addr,b∉(qE CX P w K mg base N qual scope f cd A outer s H E).ex:=fun b z=>absurd (show b∈([]:List Addr) from z) (by simp)
 refine⟨⟨e0.mod,S.kind,rfl,rfl,ck _,fun y z c h1 h2=>?_,fun y hy=>?_,fun y c _ h=>?_,fun _=>hd,Around.frames_deeper e0.frames,.inr ⟨rfl,rfl⟩,fun b z=>absurd z (LV b),e0.bs,e0.tP,fun b _ _=>LV b,fun b z=>absurd z (LV b),e0.oP,e0.wx⟩,
  rfl,e0.bare,Un.kept hk,⟨_,x.toInCall.ns,fun i y v h1 h2 h3=>?_⟩,fun y c h=>⟨_,x.cell y c h⟩,e0.aE.fresh (ck _),fun y c h=>?_,fun p hp=>absurd (show p∈([]:List (Addr × Obj)) from hp) (by simp),e0.aE.kept hk,?_⟩
 ·exact name_of_addr x.apart (PySem.mem_of_lookup h1) (PySem.mem_of_lookup h2)
 ·have hy:scope.names.lookup y=some .cell\/scope.names.lookup y=some .free:=hy
  rcases hy with hy|hy
  ·exact Vx hy
  ·exact absurd rfl (S.Z_ _ (PySem.mem_of_lookup hy))
 ·exact ot (x.above y c (PySem.mem_of_lookup h))
 ·have hi:i<vs.length:=by
   unfold start at h2
   by_cases hi:i<vs.length
   ·exact hi
   ·rw[BM (by simpa using hi)] at h2
    rw[Qc] at h2
    split at h2<;>cases h2
  have ha:vs[i]? = some v:=by
   unfold start at h2
   rw[FE (by simpa using hi),ny] at h2
   cases e:vs[i]? with
   |none=>rw[e] at h2;cases h2
   |some a=>rw[e] at h2;cases h2;rfl
  obtain⟨u,hu,rv⟩:=r.get ha
  have hp:ps[i]? = some y:=by
   rw[<- S.pre,List.getElem?_take_of_lt (by lia)];exact h1
  have Vy:ps.Nodup:=by rw[<- S.pre];exact S.nd.sublist (List.take_sublist _ _)
  refine⟨u,rv,?_⟩
  rcases S.par y (ll hp) with k|k
  ·exact .inl ⟨k,Vv Vy hp hu k⟩
  ·obtain⟨c,e⟩:=Vx (n:=s.heap.objs.size+1) k
   refine .inr ⟨.inl k,c,e,?_⟩
   have q:=x.cell y c e
   rw[Vw Vy hp hu (by show scope.names.lookup y≠_;rw[k];decide)] at q
   exact q
 ·exact e0.aE.fresh (ot (x.above y c (PySem.mem_of_lookup h)))
 ·unfold start
  show _=N.length
  rw[kA,bT,Qg]
  lia
theorem Vz{P:Program}{K:PySem.W.Frag}{dV kV doc pm cK ct oc:Value}
  {N ps:List Str} (lk:K.lookup f=some ⟨oc,od,.func (PySem.W.fnOf name qual params body scope dV kV doc pm an cK ct),EA⟩) (oy:PySem.W.codeIn K cK qual=true) (S:kC N ps scope)
  (len:∀ vs H Q E,sp vs H Q E->vs.length=ps.length)
  (AH:∀ (A:Around) (outer:List Env) (s:Shared) (H:Hp) (vs:List V) (Q:VK) (E:XK),kc k (A.deeper (envOfC qual scope s.heap.objs.size f cK))->sp vs H Q E ->
   ∃ t,mB (qE CX P w K mg base N qual scope f cK A outer s H E) body t/\t { nx:=fun _ H'=>Q .non H',rt:=Q } (start N vs) H) :
  g7 P w K mg base CX (k+1) f (PySem.W.fnOf name qual params body scope dV kV doc pm an cK ct) ps sp:=by
 refine⟨len,fun A outer s H args us vs Q E hr e0 hb r y8=>?_⟩
 have hl:=len _ _ _ _ y8
 have KX:K.In s.heap:=e0.mod.B6.keeps fun b o e=>(e0.bs b o e).1
 have lim:s.heap.NoLimit:=e0.mod.nolimit.keeps fun b o e=>(e0.bs b o e).1
 have ab':∀ y∈ps.zip us,scope.names.lookup y.1=some .local\/(scope.names.lookup y.1=some .cell/\((cellsFrom (s.heap.objs.size+1) scope.names []).lookup y.1).isSome=true):=fun⟨n,v⟩ hy=>by
  rcases S.par n (List.of_mem_zip hy).1 with q|q
  ·exact .inl q
  ·exact .inr ⟨q,PySem.W.cellsFrom_some _ _ _ (.inl q)⟩
 refine codeAny_call_function hr.depth (KX _ _ lk) rfl S.co S.gen rfl (PySem.W.codeRec_of KX oy) (hb _ _ _ _ ?_)
 refine wpAny_newFunctionEnv_cells S.kind ab' fun env he s1 x=>?_
 subst he
 refine⟨lim.keeps x.toInCall.keep,codeAny_func ?_⟩
 obtain⟨t,ht,hq⟩:=AH A outer s H vs Q E (hr.deeper _) y8
 have I:Inv (qE CX P w K mg base N qual scope f cK A outer s H E) [] (start N vs) H s1:=aa' S hr.hd e0 hl r x
 refine oI (ht [] s1 (start N vs) H _ I hq) (fun fl s' hs=>?_) fun e s' hs=>hs
 have fin:∀ {bp:St} {H':Hp} {v:V} {u:Value},Inv (qE CX P w K mg base N qual scope f cK A outer s H E) [] bp H' s'->RelV v u->Q v H'->CE outer P w H s Q u s' :=
  fun {bp H' v u} J rv q=>⟨v,H',J.os,J.bare,J.base,J.aE,rv,q⟩
 cases fl with
 |ret u =>
  obtain⟨v,bp,H',J,rv,q⟩:=hs
  exact fin J rv q
 |next =>
  obtain⟨bp,H',J,q⟩:=hs
  exact fin (v:=V.non) (u:=Value.none) J rfl q
 |brk =>
  obtain⟨_,_,_,q⟩:=hs
  exact False.elim q
 |cont =>
  obtain⟨_,_,_,q⟩:=hs
  exact False.elim q
section
variable {X:Cx}{x:Str}{p pos:Pos}{e:Expr}{es:List Expr}{t:TA}{id T:String}{r:List V->Hp->VK->Prop}
def Q9(r:List V->Hp->VK->Prop)(t:TA):TE:=fun σ H Q=>t σ H fun vs H1=>r vs H1 Q
theorem Ou (hc:kb X (.builtin id) r) (hg:Gl X x) (hm:X.mg x=none) (hv:bootBuiltins x=some (.builtin id)) (ha:PA X (e :: es) t) (hn:x ≠ "__name__" := by decide) (gy:(x == ("__debug__" : Str))=false:=by decide)
  (he:starEach (e :: es) X.env=(false,eval e X.env) :: starEach es X.env:=by rfl) (ft:(backTo pos (starEach es X.env)).any (·.1)=false:=by rfl):PE X (.Call (.Name x p) (e :: es) [] pos) (Q9 r t):=by
 intro pins s σ H Q I h
 refine wpAny_Call_Name_kw (AF I hg hm hv ?_ hn gy)
 exact PyProof.Rows.callWith_builtin1 (cc (ha pos pins s σ H _ I h) fun us s1 cf=>L2.fq cf fun vs H1 I1 r1 q1=>hc pins s1 σ H1 vs us Q I1 r1 q1) he ft
theorem ac' (hc:kb X (.type T) r) (hg:Gl X x) (hm:X.mg x=none) (hv:bootBuiltins x=some (.type T)) (ha:PA X (e :: es) t) (hn:x ≠ "__name__" := by decide) (gy:(x == ("__debug__" : Str))=false:=by decide)
  (he:starEach (e :: es) X.env=(false,eval e X.env) :: starEach es X.env:=by rfl) (ft:(backTo pos (starEach es X.env)).any (·.1)=false:=by rfl):PE X (.Call (.Name x p) (e :: es) [] pos) (Q9 r t):=by
 intro pins s σ H Q I h
 refine wpAny_Call_Name_kw (AF I hg hm hv ?_ hn gy)
 exact PyProof.Rows.callWith_type1 (cc (ha pos pins s σ H _ I h) fun us s1 cf=>L2.fq cf fun vs H1 I1 r1 q1=>hc pins s1 σ H1 vs us Q I1 r1 q1) he ft
end
end L2
namespace HT
open PySem PyProof.Rows
section
open PySem.SeqAt
open PySem.AutoSeq1 (wpAny_loadPart')
open PySem.MeetsSeq PySem.MeetsSeq2 PySem.MeetsSeq3
end
section
variable {prog:Program}{w:World}{A:Around}{E:Value->Shared->Prop}{s:Shared}
theorem ad'(ht:IsTup s.heap t vs.toArray)(hb:IsTup s.heap b ws.toArray)(hv:vs≠[])
  (h1:ws=[]->Q (.ref t) s) (h2:ws≠[]->Q (.ref s.heap.objs.size) { s with heap:=s.heap.push { cls:=.type "tuple",data:=.seq (vs++ws).toArray } })
  (hsz:vs.length+ws.length<=sizeLine):wpAny (model prog w) A (binaryOp .Add (.ref t) (.ref b)) Q E s:=by
 obtain⟨⟨cls,dd,data,sl⟩,ho,hc,n,hd⟩:=id ht
 obtain⟨⟨Q_,qS,data2,qV⟩,oS,q0,n2,hd2⟩:=id hb
 simp only at hc hd q0 hd2
 subst hc hd q0 hd2
 have e:vs.toArray++ws.toArray=(vs++ws).toArray:=by simp
 by_cases hw:ws=[]
 ·exact concat_meets ⟨_,ho,rfl⟩ ⟨_,oS,rfl⟩ noFill_tuple_add seq_tuple_add PySem.F.slot_tuple_add PySem.F.entry_tuple_add (PySem.F.args_tuple_add_2 _ _)
   (tuple_addW1 t b vs.toArray ws.toArray n n2 dd qS sl qV (by simpa using hv) (by simp[hw])) ⟨ho,oS,h1 hw⟩
 ·refine concat_meets ⟨_,ho,rfl⟩ ⟨_,oS,rfl⟩ noFill_tuple_add seq_tuple_add PySem.F.slot_tuple_add PySem.F.entry_tuple_add (PySem.F.args_tuple_add_2 _ _)
   (tuple_addW2 t b vs.toArray ws.toArray n n2 dd qS sl qV (by simpa using hv) (by simpa using hw) (by rw[hX,hX];exact hsz)) ⟨ho,oS,?_⟩
  rw[e]
  exact h2 hw
def bP(n d:Nat):Option Int->Nat
 |none=>d
 |some v=>if v<0 then (v+(n:Int)).toNat else min v.toNat n
theorem ae'(n d:Nat)(hd:d<=n)(o:Option Int):bP n d o<=n:=by
 cases o with
 |none=>exact hd
 |some v =>
  show(if v<0 then (v+(n:Int)).toNat else min v.toNat n)<=n
  by_cases hv:v<0
  ·rw[if_pos hv];lia
  ·rw[if_neg hv];exact Nat.min_le_right _ _
theorem VA(v:Int)(n d:Nat):(if v<0 then max (v+(n:Int)) 0 else min v (n:Int))=((bP n d (some v):Nat):Int):=by
 show(if v<0 then max (v+(n:Int)) 0 else min v (n:Int))=(((if v<0 then (v+(n:Int)).toNat else min v.toNat n):Nat):Int)
 by_cases hv:v<0
 ·simp only[if_pos hv];lia
 ·simp only[if_neg hv];lia
theorem af'(lo hi:Option Int)(n:Nat):Builtin.Slice.sliceAdjust lo hi 1 (n:Int)=(((bP n 0 lo:Nat):Int),((bP n n hi:Nat):Int)):=by
 have h1:¬ ((1:Int)<0):=by decide
 unfold Builtin.Slice.sliceAdjust
 simp only[h1,if_false]
 refine Prod.ext ?_ ?_
 ·cases lo with
  |none=>rfl
  |some v=>exact VA v n 0
 ·cases hi with
  |none=>rfl
  |some v=>exact VA v n n
theorem ag'(i j:Nat):Builtin.Slice.slicePlaces (i:Int) (j:Int) 1=j-i:=by
 unfold Builtin.Slice.slicePlaces
 have h1:(1:Int)>0:=by exact wo _
 simp only[h1,if_true,Int.ediv_one]
 split<;>lia
theorem VB(p:IsPart v o)(h:Q o s):wpAny (model prog w) A (Builtin.Slice.slicePartIndex v) Q E s:=by
 cases p with
 |none=>exact slicePart_none h
 |int i t=>exact slicePart_int h
theorem ah'{sl:Addr}{vl vu:Value}{lo hi:Option Int}{n:Nat}{Q:Int × Int × Nat->Shared->Prop}(hs:s.heap.IsSliceOf sl vl vu .none)(pl:IsPart vl lo)(pu:IsPart vu hi)
  (h:Q (((bP n 0 lo:Nat):Int),1,bP n n hi-bP n 0 lo) s):wpAny (model prog w) A (Builtin.Slice.sliceApplied (.ref sl) (pure (n:Int))) Q E s:=by
 obtain⟨os,LW,vT,Ov⟩:=id hs
 unfold Builtin.Slice.sliceApplied Builtin.Slice.sliceFields
 refine ag (ag (wpAny_field LW Ov (x:=vl) rfl (ag (wpAny_field LW Ov (x:=vu) rfl (ag (wpAny_field LW Ov (x:=.none) rfl (aI ?_)))))))
 refine ag (slicePart_none ?_)
 show wpAny _ _ (if ((1:Int) == 0)=true then _ else _) _ _ s
 rw[if_neg (by decide)]
 refine ag (VB pl (ag (VB pu (ag (aI ?_)))))
 show wpAny _ _ (match Builtin.Slice.sliceAdjust lo hi 1 (n:Int) with|(lo,hi)=>pure (lo,(1:Int),Builtin.Slice.slicePlaces lo hi 1)) _ _ s
 rw[af' lo hi n]
 show wpAny _ _ (pure (((bP n 0 lo:Nat):Int),(1:Int),Builtin.Slice.slicePlaces ((bP n 0 lo:Nat):Int) ((bP n n hi:Nat):Int) 1)) _ _ s
 rw[ag']
 exact aI h
theorem ai'(xs:Array Value)(i k:Nat):((List.range k).filterMap fun(m:Nat)=>xs[((i:Int)+(m:Int)*1).toNat]?).toArray=((xs.toList.drop i).take k).toArray:=by
 have e:(fun(m:Nat)=>xs[((i:Int)+(m:Int)*1).toNat]?)=fun m=>xs[i+m]? := by
  funext m
  have:((i:Int)+(m:Int)*1).toNat=i+m:=by exact(Nat.add_assoc ..).symm
  rw[this]
 rw[e]
 have:=pick_run xs i k
 rw[Qj] at this
 have e2:((fun x=>xs[x]?) ∘ fun x=>i+x)=fun m=>xs[i+m]? := rfl
 rw[e2] at this
 rw[this]
theorem aj'{lo hi:Option Int}(ht:IsTup s.heap t items)(hs:s.heap.IsSliceOf sl vl vu .none)(pl:IsPart vl lo)(pu:IsPart vu hi)
  (hw:¬ (bP items.size 0 lo=0/\bP items.size items.size hi=items.size))
  (h:Q (.ref s.heap.objs.size) { s with heap:=s.heap.push { cls:=.type "tuple",data:=.seq ((items.toList.drop (bP items.size 0 lo)).take (bP items.size items.size hi-bP items.size 0 lo)).toArray } })
  (hsz:items.size<=sizeLine):wpAny (model prog w) A (getItem (.ref t) (.ref sl)) Q E s:=by
 have Ow:sizeOk (.seq ((items.toList.drop (bP items.size 0 lo)).take (bP items.size items.size hi-bP items.size 0 lo)).toArray):=by
  show((items.toList.drop (bP items.size 0 lo)).take (bP items.size items.size hi-bP items.size 0 lo)).toArray.size<=sizeLine
  rw[hX,vn,DT,yy]
  lia
 have hj:bP items.size items.size hi<=items.size:=ae' _ _ (ck _) hi
 obtain⟨os,LW,vT,Ov⟩:=id hs
 have hTs:s.TypeIs (.ref sl) "slice" := ⟨os,LW,vT⟩
 unfold getItem
 try with_reducible refine wpAny_holding ?_
 first|refine ag (aI ?_)|skip
 refine ag (wpAny_sequenceKey ht.typeIs (by decide) ?_)
 refine ag (wpAny_callSpecial?_slot (name:=Str.ofString "__getitem__") ht.typeIs PyProof.Rows.slot_tuple_getitem
  (wpAny_call_entry PyProof.Rows.slot_tuple_getitem ht.typeIs entry_tuple_getitem ?_ (args_tuple_getitem _ _)))
 show wpAny _ _ (Builtin.Tuple.tupleItemsOf (.ref t) >>= _) _ _ s
 refine ag (tupleItemsOf_ ht ?_)
 refine ag (wpAny_typeOf hTs ?_)
 rw[if_pos (by decide)]
 refine ag (ah' hs pl pu ?_)
 have tS:¬ ((((bP items.size 0 lo:Nat):Int) == 0 && (1:Int) == 1 && (bP items.size items.size hi-bP items.size 0 lo) == items.size)=true):=by
  intro q
  rw[kQ,kQ] at q
  have q1:((bP items.size 0 lo:Nat):Int)=0:=eq_of_beq q.1.1
  have q2:bP items.size items.size hi-bP items.size 0 lo=items.size:=eq_of_beq q.2
  exact hw ⟨by lia,by lia⟩
 show wpAny _ _ (if (((bP items.size 0 lo:Nat):Int) == 0 && (1:Int) == 1 && (bP items.size items.size hi-bP items.size 0 lo) == items.size)=true then _ else _) _ _ s
 rw[if_neg tS,ai']
 first
  |exact ag (m:=Builtin.Tuple.tupleExact _) (wpAny_newObj_type (aI ⟨_,rfl,aI h⟩) Ow)
  |exact ag (m:=Builtin.Tuple.tupleExact _) (wpAny_newObj_type (ag (aI (aI ⟨_,rfl,aI h⟩))) Ow)
  |exact ag (ag (m:=Builtin.Tuple.tupleExact _) (wpAny_newObj_type (aI (aI ⟨_,rfl,aI h⟩)) Ow))
  |exact ag (ag (m:=Builtin.Tuple.tupleExact _) (wpAny_newObj_type (aI ⟨_,rfl,aI h⟩) Ow))
end
end HT
namespace L2
open PySem PySem.Spec PyProof.Rows
abbrev TO:=St->Hp->(Option Int->Hp->Prop)->Prop
def PO(X:Cx)(e:Option Expr)(t:TO):Prop :=
 ∀ (pins:List (Addr × Obj)) (s:Shared) (σ:St) (H:Hp) (Q:Option Int->Hp->Prop),Inv X pins σ H s->t σ H Q ->
  wpAny (model X.prog X.w) X.A (evalPart e X.env) (fun u s'=>∃ o H',Inv X pins σ H' s'/\IsPart u o/\Q o H') X.xe s
def al':TO:=fun _ H Q=>Q none H
def am'(t:TE):TO:=fun σ H Q=>t σ H fun x H1=>∃ i,x=.int i/\Q (some i) H1
section
variable {X:Cx}{e:Expr}{te:TE}{lo hi:Option Expr}{tl th:TO}{pos p2:Pos}
theorem an':PO X none al':=by
 intro pins s σ H Q I h
 rw[evalPart_none]
 exact aI ⟨none,H,I,.none,h⟩
theorem ao'(h:PE X e te):PO X (some e) (am' te):=by
 intro pins s σ H Q I hw
 rw[evalPart_some]
 refine cc (h pins s σ H _ I hw) fun u s1 cf=>L2.fq cf fun x H1 I1 r1 q1=>?_
 obtain⟨i,rfl,q⟩:=q1
 obtain⟨t,rfl⟩:=r1
 exact⟨some i,H1,I1,.int i t,q⟩
def GV(X:Cx)(r:V->Option Int->Option Int->Hp->VK->Prop):Prop :=
 ∀ (pins:List (Addr × Obj)) (s:Shared) (σ:St) (H:Hp) (x:V) (v vl vu:Value) (lo hi:Option Int) (sl:Addr) (Q:VK),Inv X pins σ H s->RelV x v->s.heap.IsSliceOf sl vl vu .none->IsPart vl lo->IsPart vu hi->r x lo hi H Q ->
  ∃ T id,typeLookup (.type T) "__getitem__" = pure (some (.builtin id))/\s.TypeIs v T/\wpAny (model X.prog X.w) X.A (getItem v (.ref sl)) (EP X pins σ Q) X.xe s
def tSl(r:V->Option Int->Option Int->Hp->VK->Prop)(te:TE)(tl th:TO):TE:=fun σ H Q=>te σ H fun x H1=>tl σ H1 fun l H2=>th σ H2 fun u H3=>r x l u H3 Q
theorem aq'(hr:GV X r)(he:PE X e te)(hl:PO X lo tl)(hu:PO X hi th):PE X (.Subscript e (.Slice lo hi none p2) pos) (tSl r te tl th):=by
 intro pins s σ H Q I h
 refine Subscript_ (cc (he pins s σ H _ I h) fun v s1 cf=>L2.fq cf fun x H1 I1 r1 q1=>?_)
 refine wpAny_Slice (cc (hl pins s1 σ H1 _ I1 q1) fun vl s2 cf=>L2.fq cf fun l H2 I2 pl q2=>cc (hu pins s2 σ H2 _ I2 q2) fun vu s3 cf=>L2.fq cf fun u H3 I3 pu q3=>?_)
 rw[evalPart_none]
 refine aI ?_
 have I4:Inv X pins σ H3 { s3 with heap:=s3.heap.push { cls:=.type "slice",data:=.fields #[vl,vu,.none] } }:=I3.kept (t':=s3.toks) fun b ob q=>eW _ q
 obtain⟨T,id,hT,ht,hg⟩:=hr pins { s3 with heap:=s3.heap.push { cls:=.type "slice",data:=.fields #[vl,vu,.none] } } σ H3 x v vl vu l u s3.heap.objs.size Q I4 r1 (Heap.IsSliceOf.new ..) pl pu q3
 show wpAny (model X.prog X.w) X.A (subscriptTail e (.Slice lo hi none p2) v (.ref s3.heap.objs.size)) (EP X pins σ Q) X.xe { s3 with heap:=s3.heap.push { cls:=.type "slice",data:=.fields #[vl,vu,.none] } }
 exact tail_any (ops:=[.ref s3.heap.objs.size,v]) ht hT hg (by with_unfolding_all rfl)
def AI(xs:List V)(lo hi:Option Int):List V:=(xs.drop (HT.bP xs.length 0 lo)).take (HT.bP xs.length xs.length hi-HT.bP xs.length 0 lo)
theorem VC(xs:List V)(lo hi:Option Int):(AI xs lo hi).length<=xs.length:=by
 unfold AI
 rw[vn,DT]
 lia
def VD(K:PySem.W.Frag):V->Option Int->Option Int->Hp->VK->Prop:=fun x lo hi H Q=>∃ a xs,x=.ref a/\jI K H a xs /\
 ¬ (HT.bP xs.length 0 lo=0/\HT.bP xs.length xs.length hi=xs.length)/\∀ p,H p=none->Q (.ref p) (upd H p (.tup (AI xs lo hi)))
theorem ar':GV X (VD X.K):=by
 intro pins s σ H x v vl vu lo hi sl Q I rx hs pl pu h
 obtain⟨a,xs,rfl,hx,hw,q⟩:=h
 cases rx
 obtain⟨its,r,ht,hz⟩:=I.tuple hx
 have hlen:its.toArray.size=xs.length:=by rw[hX];exact r.length.symm
 refine⟨"tuple",_,PyProof.Rows.slot_tuple_getitem.lookup,ht.typeIs,?_⟩
 refine HT.aj' ht hs pl pu (by rw[hlen];exact hw) ?_ (by rw[hlen];exact hz)
 rw[hlen]
 refine⟨.ref s.heap.objs.size,_,I.laid (t':=s.toks) (o:=.tup (AI xs lo hi)) (fun b ob q=>eW _ q) (ck _) ?_,rfl,q _ (I.aE.fresh (ck _))⟩
 exact⟨gS (VC xs lo hi) hz,_,(r.drop (HT.bP xs.length 0 lo)).take (HT.bP xs.length xs.length hi-HT.bP xs.length 0 lo),IsTup.new _ _⟩
def Ra(K:PySem.W.Frag):R2:=fun x y H Q=>∃ a b xs ys,x=.ref a/\y=.ref b/\jI K H a xs/\jI K H b ys/\xs≠[]/\xs.length+ys.length<=sizeLine /\
 (ys=[]->Q (.ref a) H)/\(ys≠[]->∀ p,H p=none->Q (.ref p) (upd H p (.tup (xs++ys))))
theorem Vals.Rb(r:Vals xs us):us=[]↔xs=[]:=by
 cases r with
 |nil=>simp
 |cons _ _=>simp
theorem au':cS X (binaryOp .Add) (Ra X.K):=by
 intro pins s σ H x y v u Q I rx ry h
 obtain⟨a,b,xs,ys,rfl,rfl,ha,hb,hx,hz,q1,q2⟩:=h
 cases rx
 cases ry
 obtain⟨its,r1,p1,_⟩:=I.tuple ha
 obtain⟨AJ,r2,p2,_⟩:=I.tuple hb
 refine HT.ad' p1 p2 (fun z=>hx (r1.Rb.mp z)) (fun z=>⟨.ref a,H,I,rfl,q1 (r2.Rb.mp z)⟩) (fun z=>?_) (by rw[<- r1.length,<- r2.length];exact hz)
 refine⟨.ref s.heap.objs.size,_,I.laid (t':=s.toks) (o:=.tup (xs++ys)) (fun b ob q=>eW _ q) (ck _) ?_,rfl,q2 (fun w=>z (r2.Rb.mpr w)) _ (I.aE.fresh (ck _))⟩
 exact⟨by rw[kA];exact hz,_,r1.append r2,IsTup.new _ _⟩
end
def lS(n:Nat)(i:Int):Option Nat:=if 0<=i then (if i<n then some i.toNat else none) else if -(n:Int)<=i then some (i+n).toNat else none
def eT{α:Type}(xs:List α)(i:Int):Option α:=(lS xs.length i).bind fun j=>xs[j]?
theorem av'(h:lS n i=some j):seqIndex? i n=some j/\j<n/\-(n:Int)<=i/\i<n:=by
 unfold lS at h
 by_cases h0:0<=i
 ·rw[if_pos h0] at h
  by_cases h1:i<n
  ·rw[if_pos h1] at h
   have e:i.toNat=j:=Option.some.inj h
   exact⟨by rw[seqIndex_of h0 h1,e],by lia,by lia,h1⟩
  ·rw[if_neg h1] at h;cases h
 ·rw[if_neg h0] at h
  by_cases h1:-(n:Int)<=i
  ·rw[if_pos h1] at h
   have e:(i+n).toNat=j:=Option.some.inj h
   exact⟨by rw[seqIndex_neg (by lia) h1,e],by lia,h1,by lia⟩
  ·rw[if_neg h1] at h;cases h
theorem Rc{α:Type}{xs:List α}{i:Int}{v:α}(h:eT xs i=some v):∃ j,seqIndex? i xs.length=some j/\xs[j]? = some v/\j<xs.length/\-(xs.length:Int)<=i/\i<xs.length:=by
 unfold eT at h
 cases e:lS xs.length i with
 |none=>rw[e] at h;cases h
 |some j =>
  rw[e] at h
  obtain⟨h1,h2,h3,h4⟩:=av' e
  exact⟨j,h1,h,h2,h3,h4⟩
theorem LY{α:Type}{xs:List α}{j:Nat}{v:α}(h:xs[j]? = some v):eT xs (j:Int)=some v:=by
 have hj:j<xs.length:=(iN.mp h).1
 have e:lS xs.length (j:Int)=some j:=by
  unfold lS
  rw[if_pos (by walk_at "s1"),if_pos (by lia)];simp
 unfold eT;rw[e];exact h
theorem aw'{α:Type}(xs:List α)(v:α):eT (xs++[v]) (-1)=some v:=by
 have hl:(xs++[v]).length=xs.length+1:=by simp
 have e:lS (xs++[v]).length (-1)=some xs.length:=by
  unfold lS
  rw[hl,if_neg (by decide),if_pos (by lia)]
  congr 1
  lia
 unfold eT
 rw[e]
 show(xs++[v])[xs.length]? = some v
 simp
def Ox(b:Expr):Prop:=∀ o i,subscripted b false o i=operate [o,i] (getItem o i)
def tT(X:Cx)(r:R2):Prop :=
 ∀ (value slice:Expr) (pins:List (Addr × Obj)) (s:Shared) (σ:St) (H:Hp) (x y:V) (v u:Value) (Q:VK),Inv X pins σ H s->RelV x v->RelV y u->r x y H Q ->
  subscripted slice false v u=operate [v,u] (getItem v u)->wpAny (model X.prog X.w) X.A (subscriptTail value slice v u) (EP X pins σ Q) X.xe s
def Rf(X:Cx)(id:String)(r:V->List V->Hp->VK->Prop):Prop :=
 ∀ (pins:List (Addr × Obj)) (s:Shared) (σ:St) (H:Hp) (x:V) (xs:List V) (v:Value) (us:List Value) (Q:VK),Inv X pins σ H s->RelV x v->Vals xs us->r x xs H Q ->
  wpAny (model X.prog X.w) X.A (call (.builtin id) (v :: us)) (EP X pins σ Q) X.xe s
section
variable {X:Cx}{a b:Expr}{ta tb:TE}{pos:Pos}
theorem tT.or(h:tT X r)(h':tT X r'):tT X (fun x y H Q=>r x y H Q\/r' x y H Q):=by
 intro value slice pins s σ H x y v u Q I rx ry q hs
 rcases q with q|q
 ·exact h value slice pins s σ H x y v u Q I rx ry q hs
 ·exact h' value slice pins s σ H x y v u Q I rx ry q hs
theorem Rg{r:R2}(hr:tT X r)(ha:PE X a ta)(hb:PE X b tb)(hs:Ox b):PE X (.Subscript a b pos) (LM r ta tb):=by
 intro pins s σ H Q I h
 exact Subscript_ (QV ha hb I h fun v u s2 x y H2 I2 rx ry q=>hr a b pins s2 σ H2 x y v u Q I2 rx ry q (hs _ _))
def VF(K:PySem.W.Frag):R2:=fun x y H Q=>∃ p xs i v,x=.ref p/\y=.int i/\eB K H p xs/\eT xs i=some v/\Q v H
def VG(K:PySem.W.Frag):R2:=fun x y H Q=>∃ p xs i v,x=.ref p/\y=.int i/\jI K H p xs/\eT xs i=some v/\Q v H
def VH:R2:=fun x y H Q=>∃ z i c,x=.str z/\y=.int i/\z.length<=sizeLine/\eT z.cps.toList i=some c/\Q (.str ⟨#[c]⟩) H
theorem ax':tT X (VF X.K):=by
 intro value slice pins s σ H x y v u Q I rx ry h hs
 obtain⟨p,xs,i,z,rfl,rfl,hq,he,q⟩:=h
 cases rx
 obtain⟨t,rfl⟩:=ry
 obtain⟨its,r,pl,hz⟩:=I.list hq
 obtain⟨j,h1,h2,h3,h4,h5⟩:=Rc he
 obtain⟨w,ew,kR⟩:=r.get h2
 have hl:=r.length
 have hn:=LN
 have fin:EP X pins σ Q w s:=⟨z,H,I,kR,q⟩
 by_cases h0:0<=i
 ·have hj:i.toNat=j:=by
   rw[seqIndex_of h0 h5] at h1
   exact Option.some.inj h1
  exact item_listR pl.isList h0 (by lia) (by rw[hj];simpa using ew) fin hs
 ·have hj:(i+(its.toArray.size:Int)).toNat=j:=by
   rw[seqIndex_neg (by exact Int.not_le.mp ‹_›) h4] at h1
   rw[hX,<- hl]
   exact Option.some.inj h1
  exact subscriptTail_builtinR (x:=w) pl.isList.typeIs slot_list_getitem.lookup
   (wpAny_getItem_list_neg (Q:=fun r s'=>r=w/\EP X pins σ Q r s') pl.isList (by exact Int.not_le.mp ‹_›) (by rw[hX]<;>lia) (by lia) (by rw[hj];simpa using ew) ⟨rfl,fin⟩) hs
theorem ay':tT X (VG X.K):=by
 intro value slice pins s σ H x y v u Q I rx ry h hs
 obtain⟨p,xs,i,z,rfl,rfl,hq,he,q⟩:=h
 cases rx
 obtain⟨t,rfl⟩:=ry
 obtain⟨its,r,pl,hz⟩:=I.tuple hq
 obtain⟨j,h1,h2,h3,h4,h5⟩:=Rc he
 obtain⟨w,ew,kR⟩:=r.get h2
 have hl:=r.length
 have hn:=LN
 have fin:EP X pins σ Q w s:=⟨z,H,I,kR,q⟩
 exact subscriptTail_builtinR (x:=w) pl.typeIs slot_tuple_getitem.lookup
  (getItem_tuple (j:=j) (Q:=fun r s'=>r=w/\EP X pins σ Q r s') pl (by lia) (by lia) (by rw[hX,<- hl];exact h1) (by simpa using ew) ⟨rfl,fin⟩) hs
theorem az':tT X VH:=by
 intro value slice pins s σ H x y v u Q I rx ry h hs
 obtain⟨z,i,c,rfl,rfl,hz,he,q⟩:=h
 obtain⟨t,rfl⟩:=rx
 obtain⟨t',rfl⟩:=ry
 obtain⟨j,h1,h2,h3,h4,h5⟩:=Rc he
 have hl:z.cps.toList.length=z.length:=by simp[Str.length]
 rw[hl] at h1 h4 h5
 have hn:=LN
 exact tail_any (typeIs_str s z t) slot_str_getitem.lookup (getItem_str (c:=c) (by
  have e1:decide (i < -(2 ^ 63:Int))=false:=decide_eq_false (by lia)
  have e2:decide (i >= 2 ^ 63)=false:=decide_eq_false (by lia)
  rw[e1,e2,Bool.or_false]) (by rw[h1];simpa using h2) ⟨.str ⟨#[c]⟩,H,I.tok _,⟨_,rfl⟩,q⟩) hs
def rIx(K:PySem.W.Frag):R2:=fun x y H Q=>VF K x y H Q\/VG K x y H Q\/VH x y H Q
theorem aB':tT X (rIx X.K):=ax'.or (ay'.or az')
theorem aC'(lo hi:Option Int)(n:Nat):(sliceBounds lo hi none n).1=((HT.bP n 0 lo:Nat):Int)/\(sliceBounds lo hi none n).2.1=((HT.bP n n hi:Nat):Int)/\(sliceBounds lo hi none n).2.2=1:=by
 refine⟨?_,?_,rfl⟩
 ·cases lo with
  |none=>simp[sliceBounds,HT.bP]
  |some i =>
   simp only[sliceBounds,HT.bP,Option.getD_none,show(1:Int)>0 by decide,if_true]
   by_cases h:i<0
   ·simp only[h,if_true]<;>lia
   ·simp only[h,if_false]<;>lia
 ·cases hi with
  |none=>simp[sliceBounds,HT.bP]
  |some i =>
   simp only[sliceBounds,HT.bP,Option.getD_none,show(1:Int)>0 by decide,if_true]
   by_cases h:i<0
   ·simp only[h,if_true]<;>lia
   ·simp only[h,if_false]<;>lia
theorem aD'(its:List Value)(lo hi:Option Int):slicePick its.toArray lo hi none=((its.drop (HT.bP its.length 0 lo)).take (HT.bP its.length its.length hi-HT.bP its.length 0 lo)).toArray:=by
 obtain⟨h1,h2,h3⟩:=aC' lo hi its.toArray.size
 unfold slicePick
 rw[h1,h2,h3]
 simp only[sliceRange_one,pick_run,hX]<;>rfl
def aE'(K:PySem.W.Frag):V->Option Int->Option Int->Hp->VK->Prop:=fun x lo hi H Q=>∃ a xs,x=.ref a/\eB K H a xs/\∀ p,H p=none->Q (.ref p) (upd H p (.lst (AI xs lo hi)))
theorem aF':GV X (aE' X.K):=by
 intro pins s σ H x v vl vu lo hi sl Q I rx hs pl pu h
 obtain⟨a,xs,rfl,hx,q⟩:=h
 cases rx
 obtain⟨its,r,ht,hz⟩:=I.list hx
 have hlen:=r.length
 refine⟨"list",_,slot_list_getitem.lookup,ht.isList.typeIs,?_⟩
 refine wpAny_getItem_list_slice ht.isList hs pl pu .none (by simp) ?_ (by rw[hX]<;>lia)
 rw[aD',<- hlen]
 refine⟨.ref s.heap.objs.size,_,I.laid (t':=s.toks) (o:=.lst (AI xs lo hi)) (fun b ob q=>eW _ q) (ck _) ?_,rfl,q _ (I.aE.fresh (ck _))⟩
 exact⟨gS (VC xs lo hi) hz,_,0,(r.drop (HT.bP xs.length 0 lo)).take (HT.bP xs.length xs.length hi-HT.bP xs.length 0 lo),jv _ rfl⟩
def y9:V->Bool
 |.non=>true
 |.bl _=>true
 |.int _=>true
 |.str _=>true
 |_=>false
def AK:V->V->Bool
 |.non,.non=>true
 |.bl a,.bl b=>a == b
 |.bl a,.int b=>(if a then 1 else 0) == b
 |.int a,.bl b=>a == (if b then 1 else 0)
 |.int a,.int b=>a == b
 |.str a,.str b=>a == b
 |_,_=>false
theorem aG'(ry:RelV y u)(rx:RelV x v)(fy:y9 y=true)(fx:y9 x=true):SeqAt.EqAt A s u v (AK y x):=by
 cases y with
 |non =>
  cases ry
  cases x with
  |non=>cases rx;exact SeqAt.EqAt.same _
  |bl b=>cases rx;exact SeqAt.EqAt.none_bool b
  |int b=>obtain⟨t,rfl⟩:=rx;exact SeqAt.EqAt.none_int b t
  |str b=>obtain⟨t,rfl⟩:=rx;exact SeqAt.EqAt.none_str b t
  |_=>exact absurd (show false=true from fx) iq
 |bl a =>
  cases ry
  cases x with
  |non=>cases rx;exact SeqAt.EqAt.bool_none a
  |bl b=>cases rx;exact SeqAt.EqAt.bool_bool a b
  |int b=>obtain⟨t,rfl⟩:=rx;exact SeqAt.EqAt.bool_int a b t
  |str b=>obtain⟨t,rfl⟩:=rx;exact SeqAt.EqAt.bool_str a b t
  |_=>exact absurd (show false=true from fx) iq
 |int a =>
  obtain⟨t',rfl⟩:=ry
  cases x with
  |non=>cases rx;exact SeqAt.EqAt.int_none a t'
  |bl b=>cases rx;exact SeqAt.EqAt.int_bool a t' b
  |int b=>obtain⟨t,rfl⟩:=rx;exact SeqAt.EqAt.int_int a t' b t
  |str b=>obtain⟨t,rfl⟩:=rx;exact SeqAt.EqAt.int_str a t' b t
  |_=>exact absurd (show false=true from fx) iq
 |str a =>
  obtain⟨t',rfl⟩:=ry
  cases x with
  |non=>cases rx;exact SeqAt.EqAt.str_none a t'
  |bl b=>cases rx;exact SeqAt.EqAt.str_bool a t' b
  |int b=>obtain⟨t,rfl⟩:=rx;exact SeqAt.EqAt.str_int a t' b t
  |str b=>obtain⟨t,rfl⟩:=rx;exact SeqAt.EqAt.str_str a t' b t
  |_=>exact absurd (show false=true from fx) iq
 |_=>exact absurd (show false=true from fy) iq
def rg(x:V)(u:Value):Bool:=match u with
 |.none=>AK .non x
 |.bool b=>AK (.bl b) x
 |.int i _=>AK (.int i) x
 |.str z _=>AK (.str z) x
 |_=>false
theorem VJ(r:RelV y u)(f:y9 y=true):rg x u=AK y x:=by
 cases y with
 |non=>cases r;rfl
 |bl b=>cases r;rfl
 |int i=>obtain⟨t,rfl⟩:=r;rfl
 |str z=>obtain⟨t,rfl⟩:=r;rfl
 |_=>exact absurd (show false=true from f) iq
theorem LZ:∀ {xs:List V} {us:List Value},Vals xs us->xs.all y9=true->us.any (rg x)=xs.any fun y=>AK y x
 |_,_,.nil,_=>rfl
 |y :: xs,u :: us,.cons r t,f=>by
  rw[z5,kQ] at f
  rw[An,An,VJ r f.1,LZ t f.2]
theorem L1(rx:RelV x v)(fx:y9 x=true):∀ {xs:List V} {us:List Value},Vals xs us->xs.all y9=true->∀ u∈us,SeqAt.EqAt A s u v (rg x u)
 |_,_,.nil,_=>fun u hu=>by cases hu
 |y :: xs,u :: us,.cons r t,f=>fun u' hu=>by
  rw[z5,kQ] at f
  rcases df.mp hu with rfl|hu
  ·rw[VJ r f.1];exact aG' r rx f.1 fx
  ·exact L1 rx fx t f.2 u' hu
def Oy(x:V)(xs:List V):Bool:=xs.any fun y=>AK y x
def L3(K:PySem.W.Frag)(neg:Bool):R2:=fun x y H Q=>∃ p xs,y=.ref p/\(eB K H p xs\/jI K H p xs)/\y9 x=true/\xs.all y9=true/\Q (.bl (if neg then !Oy x xs else Oy x xs)) H
theorem aH':cS X (compareOp .In) (L3 X.K false):=by
 intro pins s σ H x y v u Q I rx ry h
 obtain⟨p,xs,rfl,hq,fx,fs,q⟩:=h
 cases ry
 rcases hq with hq|hq
 ·obtain⟨its,r,pl,hz⟩:=I.list hq
  refine SeqAt.in_listAt (rg x) pl.isList (fun w hw=>L1 rx fx r fs w (by simpa using hw)) ⟨.bl _,H,I,rfl,?_⟩
  rw[show its.toArray.any (rg x)=its.any (rg x) by simp,LZ r fs]
  exact q
 ·obtain⟨its,r,pl,hz⟩:=I.tuple hq
  refine SeqAt.in_tupleAt (rg x) pl (fun w hw=>L1 rx fx r fs w (by simpa using hw)) ⟨.bl _,H,I,rfl,?_⟩
  rw[show its.toArray.any (rg x)=its.any (rg x) by simp,LZ r fs]
  exact q
theorem aI':cS X (compareOp .NotIn) (L3 X.K true):=by
 intro pins s σ H x y v u Q I rx ry h
 obtain⟨p,xs,rfl,hq,fx,fs,q⟩:=h
 cases ry
 rcases hq with hq|hq
 ·obtain⟨its,r,pl,hz⟩:=I.list hq
  refine SeqAt.notIn_listAt (rg x) pl.isList (fun w hw=>L1 rx fx r fs w (by simpa using hw)) ⟨.bl _,H,I,rfl,?_⟩
  rw[show its.toArray.any (rg x)=its.any (rg x) by simp,LZ r fs]
  exact q
 ·obtain⟨its,r,pl,hz⟩:=I.tuple hq
  refine SeqAt.notIn_tupleAt (rg x) pl (fun w hw=>L1 rx fx r fs w (by simpa using hw)) ⟨.bl _,H,I,rfl,?_⟩
  rw[show its.toArray.any (rg x)=its.any (rg x) by simp,LZ r fs]
  exact q
theorem kb.or(h:kb X f r)(h':kb X f r'):kb X f (fun xs H Q=>r xs H Q\/r' xs H Q):=by
 intro pins s σ H xs us Q I rs q
 rcases q with q|q
 ·exact h pins s σ H xs us Q I rs q
 ·exact h' pins s σ H xs us Q I rs q
theorem aJ':kb X (.type "list") (fun xs H Q=>∃ p ys,xs=[.ref p]/\(eB X.K H p ys\/jI X.K H p ys)/\∀ l,H l=none->Q (.ref l) (upd H l (.lst ys))):=by
 intro pins s σ H xs us Q I r h
 obtain⟨p,ys,rfl,hq,q⟩:=h
 obtain⟨u,rfl,rx⟩:=vals1 r
 cases rx
 have fin:∀ (its:List Value),Vals ys its->ys.length<=sizeLine->∀ (h':Heap) (c':Nat),(∀ b o',s.heap.get? b=some o'->h'.get? b=some o') ->
   h'.get? s.heap.objs.size=some { cls:=.type "list",dict:=none,data:=.seq its.toArray c',slots:=#[] }->EP X pins σ Q (.ref s.heap.objs.size) { s with heap:=h' }:=fun its r' hz h' c' kp e =>
  ⟨.ref s.heap.objs.size,_,I.laid (t':=s.toks) kp (ck _) (show eP X.prog X.w _ h' _ (.lst ys) from⟨hz,its,c',r',e⟩),rfl,q _ (I.aE.fresh (ck _))⟩
 rcases hq with hq|hq
 ·obtain⟨its,r',pl,hz⟩:=I.list hq
  have hlen:=r'.length
  obtain⟨o,ho,hc,n,hd⟩:=pl.isList
  exact call_list_seq p (.inl rfl) ho hc hd (fun h' c' kp e=>fin its r' hz h' c' kp e) (by simp only[hX]<;>lia)
 ·obtain⟨its,r',pl,hz⟩:=I.tuple hq
  have hlen:=r'.length
  obtain⟨o,ho,hc,n,hd⟩:=pl
  exact call_list_seq p (.inr rfl) ho hc hd (fun h' c' kp e=>fin its r' hz h' c' kp e) (by simp only[hX]<;>lia)
def Oz(K:PySem.W.Frag)(T:String)(x:V)(H:Hp):Prop:=match x with
 |.str _=>T = "str"
 |.int _=>T = "int"
 |.ref p=>(T = "list"/\∃ xs,eB K H p xs)\/(T = "tuple"/\∃ o,K.lookup p=some o/\o.cls=.type "tuple"/\o.dict=none) \/
   (T = "dict"/\((∃ kvs,H p=some (.dK kvs))\/∃ kvs,H p=some (.dT kvs)))\/(T = "set"/\∃ S n,H p=some (.set S n))
 |_=>False
theorem VL{T:String}(I:Inv X pins σ H s)(r:RelV x v)(ty:Oz X.K T x H) :
  s.TypeIs v T/\∀ a,v=.ref a->∃ ob,s.heap.get? a=some ob/\ob.dict=none:=by
 cases x with
 |str z =>
  obtain⟨t,rfl⟩:=r
  cases (show T = "str" from ty)
  exact⟨typeIs_str s z t,fun _ e=>nomatch e⟩
 |int i =>
  obtain⟨t,rfl⟩:=r
  cases (show T = "int" from ty)
  exact⟨typeIs_int s i t,fun _ e=>nomatch e⟩
 |ref p =>
  cases r
  rcases ty with⟨rfl,xs,hq⟩|⟨rfl,o,hk,hc,hd⟩|⟨rfl,hk⟩|⟨rfl,S,n,hk⟩
  ·obtain⟨its,_,pl,_⟩:=I.list hq
   refine⟨pl.isList.typeIs,fun a e=>?_⟩
   cases e
   obtain⟨o,n,e,c,hd,_⟩:=pl
   exact⟨o,e,hd⟩
  ·refine⟨⟨o,I.kB p o hk,hc⟩,fun a e=>?_⟩
   cases e
   exact⟨o,I.kB _ o hk,hd⟩
  ·have z:∃ o,s.heap.get? p=some o/\o.ExactDict:=by
    rcases hk with⟨kvs,hk⟩|⟨kvs,hk⟩
    ·obtain⟨_,_,_,_,o,_,_,e,ex,_⟩:=I.aE p _ hk
     exact⟨o,e,ex⟩
    ·obtain⟨_,_,_,_,o,_,_,e,ex,_⟩:=I.aE p _ hk
     exact⟨o,e,ex⟩
   obtain⟨o,e,ex⟩:=z
   refine⟨⟨o,e,ex.1⟩,fun a e2=>?_⟩
   cases e2
   exact⟨o,e,ex.2.1⟩
  ·obtain⟨o,_,_,_,e,ex,_⟩:=I.aE p _ hk
   refine⟨⟨o,e,ex.1⟩,fun a e2=>?_⟩
   cases e2
   exact⟨o,e,ex.2.1⟩
 |_=>exact False.elim ty
def aK'(K:PySem.W.Frag)(T:String)(r:V->List V->Hp->VK->Prop)(to:TE):TE:=fun σ H Q=>to σ H fun x H1=>Oz K T x H1/\r x [] H1 Q
def tBM(K:PySem.W.Frag)(T:String)(r:V->List V->Hp->VK->Prop)(to:TE)(t:TA):TE:=fun σ H Q=>to σ H fun x H1=>Oz K T x H1/\t σ H1 fun xs H2=>r x xs H2 Q
variable {o e:Expr}{es:List Expr}{to:TE}{t:TA}{name:Str}{apos dz:Pos}{T id:String}{r:V->List V->Hp->VK->Prop}
theorem aM' (pa:PlainAttrs T) (slot:Slot T name id) (Rh:typeOf (.builtin id)=pure (.type "method_descriptor")) (hm:Rf X id r) (ho:PE X o to)
  (ua:attributeBase o name X.env (eval o X.env)=eval o X.env:=by rfl) (hline:(apos.endLine == dz.line)=true:=by rfl):PE X (.Call (.Attribute o name apos) [] [] dz) (aK' X.K T r to):=by
 intro pins s σ H Q I h
 refine wpAny_Call_method0_late ua hline (cc (ho pins s σ H _ I h) fun v s1 cy=>?_)
 obtain⟨x,H1,I1,r1,ty,q1⟩:=cy
 obtain⟨h1,h2⟩:=VL I1 r1 ty
 exact⟨T,id,pa,slot,Rh,h1,h2,Calls.callWith_builtin rfl (PySem.evalArgs_none (hm pins s1 σ H1 x [] v [] Q I1 r1 .nil q1))⟩
theorem L4 (pa:PlainAttrs T) (slot:Slot T name id) (Rh:typeOf (.builtin id)=pure (.type "method_descriptor")) (hm:Rf X id r) (ho:PE X o to) (ha:PA X (e :: es) t)
  (ua:attributeBase o name X.env (eval o X.env)=eval o X.env:=by rfl)
  (w9:((backTo dz (starEach (e :: es) X.env)).all (fun x=>!x.1) && (backToKw dz (keywordEach [] X.env)).all (fun x=>x.1.isSome)
   && decide ((e :: es).length+([]:List Keyword).length+(if ([]:List Keyword).isEmpty then 0 else 1)<30))=true:=by rfl)
  (hline:(apos.endLine == dz.line)=true:=by rfl) (hs:starEach (e :: es) X.env=(false,eval e X.env) :: starEach es X.env:=by rfl) (AO:(backTo dz (starEach es X.env)).any (·.1)=false:=by rfl) :
  PE X (.Call (.Attribute o name apos) (e :: es) [] dz) (tBM X.K T r to t):=by
 intro pins s σ H Q I h
 refine wpAny_Call_method_late ua w9 hline rfl (cc (ho pins s σ H _ I h) fun v s1 cy=>?_)
 obtain⟨x,H1,I1,r1,ty,q1⟩:=cy
 obtain⟨h1,h2⟩:=VL I1 r1 ty
 refine⟨T,id,pa,slot,Rh,h1,h2,?_⟩
 have hA:=ha dz pins s1 σ H1 _ I1 q1
 rw[hs] at hA ⊢
 refine Calls.callWith_builtin (by show(false || (backTo dz (starEach es X.env)).any (·.1))=false;rw[AO]<;>rfl) (Calls.evalArgs_plain ?_)
 exact cc hA fun us s2 cf=>L2.fq cf fun vs H2 I2 r2 q2=>hm pins s2 σ H2 x vs v us Q I2 r1 r2 q2
end
def Ri(X:Cx)(id:String)(r:V->List V->Hp->VK->Prop):Prop :=
 ∀ (pins:List (Addr × Obj)) (s:Shared) (σ:St) (H:Hp) (x:V) (xs:List V) (v:Value) (us:List Value) (Q:VK),Inv X pins σ H s->RelV x v->Vals xs us->r x xs H Q ->
  wpAny (model X.prog X.w) X.A (call (.builtin id) (v :: us)) (EP X pins σ Q) X.xe s
theorem Vals.one{x:V}{us:List Value}(h:Vals [x] us):∃ u,us=[u]/\RelV x u:=by
 cases h
 rename_i r h
 cases h
 exact⟨_,rfl,‹_›⟩
theorem Vals.two{x y:V}{us:List Value}(h:Vals [x,y] us):∃ u v,us=[u,v]/\RelV x u/\RelV y v:=by
 cases h
 rename_i r h
 cases h
 rename_i q h
 cases h
 exact⟨_,_,rfl,‹_›,‹_›⟩
theorem Vals.zero:∀ {us:List Value},Vals [] us->us=[]
 |_,.nil=>rfl
theorem Vals.dropLast(h:Vals xs us):Vals xs.dropLast us.dropLast:=by
 induction h with
 |nil=>exact .nil
 |cons r t ih =>
  cases t with
  |nil=>exact .nil
  |cons q t'=>exact .cons r ih
theorem Vals.rep(h:Vals xs us):∀ k:Nat,Vals (List.replicate k xs).flatten (List.replicate k us).flatten
 |0=>.nil
 |k+1=>by
  rw[tF,tF,vk,vk]
  exact Vals.append h (Vals.rep h k)
theorem aN'{α:Type}(l:List α):l.eraseIdx (l.length-1)=l.dropLast:=by
 induction l with
 |nil=>rfl
 |cons a r ih =>
  cases r with
  |nil=>rfl
  |cons b r =>
   have e:(a :: b :: r).length-1=((b :: r).length-1)+1:=by
    have h1:(a :: b :: r).length=r.length+2:=rfl
    have h2:(b :: r).length=r.length+1:=rfl
    lia
   rw[e,List.eraseIdx_cons_succ,ih]
   all_goals rfl
section
variable {X:Cx}{pins:List (Addr × Obj)}{σ:St}{H:Hp}{s:Shared}{l:Addr}{xs ys:List V}
theorem Inv.Rj{its its':List Value}{n:Nat}{f:Array Value->Array Value}{t':Nat}(I:Inv X pins σ H s)(hH:H l=some (.lst xs))
  (e:s.heap.get? l=some { cls:=.type "list",data:=.seq its.toArray n }) (hf:f its.toArray=its'.toArray) (hv:Vals ys its') (hz:ys.length<=sizeLine) :
  Inv X pins σ (upd H l (.lst ys)) { s with heap:=s.heap.update l (Obj.mapSeq f),toks:=t' }:=by
 have q:=PySem.IsL.update e f
 rw[hf] at q
 refine I.write (x:=l) (e:=l) (by rw[hH];exact trivial) (.inl rfl) (fun b' u hb hu=>(KP s.heap (Obj.mapSeq f) (Ne.symm hb)).trans hu) ⟨_,q⟩ ?_
 exact⟨hz,its',_,hv,q⟩
theorem Inv.Rk(I:Inv X pins σ H s)(hv:Vals ys its)(hz:ys.length<=sizeLine) :
  Inv X pins σ (upd H s.heap.objs.size (.lst ys)) { s with heap:=s.heap.push { cls:=.type "list",data:=.seq its.toArray },toks:=t' } :=
 I.laid (fun _ _ q=>eW _ q) (ck _) ⟨hz,its,0,hv,jv _ rfl⟩
theorem Inv.fresh(I:Inv X pins σ H s):H s.heap.objs.size=none:=I.aE.fresh (ck _)
theorem Inv.OB (I:Inv X pins σ H s) (hH:H l=some (.lst xs)):xs.length<=sizeLine/\∃ (its:List Value) (n:Nat),Vals xs its/\xs.length=its.length/\s.heap.get? l=some { cls:=.type "list",data:=.seq its.toArray n }:=by
 obtain⟨z,its,n,r,e⟩:=I.aE l _ hH
 exact⟨z,its,n,r,r.length,e⟩
theorem aO'(h:n<=sizeLine):Builtin.List.listTooLong n=false:=by
 unfold Builtin.List.listTooLong
 exact decide_eq_false (by lia)
end
section
variable {X:Cx}
def VM:V->List V->Hp->VK->Prop:=fun x vs H Q=>∃ l xs y,x=.ref l/\vs=[y]/\H l=some (.lst xs)/\xs.length<sizeLine/\Q .non (upd H l (.lst (xs++[y])))
theorem OD:Ri X "list.append" VM:=by
 intro pins s σ H x vs v us Q I rx rv h
 obtain⟨l,xs,y,rfl,rfl,hH,hz,q⟩:=h
 cases rx
 obtain⟨u,rfl,ru⟩:=rv.one
 obtain⟨z,its,n,r,hl,e⟩:=I.OB hH
 refine call_meets F.slot_list_append ⟨_,e,rfl⟩ F.entry_list_append (F.args_list_append_2 _ _) (PySem.list_append l its.toArray n u (by rw[hX];lia)) ⟨e,?_⟩
 refine⟨.non,_,I.Rj (its':=its++[u]) hH e (by simp) (r.append (.cons ru .nil)) ?_,rfl,q⟩
 rw[kA,NH]
 assumption
def aP':V->List V->Hp->VK->Prop:=fun x vs H Q=>∃ l b xs zs,x=.ref l/\vs=[.ref b]/\H l=some (.lst xs)/\H b=some (.lst zs)/\xs.length+zs.length<=sizeLine/\Q .non (upd H l (.lst (xs++zs)))
theorem aQ':Ri X "list.extend" aP':=by
 intro pins s σ H x vs v us Q I rx rv h
 obtain⟨l,b,xs,zs,rfl,rfl,hH,hB,hz,q⟩:=h
 cases rx
 obtain⟨u,rfl,ru⟩:=rv.one
 cases ru
 obtain⟨z,its,n,r,hl,e⟩:=I.OB hH
 obtain⟨z2,AJ,n2,r2,EB,e2⟩:=I.OB hB
 have hsz:its.toArray.size+AJ.toArray.size<=sizeLine:=by rw[hX,hX];lia
 have aR':¬ (!its.toArray.isEmpty && Builtin.List.listTooLong (its.toArray.size+AJ.toArray.size))=true:=by
  rw[aO' hsz,Bool.and_false]
  exact iq
 refine call_meets F.slot_list_extend ⟨_,e,rfl⟩ F.entry_list_extend (F.args_list_extend_2 _ _)
  (AutoSeq1.list_extend_list_list_0 l its.toArray n b AJ.toArray n2 aR' (by rw[hX];lia) (by lia)) ⟨e,e2,?_⟩
 refine⟨.non,_,I.Rj (its':=its++AJ) hH e (by simp) (r.append r2) ?_,rfl,q⟩
 rw[kA]
 lia
def aS':V->List V->Hp->VK->Prop:=fun x vs H Q=>∃ l xs y,x=.ref l/\vs=[]/\H l=some (.lst xs)/\xs[xs.length-1]? = some y/\Q y (upd H l (.lst xs.dropLast))
theorem aT':Ri X "list.pop" aS':=by
 intro pins s σ H x vs v us Q I rx rv h
 obtain⟨l,xs,y,rfl,rfl,hH,hy,q⟩:=h
 cases rx
 have hus:=rv.zero
 subst hus
 obtain⟨z,its,n,r,hl,e⟩:=I.OB hH
 obtain⟨u,hu,ru⟩:=r.get hy
 have Rl:its.toArray[its.toArray.size-1]? = some u:=by
  show its.toArray[its.length-1]? = some u
  rw[<- sF,<- hl]
  exact hu
 refine call_meets F.slot_list_pop ⟨_,e,rfl⟩ F.entry_list_pop (F.args_list_pop_1 _) (MeetsSeq.list_pop_last l its.toArray n u Rl (by rw[hX];lia)) ⟨e,?_⟩
 refine⟨y,_,I.Rj (its':=its.dropLast) hH e ?_ r.dropLast ?_,ru,q⟩
 ·show its.toArray.eraseIdxIfInBounds (its.toArray.size-1)=its.dropLast.toArray
  rw[hX,List.eraseIdxIfInBounds_toArray,aN']
 ·rw[List.length_dropLast]
  lia
theorem len_rep{α:Type}(xs:List α)(k:Nat):(List.replicate k xs).flatten.length=k*xs.length:=by
 induction k with
 |zero=>simp
 |succ k ih=>rw[tF,vk,kA,ih,Nat.succ_mul,Nat.add_comm]
end
section
set_option maxRecDepth 100000 in
end
section
variable {κ:Type}[DecidableEq κ]
def fI(kvs:List (κ × V))(k:κ):Option V:=(kvs.find? fun kv=>decide (kv.1=k)).map (·.2)
def putK(kvs:List (κ × V))(k:κ)(v:V):List (κ × V) :=
 if (kvs.any fun kv=>decide (kv.1=k))=true then kvs.map (fun kv=>if kv.1=k then (kv.1,v) else kv) else kvs++[(k,v)]
theorem ub{p:κ × V}{r:List (κ × V)}{k:κ}(e:p.1=k):fI (p :: r) k=some p.2:=by simp[fI,DU,e]
theorem ui{p:κ × V}{r:List (κ × V)}{k:κ}(e:¬ p.1=k):fI (p :: r) k=fI r k:=by simp[fI,DU,e]
theorem L5(k:κ):∀ kvs:List (κ × V),(kvs.any fun kv=>decide (kv.1=k))=(fI kvs k).isSome
 |[]=>rfl
 |p :: r=>by
  rw[An]
  by_cases e:p.1=k
  ·simp only[ub e,decide_eq_true e,Bool.true_or,Option.isSome_some]
  ·rw[ui e,decide_eq_false e,Bool.false_or];exact L5 k r
theorem VN(k j:κ)(y:V):∀ kvs:List (κ × V),fI (kvs.map fun kv=>if kv.1=k then (kv.1,y) else kv) j=(fI kvs j).map fun x=>if j=k then y else x
 |[]=>rfl
 |p :: r=>by
  have ih:=VN k j y r
  rw[fo]
  by_cases h:p.1=k
  ·rw[if_pos h]
   by_cases e:p.1=j
   ·rw[ub (p:=(p.1,y)) e,ub e,K2,if_pos (e.symm.trans h)]
   ·rw[ui (p:=(p.1,y)) e,ui e,ih]
  ·rw[if_neg h]
   by_cases e:p.1=j
   ·rw[ub (p:=p) e,ub e,K2,if_neg (fun z=>h (e.trans z))]
   ·rw[ui (p:=p) e,ui e,ih]
theorem VP(k j:κ)(y:V):∀ kvs:List (κ × V),fI kvs k=none->fI (kvs++[(k,y)]) j=if j=k then some y else fI kvs j
 |[],_=>by
  by_cases e:k=j
  ·rw[if_pos e.symm];exact ub (p:=(k,y)) e
  ·rw[if_neg (fun z=>e z.symm)];exact ui (p:=(k,y)) e
 |p :: r,hn=>by
  rw[NP]
  have hk:¬ p.1=k:=fun z=>by rw[ub z] at hn;cases hn
  rw[ui hk] at hn
  have ih:=VP k j y r hn
  by_cases e:p.1=j
  ·rw[ub e,ub e,if_neg (fun z=>hk (e.trans z))]
  ·rw[ui e,ui e,ih]
theorem aV'(kvs:List (κ × V))(k j:κ)(y:V):fI (putK kvs k y) j=if j=k then some y else fI kvs j:=by
 unfold putK
 by_cases a:(kvs.any fun kv=>decide (kv.1=k))=true
 ·rw[if_pos a,VN]
  rw[L5] at a
  by_cases e:j=k
  ·obtain⟨x,hx⟩:=Qt.mp a
   rw[if_pos e,e,hx,K2,if_pos rfl]
  ·rw[if_neg e]
   cases fI kvs j with
   |none=>rfl
   |some x=>rw[K2,if_neg e]
 ·rw[if_neg a]
  refine VP k j y kvs ?_
  rw[L5] at a
  cases q:fI kvs k with
  |none=>rfl
  |some x=>rw[q] at a;exact(a rfl).elim
theorem OG(kvs:List (κ × V))(k:κ)(v:V):(putK kvs k v).length<=kvs.length+1:=by
 unfold putK
 split
 ·rw[bT];exact Qp _ _
 ·rw[kA,tI,List.length_nil];exact ck _
theorem tJ.L6(r:tJ o u):o.isSome=u.isSome:=by
 cases o with
 |none=>cases u with
  |none=>rfl
  |some _=>exact(show False from r).elim
 |some _=>cases u with
  |none=>exact(show False from r).elim
  |some _=>rfl
theorem tJ.getD(r:tJ o u)(rd:RelV d d'):RelV (o.getD d) (u.getD d'):=by
 cases o with
 |none=>cases u with
  |none=>exact rd
  |some _=>exact(show False from r).elim
 |some _=>cases u with
  |none=>exact(show False from r).elim
  |some _=>exact r
theorem KV.val{kvs:List (κ × V)}{vs:List (κ × Value)}(r:KV kvs vs)(k:κ):tJ (fI kvs k) (valueAt vs k):=by
 unfold KV at r
 induction r with
 |nil=>exact True.intro
 |@cons p q ps qs h t ih =>
  obtain⟨h1,h2⟩:=h
  by_cases e:p.1=k
  ·have e':q.1=k:=h1.symm.trans e
   have b:valueAt (q :: qs) k=some q.2:=by simp[valueAt,DU,e']
   rw[ub e,b];exact h2
  ·have e':¬ q.1=k:=fun z=>e (h1.trans z)
   have b:valueAt (q :: qs) k=valueAt qs k:=by simp[valueAt,DU,e']
   rw[ui e,b];exact ih
theorem KV.any(r:KV kvs vs)(k:κ):(kvs.any fun kv=>decide (kv.1=k))=vs.any fun kv=>decide (kv.1=k):=by
 unfold KV at r
 induction r with
 |nil=>rfl
 |cons h t ih=>rw[An,An,ih,h.1]
theorem KV.repl(r:KV kvs vs)(k:κ)(ry:RelV y u) :
  KV (kvs.map fun kv=>if kv.1=k then (kv.1,y) else kv) (vs.map fun kv=>if kv.1=k then (kv.1,u) else kv):=by
 unfold KV at r ⊢
 induction r with
 |nil=>exact .nil
 |@cons p q ps qs h t ih =>
  rw[fo,fo]
  refine .cons ?_ ih
  obtain⟨h1,h2⟩:=h
  by_cases e:p.1=k
  ·rw[if_pos e,if_pos (h1.symm.trans e)];exact⟨h1,ry⟩
  ·rw[if_neg e,if_neg (fun z=>e (h1.trans z))];exact⟨h1,h2⟩
theorem KV.put(r:KV kvs vs)(k:κ)(ry:RelV y u):KV (putK kvs k y) (stored vs k u):=by
 unfold putK stored
 rw[r.any k]
 by_cases e:(vs.any fun kv=>decide (kv.1=k))=true
 ·rw[if_pos e,if_pos e];exact r.repl k ry
 ·rw[if_neg e,if_neg e];exact Paired.snoc r ⟨rfl,ry⟩
theorem KV.length(r:KV kvs vs):kvs.length=vs.length:=Paired.length r
end
theorem EC{P:Program}(r:RelV (kV k) u):(i6 P w).is k u=true:=by
 cases k with
 |inl i=>obtain⟨t,e⟩:=(show ∃ t,u=Value.int i t from r);subst e;exact Yv P w i t
 |inr x=>obtain⟨t,e⟩:=(show ∃ t,u=Value.str x t from r);subst e;exact Yw P w x t
theorem OJ{P:Program}:∀ {ks:List Key} {us:List Value},Vals (ks.map kV) us->ItemsAre (i6 P w) ks us
 |[],_,r=>by rw[List.map_nil] at r;cases r;exact .nil
 |k :: ks,_,r=>by
  rw[fo] at r
  cases r with
  |cons h t=>exact .cons (EC h) (OJ t)
abbrev KT(H:Hp):List (List Key × V)->List (List Key × Addr × Value)->Prop:=Paired fun p q=>p.1=q.1/\H q.2.1=some (.tup (p.1.map kV))/\RelV p.2 q.2.2
theorem KT.val{H:Hp}{kvs:List (List Key × V)}{xs:List (List Key × Addr × Value)}(r:KT H kvs xs)(k:List Key):tJ (fI kvs k) ((atKey xs k).map (·.2)):=by
 induction r with
 |nil=>exact True.intro
 |@cons p q ps qs h t ih =>
  obtain⟨h1,_,h2⟩:=h
  by_cases e:p.1=k
  ·have e':q.1=k:=h1.symm.trans e
   have b:atKey (q :: qs) k=some q.2:=by simp[atKey,DU,e']
   rw[ub e,b];exact h2
  ·have e':¬ q.1=k:=fun z=>e (h1.trans z)
   have b:atKey (q :: qs) k=atKey qs k:=by simp[atKey,DU,e']
   rw[ui e,b];exact ih
theorem KT.repl(r:KT H kvs xs)(k:List Key)(ry:RelV y u) :
  KT H (kvs.map fun kv=>if kv.1=k then (kv.1,y) else kv) (xs.map (putAt k u)):=by
 induction r with
 |nil=>exact .nil
 |@cons p q ps qs h t ih =>
  rw[fo,fo]
  refine .cons ?_ ih
  obtain⟨h1,h2,h3⟩:=h
  unfold putAt
  by_cases e:p.1=k
  ·rw[if_pos e,if_pos (h1.symm.trans e)];exact⟨h1,h2,ry⟩
  ·rw[if_neg e,if_neg (fun z=>e (h1.trans z))];exact⟨h1,h2,h3⟩
theorem KT.put(r:KT H kvs xs)(k:List Key)(hb:H b=some (.tup (k.map kV)))(ry:RelV y u) :
  KT H (putK kvs k y) (storedH xs k b u):=by
 have e:(kvs.any fun kv=>decide (kv.1=k))=(atKey xs k).isSome:=by
  rw[L5,(r.val k).L6,Qu]
 unfold putK storedH
 rw[e]
 by_cases q:(atKey xs k).isSome=true
 ·rw[if_pos q,if_pos q];exact r.repl k ry
 ·rw[if_neg q,if_neg q];exact Paired.snoc r ⟨rfl,hb,ry⟩
theorem KT.keeps(r:KT H kvs xs)(ht:∀ b ys,H b=some (.tup ys)->H' b=some (.tup ys)):KT H' kvs xs :=
 Paired.Qw r fun _ _ z=>⟨z.1,ht _ _ z.2.1,z.2.2⟩
section
variable {P:Program}{w:World}{H:Hp}{h:Heap}{a:Addr}
theorem VQ(ok:fR P w H h)(e:Rd H a u):eP P w H h a u:=e.ok ok
theorem CB(ok:fR P w H h)(e:Rd H a (.dK kvs)):kvs.length<=sizeLine/\(a == sysModules)=false/\∃ vs,KV kvs vs/\h.DictOf (i6 P w) a vs :=
 show eP P w H h a (.dK kvs) from VQ ok e
theorem VR(ok:fR P w H h)(e:H a=some (.dK kvs)):kvs.length<=sizeLine/\(a == sysModules)=false/\∃ vs,KV kvs vs/\h.DictOf (i6 P w) a vs:=CB ok (.inl e)
theorem ED(ok:fR P w H h)(e:H a=some (.tup (ks.map kV))):(tupleKind (i6 P w)).is h ks a:=by
 obtain⟨_,its,r,o,h1,h2,n,h3⟩:=(show eP P w H h a (.tup (ks.map kV)) from ok a _ e)
 exact⟨o,its.toArray,n,h1,h2,h3,by simpa using OJ r⟩
theorem EE(ok:fR P w H h)(e:Rd H a (.dT kvs)):kvs.length<=sizeLine/\(a == sysModules)=false /\
  ∃ xs,KT H kvs xs/\h.DictOfH (tupleKind (i6 P w)) a xs:=by
 obtain⟨z,y,xs,r,o,es,ep,h1,h2,h3,h4,h5⟩:=(show eP P w H h a (.dT kvs) from VQ ok e)
 refine⟨z,y,xs,r,o,es,ep,h1,h2,h3,h4,fun x hx=>?_,h5⟩
 have all:∀ {l:List (List Key × V)} {m:List (List Key × Addr × Value)},KT H l m->∀ x∈m,(tupleKind (i6 P w)).is h x.1 x.2.1:=by
  intro l m q
  induction q with
  |nil=>intro x hx;exact nomatch hx
  |@cons p q ps qs hq t ih =>
   intro x hx
   rcases df.mp hx with e|hx
   ·subst e
    exact ED ok (by rw[<- hq.1];exact hq.2.1)
   ·exact ih x hx
 exact all r x hx
theorem VS(ok:fR P w H h)(e:H a=some (.dT kvs)):kvs.length<=sizeLine/\(a == sysModules)=false /\
  ∃ xs,KT H kvs xs/\h.DictOfH (tupleKind (i6 P w)) a xs:=EE ok (.inl e)
end
def kG(H:Hp)(a:Addr)(y:V)(r:Option V):Prop :=
 (∃ kvs k,Rd H a (.dK kvs)/\y=kV k/\r=fI kvs k)\/∃ kvs k b,Rd H a (.dT kvs)/\y=.ref b/\H b=some (.tup (k.map kV))/\r=fI kvs k
def AQ(H:Hp)(a:Addr)(y v:V)(H':Hp):Prop :=
 (∃ kvs k,H a=some (.dK kvs)/\y=kV k/\kvs.length<sizeLine/\H'=upd H a (.dK (putK kvs k v))) \/
 ∃ kvs k b,H a=some (.dT kvs)/\y=.ref b/\H b=some (.tup (k.map kV))/\kvs.length<sizeLine/\H'=upd H a (.dT (putK kvs k v))
theorem kG.k{H:Hp}{a:Addr}{kvs:List (Key × V)}{k:Key}(e:H a=some (.dK kvs)):kG H a (kV k) (fI kvs k):=.inl ⟨kvs,k,.inl e,rfl,rfl⟩
theorem kG.t{H:Hp}{a b:Addr}{kvs:List (List Key × V)}{k:List Key}(e:H a=some (.dT kvs))(eb:H b=some (.tup (k.map kV))):kG H a (.ref b) (fI kvs k):=.inr ⟨kvs,k,b,.inl e,rfl,eb,rfl⟩
theorem AQ.k{H:Hp}{a:Addr}{kvs:List (Key × V)}{k:Key}{v:V}(e:H a=some (.dK kvs))(hl:kvs.length<sizeLine):AQ H a (kV k) v (upd H a (.dK (putK kvs k v))):=.inl ⟨kvs,k,e,rfl,hl,rfl⟩
theorem AQ.t{H:Hp}{a b:Addr}{kvs:List (List Key × V)}{k:List Key}{v:V}(e:H a=some (.dT kvs))(eb:H b=some (.tup (k.map kV)))(hl:kvs.length<sizeLine) :
  AQ H a (.ref b) v (upd H a (.dT (putK kvs k v))):=.inr ⟨kvs,k,b,e,rfl,eb,hl,rfl⟩
section
variable {X:Cx}{pins:List (Addr × Obj)}{σ:St}{H:Hp}{s:Shared}{a:Addr}{y v:V}{u r:Value}{o:Option V}{A:Around}{E:Value->Shared->Prop}
theorem Inv.big(I:Inv X pins σ H s):sysModules<s.heap.objs.size:=by
 have h:mainGlobals<s.heap.objs.size:=(I.mod.glob.keeps I.bk).lt
 exact Qr (by decide) h
theorem aW'(hu:A.units+1<cLine)(I:Inv X pins σ H s)(g:kG H a y (some v))(ry:RelV y u)(h:∀ w' s',Inv X pins σ H s'->RelV v w'->Q w' s') :
  wpAny (model X.prog X.w) A (getItem (.ref a) u) Q E s:=by
 rcases g with⟨kvs,k,e,ey,l⟩|⟨kvs,k,b,e,ey,eb,l⟩
 ·subst ey
  obtain⟨z,hd,vs,rel,dd⟩:=CB I.aE e
  obtain⟨w',hw,kR⟩:=tJ.some_of (v:=v) (o:=valueAt vs k) (by rw[l];exact rel.val k)
  exact wpAny_getItem_of (EC ry) dd.mapOf hw (h w' _ (I.tok _) kR)
 ·subst ey
  cases (show u=Value.ref b from ry)
  obtain⟨z,hd,xs,rel,dd⟩:=EE I.aE e
  obtain⟨w',hw,kR⟩:=tJ.some_of (v:=v) (o:=(atKey xs k).map (·.2)) (by rw[l];exact rel.val k)
  obtain⟨p,hp,hp2⟩:=K0.mp hw
  refine wpAny_getItem_heap (tupleKind_room_in1 hu) (ED I.aE eb) dd hp ?_
  rw[hp2]
  exact h w' _ (I.tok _) kR
theorem aY'(hu:A.units+1<cLine)(I:Inv X pins σ H s)(g:kG H a y o)(ry:RelV y u)(h:∀ s',Inv X pins σ H s'->Q (.bool o.isSome) s') :
  wpAny (model X.prog X.w) A (compareOp .In u (.ref a)) Q E s:=by
 rcases g with⟨kvs,k,e,ey,l⟩|⟨kvs,k,b,e,ey,eb,l⟩
 ·subst ey
  obtain⟨z,hd,vs,rel,dd⟩:=CB I.aE e
  refine wpAny_in_of (EC ry) hd dd.mapOf ?_
  rw[<- (rel.val k).L6,<- l]
  exact h _ (I.tok _)
 ·subst ey
  cases (show u=Value.ref b from ry)
  obtain⟨z,hd,xs,rel,dd⟩:=EE I.aE e
  refine wpAny_in_heap (tupleKind_room_in1 hu) (ED I.aE eb) hd dd ?_
  have q:=(rel.val k).L6
  rw[Qu] at q
  rw[<- q,<- l]
  exact h _ (I.tok _)
theorem aZ'(hu:A.units+1<cLine)(I:Inv X pins σ H s)(g:kG H a y o)(ry:RelV y u)(h:∀ s',Inv X pins σ H s'->Q (.bool (!o.isSome)) s') :
  wpAny (model X.prog X.w) A (compareOp .NotIn u (.ref a)) Q E s:=by
 rcases g with⟨kvs,k,e,ey,l⟩|⟨kvs,k,b,e,ey,eb,l⟩
 ·subst ey
  obtain⟨z,hd,vs,rel,dd⟩:=CB I.aE e
  refine wpAny_notIn_of (EC ry) hd dd.mapOf ?_
  rw[<- (rel.val k).L6,<- l]
  exact h _ (I.tok _)
 ·subst ey
  cases (show u=Value.ref b from ry)
  obtain⟨z,hd,xs,rel,dd⟩:=EE I.aE e
  refine wpAny_notIn_heap (tupleKind_room_in1 hu) (ED I.aE eb) hd dd ?_
  have q:=(rel.val k).L6
  rw[Qu] at q
  rw[<- q,<- l]
  exact h _ (I.tok _)
theorem OL(I:Inv X pins σ H s)(mu:Lc (H a))(hs:Heap.SameBut a s.heap h')(he:∃ q,h'.get? a=some q)(new:eP X.prog X.w (upd H a ob) h' a ob) :
  Inv X pins σ (upd H a ob) { s with heap:=h',toks:=t' } :=
 I.write (x:=a) (e:=a) mu (.inl rfl) (fun b q hb z=>(hs.2 b hb).trans z) he new
theorem VW{P:Program}(z:kvs.length<=sizeLine)(hd:(a == sysModules)=false)(rel:KV kvs vs)(dd:h'.DictOf (i6 P w) a vs) :
  eP P w H' h' a (.dK kvs):=⟨z,hd,vs,rel,dd⟩
theorem ba'(hu:A.units+1<cLine)(I:Inv X pins σ H s)(g:AQ H a y v H')(ry:RelV y u)(rv:RelV v r)(h:∀ s',Inv X pins σ H' s'->Q () s') :
  wpAny (model X.prog X.w) A (setItem (.ref a) u r) Q E s:=by
 rcases g with⟨kvs,k,e,ey,l,eH⟩|⟨kvs,k,b,e,ey,eb,l,eH⟩
 ·subst ey eH
  obtain⟨z,hd,vs,rel,dd⟩:=VR I.aE e
  have hz:vs.length<=sizeLine:=by rw[<- rel.length];exact z
  have hl:(putK kvs k v).length<=sizeLine:=by have:=OG kvs k v;lia
  refine wpAny_setItem_pairs (hsz:=hz) (EC ry) dd fun h' AR hs=>h _ ?_
  have he:∃ q,h'.get? a=some q:=let ⟨q,_,_,hq,_⟩:=AR;⟨q,hq⟩
  exact OL I (by rw[e];exact True.intro) hs he (VW hl hd (rel.put k rv) AR)
 ·subst ey eH
  cases (show u=Value.ref b from ry)
  obtain⟨z,hd,xs,rel,dd⟩:=VS I.aE e
  have hz:xs.length<=sizeLine:=by rw[<- Paired.length rel];exact z
  have hl:(putK kvs k v).length<=sizeLine:=by have:=OG kvs k v;lia
  refine wpAny_setItem_heap (hsz:=hz) (tupleKind_room_in1 hu) (ED I.aE eb) dd fun h' AR hs=>h _ ?_
  obtain⟨q,es,ep,hq,h2,h3,h4,_,h5⟩:=AR
  refine OL I (by rw[e];exact True.intro) hs ⟨q,hq⟩ ⟨hl,hd,_,(rel.put k eb rv).keeps fun c ys ec=>?_,q,es,ep,hq,h2,h3,h4,h5⟩
  rw[dP (UW ec e (fun z=>nomatch z))]
  exact ec
end
section
variable {X:Cx}{pins:List (Addr × Obj)}{σ:St}{H:Hp}{s:Shared}{a:Addr}{kvs:List (Key × V)}{A:Around}{E:Value->Shared->Prop}
theorem bb' (I:Inv X pins σ H s) (e:Rd H a (.dK kvs)) (h:∀ t s',Inv X pins σ H s'->Q (.int kvs.length t) s'):wpAny (model X.prog X.w) A (call (.builtin "len") [.ref a]) Q E s:=by
 obtain⟨z,hd,vs,rel,dd⟩:=CB I.aE e
 refine call_len_dict hd dd (by rw[<- rel.length];rw[sizeLine_eq] at z;lia) ?_
 rw[<- rel.length]
 exact h _ _ (I.tok _)
end
theorem bc' {X:Cx} (I:Inv X pins σ H s) (g:kG H a y o):s.TypeIs (.ref a) "dict" := by
 rcases g with⟨kvs,k,e,_,_⟩|⟨kvs,k,b,e,_,_,_⟩
 ·obtain⟨_,_,vs,_,dd⟩:=CB I.aE e
  exact dd.typeIs
 ·obtain⟨_,_,xs,_,dd⟩:=EE I.aE e
  exact dd.typeIs
def bd'(td ty tv:TE):TS:=fun D σ H=>tv σ H fun v H1=>td σ H1 fun x H2=>ty σ H2 fun y H3=>∃ a H4,x=.ref a/\AQ H3 a y v H4/\D.nx σ H4
section
variable {X:Cx}{o i value:Expr}{pos pos':Pos}{td ty tv:TE}
theorem VX(hu:X.A.units+1<cLine)(ho:PE X o td)(hi:PE X i ty)(hv:PE X value tv)(hs:swapsWith value (some (.Subscript o i pos')) pos.line X.env=pure false) :
  PS X (.Assign [.Subscript o i pos'] value pos) (bd' td ty tv):=by
 intro pins s σ H D I h
 refine wpAny_Assign_Subscript (cc (hv pins s σ H _ I h) fun r s1 cf=>L2.fq cf fun v H1 I1 rv q1=>cc (ho pins s1 σ H1 _ I1 q1) fun u s2 cf=>L2.fq cf fun x H2 I2 rx q2=>cc (hi pins s2 σ H2 _ I2 q2) fun iv s3 cy=>?_) hs
 obtain⟨y,H3,I3,ry,a,H4,ex,g,q3⟩:=cy
 subst ex
 obtain rfl:u=Value.ref a:=rx
 exact ba' hu I3 g ry rv fun s4 I4=>⟨σ,H4,I4,q3⟩
end
theorem be' {P:Program} (h:Heap) (hb:sysModules<h.objs.size):eP P w H (h.push { cls:=.type "dict",data:=.dict #[] }) h.objs.size (.dK []) :=
 ⟨gV _,beq_eq_false_iff_ne.mpr (Ne.symm (eM hb)),[],.nil,Heap.DictOf.new h⟩
theorem bf' {P:Program} (h:Heap) (hb:sysModules<h.objs.size):eP P w H (h.push { cls:=.type "dict",data:=.dict #[] }) h.objs.size (.dT []) :=
 ⟨gV _,beq_eq_false_iff_ne.mpr (Ne.symm (eM hb)),[],.nil,_,#[],0,jv _ rfl,⟨rfl,rfl,rfl⟩,rfl,rfl,lP⟩
def bg':TE:=fun _ H Q=>∀ p,H p=none->Q (.ref p) (upd H p (.dT []))
section
variable {X:Cx}{pos:Pos}
theorem bh':PE X (.Dict [] [] pos) bg':=fun pins s σ H Q I h =>
 wpAny_Dict_empty ⟨.ref s.heap.objs.size,_,I.laid (a:=s.heap.objs.size) (o:=.dT []) (t':=s.toks) (fun _ _ q=>eW _ q) (ck _) (bf' s.heap I.big),rfl,h _ (I.aE.fresh (ck _))⟩
end
def Rm:List (TE × TE)->St->Hp->(List (V × V)->Hp->Prop)->Prop
 |[],_,H,Q=>Q [] H
 | (tk,tv) :: r,σ,H,Q=>tk σ H fun x H1=>tv σ H1 fun y H2=>Rm r σ H2 fun ps H3=>Q ((x,y) :: ps) H3
abbrev VV:List (V × V)->List (Value × Value)->Prop:=Paired fun p q=>RelV p.1 q.1/\RelV p.2 q.2
def OO(X:Cx)(pos:Pos)(keys:List (Option Expr))(values:List Expr)(EF:List (TE × TE)):Prop :=
 ∀ (pins:List (Addr × Obj)) (s:Shared) (σ:St) (H:Hp) (Q:List (V × V)->Hp->Prop),Inv X pins σ H s->Rm EF σ H Q ->
  wpAny (model X.prog X.w) X.A (evalPairs (pairTrees keys values X.env pos)) (fun vs s'=>∃ ps H',Inv X pins σ H' s'/\VV ps vs/\Q ps H') X.xe s
theorem bi'{X:Cx}:OO X pos [] [] []:=fun pins s σ H Q I h=>pairTrees_nil_walk ⟨[],H,I,.nil,h⟩
theorem bj'{X:Cx}(hk:PE X k tk)(hv:PE X v tv)(hr:OO X pos ks vs EF) :
  OO X pos (some k :: ks) (v :: vs) ((tk,tv) :: EF):=fun pins s σ H Q I h =>
 pairTrees_cons_walk (cc (hk pins s σ H _ I h) fun u s1 cf=>L2.fq cf fun x H1 I1 rx q1=>cc (hv pins s1 σ H1 _ I1 q1) fun w2 s2 cf=>L2.fq cf fun y H2 I2 ry q2 =>
  cc (hr pins s2 σ H2 _ I2 q2) fun ws s3 cf=>L2.fq cf fun ps H3 I3 rel q3=>⟨(x,y) :: ps,H3,I3,.cons ⟨rx,ry⟩ rel,q3⟩)
def L7(kvs more:List (Key × V)):List (Key × V):=more.foldl (fun acc kv=>putK acc kv.1 kv.2) kvs
theorem KV.merge:∀ {more:List (Key × V)} {rs:List (Key × Value)} {kvs:List (Key × V)} {vs:List (Key × Value)},KV more rs->KV kvs vs->KV (L7 kvs more) (merged vs rs):=by
 intro more rs kvs vs r
 unfold KV at r
 induction r generalizing kvs vs with
 |nil=>intro q;exact q
 |@cons p q ps qs h t ih =>
  intro r0
  have e:KV (putK kvs p.1 p.2) (stored vs q.1 q.2):=by
   have:=r0.put p.1 h.2
   rw[<- h.1];exact this
  exact ih e
theorem VY:∀ (more kvs:List (Key × V)),(L7 kvs more).length<=kvs.length+more.length
 |[],kvs=>by show kvs.length<=kvs.length+0;lia
 |p :: r,kvs=>by
  have h1:=VY r (putK kvs p.1 p.2)
  have h2:=OG kvs p.1 p.2
  show(L7 (putK kvs p.1 p.2) r).length<=_
  rw[tI];lia
theorem VZ{P:Program}:∀ {kvs:List (Key × V)} {ws:List (Value × Value)},VV (kvs.map fun kv=>(kV kv.1,kv.2)) ws->∃ rs,Carries (i6 P w) ws rs/\KV kvs rs
 |[],_,r=>by rw[List.map_nil] at r;cases r;exact⟨[],True.intro,.nil⟩
 |p :: kvs,_,r=>by
  rw[fo] at r
  cases r with
  |@cons a b as bs h t =>
   obtain⟨rs,c,q⟩:=VZ (P:=P) (w:=w) t
   obtain⟨b1,b2⟩:=b
   exact⟨(p.1,b2) :: rs,⟨EC h.1,rfl,c⟩,.cons ⟨rfl,h.2⟩ q⟩
def bk'(EF:List (TE × TE)):TE:=fun σ H Q=>∀ p,H p=none->Rm EF σ (upd H p (.dK [])) fun ps H2=>H2 p=some (.dK [])/\∃ kvs:List (Key × V),ps=kvs.map (fun kv=>(kV kv.1,kv.2))/\kvs.length<=15/\Q (.ref p) (upd H2 p (.dK (L7 [] kvs)))
theorem bl'{X:Cx}(h:OO X pos keys values EF)(nK:keys.all (·.isSome)=true)(hl:keys.length=values.length)(h0:keys≠[])
  (h15:keys.length<=15):PE X (.Dict keys values pos) (bk' EF):=by
 intro pins s σ H Q I q
 have hn:=I.aE.fresh (ck s.heap.objs.size)
 have I1:=I.laid (a:=s.heap.objs.size) (o:=.dK []) (h':=s.heap.push { cls:=.type "dict",data:=.dict #[] }) (t':=s.toks) (fun _ _ q=>eW _ q) (ck _) (be' s.heap I.big)
 refine wpAny_Dict_walk (knd:=i6 X.prog X.w) nK hl h0 h15 (cc (h pins _ σ _ _ I1 (q _ hn)) fun ws s2 cy=>?_)
 obtain⟨ps,H2,I2,rel,e,kvs,ep,lk,q2⟩:=cy
 subst ep
 obtain⟨rs,c,rk⟩:=VZ (P:=X.prog) (w:=X.w) rel
 obtain⟨z,hd,vs0,r0,dd⟩:=VR I2.aE e
 cases r0
 refine⟨rs,c,dd,fun h' AR hs=>⟨.ref s.heap.objs.size,_,?_,rfl,q2⟩⟩
 have hz:(L7 [] kvs).length<=sizeLine:=by
  have h1:=VY kvs []
  rw[List.length_nil] at h1
  rw[sizeLine_eq];lia
 have he:∃ q,h'.get? s.heap.objs.size=some q:=let ⟨q,_,_,hq,_⟩:=AR;⟨q,hq⟩
 exact OL I2 (by rw[e];exact True.intro) hs he (VW hz hd (rk.merge .nil) AR)
structure M2(X:Cx)(o:Expr)(m:Str)(apos:Pos)(e f:Expr)(dz:Pos):Prop where
 base:attributeBase o m X.env (eval o X.env)=eval o X.env
 few:((backTo dz (starEach [e,f] X.env)).all (fun x=>!x.1) && (backToKw dz (keywordEach [] X.env)).all (fun x=>x.1.isSome)
  && decide (([e,f]:List Expr).length+([]:List Keyword).length+(if ([]:List Keyword).isEmpty then 0 else 1)<30))=true
 line:(apos.endLine == dz.line)=true
 trees:backTo dz (starEach [e,f] X.env)=[(false,eval e X.env),(false,eval f X.env)]
def OQ(H:Hp)(a:Addr):Prop:=(∃ kvs,Rd H a (.dK kvs))\/∃ kvs,Rd H a (.dT kvs)
theorem V0{X:Cx}(I:Inv X pins σ H s)(d:OQ H a) :
  s.TypeIs (.ref a) "dict"/\(∀ b,Value.ref a=.ref b->∃ ob,s.heap.get? b=some ob/\ob.dict=none)/\(a == sysModules)=false:=by
 rcases d with⟨kvs,e⟩|⟨kvs,e⟩
 ·obtain⟨_,hd,vs,_,dd⟩:=CB I.aE e
  refine⟨dd.typeIs,fun b q=>?_,hd⟩
  cases q
  obtain⟨ob,_,_,h1,h2,_⟩:=dd
  exact⟨ob,h1,h2.2.1⟩
 ·obtain⟨_,hd,xs,_,dd⟩:=EE I.aE e
  refine⟨dd.typeIs,fun b q=>?_,hd⟩
  cases q
  obtain⟨ob,_,_,h1,h2,_⟩:=dd
  exact⟨ob,h1,h2.2.1⟩
section
variable {X:Cx}{pins:List (Addr × Obj)}{σ:St}{H:Hp}{s:Shared}{a:Addr}{y d:V}{u r:Value}{o:Option V}{A:Around}{E:Value->Shared->Prop}
theorem bo'(hu:A.units+1<cLine)(I:Inv X pins σ H s)(g:kG H a y o)(ry:RelV y u)(rd:RelV d r)(h:∀ w' s',Inv X pins σ H s'->RelV (o.getD d) w'->Q w' s') :
  wpAny (model X.prog X.w) A (call (.builtin "dict.get") [.ref a,u,r]) Q E s:=by
 rcases g with⟨kvs,k,e,ey,l⟩|⟨kvs,k,b,e,ey,eb,l⟩
 ·subst ey
  obtain⟨z,hd,vs,rel,dd⟩:=CB I.aE e
  refine call_meetsIn PySem.F.slot_dict_get dd.typeIs PySem.F.entry_dict_get (PySem.F.args_dict_get_3 _ _ _) (meets_dict_get_default (i6 X.prog X.w) a (EC ry) hd r) ⟨_,dd.mapOf,h _ _ (I.tok _) ?_⟩
  rw[l]
  exact(rel.val k).getD rd
 ·subst ey
  cases (show u=Value.ref b from ry)
  obtain⟨z,hd,xs,rel,dd⟩:=EE I.aE e
  refine call_meetsIn PySem.F.slot_dict_get dd.typeIs PySem.F.entry_dict_get (PySem.F.args_dict_get_3 _ _ _) (meetsH_dict_get_default (tupleKind (i6 X.prog X.w)) a b hd r) ⟨tupleKind_room_in1 hu,k,xs,ED I.aE eb,dd,h _ _ (I.tok _) ?_⟩
  rw[l]
  exact(rel.val k).getD rd
end
def V1(td ty tx:TE):TE:=fun σ H Q=>td σ H fun x H1=>∃ a,x=.ref a/\OQ H1 a/\ty σ H1 fun y H2=>tx σ H2 fun z H3=>∃ o,kG H3 a y o/\Q (o.getD z) H3
section
variable {X:Cx}{o e f:Expr}{apos dz:Pos}{td ty tx:TE}
theorem bp' (hu:X.A.units+1<cLine) (ho:PE X o td) (he:PE X e ty) (hf:PE X f tx) (m:M2 X o "get" apos e f dz):PE X (.Call (.Attribute o "get" apos) [e,f] [] dz) (V1 td ty tx):=by
 intro pins s σ H Q I h
 refine wpAny_Call_method m.base m.few m.line PySem.F.plainAttrs_dict PySem.F.slot_dict_get PySem.F.type_dict_get (cc (ho pins s σ H _ I h) fun u s1 cy=>?_)
 obtain⟨x,H1,I1,rx,a,ex,d,q1⟩:=cy
 subst ex
 obtain rfl:u=Value.ref a:=rx
 obtain⟨t1,t2,_⟩:=V0 I1 d
 refine⟨t1,t2,?_⟩
 rw[m.trees]
 refine Calls.callWith_builtin rfl (Calls.evalArgs_plain (Calls.spliced_cons (cc (he pins s1 σ H1 _ I1 q1) fun iv s2 cf=>L2.fq cf fun y H2 I2 ry q2 =>
  Calls.spliced_cons (cc (hf pins s2 σ H2 _ I2 q2) fun fv s3 ⟨z,H3,I3,rz,ov,g,q3⟩=>Calls.spliced_nil ?_))))
 exact bo' hu I3 g ry rz fun w' s4 I4 kR=>⟨_,H3,I4,kR,q3⟩
end
end L2
namespace V2
open PySem PySem.W PySem.Calls PyProof.Rows
theorem bq'{P:Params}:∀ (ns:List Int) (vs:List Value),WellAll P h vs (ns.map WData.int)->IntsAre vs ns:=by
 intro ns
 induction ns with
 |nil =>
  intro vs w
  rw[List.map_nil] at w
  cases w
  exact .nil
 |cons n ns ih =>
  intro vs w
  rw[fo] at w
  cases w with
  |cons a b =>
   cases a
   exact .cons _ _ (ih _ b)
theorem bs'{l:OpenLaw}{n:Nat}(hn:l.most=some n){P:Params}{h:Heap}{args:List WData}{vals:List Value}
  (OS:l.row.toRowW.claim.pre args=true) (CC:WellAll P h vals args) :
  ∃ a vs ns,vals=[Value.ref a]/\args=[WData.list (ns.map WData.int)]/\h.get? a=some { cls:=.type "list",data:=.seq vs.toArray }/\IntsAre vs ns/\ns.length<=n:=by
 have rh:WShape.hasAll [] args [.list .int]=true:=(pre_splitW OS).1
 have hc:l.pre.holds [] { args:=args }=true:=(pre_splitW OS).2
 obtain⟨d,r,rfl,h1,h2⟩:=hasAllW_cons rh
 obtain rfl:=hasAllW_nil h2
 obtain⟨xs,rfl,h3⟩:=hasW_list h1
 obtain⟨ns,rfl⟩:=items_int h3
 have hlen:ns.length<=n:=by
  unfold OpenLaw.pre at hc
  have h4:(WTm.not (.lt (.lit (.int (n:Int))) (.len (.arg 0)))).holds [] { args:=[.list (ns.map .int)] }=true:=by
   have h4:=(holds_andW hc).1
   rw[hn] at h4
   exact h4
  have h5:=condW_of h4 (w_not (w_lt w_lit (w_len_list (w_arg rfl))))
  rw[bT] at h5
  refine FL fun q=>?_
  have q':(n:Int)<((ns.length:Nat):Int):=by lia
  first
   | (rw[decide_eq_true q'] at h5;exact absurd h5 (by decide))
   | (simp at h5;lia)
 cases CC with
 |cons w1 w2 =>
  cases w2
  cases w1 with
  |list ho nK=>exact⟨_,_,ns,rfl,rfl,ho,bq' ns _ nK,hlen⟩
theorem bt'(l:OpenLaw)(args:List WData):l.row.toRowW.claim.post args (.bool true) args=true :=
 postW_of (r:=l.row.toRowW) (X:=(true == true))
  (show WShape.has [] (.bool true) .bool=true by first|rfl|decide|simp[WShape.has,WShape.arms,WShape.armsAll])
  (show(WTm.eq .res (.lit (.bool true))).value [] { args:=args,res:=some (.bool true),after:=args }=some (.bool (true == true)) from w_eq_bool (w_res rfl) w_lit) rfl
theorem bu'{l:OpenLaw}{n:Nat}{q:Program}{loose:List Str}{XP:(Str->Option Value)->Heap->Prop}{YP:World->Heap->Prop}{d:DefRec}
  (hn:l.most=some n) (L8:d.params.defaults=[])
  (call:∀ (w:World) (eR eL:Shared) (mg mb:Str->Option Value) (fa:Addr) (o:Obj) (pm cd doc:Value) (a:Addr) (vs:List Value) (ns:List Int),
   Ground q loose [] XP w eR mg mb eL.heap->YP w eL.heap ->
   eL.heap.get? fa=some o->o.data=.func (docDef d.name d.params d.body d.scope pm cd doc)->eL.heap.CodeRec cd d.name->mg d.name=some (.ref fa) ->
   eL.heap.get? a=some { cls:=.type "list",data:=.seq vs.toArray }->IntsAre vs ns->ns.length<=n->eL.gens = #[] ->
   codeAny (model l.prog w) callerA (.call (.ref fa) ⟨[.ref a],[]⟩) (fun r s'=>r=.ok (.ret (.bool true))/\OldK eL.heap s'.heap/\s'.os=eL.os/\AllBare s'.gens) eL) :
  WalkO q loose XP YP l.row.toRowW d [] (fun f vs=>PySem.call f vs):=by
 intro w eR eL mg mb G Y fa o pm cd doc dV kV ho hd oy hD L9 hg args vals as OS hlay hrd CC lT
 obtain rfl:dV=.none:=Dflts.none hD L8
 obtain rfl:kV=.none:=Dflts.noKw hD
 obtain⟨a,vs,ns,rfl,rfl,Rn,hints,hlen⟩:=bs' hn OS CC
 refine enter_call (codeAny_mono (call w eR eL mg mb fa o pm cd doc a vs ns G Y ho (fd_plain hd) oy L9 Rn hints hlen hg) fun r s' hq=>?_)
 obtain⟨rfl,h2,h3,h4⟩:=hq
 exact⟨.inl ⟨.bool true,.bool true,[],rfl,fun _=>rfl,.bool true,bt' l _,fun _=>⟨List.Pairwise.nil,fun _ hm=>(nomatch hm)⟩⟩,h2,h3,h4⟩
end V2
namespace L2
open PySem PySem.Spec PyProof.Rows
theorem V3:∀ {vs:List Value} {ns:List Int},IntsAre vs ns->Vals (ns.map V.int) vs
 |_,_,.nil=>.nil
 |_,_,.cons n t h=>.cons ⟨t,rfl⟩ (V3 h)
def Only(H:Hp):Prop:=∀ b,H b=none\/∃ o xs,H b=some (.mw o (.lst xs))
theorem bv'{P:Program}{K:PySem.W.Frag}
  (KX:K.In eL.heap) (V4:eL.heap.Ns mainGlobals mg) (hb:eL.heap.Ns builtinsNs mb) (Ro:∀ x:Str,x ≠ "__name__"->mb x=bootBuiltins x) (bw':eL.heap.NoLimit) (hg:eL.gens = #[])
  (ha:eL.heap.get? a=some { cls:=.type "list",data:=.seq vs.toArray }) (hi:IntsAre vs ns) (hl:ns.length<=sizeLine) (hr:kc k callerA)
  (F:∀ base:Heap,K.In base->base.Ns mainGlobals mg->g7 P w K mg base CX k fa fd [x] sp) (bx':∀ (s:Shared) (u:Value),BindsTo s fd ⟨[u],[]⟩ [(x,u)])
  (y8:∀ H:Hp,Only H->eB K H a (ns.map V.int)->sp [.ref a] H (fun v _=>v=.bl true) fun _ _ _=>False)
  (Rp:∀ H e s',CX [] H eL (fun _ _ _=>False) e s'->False) :
  codeAny (model P w) callerA (.call (.ref fa) ⟨[.ref a],[]⟩) (fun r s'=>r=.ok (.ret (.bool true))/\OldK eL.heap s'.heap/\s'.os=eL.os/\AllBare s'.gens) eL:=by
 have rv:=V3 hi
 have by':=hi.length
 -- from an abstract heap in which nothing but the script may be tracked
 have core:∀ H:Hp,Only H->eB K H a (ns.map V.int)->fR P w H eL.heap->(∀ b,H b≠none->b=a)->(H a≠none->K.lookup a=none) ->
   codeAny (model P w) callerA (.call (.ref fa) ⟨[.ref a],[]⟩) (fun r s'=>r=.ok (.ret (.bool true))/\OldK eL.heap s'.heap/\s'.os=eL.os/\AllBare s'.gens) eL:=by
  intro H hO hS aE hA hK
  have V5:∀ {b:Addr} {o:Obj},eL.heap.get? b=some o->H b=none->(Au eL.heap H).get? b=some o:=fun e n=>Yz e n
  have LV:∀ {b:Addr} {o:Obj} {es:Array DictEntry} {ep:Nat},eL.heap.get? b=some o->o.data=.dict es ep->H b=none:=fun {b o es ep} e d=>by
   cases q:H b with
   |none=>rfl
   |some u =>
    have e':b=a:=hA b (by rw[q];simp)
    subst e'
    rw[ha] at e;cases e
    have d':Data.seq vs.toArray _=Data.dict es ep:=d
    cases d'
  have OU:∀ {b:Addr} {m:Str->Option Value},eL.heap.Ns b m->(Au eL.heap H).Ns b m:=fun {b m} ⟨o,es,ep,e,d,r⟩=>⟨o,es,ep,V5 e (LV e d),d,r⟩
  have V6:K.In (Au eL.heap H):=fun b o e=>V5 (KX b o e) (by
   cases q:H b with
   |none=>rfl
   |some u =>
    have e':b=a:=hA b (by rw[q];simp)
    subst e'
    rw[hK (by rw[q];simp)] at e;cases e)
  have hM:Mod K mg (Au eL.heap H):=⟨V6,OU V4,⟨mb,OU hb,Ro⟩,let ⟨mc,h1,h2⟩:=bw';⟨mc,OU h1,h2⟩⟩
  have e0:Ot P w K mg (Au eL.heap H) callerA [] eL H:=⟨rfl,hM,fun b o e=>YB e,FT (Yy _ _),trivial,fun b hb=>absurd (show b∈([]:List Addr) from hb) (by simp),aE,.of_eq hg⟩
  refine codeAny_mono ((F _ V6 (OU V4)).run callerA [] eL H ⟨[.ref a],[]⟩ [.ref a] [.ref a] _ _ hr e0 (bx' eL (.ref a)) (.cons rfl .nil) (y8 H hO hS)) fun r s' h=>?_
  cases r with
  |error e=>exact(Rp H e s' h).elim
  |ok fl =>
   cases fl with
   |next=>exact False.elim h
   |brk=>exact False.elim h
   |cont=>exact False.elim h
   |ret u =>
    obtain⟨v,H',os,bare,un,bz',r',q⟩:=h
    have q':v=.bl true:=q
    subst q'
    obtain rfl:u=Value.bool true:=r'
    refine⟨rfl,OldK.of_keep fun b o e=>?_,os,bare⟩
    cases q:H b with
    |none=>exact un.keep b o e q (by intro z;exact absurd (show b∈([]:List Addr) from z) (by simp)) (by simp)
    |some u =>
     rcases hO b with z|⟨ob,xs,z⟩
     ·rw[q] at z;cases z
     ·have z2:=un.sL b ob _ z
      obtain⟨e1,_⟩:=aE b _ z
      obtain⟨e2,_⟩:=bz' b _ z2
      rw[e] at e1;cases e1
      exact e2
 cases hk:K.lookup a with
 |some o =>
  -- the script is one of the module's own objects
  have e:=KX a o hk
  rw[ha] at e
  cases e
  refine core (fun _=>none) (fun _=>.inl rfl) (.inr ⟨_,vs.toArray,_,hk,rfl,rfl,rfl,by rw[hX,by'];exact hl,by simpa using rv⟩) (fun b u z=>by have z':(none:Option HO)=some u:=z;cases z') (fun b z=>absurd rfl z) fun z=>absurd rfl z
 |none =>
  refine core (fun b=>if b=a then some (.mw { cls:=.type "list",data:=.seq vs.toArray } (.lst (ns.map V.int))) else none) (fun b=>?_) (.inl (.inr ⟨{ cls:=.type "list",data:=.seq vs.toArray },if_pos rfl⟩)) (fun b u z=>?_) (fun b z=>?_) fun _=>hk
  ·by_cases hb:b=a
   ·exact .inr ⟨_,_,if_pos hb⟩
   ·exact .inl (if_neg hb)
  ·by_cases hb:b=a
   ·have z':=(if_pos hb).symm.trans z
    cases z'
    subst hb
    exact⟨ha,by rw[bT];exact hl,vs,_,rv,ha⟩
   ·have z':=(if_neg hb).symm.trans z
    cases z'
  ·by_cases hb:b=a
   ·exact hb
   ·exact absurd (if_neg hb) z
theorem bA'{l:PySem.W.OpenLaw}{n k:Nat}{q:Program}{loose:List Str}{XP:(Str->Option Value)->Heap->Prop}{YP:World->Heap->Prop}{d:DefRec}{K:Params->PySem.W.Frag}{CX:World->AG}{sp:World->Sp}{x:Str}
  (hn:l.most=some n) (GW:n<=sizeLine) (L8:d.params.defaults=[]) (hr:kc k callerA)
  (hY:∀ (w:World) (h:Heap),YP w h->(K w.params).In h)
  (F:∀ (w:World) (mg:Str->Option Value) (fa:Addr) (h:Heap),(K w.params).In h->h.Ns mainGlobals mg->mg d.name=some (.ref fa) ->
   ∃ fd:FuncData,(∀ (s:Shared) (u:Value),BindsTo s fd ⟨[u],[]⟩ [(x,u)]) /\
    ∀ base:Heap,(K w.params).In base->base.Ns mainGlobals mg->g7 l.prog w (K w.params) mg base (CX w) k fa fd [x] (sp w))
  (y8:∀ (w:World) (H:Hp) (a:Addr) (ns:List Int),ns.length<=n->Only H->eB (K w.params) H a (ns.map V.int)->sp w [.ref a] H (fun v _=>v=.bl true) fun _ _ _=>False)
  (Rp:∀ (w:World) (H:Hp) (s:Shared) (e:Value) (s':Shared),CX w [] H s (fun _ _ _=>False) e s'->False) :
  PySem.W.WalkO q loose XP YP l.row.toRowW d [] (fun f vs=>PySem.call f vs):=by
 refine V2.bu' hn L8 fun w eR eL mg mb fa o pm cd doc a vs ns G Y ho hd oy L9 Rn hints hlen hg=>?_
 have KX:=hY w _ Y
 obtain⟨fd,hb,hF⟩:=F w mg fa _ KX G.T.g L9
 exact bv' KX G.T.g G.T.b G.T.builtins G.T.nolimit hg Rn hints (gS hlen GW) hr hF hb (fun H hO hS=>y8 w H a ns hlen hO hS) fun H e s'=>Rp w H eL e s'
def kf(s:Stmt):Arguments:=match s with
 |.FunctionDef _ a _ _ _ _ _ _ _ _=>a
 |_=>{ posonlyargs:=[],args:=[],vararg:=none,kwonlyargs:=[],kw_defaults:=[],kwarg:=none,defaults:=[] }
def ib(s:Stmt):List Stmt:=match s with
 |.FunctionDef _ _ b _ _ _ _ _ _ _=>b
 |_=>[]
def cw(s:Stmt):Scope:=match s with
 |.FunctionDef _ _ _ _ _ _ sc _ _ _=>sc
 |_=>{ kind:=.function,names:=[],isGenerator:=false,isCoroutine:=false }
abbrev kg:AG:=fun _ _ _ _ _ _=>False
abbrev E0:XK:=fun _ _ _=>False
theorem bB'{X:Cx}:Passes kg X E0:=fun _ _ _ _ _ _ _ h=>h.elim
structure g9(K:PySem.W.Frag)(x qual:Str)(st:Stmt)(f:Addr)(fd:FuncData):Prop where
 ex:∃ (oc:Value) (od:Option Addr) (kV doc pm:Value) (an:Option Addr) (cK ct:Value) (EA:Array (Option Value)),
  fd=PySem.W.fnOf x qual (kf st) (ib st) (cw st) .none kV doc pm an cK ct/\K.lookup f=some ⟨oc,od,.func fd,EA⟩/\PySem.W.codeIn K cK qual=true
 kp:PySem.W.keepIn K (.ref f)=true
section
variable {P:Program}{w:World}{K:PySem.W.Frag}{mg:Str->Option Value}{base:Heap}
theorem g9.ok{st:Stmt}{N ps:List Str}(F:g9 K x qual st f fd)(S:kC N ps (cw st))(len:∀ vs H Q E,sp vs H Q E->vs.length=ps.length)
  (AH:∀ (cK:Value) (A:Around) (outer:List Env) (s:Shared) (H:Hp) (vs:List V) (Q:VK) (E:XK),kc k (A.deeper (envOfC qual (cw st) s.heap.objs.size f cK))->sp vs H Q E ->
   ∃ t,mB (qE kg P w K mg base N qual (cw st) f cK A outer s H E).LD (ib st) t/\t { nx:=fun _ H'=>Q .non H',rt:=Q } (start N vs) H):g7 P w K mg base kg (k+1) f fd ps sp:=by
 obtain⟨oc,od,kV,doc,pm,an,cK,ct,EA,rfl,lk,oy⟩:=F.ex
 refine Vz lk oy S len fun A outer s H vs Q E hr y8=>?_
 obtain⟨t,h,q⟩:=AH cK A outer s H vs Q E hr y8
 exact⟨t,h.LD,q⟩
theorem g9.binds{st:Stmt}{ps:List Str}(F:g9 K x qual st f fd)
  (h:∀ (kV doc pm:Value) (an:Option Addr) (cK ct:Value) (us:List Value),us.length=ps.length->bindArgs (PySem.W.fnOf x qual (kf st) (ib st) (cw st) .none kV doc pm an cK ct) ⟨us,[]⟩=pure (ps.zip us)):Binds K fd ps []:=by
 obtain⟨oc,od,kV,doc,pm,an,cK,ct,EA,rfl,lk,oy⟩:=F.ex
 exact .all (h kV doc pm an cK ct)
theorem nL{st:Stmt}{kV doc pm cK ct:Value}(l:K.lookup f=some ⟨oc,od,.func (PySem.W.fnOf x qual (kf st) (ib st) (cw st) .none kV doc pm an cK ct),EA⟩)
  (c:PySem.W.codeIn K cK qual=true) (k:PySem.W.keepIn K (.ref f)=true):g9 K x qual st f (PySem.W.fnOf x qual (kf st) (ib st) (cw st) .none kV doc pm an cK ct):=⟨⟨oc,od,kV,doc,pm,an,cK,ct,EA,rfl,l,c⟩,k⟩
end
section
variable {X:Cx}
theorem pv (i:Nat) (hN:X.N[i]? = some x:=by rfl) (hv:N_ X.env.scope x:=by first|exact Or.inl rfl|exact Or.inr (Or.inl rfl)|exact Or.inr (Or.inr rfl)) (hd:(x == ("__debug__" : Str))=false:=by decide)
  (oy:(x == ("__classdict__" : Str))=false:=by decide):PE X (.Name x pos) (y0 i):=U6 hN hv hd oy
end
def ay(H H':Hp):Prop:=∀ b o,H b=some o->H' b=some o
theorem ay.refl(H:Hp):ay H H:=fun _ _ h=>h
theorem ay.trans(a:ay H H1)(b:ay H1 H2):ay H H2:=fun c o h=>b c o (a c o h)
theorem ay.free(e:ay H H')(h:H' l=Option.none):H l=Option.none:=by
 cases q:H l with
 |none=>rfl
 |some o =>
  rw[e l o q] at h
  cases h
theorem ay.seq{K:PySem.W.Frag}(e:ay H H')(h:eB K H a xs):eB K H' a xs:=by
 rcases h with(h|⟨o,h⟩)|h
 ·exact .inl (.inl (e _ _ h))
 ·exact .inl (.inr ⟨o,e _ _ h⟩)
 ·exact .inr h
end L2
set_option maxHeartbeats 4000000
namespace L2
open PySem PySem.Spec PyProof.Rows
def rj(env:Env):List (Str × NameKind)->List (Str × Addr)->List (Str × Addr)
 |[],cs=>cs
 | (n,k) :: r,cs=>rj env r (if k == NameKind.free then (n,(env.cells.lookup n).getD 0) :: cs else cs)
theorem gG(env:Env):∀ (names:List (Str × NameKind)) (cs:List (Str × Addr)),(∀ y∈names,y.2=.free->∃ c,env.cells.lookup y.1=some c) ->
  (forIn names cs fun x r=>match x with
   | (name,kind)=>if (kind == NameKind.free)=true then do let a <- cellOf env name;pure (ForInStep.yield ((name,a) :: r)) else pure (ForInStep.yield r):Sem (List (Str × Addr)))=pure (rj env names cs)
 |[],cs,_=>rfl
 | (n,k) :: r,cs,h=>by
  rw[List.forIn_cons]
  have ih:=gG env r
  by_cases hk:k=.free
  ·subst hk
   obtain⟨c,e⟩:=h (n,.free) bX rfl
   have e:env.cells.lookup n=some c:=e
   have e2:cellOf env n=pure c:=by unfold cellOf;rw[e]
   have e3:rj env ((n,.free) :: r) cs=rj env r ((n,c) :: cs):=by
    show rj env r (if (NameKind.free == NameKind.free)=true then (n,(env.cells.lookup n).getD 0) :: cs else cs)=_
    rw[e];rfl
   rw[e3,<- ih ((n,c) :: cs) fun y hy=>h y (b5 _ hy)]
   simp only[beq_self_eq_true,if_true,e2]
   rfl
  ·have hb:(k == NameKind.free)=false:=by simpa using hk
   have e3:rj env ((n,k) :: r) cs=rj env r cs:=by
    show rj env r (if (k == NameKind.free)=true then _ else cs)=_
    rw[hb];rfl
   rw[e3,<- ih cs fun y hy=>h y (b5 _ hy)]
   simp only[hb,kP,if_false]
   rfl
theorem mQ(h:∀ y∈scope.names,y.2=.free->∃ c,env.cells.lookup y.1=some c):closureFor scope env=pure (rj env scope.names []):=by
 have:=gG env scope.names [] h
 unfold closureFor
 rw[<- bind_pure (forIn scope.names [] _)] at this
 exact this
theorem nZ:∀ {names:List (Str × NameKind)} {cs:List (Str × Addr)},(∀ y∈names,y.2=.free->∃ c,env.cells.lookup y.1=some c)->(∀ y d,cs.lookup y=some d->env.cells.lookup y=some d) ->
  (rj env names cs).lookup x=some c->env.cells.lookup x=some c
 |[],cs,_,h,e=>h x c e
 | (n,k) :: r,cs,hf,h,e=>by
  refine nZ (names:=r) (fun y hy=>hf y (b5 _ hy)) ?_ e
  intro y d hd
  by_cases hk:k=.free
  ·subst hk
   obtain⟨c',e'⟩:=hf (n,.free) bX rfl
   have e':env.cells.lookup n=some c':=e'
   simp only[beq_self_eq_true,if_true,e',Option.getD_some,Qm] at hd
   cases hb:y == n with
   |true=>rw[hb] at hd;have:y=n:=eq_of_beq hb;subst this;rw[e'];exact hd
   |false=>rw[hb] at hd;exact h y d hd
  ·have hb:(k == NameKind.free)=false:=by simpa using hk
   simp only[hb,kP,if_false] at hd
   exact h y d hd
theorem jB:∀ {names:List (Str × NameKind)} {cs:List (Str × Addr)},((x,NameKind.free)∈names\/∃ c,cs.lookup x=some c)->∃ c,(rj env names cs).lookup x=some c
 |[],cs,h=>by
  rcases h with h|h
  ·exact nomatch h
  ·exact h
 | (n,k) :: r,cs,h=>by
  refine jB (names:=r) ?_
  rcases h with h|⟨c,h⟩
  ·rcases df.mp h with e|h
   ·cases e
    refine .inr ⟨(env.cells.lookup x).getD 0,?_⟩
    simp only[beq_self_eq_true,if_true,Qm]
   ·exact .inl h
  ·refine .inr ?_
   by_cases hk:(k == NameKind.free)=true
   ·simp only[hk,if_true,Qm]
    cases hb:x == n with
    |true=>exact⟨_,rfl⟩
    |false=>exact⟨c,h⟩
   ·simp only[hk,if_false]
    exact⟨c,h⟩
def aO(X:Cx)(scope:Scope)(C:Addr)(N:List Str)(fp:List Addr)(gi:Shared)(iA:Hp):Cx :=
 { X with N:=N,eR:=gi,wt:=iA,env:=compEnvC scope (rj X.env scope.names []) C X.env,outer:=X.stack,stack:=X.stack,ex:=fp,fn:=fun _=>false,pn:=[],xe:=fun _ _=>False }
def AU(X:Cx)(ifs:List Expr)(t:TT):Prop :=
 ∀ (pins:List (Addr × Obj)) (s:Shared) (σ:St) (H:Hp) (Q:Bool->Hp->Prop),Inv X pins σ H s->t σ H Q ->
  wpAny (model X.prog X.w) X.A (forIn ifs true fun c r=>if r=true then do let ok <- isTrue c X.env (eval c X.env);pure (ForInStep.yield ok) else pure (ForInStep.yield r)) (TP X pins σ Q) X.xe s
def bC':TT:=fun _ H Q=>Q true H
theorem Ba{X:Cx}:AU X [] bC':=fun _ _ _ H _ I h=>wpAny_tests_nil ⟨H,I,h⟩
theorem fL{R:Result->Shared->Prop}(I:Nat->Shared->Prop)(E:Value->Shared->Prop)
  (turn:∀ n s,I n s->wpAny (model prog w) A (pyNext it) (fun r eL=>match r with
   |none=>R (.ok .next) eL
   |some v=>wpAny (model prog w) A (letOwnedTupleGo target it v) (fun _ eR=>wpAny (model prog w) A (assign target env v) (fun _ D9 =>
     wpAny (model prog w) A (forIn ifs true fun c r=>if r=true then do let ok <- isTrue c env (eval c env);pure (ForInStep.yield ok) else pure (ForInStep.yield r)) (fun ok gi =>
      if ok=true then wpAny (model prog w) A (eval elt env) (fun x V7 =>
       wpAny (model prog w) A (call (.builtin "list.append") [acc,x]) (fun _ V8=>∃ m,m<n/\I m V8) E V7) E gi
      else ∃ m,m<n/\I m gi) E D9) E eR) E eL) E s)
  (hE:∀ e s',E e s'->notedBy (model prog w) A env (fun e s'=>R (.error e) s') e s')
  (n:Nat) (h:I n s) :
  codeAny (model prog w) A (.compLoop (.ListComp elt [⟨target,iter,ifs,0⟩] scope pos) 0 it acc env) R s:=by
 refine codeAny_loop rfl I (fun n s hI=>?_) n h
 show wpAny _ A ((compTurn (.ListComp elt [⟨target,iter,ifs,0⟩] scope pos) 0 it acc env).onRaise (fun x=>do noteFrame x env;theTreesLotGoes x)) _ _ s
 refine wpAny_noted ?_
 rw[compTurn_list]
 refine oI (Q:=_) (E:=E) ?_ (fun _ _ q=>q) hE
 refine ag (wpAny_standAt (ag (oI (turn n s hI) (fun r eL Mb=>?_) fun _ _ h'=>h')))
 cases r with
 |none=>exact aI Mb
 |some v =>
  refine ag (oI Mb (fun _ eR h₀=>?_) fun _ _ h'=>h')
  refine ag (oI h₀ (fun _ D9 bD'=>ag (oI bD' (fun ok gi V9=>?_) fun _ _ h'=>h')) fun _ _ h'=>h')
  cases ok with
  |false=>exact aI ⟨rfl,V9⟩
  |true =>
   exact ag (ag (oI V9 (fun x V7 bE'=>ag (oI bE' (fun _ V8 bF'=>aI (aI ⟨rfl,bF'⟩)) fun _ _ h'=>h')) fun _ _ h'=>h'))
def nT(tn:Nat)(ix:List Nat)(σ:St):St:=List.replicate tn none++ix.map fun j=>(σ[j]?).join
def wK(wi:TI)(g:TG)(tc:TT)(te:TE)(tn:Nat)(ix:List Nat):TE:=fun σ H Q=>wi σ H fun J H1=>∀ D,H1 D=none ->
 ∃ W:Nat->Nat->St->Hp->Prop,(∃ m,W 0 m (nT tn ix σ) (upd H1 D (.lst [])))/\∀ i m τ H,W i m τ H ->
  (J.stop i H/\Q (.ref D) H)\/(J.go i H/\∃ (N1:St->V->Hp->Prop) (N2:St->Hp->Prop),
   (∀ mh v H4,N1 mh v H4->∃ ys m',H4 D=some (.lst ys)/\ys.length<sizeLine/\m'<m/\W (i+1) m' mh (upd H4 D (.lst (ys++[v])))) /\
   (∀ mh H3,N2 mh H3->∃ m',m'<m/\W (i+1) m' mh H3) /\
   ∀ x H',J.mE i H x H'->g x τ H' fun mh H2=>tc mh H2 fun b H3=>if b=true then te mh H3 (N1 mh) else N2 mh H3)
section
variable {X:Cx}{tg iter elt:Expr}{ifs:List Expr}{scope:Scope}{pos:Pos}{wi:TI}{g:TG}{tc:TT}{te:TE}{tn cn:List Str}{ix:List Nat}
structure cD(X:Cx)(scope:Scope)(tn cn:List Str)(ix:List Nat):Prop where
 kind:scope.kind=.function
 bG':∀ y∈scope.names,y.2≠.cell
 free:∀ y∈scope.names,y.2=.free->X.env.scope.names.lookup y.1=some .cell\/X.env.scope.names.lookup y.1=some .free
 names:∀ y∈scope.names,y.2=.local->scope.names.lookup y.1=some .local
 len:ix.length=cn.length
 cap:∀ (k j:Nat),ix[k]? = some j->∃ y,cn[k]? = some y/\X.N[j]? = some y/\(X.env.scope.names.lookup y=some .cell\/X.env.scope.names.lookup y=some .free)/\(y,NameKind.free)∈scope.names /\
  ((relabel scope X.env).names.lookup y=some .cell\/(relabel scope X.env).names.lookup y=some .free)
 all:∀ x,(relabel scope X.env).names.lookup x=some .cell\/(relabel scope X.env).names.lookup x=some .free->(x,NameKind.free)∈scope.names
theorem wG(O:cD X scope tn cn ix)(I:Inv X pins σ H s)(hf:∀ b∈fp,vF X pins H b)(hfs:∀ b∈fp,b<s.heap.objs.size)(hC:s.heap.objs.size<=C) :
  (aO X scope C (tn++cn) fp s H).Ok:=by
 have hG:∀ y∈scope.names,y.2=.free->∃ c,X.env.cells.lookup y.1=some c:=fun y hy hk=>I.ok.has y.1 (O.free y hy hk)
 have sub:∀ x c,(rj X.env scope.names []).lookup x=some c->X.env.cells.lookup x=some c:=fun x c e=>nZ hG (fun y d h=>by simp at h) e
 refine⟨I.ok.mod,O.kind,I.ok.glob,I.ok.blt,hC,fun x y c h1 h2=>I.ok.inj x y c (sub x c h1) (sub y c h2),fun x hx=>jB (.inl (O.all x hx)),(fun x c h _=>nomatch h),I.ok.hd,I.ok.frames,.inl rfl,fun b hb=>⟨?_,fun x c e=>?_⟩,
  I.bs,gS I.ok.tP I.sz,fun b o e hb=>?_,fun b hb=>?_,I.stack,I.Qz⟩
 ·exact eM (kN (hfs b hb) hC)
 ·exact(hf b hb).2.2.2.2.1 x c (sub x c e)
 ·rcases (hf b hb).2.2.2.1 with z|z
  ·exact I.ok.yB b o e z
  ·exact absurd (kN (dy e) (gS I.ok.tP z)) (B3 _)
 ·intro hz
  rcases df.mp (I.Qy b hz) with e|e
  ·exact(hf b hb).2.1 e
  ·exact(hf b hb).2.2.1 e
theorem sZ{P:Value->Shared->Prop}(hc:X.calm=true)(hi:PI X tg iter wi)(O:cD X scope tn cn ix)
  (hg:∀ C fp gi iA,PG (aO X scope C (tn++cn) fp gi iA) tg g) (vT:∀ C fp gi iA,AU (aO X scope C (tn++cn) fp gi iA) ifs tc) (he:∀ C fp gi iA,PE (aO X scope C (tn++cn) fp gi iA) elt te)
  (hs:∀ x,foldedSetIterable iter X.env x=pure x) (I:Inv X pins σ H s) (h:wK wi g tc te tn.length ix σ H Q)
  (fin:∀ (C D:Addr) (m:Str->Option Value) (H5:Hp) (s6:Shared) (r:Flow),Inv X pins σ H5 s6->s6.heap.Ns C m->H5 C=none->vF X pins H5 C->Q (.ref D) H5->compPost (model X.prog X.w) X.A X.xe use P (.ref D) C (.ok r) s6) :
  wpAny (model X.prog X.w) X.A (comprehension (.ListComp elt [⟨tg,iter,ifs,0⟩] scope pos) scope X.env gI' (newList []) false (eval iter X.env) use) P X.xe s:=by
 have hG:∀ y∈scope.names,y.2=.free->∃ c,X.env.cells.lookup y.1=some c:=fun y hy hk=>I.ok.has y.1 (O.free y hy hk)
 have sub:∀ x c,(rj X.env scope.names []).lookup x=some c->X.env.cells.lookup x=some c:=fun x c e=>nZ hG (fun y d h=>by simp at h) e
 refine wpAny_comprehension_free (use:=use) rfl hs (mQ hG) O.kind O.names (cc (hi pins s σ H _ I h) fun v s1 h1=>cc h1 fun QL s2 h2=>?_)
 obtain⟨it,fp,OV,J,H2,e,I2,T,sM,f2,h2⟩:=h2
 subst e
 obtain⟨W,⟨m0,w0⟩,turn⟩:=h2 s2.heap.objs.size (I2.aE.fresh (ck _))
 refine wpAny_newObj_type ?_
 have I3:Inv X pins σ (upd H2 s2.heap.objs.size (.lst [])) { s2 with heap:=s2.heap.push { cls:=.type "list",data:=.seq ([]:List Value).toArray } }:=I2.Rk (its:=[]) (t':=s2.toks) .nil (gV _)
 generalize hD:s2.heap.objs.size=D at *
 generalize V_:({ s2 with heap:=s2.heap.push { cls:=.type "list",data:=.seq ([]:List Value).toArray } }:Shared)=s3 at *
 have k23:∀ b o,s2.heap.get? b=some o->s3.heap.get? b=some o:=fun b o e=>by rw[<- V_];exact eW _ e
 have sz3:s3.heap.objs.size=D+1:=by rw[<- V_,<- hD];exact Heap.size_push ..
 have f3:∀ b∈fp,vF X pins (upd H2 D (.lst [])) b:=fun b hb=>by
  obtain⟨f0,fr⟩:=f2 b hb
  obtain⟨o,ho,_⟩:=T.obj _ _ sM b hb
  refine⟨?_,fr⟩
  rw[dP (eM (by rw[<- hD];exact dy ho))]
  exact f0
 have y6:OV 0 s3.heap:=T.keep _ _ _ sM fun b hb o e=>k23 b o e
 have lt3:∀ b∈fp,b<s3.heap.objs.size:=fun b hb=>by
  obtain⟨o,ho,_⟩:=T.obj _ _ y6 b hb
  exact dy ho
 refine wpAny_newFunctionEnv O.bG' (by intro y hy;simp at hy) (fun Mb bK' bL'=>?_) O.kind
 have EG:∀ b o,s3.heap.get? b=some o->Mb.get? b=some o:=fun b o e=>bL'.extBut b o (eM (dy e)) (eW _ e)
 -- the block's context
 have OW:=wG (C:=s3.heap.objs.size) O I3 f3 lt3 (ck _)
 have I4:Inv (aO X scope s3.heap.objs.size (tn++cn) fp s3 (upd H2 D (.lst []))) [] (nT tn.length ix σ) (upd H2 D (.lst [])) { s3 with heap:=Mb,toks:=s3.toks+([]:List (Str × Value)).length }:=by
  refine⟨OW,rfl,I3.bare,Un.kept EG,⟨_,bK',fun i x v e1 e2 e3=>?_⟩,fun x c e=>?_,I3.aE.fresh (ck _),fun x c e=>I3.ox x c (sub x c e),fun p hp=>absurd hp (by simp[aO]),I3.aE.kept EG,?_⟩
  ·have ki:tn.length<=i:=by
    by_cases q:i<tn.length
    ·unfold nT at e2
     rw[FE (by simpa using q),Qc] at e2
     simp[q] at e2
    ·lia
   unfold nT at e2
   rw[BM (by simpa using ki),Qg,ny] at e2
   have e1:(tn++cn)[i]? = some x:=e1
   rw[BM ki] at e1
   cases q:ix[i-tn.length]? with
   |none=>rw[q] at e2;cases e2
   |some j =>
    rw[q] at e2
    obtain⟨y,c1,c2,c3,c4,c5⟩:=O.cap _ _ q
    rw[c1] at e1;cases e1
    have e2:σ[j]?.join=some v:=Option.some.inj e2
    have ej:σ[j]? = some (some v):=by
     cases z:σ[j]? with
     |none=>rw[z] at e2;cases e2
     |some o=>rw[z] at e2;exact congrArg some e2
    obtain⟨m,hn,hl⟩:=I3.loc
    obtain⟨u,r,l⟩:=hl j x v c2 ej (c3.elim (fun z=>.inr (.inl z)) fun z=>.inr (.inr z))
    refine⟨u,r,.inr ⟨c5,?_⟩⟩
    rcases l with⟨hk,_⟩|⟨hk,c,Ob,hce⟩
    ·have hk:X.env.scope.names.lookup x=some .local:=hk
     rcases c3 with z|z
     ·rw[z] at hk;cases hk
     ·rw[z] at hk;cases hk
    ·obtain⟨c',vE⟩:=jB (env:=X.env) (cs:=[]) (Or.inl c4)
     have:=sub x c' vE
     rw[Ob] at this;cases this
     obtain⟨o,ho,hd⟩:=hce
     exact⟨c,vE,o,EG _ _ ho,hd⟩
  ·obtain⟨v,o,ho,hd⟩:=I3.cell x c (sub x c e)
   exact⟨v,o,EG _ _ ho,hd⟩
  ·show(nT tn.length ix σ).length=(tn++cn).length
   unfold nT
   simp[O.len]
 -- from the block back to the body
 have back:∀ {τ:St} {H':Hp} {s':Shared},Inv (aO X scope s3.heap.objs.size (tn++cn) fp s3 (upd H2 D (.lst []))) [] τ H' s'->Inv X pins σ H' s':=fun {τ H' s'} I' =>
  Inv.YJ (ch:=fp) I3 I'.os I'.base I'.aE I'.bare fun b hb=>by
   obtain⟨_,f1,_,f3',f4,f5⟩:=f3 b hb
   exact⟨f3',f1,f4,f5⟩
 have Rq:∀ {H':Hp},(∀ b∈fp,H' b=none)->∀ b∈fp,vF (aO X scope s3.heap.objs.size (tn++cn) fp s3 (upd H2 D (.lst []))) [] H' b:=fun hn b hb =>
  ⟨hn b hb,(OW.AB b hb).1,OW.yT b hb,.inl hb,(OW.AB b hb).2,fun p hp=>absurd hp (by simp[aO])⟩
 have loop:∀ s4:Shared,Inv (aO X scope s3.heap.objs.size (tn++cn) fp s3 (upd H2 D (.lst []))) [] (nT tn.length ix σ) (upd H2 D (.lst [])) s4->OV 0 s4.heap ->
   codeAny (model X.prog X.w) X.A (.compLoop (.ListComp elt [⟨tg,iter,ifs,0⟩] scope pos) 0 (.ref it) (.ref D) (compEnvC scope (rj X.env scope.names []) s3.heap.objs.size X.env))
    (compPost (model X.prog X.w) X.A X.xe use P (.ref D) s3.heap.objs.size) s4:=by
  intro s4 I4 st4
  refine fL (fun n s'=>∃ i τ H',Inv (aO X scope s3.heap.objs.size (tn++cn) fp s3 (upd H2 D (.lst []))) [] τ H' s'/\OV i s'.heap/\(∀ b∈fp,H' b=none)/\W i n τ H') (fun _ _=>False) ?_ (fun _ _ z=>z.elim) m0
   ⟨0,_,_,I4,st4,fun b hb=>(f3 b hb).1,w0⟩
  rintro n s5 ⟨i,τ,H5,I5,GO,Ol,w5⟩
  rcases turn i n τ H5 w5 with⟨stop,qn⟩|⟨go,N1,N2,hN1,EH,step⟩
  ·refine cc (T.done (aO X scope s3.heap.objs.size (tn++cn) fp s3 (upd H2 D (.lst []))) rfl rfl rfl hc i [] s5 τ H5 (fun _ _=>False) I5 (Rq Ol) GO stop) fun r s6 cy=>?_
   obtain⟨hr,I6⟩:=cy
   subst hr
   have J6:=back I6
   obtain⟨m,hn,_⟩:=I6.loc
   exact fin _ D m H5 s6 _ J6 hn I6.free (I3.LH (b:=s3.heap.objs.size) (H':=H5) (ck _) I6.free) qn
  ·refine cc (T.item (aO X scope s3.heap.objs.size (tn++cn) fp s3 (upd H2 D (.lst []))) rfl rfl rfl hc i [] s5 τ H5 (fun _ _=>False) I5 (Rq Ol) GO go) fun r s6 cy=>?_
   obtain⟨u,hr,h6⟩:=cy
   subst hr
   refine cc h6 fun _ s7 cy=>?_
   obtain⟨x,H7,I7,r7,y7,Rr,fr7⟩:=cy
   have I7':=I7.pinned (Rq fr7) (T.obj _ _ Rr)
   refine cc (hg _ _ _ _ _ s7 τ H7 x u _ I7' r7 (step x H7 y7)) fun _ s8 cy=>?_
   obtain⟨GY,H8,I8,q8⟩:=cy
   refine cc (vT _ _ _ _ _ s8 GY H8 _ I8 q8) fun ok s9 cy=>?_
   obtain⟨H9,I9,q9⟩:=cy
   have again:∀ {s':Shared} {H':Hp} {m':Nat},Inv (aO X scope s3.heap.objs.size (tn++cn) fp s3 (upd H2 D (.lst []))) ([]++LJ fp s7.heap) GY H' s'->m'<n->W (i+1) m' GY H' ->
     ∃ m,m<n/\∃ i τ H',Inv (aO X scope s3.heap.objs.size (tn++cn) fp s3 (upd H2 D (.lst []))) [] τ H' s'/\OV i s'.heap/\(∀ b∈fp,H' b=none)/\W i m τ H':=fun {s' H' m'} J hm w'=>by
    refine⟨m',hm,i+1,GY,H',J.Oj,T.keep _ _ _ Rr fun b hb o e=>(J.pin (b,o) (fF _ (fF _ (Oi hb e)))).1,fun b hb=>?_,w'⟩
    obtain⟨o,e,d⟩:=T.obj _ _ Rr b hb
    exact(J.pin (b,o) (fF _ (fF _ (Oi hb e)))).2.1
   cases ok with
   |false =>
    rw[if_neg iq] at q9 ⊢
    obtain⟨m',hm,w'⟩:=EH _ _ q9
    exact again I9 hm w'
   |true =>
    rw[if_pos rfl] at q9 ⊢
    refine cc (he _ _ _ _ _ s9 GY H9 _ I9 q9) fun x9 s10 cf=>L2.fq cf fun v10 Wa I10 Rt q10=>?_
    obtain⟨ys,m',hH,hz,hm,w'⟩:=hN1 _ _ _ q10
    refine cc (OD _ s10 GY Wa (.ref D) [v10] (.ref D) [x9] (fun _ H'=>H'=upd Wa D (.lst (ys++[v10]))) I10 rfl (.cons Rt .nil) ⟨D,ys,v10,rfl,rfl,hH,hz,rfl⟩) fun _ s11 cf=>L2.fq cf fun _ H11 I11 _ q11=>?_
    subst q11
    exact again I11 hm w'
 exact codeAny_compStart_list (loop _ I4 (T.keep _ _ _ y6 fun b hb o e=>EG b o e)) (T.self _ 0 _ _ _ (T.keep _ _ _ y6 fun b hb o e=>EG b o e) (loop _ I4 (T.keep _ _ _ y6 fun b hb o e=>EG b o e)))
theorem BZ(hc:X.calm=true)(hi:PI X tg iter wi)(O:cD X scope tn cn ix)
  (hg:∀ C fp gi iA,PG (aO X scope C (tn++cn) fp gi iA) tg g) (vT:∀ C fp gi iA,AU (aO X scope C (tn++cn) fp gi iA) ifs tc) (he:∀ C fp gi iA,PE (aO X scope C (tn++cn) fp gi iA) elt te)
  (hs:∀ x,foldedSetIterable iter X.env x=pure x:=by intro _;rfl):PE X (.ListComp elt [⟨tg,iter,ifs,0⟩] scope pos) (wK wi g tc te tn.length ix):=by
 intro pins s σ H Q I h
 rw[eval_ListComp]
 refine sZ (use:=none) (P:=EP X pins σ Q) hc hi O hg vT he hs I h fun C D m H5 s6 r J6 hn hf ⟨_,g1,_,g3,g4,g5⟩ qn=>⟨m,hn,fun h' Ru=>⟨.ref D,H5,?_,rfl,qn⟩⟩
 exact J6.turned (t':=s6.toks) (fun b o hb e=>Ru.extBut b o hb e) hf g1 g3 g4 g5
theorem uM(hN:X.N.Nodup)(w_:X.N[i]? = some x)(hx:Loc X.env.scope x)(hc:X.calm=true)(hi:PI X tg iter wi)(O:cD X scope tn cn ix)
  (hg:∀ C fp gi iA,PG (aO X scope C (tn++cn) fp gi iA) tg g) (vT:∀ C fp gi iA,AU (aO X scope C (tn++cn) fp gi iA) ifs tc) (he:∀ C fp gi iA,PE (aO X scope C (tn++cn) fp gi iA) elt te)
  (Rv:swapsWith (.ListComp elt [⟨tg,iter,ifs,0⟩] scope pos) (some (.Name x pos')) OX.line X.env=pure true)
  (hs:∀ x,foldedSetIterable iter X.env x=pure x:=by intro _;rfl) (hf:X.fn x=true\/X.env.scope.names.lookup x=some .local:=by first|exact .inl rfl|exact .inr rfl|assumption) :
  PS X (.Assign [.Name x pos'] (.ListComp elt [⟨tg,iter,ifs,0⟩] scope pos) OX) (Vc (wK wi g tc te tn.length ix) (QK i)):=by
 intro pins s σ H D0 I h
 rw[exec_Assign_Name_used _ _ _ _ Rv]
 refine ag (wpAny_standAt (ag ?_))
 show wpAny _ _ (do let _ <- comprehension (.ListComp elt [⟨tg,iter,ifs,0⟩] scope pos) scope X.env _ (newList []) false (eval iter X.env) (some (assign (.Name x pos') X.env))) _ _ s
 refine ag (oI (sZ (use:=some (assign (.Name x pos') X.env)) (P:=fun _ s'=>SP X pins D0 .next s') hc hi O hg vT he hs I h fun C D m H5 s6 r J6 hn CD ⟨_,g1,_,g3,g4,g5⟩ qn=>?_) (fun _ s' hq=>aI (aI hq)) fun _ _ e=>e)
 refine(show wpAny _ _ (assign (.Name x pos') X.env (.ref D)) _ _ s6 from wpAny_assign_Name (QD J6 hN w_ hx (v:=.ref D) rfl (fun s7 I7 cy=>?_) hf))
 obtain⟨a,sb,ha⟩:=cy
 have hCa:C≠a:=by
  rcases ha with rfl|ha
  ·exact g1
  ·exact Ne.symm (g4 _ a ha)
 refine⟨m,hn.sameBut sb hCa,fun h' Ru=>⟨_,H5,?_,qn⟩⟩
 exact I7.turned (t':=s7.toks) (fun b o hb e=>Ru.extBut b o hb e) CD g1 g3 g4 g5
end
def G0 (a b:String):Bool:=a == b || (a == "bool" && b == "int")
def Rw (b:String):Bool:=["str", "int", "bool", "list", "tuple", "dict"].contains b
theorem iB (K:PySem.W.Frag) (a b:String) (ha:a∈["NoneType", "bool", "int", "str", "list", "tuple", "dict"]) (hb:b∈["str", "int", "bool", "list", "tuple", "dict"]):PySem.W.kitOne K (.type a) (.type b)=some (G0 a b):=by
 simp only[df,zS,or_false] at ha hb
 rcases ha with rfl|rfl|rfl|rfl|rfl|rfl|rfl<;>rcases hb with rfl|rfl|rfl|rfl|rfl|rfl<;>kernel_rfl
section
variable {X:Cx}
theorem cS.imp(h:cS X f r)(hi:∀ x y H Q,r' x y H Q->r x y H Q):cS X f r' :=
 fun pins s σ H x y v u Q I rx ry q=>h pins s σ H x y v u Q I rx ry (hi x y H Q q)
def HR(K:PySem.W.Frag):R2:=fun x y H Q=>∃ l b xs zs,x=.ref l/\y=.ref b/\eB K H l xs/\eB K H b zs/\xs.length+zs.length<=sizeLine/\∀ p,H p=none->Q (.ref p) (upd H p (.lst (xs++zs)))
theorem DY:cS X (binaryOp .Add) (HR X.K):=by
 intro pins s σ H x y v u Q I rx ry h
 obtain⟨l,b,xs,zs,rfl,rfl,hH,hB,hz,q⟩:=h
 cases rx
 cases ry
 obtain⟨its,r,pl,z⟩:=I.list hH
 obtain⟨AJ,r2,pl2,z2⟩:=I.list hB
 have hl:=r.length
 have EB:=r2.length
 obtain⟨⟨cls,dd,data,sl⟩,ho,hc,n,hd⟩:=id pl.isList
 obtain⟨⟨Q_,qS,data2,qV⟩,oS,q0,n2,hd2⟩:=id pl2.isList
 simp only at hc hd q0 hd2
 subst hc hd q0 hd2
 have ea:its.toArray++AJ.toArray=(its++AJ).toArray:=by simp
 refine concat_meets ⟨_,ho,rfl⟩ ⟨_,oS,rfl⟩ noFill_list_add seq_list_add PySem.F.slot_list_add PySem.F.entry_list_add (PySem.F.args_list_add_2 _ _) (list_addW l b its.toArray AJ.toArray n n2 dd qS sl qV (by simp only[hX];lia)) ⟨ho,oS,?_⟩
 rw[ea]
 exact⟨.ref _,_,I.Rk (t':=s.toks) (r.append r2) (by rw[kA];lia),rfl,q _ I.fresh⟩
def yw(K:PySem.W.Frag):R2:=fun x y H Q=>match x,y with
 |.int i,.int j=>Q (.int (i+j)) H
 |.str i,.str j=>i.length+j.length<=sizeLine/\Q (.str (i++j)) H
 |.ref a,.ref b=>∃ xs zs,eB K H a xs/\eB K H b zs/\xs.length+zs.length<=sizeLine/\∀ p,H p=none->Q (.ref p) (upd H p (.lst (xs++zs)))
 |_,_=>False
theorem Eb:cS X (binaryOp .Add) (yw X.K):=by
 refine(ZE.or (Z1.or DY)).imp fun x y H Q h=>?_
 unfold yw at h
 split at h
 ·exact .inl ⟨_,_,rfl,rfl,h⟩
 ·exact .inr (.inl ⟨_,_,rfl,rfl,h.1,h.2⟩)
 ·obtain⟨xs,zs,h1,h2,h3,h4⟩:=h
  exact .inr (.inr ⟨_,_,xs,zs,rfl,rfl,h1,h2,h3,h4⟩)
 ·exact h.elim
def Cv:R2:=fun x y H Q=>match x,y with
 |.int i,.int j=>Q (.int (i-j)) H
 |_,_=>False
theorem Dk:cS X (binaryOp .Sub) Cv:=ZF.imp fun x y H Q h=>by
 unfold Cv at h
 split at h
 ·exact⟨_,_,rfl,rfl,h⟩
 ·exact h.elim
def C_:R2:=fun x y H Q=>match x,y with
 |.int i,.int j=>Ee i j/\Q (.int (i*j)) H
 |_,_=>False
theorem Ce:cS X (binaryOp .Mult) C_:=ZG.imp fun x y H Q h=>by
 unfold C_ at h
 split at h
 ·exact⟨_,_,rfl,rfl,h.1,h.2⟩
 ·exact h.elim
def CJ:R2:=fun x y H Q=>match x,y with
 |.int i,.int j=>(0<j/\j<1073741824)/\Q (.int (i / j)) H
 |_,_=>False
theorem Bg:cS X (binaryOp .FloorDiv) CJ:=ZH.imp fun x y H Q h=>by
 unfold CJ at h
 split at h
 ·exact⟨_,_,rfl,rfl,h.1,h.2⟩
 ·exact h.elim
def Ck:R2:=fun x y H Q=>match x,y with
 |.int i,.int j=>0<j/\Q (.int (i % j)) H
 |_,_=>False
theorem DN:cS X (binaryOp .Mod) Ck:=ZI.imp fun x y H Q h=>by
 unfold Ck at h
 split at h
 ·exact⟨_,_,rfl,rfl,h.1,h.2⟩
 ·exact h.elim
def CG:R2:=fun x y H Q=>match x,y with
 |.int i,.int j=>GU i j/\Q (.int (i ^ j.toNat)) H
 |_,_=>False
theorem Dl:cS X (binaryOp .Pow) CG:=ZJ.imp fun x y H Q h=>by
 unfold CG at h
 split at h
 ·exact⟨_,_,rfl,rfl,h.1,h.2⟩
 ·exact h.elim
def oz(x y:Str):Bool:=decide (x.cps.toList<y.cps.toList)
def Rx:R2:=fun x y H Q=>match x,y with
 |.int i,.int j=>Q (.bl (decide (i<j))) H
 |.str i,.str j=>Q (.bl (oz i j)) H
 |_,_=>False
theorem Aj:cS X (compareOp .Lt) Rx:=(ZQ.or ZS).imp fun x y H Q h=>by
 unfold Rx at h
 split at h
 ·exact .inl ⟨_,_,rfl,rfl,h⟩
 ·exact .inr ⟨_,_,rfl,rfl,h⟩
 ·exact h.elim
theorem wN:cS X (compareOp .LtE) (fun x y H Q=>∃ i j,x=.str i/\y=.str j/\Q (.bl (!oz j i)) H):=by
 intro pins s σ H x y v u Q I rx ry h
 obtain⟨i,j,rfl,rfl,q⟩:=h
 obtain⟨t,rfl⟩:=rx
 obtain⟨t',rfl⟩:=ry
 exact PySem.P.le_str ⟨.bl _,H,I,rfl,q⟩
def Ry:R2:=fun x y H Q=>match x,y with
 |.int i,.int j=>Q (.bl (decide (i<=j))) H
 |.str i,.str j=>Q (.bl (!oz j i)) H
 |_,_=>False
theorem En:cS X (compareOp .LtE) Ry:=(ZR.or wN).imp fun x y H Q h=>by
 unfold Ry at h
 split at h
 ·exact .inl ⟨_,_,rfl,rfl,h⟩
 ·exact .inr ⟨_,_,rfl,rfl,h⟩
 ·exact h.elim
theorem Inv.rd(I:Inv X pins σ H s)(e:Rd H a u):eP X.prog X.w H s.heap a u:=e.elim (I.aE a _) fun⟨o,e⟩=>(show eP X.prog X.w H s.heap a (.mw o u) from I.aE a _ e).2
def OY(K:PySem.W.Frag):List V->Hp->VK->Prop:=fun xs H Q=>match xs with
 |[.str y]=>y.length<=sizeLine/\Q (.int y.length) H
 |[.ref p]=>(∃ ys,eB K H p ys/\Q (.int ys.length) H)\/(∃ ys,jI K H p ys/\Q (.int ys.length) H)\/∃ kvs,Rd H p (.dK kvs)/\Q (.int kvs.length) H
 |_=>False
theorem vm:kb X (.builtin "len") (OY X.K):=by
 intro pins s σ H xs us Q I r h
 unfold OY at h
 split at h
 ·exact QZ pins s σ H _ us Q I r ⟨_,_,rfl,⟨h.1,rfl⟩,h.2⟩
 ·rcases h with⟨ys,h1,h2⟩|⟨ys,h1,h2⟩|⟨kvs,h1,h2⟩
  ·exact QZ pins s σ H _ us Q I r ⟨_,_,rfl,.inl ⟨ys,h1,rfl⟩,h2⟩
  ·exact QZ pins s σ H _ us Q I r ⟨_,_,rfl,.inr ⟨ys,h1,rfl⟩,h2⟩
  ·obtain⟨u,rfl,ru⟩:=vals1 r
   cases ru
   exact bb' I h1 fun t s' I'=>⟨.int kvs.length,H,I',⟨t,rfl⟩,h2⟩
 ·exact h.elim
def OZ(K:PySem.W.Frag):R2:=fun x y H Q=>match x,y with
 |.ref p,.int i=>(∃ xs v,eB K H p xs/\eT xs i=some v/\Q v H)\/∃ xs v,jI K H p xs/\eT xs i=some v/\Q v H
 |.str z,.int i=>z.length<=sizeLine/\∃ c,eT z.cps.toList i=some c/\Q (.str ⟨#[c]⟩) H
 |_,_=>False
theorem Ao:tT X (OZ X.K):=by
 intro value slice pins s σ H x y v u Q I rx ry h hs
 refine aB' value slice pins s σ H x y v u Q I rx ry ?_ hs
 unfold OZ at h
 split at h
 ·rcases h with⟨xs,w,h1,h2,h3⟩|⟨xs,w,h1,h2,h3⟩
  ·exact .inl ⟨_,xs,_,w,rfl,rfl,h1,h2,h3⟩
  ·exact .inr (.inl ⟨_,xs,_,w,rfl,rfl,h1,h2,h3⟩)
 ·obtain⟨h1,c,h2,h3⟩:=h
  exact .inr (.inr ⟨_,_,c,rfl,rfl,h1,h2,h3⟩)
 ·exact h.elim
def pd(z:Str)(lo hi:Option Int):Str:=⟨((z.cps.toList.drop (HT.bP z.length 0 lo)).take (HT.bP z.length z.length hi-HT.bP z.length 0 lo)).toArray⟩
end
theorem xu(l:List Nat)(lo hi:Option Int)(h:((l.drop (HT.bP l.length 0 lo)).take (HT.bP l.length l.length hi-HT.bP l.length 0 lo)).length=l.length) :
  (l.drop (HT.bP l.length 0 lo)).take (HT.bP l.length l.length hi-HT.bP l.length 0 lo)=l:=by
 generalize HT.bP l.length 0 lo=a at *
 generalize HT.bP l.length l.length hi=b at *
 by_cases hl:l.length=0
 ·have:l=[]:=NF.mp hl
  subst this;simp
 ·rw[vn,DT] at h
  have h1:a=0:=by lia
  subst h1
  rw[List.drop_zero]
  exact List.take_of_length_le (by lia)
theorem wZ(lo hi:Option Int)(n:Nat):Builtin.Str.strSliceIndices lo hi 1 n=(List.range (HT.bP n n hi-HT.bP n 0 lo)).map (HT.bP n 0 lo + ·):=by
 unfold Builtin.Str.strSliceIndices
 have e1:(match lo with|none=>(0:Int)|some i=>max 0 (min (if i<0 then i+n else i) n))=((HT.bP n 0 lo:Nat):Int):=by
  cases lo with
  |none=>simp[HT.bP]
  |some i =>
   simp only[HT.bP]
   by_cases h:i<0
   ·simp only[h,if_true]<;>lia
   ·simp only[h,if_false]<;>lia
 have e2:(match hi with|none=>(n:Int)|some i=>max 0 (min (if i<0 then i+n else i) n))=((HT.bP n n hi:Nat):Int):=by
  cases hi with
  |none=>simp[HT.bP]
  |some i =>
   simp only[HT.bP]
   by_cases h:i<0
   ·simp only[h,if_true]<;>lia
   ·simp only[h,if_false]<;>lia
 rw[<- sliceRange_one,<- e1,<- e2]
 simp only[show(1:Int)>0 by decide,if_true]
 cases lo<;>cases hi<;>rfl
section
variable {X:Cx}
theorem part_of(h:IsPart v o):∃ p:Option (Int × Tok),v=partValue p/\p.map (·.1)=o:=by
 cases h with
 |none=>exact⟨none,rfl,rfl⟩
 |int i t=>exact⟨some (i,t),rfl,rfl⟩
def Rz(K:PySem.W.Frag):V->Option Int->Option Int->Hp->VK->Prop:=fun x lo hi H Q=>match x with
 |.str z=>z.length<=sizeLine/\Q (.str (pd z lo hi)) H
 |.ref a=>∃ xs,eB K H a xs/\∀ p,H p=none->Q (.ref p) (upd H p (.lst (AI xs lo hi)))
 |_=>False
theorem Gb:GV X (fun x lo hi H Q=>∃ z,x=.str z/\z.length<=sizeLine/\Q (.str (pd z lo hi)) H):=by
 intro pins s σ H x v vl vu lo hi sl Q I rx hs pl pu h
 obtain⟨z,rfl,hz,q⟩:=h
 obtain⟨t,rfl⟩:=rx
 obtain⟨p1,rfl,e1⟩:=part_of pl
 obtain⟨p2,rfl,e2⟩:=part_of pu
 refine⟨"str",_,F.slot_str_getitem.lookup,typeIs_str s z t,wpAny_getItem_str_slice (l:=p1) (u:=p2) (st:=none) hs rfl ?_⟩
 have hl:z.cps.toList.length=z.length:=by simp[Str.length]
 have ep:slicePicked z p1 p2 none=(List.range (HT.bP z.length z.length hi-HT.bP z.length 0 lo)).map (HT.bP z.length 0 lo + ·):=by
  unfold slicePicked
  rw[e1,e2]
  exact wZ lo hi z.length
 have ef:(slicePicked z p1 p2 none).filterMap (z.cps[·]?)=(z.cps.toList.drop (HT.bP z.length 0 lo)).take (HT.bP z.length z.length hi-HT.bP z.length 0 lo):=by
  rw[ep];exact pick_run z.cps _ _
 unfold sliceMade
 split
 ·rename_i hc
  have hw:(slicePicked z p1 p2 none).length=z.length:=by simpa using hc
  have:pd z lo hi=z:=by
   unfold pd
   have e3:((z.cps.toList.drop (HT.bP z.cps.toList.length 0 lo)).take (HT.bP z.cps.toList.length z.cps.toList.length hi-HT.bP z.cps.toList.length 0 lo)).length=z.cps.toList.length:=by
    rw[hl,vn,DT,hl]
    rw[ep,bT,Ql] at hw
    have h0:HT.bP z.length 0 lo<=z.length:=by
     cases lo with
     |none=>simp[HT.bP]
     |some i=>simp only[HT.bP];split<;>lia
    have h1:HT.bP z.length z.length hi<=z.length:=by
     cases hi with
     |none=>simp[HT.bP]
     |some i=>simp only[HT.bP];split<;>lia
    lia
   have:=xu z.cps.toList lo hi e3
   rw[hl] at this
   rw[this]
  rw[this] at q
  exact⟨.str z,H,I,⟨t,rfl⟩,q⟩
 ·rw[ef]
  exact⟨by
   show(pd z lo hi).length<=sizeLine
   unfold pd Str.length
   simp only[hX,vn,DT,hl]
   have:z.cps.toList.length=z.length:=hl
   lia,⟨.str (pd z lo hi),H,I.tok _,⟨_,rfl⟩,q⟩⟩
theorem Gs:GV X (Rz X.K):=by
 intro pins s σ H x v vl vu lo hi sl Q I rx hs pl pu h
 unfold Rz at h
 split at h
 ·exact Gb pins s σ H _ v vl vu lo hi sl Q I rx hs pl pu ⟨_,rfl,h.1,h.2⟩
 ·obtain⟨xs,h1,h2⟩:=h
  exact aF' pins s σ H _ v vl vu lo hi sl Q I rx hs pl pu ⟨_,xs,rfl,h1,h2⟩
 ·exact h.elim
end
structure k_(J:It)(its:List V)(cond:Hp->Prop):Prop where
 go:∀ i H,cond H->i<its.length->J.go i H
 mE:∀ i H x H',cond H->i<its.length->J.mE i H x H'->H'=H/\its[i]? = some x
 stop:∀ H,cond H->J.stop its.length H
theorem yL(K:PySem.W.Frag)(a:Addr)(xs:List V):k_ (Oh K a) xs (fun H=>eB K H a xs) where
 go:=fun i H h hi=>⟨xs,xs[i],h,by simp[hi]⟩
 mE:=fun i H x H' h _ y=>⟨y.1,y.2 xs h⟩
 stop:=fun H h=>⟨xs,h,ck _⟩
theorem DK(K:PySem.W.Frag)(a:Addr)(xs:List V):k_ (QQ K a) xs (fun H=>jI K H a xs) where
 go:=fun i H h hi=>⟨xs,xs[i],h,by simp[hi]⟩
 mE:=fun i H x H' h _ y=>⟨y.1,y.2 xs h⟩
 stop:=fun H h=>⟨xs,h,ck _⟩
def wu(lo:Int)(n:Nat):List V:=(List.range n).map fun i=>.int (lo+(i:Nat))
theorem BK(lo:Int)(n:Nat):k_ (GN lo n) (wu lo n) (fun _=>True) where
 go:=fun i H _ h=>by simpa[wu,GN] using h
 mE:=fun i H x H' _ hi h=>by
  have hi:i<n:=by simpa[wu] using hi
  obtain⟨rfl,rfl⟩:=h
  refine⟨rfl,?_⟩
  simp[wu,hi]
 stop:=fun H _=>by simp[wu,GN]
def bZ'(J:It)(g:TG)(tb:TS)(D:Ends)(σ:St)(H:Hp):Prop :=
 ∃ W:Nat->Nat->St->Hp->Prop,(∃ m,W 0 m σ H)/\∀ i m σ H,W i m σ H ->
   (J.stop i H/\D.nx σ H)\/(J.go i H/\∃ N:St->Hp->Prop,(∀ bp H',N bp H'->∃ m',m'<m/\W (i+1) m' bp H')/\∀ x H',J.mE i H x H'->g x σ H' fun ka H2=>tb { D with nx:=N,ct:=N,bk:=D.nx } ka H2)
theorem Bm(wi:TI)(g:TG)(tb:TS)(D:Ends)(σ:St)(H:Hp):Vf wi g tb D σ H=wi σ H fun J H1=>bZ' J g tb D σ H1:=rfl
def Hr(J:It)(g:TG)(tc:TT)(te:TE)(τ0:St)(H1:Hp)(D:Addr)(Q:VK):Prop :=
 ∃ W:Nat->Nat->St->Hp->Prop,(∃ m,W 0 m τ0 (upd H1 D (.lst [])))/\∀ i m τ H,W i m τ H ->
  (J.stop i H/\Q (.ref D) H)\/(J.go i H/\∃ (N1:St->V->Hp->Prop) (N2:St->Hp->Prop),
   (∀ mh v H4,N1 mh v H4->∃ ys m',H4 D=some (.lst ys)/\ys.length<sizeLine/\m'<m/\W (i+1) m' mh (upd H4 D (.lst (ys++[v])))) /\
   (∀ mh H3,N2 mh H3->∃ m',m'<m/\W (i+1) m' mh H3) /\
   ∀ x H',J.mE i H x H'->g x τ H' fun mh H2=>tc mh H2 fun b H3=>if b=true then te mh H3 (N1 mh) else N2 mh H3)
theorem zQ(wi:TI)(g:TG)(tc:TT)(te:TE)(tn:Nat)(ix:List Nat)(σ:St)(H:Hp)(Q:VK):wK wi g tc te tn ix σ H Q=wi σ H fun J H1=>∀ D,H1 D=none->Hr J g tc te (nT tn ix σ) H1 D Q:=rfl
mutual
inductive Rep(K:PySem.W.Frag)(H:Hp):PyData->V->Prop
 |none:Rep K H .none .non
 |bool (b:Bool):Rep K H (.bool b) (.bl b)
 |int (i:Int):Rep K H (.int i) (.int i)
 |str (x:Str):Rep K H (.str x) (.str x)
 |list {a:Addr} {vs:List V} {ds:List PyData}:eB K H a vs->aS K H ds vs->Rep K H (.list ds) (.ref a)
 |tuple {a:Addr} {vs:List V} {ds:List PyData}:jI K H a vs->aS K H ds vs->Rep K H (.tuple ds) (.ref a)
inductive aS(K:PySem.W.Frag)(H:Hp):List PyData->List V->Prop
 |nil:aS K H [] []
 |cons {d:PyData} {v:V} {ds:List PyData} {vs:List V}:Rep K H d v->aS K H ds vs->aS K H (d :: ds) (v :: vs)
end
section
variable {X:Cx}{pins:List (Addr × Obj)}{σ:St}{H:Hp}{s:Shared}
mutual
theorem Rep.reads(I:Inv X pins σ H s):∀ {d:PyData} {v:V} {u:Value},Rep X.K H d v->RelV v u->∃ as,Reads s.heap u d as
 |_,_,_,.none,r=>by cases (show _=Value.none from r);exact⟨_,.none⟩
 |_,_,_,.bool b,r=>by cases (show _=Value.bool b from r);exact⟨_,.bool b⟩
 |_,_,_,.int i,r=>by obtain⟨t,e⟩:=r;subst e;exact⟨_,.int i t⟩
 |_,_,_,.str x,r=>by obtain⟨t,e⟩:=r;subst e;exact⟨_,.str x t⟩
 |_,_,_,.list h hs,r=>by
  cases r
  obtain⟨its,rv,pl,_⟩:=I.list h
  obtain⟨o,e,c,n,d⟩:=pl.isList
  obtain⟨as,q⟩:=aS.reads I hs rv
  exact⟨_,.list e c d q⟩
 |_,_,_,.tuple h hs,r=>by
  cases r
  obtain⟨its,rv,⟨o,e,c,n,d⟩,_⟩:=I.tuple h
  obtain⟨as,q⟩:=aS.reads I hs rv
  exact⟨_,.tuple e c d q⟩
theorem aS.reads(I:Inv X pins σ H s):∀ {ds:List PyData} {vs:List V} {us:List Value},aS X.K H ds vs->Vals vs us->∃ as,ReadsAll s.heap us ds as
 |_,_,_,.nil,.nil=>⟨_,.nil⟩
 |_,_,_,.cons h hs,.cons r rs=>by
  obtain⟨as,q⟩:=Rep.reads I h r
  obtain⟨bs,q'⟩:=aS.reads I hs rs
  exact⟨_,.cons q q'⟩
end
def RA(K:PySem.W.Frag):R2:=fun x y H Q=>∃ d e,Rep K H d x/\Rep K H e y/\d.canLay0=true/\e.canLay0=true/\d.depth<=60/\Q (.bl (PyData.eqv d e)) H
def RC(K:PySem.W.Frag):R2:=fun x y H Q=>∃ d e,Rep K H d x/\Rep K H e y/\d.canLay0=true/\e.canLay0=true/\d.depth<=60/\Q (.bl (!PyData.eqv d e)) H
theorem Fb(hu:X.A.units+64<cLine):cS X (compareOp .Eq) (RA X.K):=by
 intro pins s σ H x y v u Q I rx ry h
 obtain⟨d,e,h1,h2,h3,h4,h5,q⟩:=h
 obtain⟨as,r1⟩:=h1.reads I rx
 obtain⟨bs,r2⟩:=h2.reads I ry
 exact PySem.SeqAt.rcAt_reads r1 r2 h3 h4 (by lia) X.prog X.w X.xe _ ⟨.bl _,H,I,rfl,q⟩
theorem Gi(hu:X.A.units+64<cLine):cS X (compareOp .NotEq) (RC X.K):=by
 intro pins s σ H x y v u Q I rx ry h
 obtain⟨d,e,h1,h2,h3,h4,h5,q⟩:=h
 obtain⟨as,r1⟩:=h1.reads I rx
 obtain⟨bs,r2⟩:=h2.reads I ry
 exact PySem.SeqAt.rcNeAt_reads r1 r2 h3 h4 (by lia) X.prog X.w X.xe _ ⟨.bl _,H,I,rfl,q⟩
def O0(K:PySem.W.Frag):R2:=fun x y H Q=>match x,y with
 |.int i,.int j=>Q (.bl (decide (i=j))) H
 |.str i,.str j=>Q (.bl (decide (i=j))) H
 |.bl i,.bl j=>Q (.bl (decide (i=j))) H
 |_,_=>RA K x y H Q
theorem Gq(hu:X.A.units+64<cLine):cS X (compareOp .Eq) (O0 X.K):=(ZO.or (Fb hu)).imp fun x y H Q h=>by
 unfold O0 at h
 split at h
 ·refine .inl ⟨rfl,?_⟩;simpa using h
 ·refine .inl ⟨rfl,?_⟩;simpa using h
 ·refine .inl ⟨rfl,?_⟩;simpa using h
 ·exact .inr h
def O1(K:PySem.W.Frag):R2:=fun x y H Q=>match x,y with
 |.int i,.int j=>Q (.bl (!decide (i=j))) H
 |.str i,.str j=>Q (.bl (!decide (i=j))) H
 |.bl i,.bl j=>Q (.bl (!decide (i=j))) H
 |_,_=>RC K x y H Q
theorem Gf(hu:X.A.units+64<cLine):cS X (compareOp .NotEq) (O1 X.K):=(ZP.or (Gi hu)).imp fun x y H Q h=>by
 unfold O1 at h
 split at h
 ·refine .inl ⟨rfl,?_⟩;simpa using h
 ·refine .inl ⟨rfl,?_⟩;simpa using h
 ·refine .inl ⟨rfl,?_⟩;simpa using h
 ·exact .inr h
end
end L2
namespace L2
open PySem PySem.Spec PyProof.Rows
section
variable {X:Cx}{pins:List (Addr × Obj)}{σ:St}{H:Hp}{s:Shared}{h':Heap}
theorem Inv.Hg{t':Nat}{fp:List Addr}(I:Inv X pins σ H s)(hf:∀ b∈fp,vF X pins H b)(k:∀ b o,b∉fp->s.heap.get? b=some o->h'.get? b=some o):Inv X pins σ H { s with heap:=h',toks:=t' }:=by
 have B8:∀ b u,H b=some u->b∉fp:=fun b u e z=>by rw[(hf b z).1] at e;cases e
 refine I.step (g':=s.gens) (d':=s.drawn) (ch:=fp) (fun b hb=>?_) (fun b o _ _ hc e _=>k b o hc e) (fun b o _ _ hc e _=>⟨o.slots,k b o hc e⟩) (fun _ _ _ _ n=>n)
  (fun b o hc e=>⟨o,k b o hc e⟩) (fun _ _ e=>e) (fun _ _ _ e=>e) (fun b ps e=>⟨#[],by rw[e];simp⟩) (fun m hm=>?_) (fun b u e=>?_) I.bare
 ·obtain⟨f0,f1,f2,f3,f4,f5⟩:=hf b hb
  exact⟨f3,f1,f4,f5⟩
 ·obtain⟨o,es,ep,ho,r⟩:=hm
  exact⟨o,es,ep,k _ o (fun z=>(hf _ z).2.1 rfl) ho,r⟩
 ·refine(I.aE b u e).eh (fun c v hc q=>k c v ?_ q) (fun _ q=>q) fun _ _ q=>q
  rcases hc with z|z
  ·rw[z];exact B8 b u e
  ·exact B8 c _ z
theorem Inv.cb'{t':Nat}{fp:List Addr}{p:Addr}{xs:List V}(I:Inv X pins σ H s)(hf:∀ b∈fp,vF X pins H b)(k:∀ b o,b∉fp->s.heap.get? b=some o->h'.get? b=some o)(hp:s.heap.objs.size<=p)
  (new:eP X.prog X.w (upd H p (.tup xs)) h' p (.tup xs)):Inv X pins σ (upd H p (.tup xs)) { s with heap:=h',toks:=t' }:=by
 have hn:=I.aE.fresh hp
 have B8:∀ b u,H b=some u->b∉fp:=fun b u e z=>by rw[(hf b z).1] at e;cases e
 have lt:∀ b o,s.heap.get? b=some o->b≠p:=fun b o e=>eM (kN (dy e) hp)
 refine I.step (g':=s.gens) (d':=s.drawn) (ch:=fp) (fun b hb=>?_) (fun b o _ _ hc e _=>k b o hc e) (fun b o _ _ hc e _=>⟨o.slots,k b o hc e⟩) (fun b o _ e n=>by rw[dP (lt b o e)];exact n)
  (fun b o hc e=>⟨o,k b o hc e⟩) (fun _ _ e=>by rw[dP (vv e hn)];exact e) (fun _ _ _ e=>by rw[dP (vv e hn)];exact e) (fun b ps e=>⟨#[],by rw[dP (vv e hn),e];simp⟩) (fun m hm=>?_) (fun b u e=>?_) I.bare
 ·obtain⟨f0,f1,f2,f3,f4,f5⟩:=hf b hb
  exact⟨f3,f1,f4,f5⟩
 ·obtain⟨o,es,ep,ho,r⟩:=hm
  exact⟨o,es,ep,k _ o (fun z=>(hf _ z).2.1 rfl) ho,r⟩
 ·by_cases hb:b=p
  ·subst hb;rw[gd] at e;cases e;exact new
  ·rw[dP hb] at e
   refine(I.aE b u e).eh (fun c v hc q=>k c v ?_ q) (fun c q=>by rw[dP (vv q hn)];exact q) fun c xs q=>by rw[dP (vv q hn)];exact q
   rcases hc with z|z
   ·rw[z];exact B8 b u e
   ·exact B8 c _ z
end
def RD(K:PySem.W.Frag)(a:Addr):It :=
 ⟨fun i H=>∃ xs x,eB K H a xs/\xs[i]? = some x,fun i H x H'=>∃ p v,x=.ref p/\H p=none/\H'=upd H p (.tup [.int i,v])/\∀ xs,eB K H a xs->xs[i]? = some v,fun i H=>∃ xs,eB K H a xs/\xs.length<=i⟩
theorem Ah:(2:Nat)<=sizeLine:=by rw[sizeLine_eq];decide
theorem xY{P:Program}{w:World}{K:PySem.W.Frag}{elts:List Expr}{k:Nat}{pos:Pos}(a e it:Addr)(Wb:e≠it):Turn P w K (.Tuple elts k pos) (RD K a) [e,it] e (fun i h=>(∃ old,IsEnum h e it i old)/\h.IsListIter it a i) where
 mem:=by simp
 obj:=fun i h ⟨⟨old,he⟩,st⟩ b hb=>by
  rcases df.mp hb with rfl|hb
  ·exact⟨_,he,fun v z=>nomatch z⟩
  ·have e:b=it:=by simpa using hb
   subst e
   obtain⟨o,e,c,d⟩:=st
   exact⟨o,e,fun v z=>by rw[d] at z;cases z⟩
 keep:=fun i h h' ⟨⟨old,he⟩,st⟩ k=>⟨⟨old,k e (by simp) _ he⟩,st.at fun o e=>k it (by simp) o e⟩
 item:=by
  intro X hP hw hK hc i pins s σ H E I hf st hg
  subst hP hw hK
  obtain⟨xs,x,hq,hx⟩:=hg
  obtain⟨its,rv,p,hz⟩:=I.list hq
  obtain⟨u,hu,ru⟩:=rv.get hx
  obtain⟨⟨old,he⟩,hit⟩:=st
  refine wpAny_pyNext_enum_item he hit p.isList (x:=u) (by simpa using hu) Wb fun h1 ho cc' hT hsz hk=>⟨_,rfl,?_⟩
  refine wpAny_letOwnedTupleGo_enum (s:={ s with heap:=h1,toks:=s.toks+1 }) ho fun h2 mG nS=>?_
  have ke:∀ b o,b∉[e,it]->s.heap.get? b=some o->h2.get? b=some o:=fun b o hb q=>(nS.2 b fun z=>hb (by simp[z])).trans (hk b o (fun z=>hb (by simp[z])) (fun z=>hb (by simp[z])) q)
  have dE:e<s.heap.objs.size:=dy he
  have hT2:h2.get? s.heap.objs.size=some { cls:=.type "tuple",data:=.seq #[.int i s.toks,u] }:=(nS.2 _ (FR dE)).trans hT
  have I1:Inv X pins σ (upd H s.heap.objs.size (.tup [.int i,x])) { s with heap:=h2,toks:=s.toks+1 } :=
   I.cb' hf ke (ck _) ⟨Ah,[.int i s.toks,u],.cons ⟨s.toks,rfl⟩ (.cons ru .nil),_,hT2,rfl,_,rfl⟩
  refine⟨.ref s.heap.objs.size,_,I1,rfl,⟨_,x,rfl,I.fresh,rfl,fun ys hy=>by rw[I.U8 hy hq];exact hx⟩,⟨⟨u,by simpa using mG⟩,cc'.at fun o q=>(nS.2 it Wb.symm).trans q⟩,fun b hb=>?_⟩
  rw[dP]
  ·exact(hf b hb).1
  ·rcases df.mp hb with rfl|hb
   ·exact eM dE
   ·have e:b=it:=by simpa using hb
    subst e
    obtain⟨o,q,_⟩:=hit
    exact eM (dy q)
 done:=by
  intro X hP hw hK hc i pins s σ H E I hf st hg
  subst hP hw hK
  obtain⟨xs,hq,hx⟩:=hg
  obtain⟨its,rv,p,hz⟩:=I.list hq
  obtain⟨⟨old,he⟩,hit⟩:=st
  have hl:=rv.length
  exact wpAny_pyNext_enum_end (I.ok.hd hc) he hit p.isList (by simp;lia) fun h' eb=>⟨rfl,I.Hg (t':=s.toks) hf fun b o hb q=>eb b o (fun z=>hb (by simp[z])) q⟩
 self:=fun _ _ _ _ _ ⟨⟨old,he⟩,_⟩ h=>wpAny_pyIter_enum he h
theorem GJ(h:b∈[n+1,n]):n<=b:=by simp at h;lia
section
variable {X:Cx}
def Ia(K:PySem.W.Frag)(ta:TA):TI:=fun σ H R=>ta σ H fun vs H1=>∃ a,vs=[.ref a]/\(∃ xs,eB K H1 a xs)/\R (RD K a) H1
theorem DW (hg:Gl X "enumerate") (hm:X.mg "enumerate" = none) (ha:PA X [a] ta) (hs:starEach [a] X.env=[(false,eval a X.env)]:=by rfl) :
  PI X (.Tuple elts k tp) (.Call (.Name "enumerate" p) [a] [] pos) (Ia X.K ta):=by
 intro pins s σ H R I h
 refine Call_ (AF I hg hm boot_enumerate (PyProof.Rows.callWith_type1 (cc (ha pos pins s σ H _ I h) fun us s1 cf=>L2.fq cf fun vs H1 I1 r1 q1=>?_) hs rfl))
 obtain⟨l,e,⟨xs,hq⟩,q⟩:=q1
 subst e
 cases r1 with
 |cons r rr =>
  cases rr
  cases r
  obtain⟨its,rv,pl,hz⟩:=I1.list hq
  refine call_enumerate_list pl.isList fun h2 he hit hsz hk=>?_
  refine wpAny_pyIter_enum (s:={ s1 with heap:=h2 }) he ?_
  refine⟨s1.heap.objs.size+1,[s1.heap.objs.size+1,s1.heap.objs.size],_,_,H1,rfl,I1.kept (t':=s1.toks) hk,xY l _ _ (Nat.succ_ne_self _),⟨⟨_,he⟩,hit⟩,fun b hb=>?_,q⟩
  have e:s1.heap.objs.size<=b:=GJ hb
  exact I1.LH e (I1.aE.fresh e)
end
def Mk(sc:Scope)(names:List (Str × NameKind)):List (Str × NameKind):=names.map fun y=>if (y.2 == NameKind.free && sc.kind == .function && sc.names.lookup y.1 == some .cell)=true then (y.1,NameKind.cell) else (y.1,y.2)
def My(o:Option NameKind):Bool:=o == some .cell || o == some .free
def Gj(sc scope:Scope)(N cn:List Str)(ix:List Nat):Bool :=
 scope.kind == .function && scope.names.all (fun y=>y.2 != .cell) && scope.names.all (fun y=>y.2 != .free || My (sc.names.lookup y.1)) && scope.names.all (fun y=>y.2 != .local || scope.names.lookup y.1 == some .local) &&
 ix.length == cn.length && (List.range ix.length).all (fun k=>match ix[k]?,cn[k]? with
  |some j,some y=>N[j]? == some y && My (sc.names.lookup y) && scope.names.contains (y,NameKind.free) && My ((Mk sc scope.names).lookup y)
  |_,_=>false) &&
 (Mk sc scope.names).all (fun y=>!(y.2 == .cell || y.2 == .free) || scope.names.contains (y.1,NameKind.free))
theorem qJ(h:My o=true):o=some .cell\/o=some .free:=by
 unfold My at h
 simpa using h
theorem cD.of{X:Cx}(xa:X.env.scope=sc)(hN:X.N=N)(h:Gj sc scope N cn ix=true):cD X scope tn cn ix:=by
 unfold Gj at h
 simp only[kQ] at h
 obtain⟨⟨⟨⟨⟨⟨h1,h2⟩,h3⟩,h4⟩,h5⟩,h6⟩,h7⟩:=h
 rw[Kx] at h2 h3 h4 h6 h7
 have Wc:(relabel scope X.env).names=Mk sc scope.names:=by
  unfold relabel Mk
  rw[<- xa]
  rfl
 refine⟨by simpa using h1,fun y hy=>by simpa using h2 y hy,fun y hy hk=>?_,fun y hy hk=>?_,by simpa using h5,fun k j hk=>?_,fun x hx=>?_⟩
 ·have:=h3 y hy
  rw[hk] at this
  rw[xa]
  exact qJ (by simpa using this)
 ·have:=h4 y hy
  rw[hk] at this
  simpa using this
 ·have gp:k<ix.length:=(iN.mp hk).1
  have:=h6 k (sD.mpr gp)
  rw[hk] at this
  cases e:cn[k]? with
  |none=>rw[e] at this;cases this
  |some y =>
   rw[e] at this
   simp only[kQ] at this
   obtain⟨⟨⟨a1,a2⟩,a3⟩,a4⟩:=this
   refine⟨y,rfl,by rw[hN];simpa using a1,by rw[xa];exact qJ a2,by simpa using a3,by rw[Wc];exact qJ a4⟩
 ·rw[Wc] at hx
  have mem:∃ k,(x,k)∈Mk sc scope.names/\(k=.cell\/k=.free):=by
   rcases hx with hx|hx
   ·exact⟨_,PySem.mem_of_lookup hx,.inl rfl⟩
   ·exact⟨_,PySem.mem_of_lookup hx,.inr rfl⟩
  obtain⟨k,hm,hk⟩:=mem
  have:=h7 _ hm
  rcases hk with rfl|rfl<;>simpa using this
structure fA(P:Program)(w:World)(K:PySem.W.Frag)(mg:Str->Option Value)(base:Heap)(k:Nat)(x:Str)(ps:List Str)(sp:Sp):Prop where
 ex:∃ (g:Addr) (fd:FuncData),mg x=some (.ref g)/\PySem.W.keepIn K (.ref g)=true/\Binds K fd ps []/\g7 P w K mg base kg k g fd ps sp
section
variable {X:Cx}{k:Nat}{x:Str}{ps:List Str}{sp:Sp}{p pos:Pos}{e:Expr}{es:List Expr}{t:TA}
theorem Gm (C:fA X.prog X.w X.K X.mg X.base k x ps sp) (hr:kc k X.A) (ha:PA X (e :: es) t) (hg:Gl X x:=by rfl) (gy:(x == ("__debug__" : Str))=false:=by decide) (he:starEach (e :: es) X.env=(false,eval e X.env) :: starEach es X.env:=by rfl)
  (ft:(backTo pos (starEach es X.env)).any (·.1)=false:=by rfl):PE X (.Call (.Name x p) (e :: es) [] pos) (LS sp [] E0 t):=by
 obtain⟨g,fd,hm,hk,hb,F⟩:=C.ex
 exact Vs F hr hg hm hk hb .nil bB' ha gy he ft
end
theorem g9.rp{P:Program}{K:PySem.W.Frag}{st:Stmt}{ps:List Str}(F:g9 K x qual st f fd)(hm:mg x=some (.ref f))
  (G:g7 P w K mg base kg k f fd ps sp)
  (h:∀ (kV doc pm:Value) (an:Option Addr) (cK ct:Value) (us:List Value),us.length=ps.length->bindArgs (PySem.W.fnOf x qual (kf st) (ib st) (cw st) .none kV doc pm an cK ct) ⟨us,[]⟩=pure (ps.zip us)):fA P w K mg base k x ps sp :=
 ⟨f,fd,hm,F.kp,F.binds h,G⟩
def RG(mg:Str->Option Value)(x:Str)(z:Str):Prop:=∃ t,mg x=some (.str z t)
theorem Hy {X:Cx} (h:RG X.mg x z) (hg:Gl X x:=by rfl) (hd:(x == ("__debug__" : Str))=false:=by decide):PE X (.Name x pos) (tC (.str z)):=by
 obtain⟨t,e⟩:=h
 exact y1 hg e ⟨t,rfl⟩ hd
theorem DG:bootBuiltins "bool" = some (.type "bool"):=by decide +kernel
theorem vg:bootBuiltins "list" = some (.type "list"):=by decide +kernel
theorem gJ:bootBuiltins "isinstance" = some (.builtin "isinstance"):=by decide +kernel
theorem xQ:bootBuiltins "len" = some (.builtin "len"):=by decide +kernel
theorem Ej {X:Cx} {T:String} (hm:X.mg x=none) (hv:bootBuiltins x=some (.type T)) (hg:Gl X x:=by rfl) (hn:x ≠ "__name__" := by decide) (hd:(x == ("__debug__" : Str))=false:=by decide):PE X (.Name x pos) (tC (.ty T)) :=
 YN hg hm hv rfl hn hd
def He(i j:Str):Bool:=!(Builtin.Str.occurrences j i 0 j.length 1).isEmpty
def EI(K:PySem.W.Frag)(neg:Bool):R2:=fun x y H Q=>match x,y with
 |.str i,.str j=>Q (.bl (if neg then !He i j else He i j)) H
 |_,.ref p=>(∃ o,kG H p x o/\Q (.bl (if neg then !o.isSome else o.isSome)) H)\/L3 K neg x y H Q
 |_,_=>False
theorem Fo{X:Cx}(hu:X.A.units+64<cLine):cS X (compareOp .In) (EI X.K false):=by
 intro pins s σ H x y v u Q I rx ry h
 unfold EI at h
 split at h
 ·exact ZT pins s σ H _ _ v u Q I rx ry ⟨_,_,rfl,rfl,h⟩
 ·rcases h with⟨o,g,q⟩|h
  ·cases ry
   exact aY' (by lia) I g rx fun s3 I3=>⟨.bl o.isSome,H,I3,rfl,q⟩
  ·exact aH' pins s σ H _ _ v u Q I rx ry h
 ·exact h.elim
theorem vM{X:Cx}(hu:X.A.units+64<cLine):cS X (compareOp .NotIn) (EI X.K true):=by
 intro pins s σ H x y v u Q I rx ry h
 unfold EI at h
 split at h
 ·exact ZU pins s σ H _ _ v u Q I rx ry ⟨_,_,rfl,rfl,h⟩
 ·rcases h with⟨o,g,q⟩|h
  ·cases ry
   exact aZ' (by lia) I g rx fun s3 I3=>⟨.bl (!o.isSome),H,I3,rfl,q⟩
  ·exact aI' pins s σ H _ _ v u Q I rx ry h
 ·exact h.elim
theorem ay.upd(h:ay H H')(hp:H' p=none):ay H (upd H' p o):=fun b u e=>by
 have e':=h b u e
 rw[dP (vv e' hp)]
 exact e'
theorem ay.lst{K:PySem.W.Frag}(e:ay H H')(h:eB K H a xs):eB K H' a xs:=e.seq h
theorem ay.tup{K:PySem.W.Frag}(e:ay H H')(h:jI K H a xs):jI K H' a xs:=by
 rcases h with(h|⟨o,h⟩)|h
 ·exact .inl (.inl (e _ _ h))
 ·exact .inl (.inr ⟨o,e _ _ h⟩)
 ·exact .inr h
mutual
theorem Rep.same{K:PySem.W.Frag}(s:ay H H'):∀ {d:PyData} {v:V},Rep K H d v->Rep K H' d v
 |_,_,.none=>.none
 |_,_,.bool b=>.bool b
 |_,_,.int i=>.int i
 |_,_,.str x=>.str x
 |_,_,.list h hs=>.list (s.lst h) (aS.same s hs)
 |_,_,.tuple h hs=>.tuple (s.tup h) (aS.same s hs)
theorem aS.same{K:PySem.W.Frag}(s:ay H H'):∀ {ds:List PyData} {vs:List V},aS K H ds vs->aS K H' ds vs
 |_,_,.nil=>.nil
 |_,_,.cons h hs=>.cons (Rep.same s h) (aS.same s hs)
end
section
variable {X:Cx}{K:PySem.W.Frag}
theorem kIx(hK:X.K=K:=by rfl):tT X (OZ K):=by subst hK;exact Ao
theorem EJ(hu:X.A.units+64<cLine)(hK:X.K=K:=by rfl):cS X (compareOp .Eq) (O0 K):=by subst hK;exact Gq hu
theorem EK(hu:X.A.units+64<cLine)(hK:X.K=K:=by rfl):cS X (compareOp .NotEq) (O1 K):=by subst hK;exact Gf hu
theorem kB(hu:X.A.units+64<cLine)(hK:X.K=K:=by rfl):cS X (compareOp .In) (EI K false):=by subst hK;exact Fo hu
theorem Ac(hu:X.A.units+64<cLine)(hK:X.K=K:=by rfl):cS X (compareOp .NotIn) (EI K true):=by subst hK;exact vM hu
end
theorem Mq{α:Type}{a:α}{p:α->Prop}:(∃ v,a=v/\p v)↔p a:=⟨fun⟨_,e,h⟩=>e ▸ h,fun h=>⟨a,rfl,h⟩⟩
end L2
namespace L2
open PySem PySem.Spec PyProof.Rows
abbrev RH:=Array DictEntry
def sN(h:Heap)(d:Addr)(es:RH)(ep:Nat):Prop:=∃ o,h.get? d=some o/\o.ExactDict/\o.data=.dict es ep
theorem sN.typ {s:Shared} {d:Addr} {es:RH} {ep:Nat} (x:sN s.heap d es ep):s.TypeIs (.ref d) "dict" := let ⟨o,e,c,_⟩:=x;⟨o,e,c.1⟩
section
variable {prog:Program}{w:World}{A:Around}{E:Value->Shared->Prop}{s:Shared}{d it:Addr}{es:RH}{ep i:Nat}
theorem zA{Q:Value->Shared->Prop}(lo:(d == sysModules)=false)(x:sN s.heap d es ep)
  (q:Q (.ref s.heap.objs.size) { s with heap:=s.heap.push { cls:=.type "dict_keyiterator",data:=.fields #[.ref d,.int 0 0,.int es.size 0,.int ep 0] } }):wpAny (model prog w) A (pyIter (.ref d)) Q E s:=by
 obtain⟨o,ho,hc,O3⟩:=id x
 refine wpAny_pyIter_slot x.typ F.slot_dict_iter (wpAny_call_entry F.slot_dict_iter x.typ F.entry_dict_iter ?_ (F.args_dict_iter_1 _))
 unfold Builtin.«dict.__iter__»
 refine ag ?_
 unfold Builtin.Dict.dictSlotNone
 refine ag (wpAny_notOrdered_dict x.typ ?_)
 refine(show wpAny _ _ (pure (Value.ref d)) _ _ s from aI ?_)
 refine(show wpAny _ _ (Builtin.Dict.showsAll d >>= _) _ _ s from ?_)
 unfold Builtin.Dict.showsAll
 rw[if_neg (by rw[lo];decide)]
 refine ag (aI (ag (wpAny_dictEntries ho O3 (ag (wpAny_dictEpoch ho O3 (ag (wpAny_newObj_type (aI ⟨_,rfl, "dict_keyiterator",_,⟨_,jv _ rfl,rfl⟩,F.slot_dict_keyiterator_next.lookup,?_⟩))))))))
 simpa[rawInt] using q
theorem yO(hit:s.heap.IsKeyIter it d i es.size ep)(x:sN s.heap d es ep)(hx:i<es.size)
  (q:∀ h',h'.IsKeyIter it d (i+1) es.size ep->Heap.SameBut it s.heap h'->Q (some es[i].key) { s with heap:=h' }):wpAny (model prog w) A (pyNext (.ref it)) Q E s:=by
 obtain⟨o,ho,hc,hd⟩:=id hit
 obtain⟨od,MA,oy,MB⟩:=id x
 have ty:=hit.typeIs
 unfold pyNext
 refine ag (wpAny_attempt (wpAny_callSpecial?_slot (name:=Str.ofString "__next__") ty F.slot_dict_keyiterator_next (wpAny_call_entry F.slot_dict_keyiterator_next ty F.entry_dict_keyiterator_next ?_ (F.args_dict_keyiterator_next_1 _))))
 refine ag (aI (ag (ag ?_)))
 first|refine ag (wpAny_typeNameOfWhole_keyiter ty (aI ?_))|refine ag (wpAny_typeNameOf_keyiter ty (aI ?_))
 refine ag (wpAny_fieldsOf ho hd ?_)
 simp only[show Builtin.Dict_items.ownsTuple "dict_keyiterator" = false by decide,kP,if_false]
 refine(show wpAny _ _ (if (Value.ref d == Value.none)=true then _ else _) _ _ s from ?_)
 rw[if_neg (show ¬ ((Value.ref d == Value.none)=true) by intro h;cases h)]
 refine ag (aI (ag (wpAny_dictEntries MA MB ?_)))
 rw[if_neg (by intro h;simp at h)]
 refine ag (aI (ag (wpAny_dictEpoch MA MB ?_)))
 rw[if_neg (by intro h;simp at h)]
 refine aI ?_
 simp only[show ¬ ((i:Int)<0) by lia,if_false,FY,wm hx]
 refine ag ?_
 first|refine ag (wpAny_typeNameOfWhole_keyiter ty (aI ?_))|refine ag (wpAny_typeNameOf_keyiter ty (aI ?_))
 refine ag (wpAny_isOneOf_keyiter ty ?_)
 refine(show wpAny _ _ (setField (.ref it) 1 (rawInt ((i:Int)+1)) >>= _) _ _ s from ag (wpAny_setField ho hd (by simp) ?_))
 have Wd:(s.heap.update it (Obj.mapFields (·.setIfInBounds 1 (rawInt ((i:Int)+1))))).IsKeyIter it d (i+1) es.size ep :=
  ⟨_,FI _ ho (Obj.isFreed_of_fields (Obj.data_mapFields hd _)),(Obj.cls_mapFields ..).trans hc,by rw[Obj.data_mapFields hd];simp[rawInt]⟩
 refine ag (wpAny_holding (ag (wpAny_isOneOf_keyiter (s:={ s with heap:=s.heap.update it (Obj.mapFields (·.setIfInBounds 1 (rawInt ((i:Int)+1)))) }) Wd.typeIs ?_)))
 refine(show wpAny _ _ (pure es[i].key) _ _ _ from aI (aI ⟨_,rfl,aI (q _ Wd (Heap.SameBut.update ..))⟩))
theorem yx(hh:A.handled=none)(hit:s.heap.IsKeyIter it d es.size es.size ep)(x:sN s.heap d es ep)(q:∀ h',Heap.ExtBut it s.heap h'->Q none { s with heap:=h' }) :
  wpAny (model prog w) A (pyNext (.ref it)) Q E s:=by
 obtain⟨o,ho,hc,hd⟩:=id hit
 obtain⟨od,MA,oy,MB⟩:=id x
 have ty:=hit.typeIs
 unfold pyNext
 refine ag (wpAny_attempt (wpAny_callSpecial?_slot (name:=Str.ofString "__next__") ty F.slot_dict_keyiterator_next (wpAny_call_entry F.slot_dict_keyiterator_next ty F.entry_dict_keyiterator_next ?_ (F.args_dict_keyiterator_next_1 _))))
 refine ag (aI (ag (ag ?_)))
 first|refine ag (wpAny_typeNameOfWhole_keyiter ty (aI ?_))|refine ag (wpAny_typeNameOf_keyiter ty (aI ?_))
 refine ag (wpAny_fieldsOf ho hd ?_)
 simp only[show Builtin.Dict_items.ownsTuple "dict_keyiterator" = false by decide,kP,if_false]
 refine(show wpAny _ _ (if (Value.ref d == Value.none)=true then _ else _) _ _ s from ?_)
 rw[if_neg (show ¬ ((Value.ref d == Value.none)=true) by intro h;cases h)]
 refine ag (aI (ag (wpAny_dictEntries MA MB ?_)))
 rw[if_neg (by intro h;simp at h)]
 refine ag (aI (ag (wpAny_dictEpoch MA MB ?_)))
 rw[if_neg (by intro h;simp at h)]
 refine aI ?_
 simp only[show ¬ ((es.size:Int)<0) by lia,if_false,FY,FV (ck es.size)]
 refine ag ?_
 first|refine ag (wpAny_typeNameOfWhole_keyiter ty (aI ?_))|refine ag (wpAny_typeNameOf_keyiter ty (aI ?_))
 refine(show wpAny _ _ (setField (.ref it) 0 .none >>= _) _ _ s from ag (wpAny_setField ho hd (by simp) ?_))
 refine(show wpAny _ _ (newExc (.type "StopIteration") [] >>= _) _ _ _ from ag ?_)
 simp only[newExc,newTuple]
 refine ag (wpAny_newObj_type ?_ (by size_fits))
 refine ag (m:=firstArgMember _ _) (wpAny_of_eq (a:=Value.none) (by first|rfl|(simp only[firstArgMember];rfl)) (wpAny_newObj_type ?_ (by size_fits)))
 simp only[raiseNew]
 refine ag (wpAny_handled ?_)
 rw[show A.in1.handled=none from hh]
 refine ag (aI (wpAny_throw ?_))
 refine ag (wpAny_isInstance (b:=true) (T := "StopIteration") ⟨_,jv _ rfl,rfl⟩ isSubtype_stop ?_)
 exact aI (q _ (((Heap.SameBut.update ..).extBut.push _).push _))
theorem sN.at(x:sN h d es ep)(e:∀ o,h.get? d=some o->h'.get? d=some o):sN h' d es ep:=let ⟨o,ho,r⟩:=x;⟨o,e o ho,r⟩
theorem sN.lt(x:sN h d es ep):d<h.objs.size:=let ⟨_,e,_⟩:=x;dy e
theorem vy(hh:A.handled=none)(I:Addr)(fS:d≠I):Walks prog w A I [I,d] [I] es.size (fun i v=>∃ e,es[i]? = some e/\v=e.key) (fun i h=>h.IsKeyIter I d i es.size ep/\sN h d es ep) where
 sub:=fun b hb=>by simp at hb;simp[hb]
 frame:=fun _ _ _ st hk=>⟨st.1.at fun o e=>hk I (by simp) o e,st.2.at fun o e=>hk d (by simp) o e⟩
 item:=fun i s Q E hi st hQ=>yO st.1 st.2 hi fun h' a b=>hQ _ h' s.toks ⟨es[i],by simp[hi],rfl⟩ ⟨a,st.2.at fun o e=>b.extBut d o fS e⟩ fun c o hb e=>b.extBut c o (fun h=>hb (by simp[h])) e
 done:=fun s Q E st hQ=>yx hh st.1 st.2 fun h' O4=>hQ h' s.toks fun b o hb e=>O4 b o (fun h=>hb (by simp[h])) e
 self:=fun _ _ _ _ st hQ=>wpAny_pyIter_keyiter st.1 hQ
theorem BP (lo:(d == sysModules)=false):PySem.W.KdlSrc prog w "dict" d d es.size (fun i v=>∃ e,es[i]? = some e/\v=e.key) (fun h=>sN h d es ep) where
 type:=fun _ x=>x.typ
 there:=fun _ x=>⟨x.lt,x.lt⟩
 keep:=fun _ _ x hk=>x.at fun o e=>hk d (.inl rfl) o e
 notList:=by decide
 notTuple:=by decide
 hint:=fun _ _ _ _ x hq=>PySem.W.kdl_hint_dict x.typ hq
 iter:=fun _ _ hh x=>⟨_,_,(fun _ _ hq=>zA lo x hq),vy hh _ (eM x.lt),⟨⟨_,jv _ rfl,rfl,rfl⟩,x.at fun o e=>eW _ e⟩⟩
end
theorem Paired.n0{α β:Type}{R:α->β->Prop}{bs:List β}(h:Paired R [] bs):bs=[]:=by cases h;rfl
theorem Paired.c{α β:Type}{R:α->β->Prop}{a:α}{as:List α}{bs:List β}(h:Paired R (a :: as) bs):∃ b cs,bs=b :: cs/\R a b/\Paired R as cs:=by
 cases h with
 |cons r t=>exact⟨_,_,rfl,r,t⟩
def bB(H:Hp)(ys:List V)(ks:List (List Key)):Prop:=Paired (fun(v:V) (k:List Key)=>∃ b,v=.ref b/\H b=some (.tup (k.map kV))) ys ks
section
variable {X:Cx}
def sW:List V->Hp->VK->Prop:=fun xs H Q=>match xs with
 |[.ref p]=>∃ kvs,Rd H p (.dT kvs)/\∀ ys l,bB H ys (kvs.map (·.1))->H l=none->Q (.ref l) (upd H l (.lst ys))
 |_=>False
theorem BV
  (h:Paired (fun(p:List Key × V) (q:List Key × Addr × Value)=>p.1=q.1/\H q.2.1=some (.tup (p.1.map kV))/\RelV p.2 q.2.2) kvs xs) :
  bB H (xs.map fun q=>.ref q.2.1) (kvs.map (·.1))/\Vals (xs.map fun q=>.ref q.2.1) ((xs.map (entryOfKey (tupleKind (i6 prog w)))).map (·.key)):=by
 induction h with
 |nil=>exact⟨.nil,.nil⟩
 |cons r t ih=>exact⟨.cons ⟨_,rfl,r.2.1⟩ ih.1,.cons rfl ih.2⟩
theorem uC (hc:X.calm=true):kb X (.type "list") sW:=by
 intro pins s σ H xs us Q I r h
 unfold sW at h
 split at h
 ·rename_i p
  obtain⟨kvs,e,q⟩:=h
  obtain⟨u,rfl,ru⟩:=Vals.one r
  cases ru
  obtain⟨z,y,ps,rel,o,es,ep,h1,h2,h3,h4,h5⟩:=(show eP X.prog X.w H s.heap p (.dT kvs) from I.rd e)
  obtain⟨ta,va⟩:=BV (prog:=X.prog) (w:=X.w) rel
  have hlen:es.size=kvs.length:=by
   have:=congrArg List.length h4
   rw[yy,bT] at this
   rw[this];exact rel.length.symm
  refine PySem.W.kdl_call (BP (es:=es) (ep:=ep) y) (I.ok.hd hc) ⟨o,h1,h2,h3⟩ (by lia) fun h' tk acc c kp eo CF=>?_
  have hv:acc.toList=(ps.map (entryOfKey (tupleKind (i6 X.prog X.w)))).map (·.key):=by
   apply DM
   intro i
   by_cases hi:i<es.size
   ·have xh:i<acc.size:=by rw[CF.1];exact hi
    obtain⟨en,e1,e2⟩:=CF.2 i acc[i] (by simp[xh])
    rw[<- h4,ny,sF,sF,e1]
    simp[xh,e2]
   ·rw[<- h4,ny,sF,sF,FV (by rw[CF.1];lia),FV (by lia)]
    rfl
  refine⟨.ref s.heap.objs.size,_,I.laid (t':=tk) kp (ck _) (show eP X.prog X.w _ h' _ (.lst (ps.map fun q=>.ref q.2.1)) from⟨?_,acc.toList,c,?_,?_⟩),rfl,q _ _ ta (I.aE.fresh (ck _))⟩
  ·rw[bT,<- rel.length];exact z
  ·rw[hv];exact va
  ·rw[N7];exact eo
 ·exact h.elim
end
end L2
namespace sP
open PySem PyProof.Rows
def R(r:Value->Int)(xs:Array Keyed)(i:Nat):Int:=match xs[i]? with
 |some p=>r p.1
 |none=>0
theorem jF(h:xs[i]? = ys[j]?):R r xs i=R r ys j:=by unfold R;rw[h]
def pe(prog:Program)(w:World)(A:Around)(s:Shared)(κ:SortKind)(r:Value->Int)(P:Value->Prop):Prop :=
 ∀ x y,P x->P y->∀ (Q:Bool->Shared->Prop) (E:Value->Shared->Prop),Q (decide (r x<r y)) s->wpAny (model prog w) A (keyLt' κ x y) Q E s
def AllP(P:Value->Prop)(xs:Array Keyed):Prop:=∀ p∈xs.toList,P p.1
theorem AllP.perm{P:Value->Prop}(h:AllP P xs)(hp:ys.Perm xs):AllP P ys:=fun p hm=>h p ((Array.perm_iff_toList_perm.mp hp).mem_iff.mp hm)
theorem AllP.at{P:Value->Prop}{xs:Array Keyed}(h:AllP P xs){i:Nat}{p:Keyed}(e:xs[i]? = some p):P p.1:=h p (by
 obtain⟨hi,rfl⟩:=N6.mp e
 simp)
structure kS(lo hi:Nat)(st bq:SortSt):Prop where
 kind:kindOf bq=kindOf st
 failed:failedOf bq=failedOf st
 pend:pendingOf bq=pendingOf st
 perm:(arrOf bq).Perm (arrOf st)
 out:∀ k,k<lo\/hi<=k->(arrOf bq)[k]? = (arrOf st)[k]?
theorem kS.refl(lo hi:Nat)(st:SortSt):kS lo hi st st:=⟨rfl,rfl,rfl,Array.Perm.refl _,fun _ _=>rfl⟩
theorem kS.trans{lo hi:Nat}(h:kS lo hi a b)(g:kS lo hi b c):kS lo hi a c :=
 ⟨g.kind.trans h.kind,g.failed.trans h.failed,g.pend.trans h.pend,g.perm.trans h.perm,fun k hk=>(g.out k hk).trans (h.out k hk)⟩
theorem kS.mono{lo hi Wg ki:Nat}(h:kS lo hi a b)(h1:Wg<=lo)(h2:hi<=ki):kS Wg ki a b :=
 ⟨h.kind,h.failed,h.pend,h.perm,fun k hk=>h.out k (by lia)⟩
theorem kS.size{lo hi:Nat}(h:kS lo hi a b):(arrOf b).size=(arrOf a).size:=h.perm.size_eq
def Up(r:Value->Int)(xs:Array Keyed)(lo hi:Nat):Prop:=∀ i j,lo<=i->i<=j->j<hi->R r xs i<=R r xs j
def Down(r:Value->Int)(xs:Array Keyed)(lo hi:Nat):Prop:=∀ i j,lo<=i->i<=j->j<hi->R r xs j<=R r xs i
theorem tG(hs:src<xs.size)(hd:d<=src)(k:Nat) :
  R r (bubble xs src d) k=if k=src-d then R r xs src else if src-d<k/\k<=src then R r xs (k-1) else R r xs k:=by
 have e:=getElem?_bubble hs d hd k
 by_cases h1:k=src-d
 ·rw[if_pos h1] at e ⊢;exact jF e
 ·rw[if_neg h1] at e ⊢
  by_cases h2:src-d<k/\k<=src
  ·rw[if_pos h2] at e ⊢;exact jF e
  ·rw[if_neg h2] at e ⊢;exact jF e
theorem mV(hj:j<=xs.size)(k:Nat) :
  R r (mirror xs i j ((j-i) / 2)) k=if i<=k/\k<j then R r xs (i+j-1-k) else R r xs k:=by
 have e:=getElem?_mirror_all (i:=i) hj k
 by_cases h1:i<=k/\k<j
 ·rw[if_pos h1] at e ⊢;exact jF e
 ·rw[if_neg h1] at e ⊢;exact jF e
theorem bD(hj:j<=xs.size)(heq:∀ k,i<=k->k<j->R r xs k=R r xs (j-1))(k:Nat) :
  R r (mirror xs i j ((j-i) / 2)) k=R r xs k:=by
 rw[mV hj]
 split
 ·rw[heq _ (by lia) (by lia),heq k (by lia) (by lia)]
 ·rfl
section
variable {prog:Program}{w:World}{A:Around}{E:Value->Shared->Prop}{s:Shared}{κ:SortKind}{r:Value->Int}{P:Value->Prop}
theorem Gd{st:SortSt}(C:pe prog w A s κ r P)(hk:kindOf st=κ)(hx:P x.1)(hy:P y.1)(h:Q (some (decide (r x.1<r y.1))) st) :
  wpS (model prog w) A E s (lt' x y) Q st:=by
 rw[lt'_eq]
 refine wpS_bind (wpS_get ?_)
 rw[hk]
 refine wpS_bind (wpS_lift (wpAny_attempt (C x.1 y.1 hx hy _ _ ⟨rfl,?_⟩)))
 exact wpS_pure h
theorem sO{st:SortSt}(hi:i<xs.size)(h:∀ p,xs[i]? = some p->Q p st):wpS (model prog w) A E s (elem' xs i) Q st:=by
 rw[elem'_eq,getElem?_pos xs i hi]
 exact wpS_pure (h _ (getElem?_pos xs i hi))
theorem jQ{st:SortSt}{i j:Nat}{Q:Option Bool->SortSt->Prop}(C:pe prog w A s κ r P)(hk:kindOf st=κ)(hP:AllP P (arrOf st))(hi:i<(arrOf st).size)(hj:j<(arrOf st).size)
  (h:Q (some (decide (R r (arrOf st) i<R r (arrOf st) j))) st):wpS (model prog w) A E s (ltAt' i j) Q st:=by
 rw[ltAt'_eq]
 refine wpS_bind (wpS_get ?_)
 show wpS _ _ _ _ (do let x <- elem' (arrOf st) i;let y <- elem' (arrOf st) j;lt' x y) Q st
 refine wpS_bind (sO hi fun p ep=>wpS_bind (sO hj fun q eq=>Gd C hk (hP.at ep) (hP.at eq) ?_))
 have e1:R r (arrOf st) i=r p.1:=by unfold R;rw[ep]
 have e2:R r (arrOf st) j=r q.1:=by unfold R;rw[eq]
 rw[<- e1,<- e2]
 exact h
theorem cM{st:SortSt}(h:Q () (setArr st (mirror (arrOf st) i j ((j-i) / 2)))) :
  wpS (model prog w) A E s (reverseSlice' i j) Q st:=by
 rw[reverseSlice'_eq];exact wpS_modify h
theorem fJ{st:SortSt}(hj:j<=(arrOf st).size):kS i j st (setArr st (mirror (arrOf st) i j ((j-i) / 2))) :=
 ⟨rfl,rfl,rfl,mirror_perm _ _ _ _,fun k hk=>by
  have e:=getElem?_mirror_all (i:=i) hj k
  rw[if_neg (by lia)] at e
  exact e⟩
theorem uh{st:SortSt}{lo src d:Nat}(hs:src<(arrOf st).size)(hd:lo+d<=src):kS lo (src+1) st (setArr st (bubble (arrOf st) src d)) :=
 ⟨rfl,rfl,rfl,bubble_perm _ _ _,fun k hk=>by
  have e:=getElem?_bubble hs d (by walk_at "s4") k
  rw[if_neg (by lia),if_neg (by lia)] at e
  exact e⟩
theorem wpS_binarySort{st:SortSt}{lo n ok:Nat}(C:pe prog w A s κ r P)(hk:kindOf st=κ)(hP:AllP P (arrOf st))(hn:lo+n<=(arrOf st).size)(aE:ok<=n)(hs:Up r (arrOf st) lo (lo+ok))
  (h:∀ bq,kS lo (lo+n) st bq->Up r (arrOf bq) lo (lo+n)->Q true bq):wpS (model prog w) A E s (binarySort' lo n ok) Q st:=by
 rw[binarySort'_eq]
 refine wpS_bind (wpS_mono (wpS_forRange (I:=fun k c bq=>c=(none,())/\kS lo (lo+n) st bq/\Up r (arrOf bq) lo (lo+min k n))
  (Q:=fun c bq=>c=(none,())/\kS lo (lo+n) st bq/\Up r (arrOf bq) lo (lo+n)) ?step ?fin ?init) ?post)
 case post =>
  rintro c bq ⟨rfl,iP,hJ⟩
  exact wpS_pure (h bq iP hJ)
 case init =>
  refine⟨rfl,.refl _ _ _,fun i j hl kH hj=>?_⟩
  by_cases h1:ok=0
  ·have:i=j:=by lia
   subst this;exact wo _
  ·exact hs i j hl kH (by lia)
 case fin =>
  rintro c bq ⟨hc,iP,hJ⟩
  refine⟨hc,iP,?_⟩
  rwa[show min (max (max ok 1) n) n=n by lia] at hJ
 case step =>
  rintro k c bq hak hkn ⟨rfl,iP,hJ⟩
  rw[show min k n=k by lia] at hJ
  have hsz:=iP.size
  have gp:kindOf bq=κ:=iP.kind.trans hk
  have EL:=hP.perm iP.perm
  refine wpS_bind (wpS_mono (wpS_forRange (I:=fun x c xi=>xi=bq/\∃ l r',c=(none,l,r')/\l<=r'/\r'<=k/\r'-l<=k-x /\
    (∀ i,lo<=i->i<lo+l->R r (arrOf bq) i<=R r (arrOf bq) (lo+k))/\(∀ i,lo+r'<=i->i<lo+k->R r (arrOf bq) (lo+k)<R r (arrOf bq) i))
   (Q:=fun c xi=>xi=bq/\∃ l r',c=(none,l,r')/\l<=k /\
    (∀ i,lo<=i->i<lo+l->R r (arrOf bq) i<=R r (arrOf bq) (lo+k))/\(∀ i,lo+l<=i->i<lo+k->R r (arrOf bq) (lo+k)<R r (arrOf bq) i)) ?cf' ?cg' ?ch') ?ci')
  case ch'=>exact⟨rfl,0,k,rfl,by lia,by lia,by lia,fun i _ hi=>by lia,fun i h1 h2=>by lia⟩
  case cg' =>
   rintro c xi ⟨rfl,l,r',rfl,hlr,xk,hm,lT,HC⟩
   have:l=r':=by lia
   subst this
   exact⟨rfl,l,l,rfl,xk,lT,HC⟩
  case cf' =>
   rintro x c xi _ hxk ⟨rfl,l,r',rfl,hlr,xk,hm,lT,HC⟩
   dsimp only
   by_cases RJ:l >= r'
   ·rw[if_pos RJ]
    have:l=r':=by lia
    subst this
    exact wpS_pure ⟨rfl,l,l,rfl,xk,lT,HC⟩
   ·rw[if_neg RJ]
    refine wpS_bind (jQ C gp EL (by lia) (by lia) ?_)
    by_cases uj:R r (arrOf xi) (lo+k)<R r (arrOf xi) (lo+(l+r') / 2)
    ·simp only[uj,decide_true,if_true]
     refine wpS_pure ⟨rfl,l,(l+r') / 2,rfl,by lia,by lia,by lia,lT,fun i h1 h2=>?_⟩
     exact Int.lt_of_lt_of_le uj (hJ _ _ (by lia) h1 h2)
    ·simp only[uj,decide_false,kP,if_false]
     refine wpS_pure ⟨rfl,(l+r') / 2+1,r',rfl,by lia,by lia,by lia,fun i h0 h1=>?_,HC⟩
     exact Qs (hJ i (lo+(l+r') / 2) h0 (by lia) (by lia)) (Int.not_lt.mp uj)
  case ci' =>
   rintro c xi ⟨rfl,l,r',rfl,hlk,lT,HC⟩
   show wpS _ _ _ _ (do moveDown' (lo+k) (lo+l);pure (ForInStep.yield (none,()))) _ _
   rw[moveDown'_eq]
   have RK:lo+k<(arrOf xi).size:=by lia
   refine wpS_bind (wpS_modify (wpS_pure ⟨rfl,iP.trans ((uh (lo:=lo) RK (by lia)).mono (ck _) (by lia)),?_⟩))
   rw[show min (k+1) n=k+1 by lia]
   intro i j hl kH hj
   show R r (bubble (arrOf xi) (lo+k) (lo+k-(lo+l))) i<=R r (bubble (arrOf xi) (lo+k) (lo+k-(lo+l))) j
   rw[tG RK (by lia),tG RK (by lia),show lo+k-(lo+k-(lo+l))=lo+l by lia]
   repeat' split
   all_goals first
    | (exfalso;lia)
    |exact wo _
    |exact lT _ (by lia) (by lia)
    |exact GA (HC _ (by lia) (by lia))
    |exact hJ _ _ (by lia) (by lia) (by lia)
end
def ascL(lo a nrem:Nat):StateT SortSt Sem AscSt :=
 forIn [a:nrem] ((none,a):AscSt) fun _ __s=>do
  let __x ← ltAt' (lo + __s.snd) (lo + __s.snd - 1)
  match __x with
  |some smaller=>if smaller=true then pure (ForInStep.done (none,__s.snd)) else pure (ForInStep.yield (none,__s.snd+1))
  |_=>pure (ForInStep.done (some none,__s.snd))
def oK(lo n nrem:Nat):StateT SortSt Sem (Option Nat):=do
 reverseSlice' lo (lo+n)
 let __s ← ascL lo n nrem
 match __s.fst with
 |some r=>pure r
 |none=>pure (some __s.snd)
def yG(lo n nrem:Nat):StateT SortSt Sem DescSt :=
 forIn [n:nrem] ((none,n,0):DescSt) fun _ __s=>do
  let __x ← ltAt' (lo + __s.snd.fst) (lo + __s.snd.fst - 1)
  match __x with
  |some smaller =>
   if smaller=true then
    if __s.snd.snd>0 then do
     reverseSlice' (lo+__s.snd.fst-(__s.snd.snd+1)) (lo+__s.snd.fst)
     pure (ForInStep.yield (none,__s.snd.fst+1,0))
    else pure (ForInStep.yield (none,__s.snd.fst+1,0))
   else do
    let __x ← ltAt' (lo+__s.snd.fst - 1) (lo+__s.snd.fst)
    match __x with
    |some larger =>
     if larger=true then pure (ForInStep.done (none,__s.snd.fst,__s.snd.snd))
     else pure (ForInStep.yield (none,__s.snd.fst+1,__s.snd.snd+1))
    |_=>pure (ForInStep.done (some none,__s.snd.fst,__s.snd.snd))
  |_=>pure (ForInStep.done (some none,__s.snd.fst,__s.snd.snd))
def eX(lo n nrem:Nat):StateT SortSt Sem (Option Nat):=do
 liftM (rule "list.sort.descending-run")
 let __s ← yG lo (n+1) nrem
 match __s.fst with
 |some r=>pure r
 |none =>
  if __s.snd.snd>0 then do
   reverseSlice' (lo+__s.snd.fst-(__s.snd.snd+1)) (lo+__s.snd.fst)
   oK lo __s.snd.fst nrem
  else oK lo __s.snd.fst nrem
theorem pI(lo nrem:Nat):countRun' lo nrem=(do
  let __s ← ascL lo 1 nrem
  match __s.fst with
  |some r=>pure r
  |none =>
   if (__s.snd == nrem)=true then pure (some __s.snd)
   else if __s.snd>1 then do
    let __x ← ltAt' lo (lo+__s.snd - 1)
    match __x with
    |some Wh=>if Wh=true then pure (some __s.snd) else do
      reverseSlice' lo (lo+__s.snd)
      eX lo __s.snd nrem
    |_=>pure none
   else eX lo __s.snd nrem):=by
 rw[countRun'_eq]
 dsimp only
 unfold eX oK yG ascL
 congr 1
 funext __s
 obtain⟨r,n⟩:=__s
 cases r with
 |some r=>rfl
 |none =>
  dsimp only
  split
  ·rfl
  ·split
   ·congr 1
    funext x
    cases x with
    |none=>rfl
    |some Wh =>
     dsimp only
     split
     ·rfl
     ·congr 1
      funext _r
      (congr 1;funext _u;congr 1;congr 1;funext s2;obtain⟨r2,n2,q2⟩:=s2;cases r2 with
       |some r2=>rfl
       |none=>(dsimp only;split;(congr 1;funext _v;(congr 1;funext _w;congr 1;(funext s3;obtain⟨r3,n3⟩:=s3;cases r3<;>rfl)));(congr 1;funext _w;congr 1;(funext s3;obtain⟨r3,n3⟩:=s3;cases r3<;>rfl))))
   ·(congr 1;funext _u;congr 1;congr 1;funext s2;obtain⟨r2,n2,q2⟩:=s2;cases r2 with
     |some r2=>rfl
     |none=>(dsimp only;split;(congr 1;funext _v;(congr 1;funext _w;congr 1;(funext s3;obtain⟨r3,n3⟩:=s3;cases r3<;>rfl)));(congr 1;funext _w;congr 1;(funext s3;obtain⟨r3,n3⟩:=s3;cases r3<;>rfl))))
section
variable {prog:Program}{w:World}{A:Around}{E:Value->Shared->Prop}{s:Shared}{κ:SortKind}{r:Value->Int}{P:Value->Prop}
theorem sX{st:SortSt}{lo a nrem:Nat}(C:pe prog w A s κ r P)(hk:kindOf st=κ)(hP:AllP P (arrOf st))(hn:lo+nrem<=(arrOf st).size)(ha:1<=a)(han:a<=nrem)
  (hs:Up r (arrOf st) lo (lo+a))
  (h:∀ n,a<=n->n<=nrem->Up r (arrOf st) lo (lo+n)->(n=nrem\/R r (arrOf st) (lo+n)<R r (arrOf st) (lo+n-1))->Q (none,n) st) :
  wpS (model prog w) A E s (ascL lo a nrem) Q st:=by
 unfold ascL
 refine wpS_forRange (I:=fun x c bq=>bq=st/\c=(none,x)/\Up r (arrOf st) lo (lo+x)) ?step ?fin ⟨rfl,rfl,hs⟩
 case fin =>
  rintro c bq ⟨rfl,rfl,hJ⟩
  rw[show max a nrem=nrem by lia] at hJ ⊢
  exact h nrem han (ck _) hJ (.inl rfl)
 case step =>
  rintro x c bq MC hxn ⟨rfl,rfl,hJ⟩
  dsimp only
  refine wpS_bind (jQ C hk hP (by lia) (by lia) ?_)
  by_cases uj:R r (arrOf bq) (lo+x)<R r (arrOf bq) (lo+x-1)
  ·simp only[uj,decide_true,if_true]
   exact wpS_pure (h x MC (by lia) hJ (.inr uj))
  ·simp only[uj,decide_false,kP,if_false]
   refine wpS_pure ⟨rfl,rfl,fun i j hl kH hj=>?_⟩
   by_cases MD:j<lo+x
   ·exact hJ i j hl kH MD
   ·have wa:j=lo+x:=by lia
    subst wa
    by_cases ki:i=lo+x
    ·subst ki;exact wo _
    ·exact Qs (hJ i (lo+x-1) hl (by lia) (by lia)) (Int.not_lt.mp uj)
theorem lW{st:SortSt}{lo n nrem:Nat}(C:pe prog w A s κ r P)(hk:kindOf st=κ)(hP:AllP P (arrOf st))(hn:lo+nrem<=(arrOf st).size)(h1:1<=n)(AV:n<=nrem)
  (hs:Down r (arrOf st) lo (lo+n)) (h:∀ m bq,kS lo (lo+nrem) st bq->1<=m->m<=nrem->Up r (arrOf bq) lo (lo+m)->Q (some m) bq) :
  wpS (model prog w) A E s (oK lo n nrem) Q st:=by
 unfold oK
 have hsz:lo+n<=(arrOf st).size:=by lia
 refine wpS_bind (cM ?_)
 have iP:=fJ (i:=lo) hsz
 refine wpS_bind (sX C (iP.kind.trans hk) (hP.perm iP.perm) (by rw[iP.size];exact hn) h1 AV ?_ fun m rq n5 RL _=>wpS_pure (h m _ (iP.mono (ck _) (by lia)) (by lia) n5 RL))
 intro i j hl kH hj
 show R r (mirror (arrOf st) lo (lo+n) ((lo+n-lo) / 2)) i<=R r (mirror (arrOf st) lo (lo+n) ((lo+n-lo) / 2)) j
 rw[mV hsz,mV hsz,if_pos (by lia),if_pos (by lia)]
 exact hs _ _ (by lia) (by lia) (by lia)
theorem wL{st:SortSt}{lo n nrem:Nat}(C:pe prog w A s κ r P)(hk:kindOf st=κ)(hP:AllP P (arrOf st))(hn:lo+nrem<=(arrOf st).size)(h1:1<=n)(AV:n<=nrem)
  (hs:Down r (arrOf st) lo (lo+n))
  (h:∀ m pf bq,kS lo (lo+nrem) st bq->n<=m->m<=nrem->Down r (arrOf bq) lo (lo+m)->pf+1<=m->(∀ i,lo+m-(pf+1)<=i->i<lo+m->R r (arrOf bq) i=R r (arrOf bq) (lo+m-1))->Q (none,m,pf) bq) :
  wpS (model prog w) A E s (yG lo n nrem) Q st:=by
 unfold yG
 refine wpS_forRange (I:=fun x c bq=>∃ pf,c=(none,x,pf)/\kS lo (lo+nrem) st bq/\Down r (arrOf bq) lo (lo+x)/\pf+1<=x /\
   (∀ i,lo+x-(pf+1)<=i->i<lo+x->R r (arrOf bq) i=R r (arrOf bq) (lo+x-1))) ?step ?fin ⟨0,rfl,.refl _ _ _,hs,by lia,fun i h1 h2=>by congr 1;lia⟩
 case fin =>
  rintro c bq ⟨pf,rfl,iP,hJ,hq,he⟩
  rw[show max n nrem=nrem by lia] at hJ hq he ⊢
  exact h nrem pf bq iP AV (ck _) hJ hq he
 case step =>
  rintro x c bq MC hxn ⟨pf,rfl,iP,hJ,hq,he⟩
  dsimp only
  have hz:=iP.size
  have hsz:lo+x<=(arrOf bq).size:=by lia
  have gp:=iP.kind.trans hk
  have EL:=hP.perm iP.perm
  refine wpS_bind (jQ C gp EL (by lia) (by lia) ?_)
  by_cases uj:R r (arrOf bq) (lo+x)<R r (arrOf bq) (lo+x-1)
  ·simp only[uj,decide_true,if_true]
   have Wi:∀ xs:Array Keyed,(∀ k,R r xs k=R r (arrOf bq) k)->Down r xs lo (lo+(x+1)):=by
    intro xs Wj i j hl kH hj
    rw[Wj,Wj]
    by_cases MD:j<lo+x
    ·exact hJ i j hl kH MD
    ·have wa:j=lo+x:=by lia
     subst wa
     by_cases ki:i=lo+x
     ·subst ki;exact wo _
     ·exact Qs (GA uj) (hJ i (lo+x-1) hl (by lia) (by lia))
   by_cases MF:pf>0
   ·rw[if_pos MF]
    refine wpS_bind (cM (wpS_pure ⟨0,rfl,iP.trans ((fJ hsz).mono (by lia) (by lia)),Wi _ (bD hsz he),by lia,fun i h1 h2=>by congr 1;lia⟩))
   ·rw[if_neg MF]
    exact wpS_pure ⟨0,rfl,iP,Wi _ (fun _=>rfl),by lia,fun i h1 h2=>by congr 1;lia⟩
  ·simp only[uj,decide_false,kP,if_false]
   refine wpS_bind (jQ C gp EL (by lia) (by lia) ?_)
   by_cases Wl:R r (arrOf bq) (lo+x-1)<R r (arrOf bq) (lo+x)
   ·simp only[Wl,decide_true,if_true]
    exact wpS_pure (h x pf bq iP MC (by lia) hJ hq he)
   ·simp only[Wl,decide_false,kP,if_false]
    have Wm:R r (arrOf bq) (lo+x)=R r (arrOf bq) (lo+x-1):=by lia
    refine wpS_pure ⟨pf+1,rfl,iP,fun i j hl kH hj=>?_,by lia,fun i h1 h2=>?_⟩
    ·by_cases MD:j<lo+x
     ·exact hJ i j hl kH MD
     ·have wa:j=lo+x:=by lia
      subst wa
      by_cases ki:i=lo+x
      ·subst ki;exact wo _
      ·rw[Wm];exact hJ i (lo+x-1) hl (by lia) (by lia)
    ·rw[show lo+(x+1)-1=lo+x by lia]
     by_cases wc:i=lo+x
     ·subst wc;rfl
     ·rw[Wm];exact he i (by lia) (by lia)
theorem gq{st:SortSt}{lo n nrem:Nat}(C:pe prog w A s κ r P)(hk:kindOf st=κ)(hP:AllP P (arrOf st))(hn:lo+nrem<=(arrOf st).size)(AV:n+1<=nrem)
  (hs:Down r (arrOf st) lo (lo+(n+1))) (h:∀ m bq,kS lo (lo+nrem) st bq->1<=m->m<=nrem->Up r (arrOf bq) lo (lo+m)->Q (some m) bq) :
  wpS (model prog w) A E s (eX lo n nrem) Q st:=by
 unfold eX
 refine wpS_bind (wpS_lift (wpAny_rule ⟨rfl,?_⟩))
 refine wpS_bind (wL C hk hP hn (by lia) AV hs fun m pf bq iP rq n5 hJ hq he=>?_)
 dsimp only
 have hz:=iP.size
 have hsz:lo+m<=(arrOf bq).size:=by lia
 have gp:=iP.kind.trans hk
 have EL:=hP.perm iP.perm
 by_cases MF:pf>0
 ·rw[if_pos MF]
  have hW:=fJ (i:=lo+m-(pf+1)) hsz
  refine wpS_bind (cM (lW C (hW.kind.trans gp) (EL.perm hW.perm) (by rw[hW.size,hz];exact hn) (by lia) n5 ?_ fun m2 sM MG=>h m2 sM ((iP.trans (hW.mono (by lia) (by lia))).trans MG)))
  intro i j hl kH hj
  show R r (mirror (arrOf bq) _ _ _) j<=R r (mirror (arrOf bq) _ _ _) i
  rw[bD hsz he,bD hsz he]
  exact hJ i j hl kH hj
 ·rw[if_neg MF]
  exact lW C gp EL (by rw[hz];exact hn) (by lia) n5 hJ fun m2 sM MG=>h m2 sM (iP.trans MG)
theorem wpS_countRun{st:SortSt}{lo nrem:Nat}(C:pe prog w A s κ r P)(hk:kindOf st=κ)(hP:AllP P (arrOf st))(hn:lo+nrem<=(arrOf st).size)(h1:1<=nrem)
  (h:∀ m bq,kS lo (lo+nrem) st bq->1<=m->m<=nrem->Up r (arrOf bq) lo (lo+m)->Q (some m) bq) :
  wpS (model prog w) A E s (countRun' lo nrem) Q st:=by
 rw[pI]
 refine wpS_bind (sX C hk hP hn (ck 1) h1 (fun i j hl kH hj=>by
  have:i=j:=by lia
  subst this;exact wo _) fun n O5 GW kU hor=>?_)
 dsimp only
 by_cases AV:n=nrem
 ·rw[if_pos (by simpa using AV)]
  exact wpS_pure (h n st (.refl _ _ _) O5 GW kU)
 ·rw[if_neg (by simpa using AV)]
  have dE:R r (arrOf st) (lo+n)<R r (arrOf st) (lo+n-1):=hor.resolve_left AV
  by_cases Wn:n>1
  ·rw[if_pos Wn]
   refine wpS_bind (jQ C hk hP (by lia) (by lia) ?_)
   by_cases Wo:R r (arrOf st) lo<R r (arrOf st) (lo+n-1)
   ·simp only[Wo,decide_true,if_true]
    exact wpS_pure (h n st (.refl _ _ _) O5 GW kU)
   ·simp only[Wo,decide_false,kP,if_false]
    have hsz:lo+n<=(arrOf st).size:=by lia
    have nK:∀ k,lo<=k->k<lo+n->R r (arrOf st) k=R r (arrOf st) (lo+n-1):=by
     intro k hl hk
     have a1:=kU lo k (by lia) hl hk
     have a2:=kU k (lo+n-1) hl (by lia) (by lia)
     lia
    have hW:=fJ (i:=lo) hsz
    refine wpS_bind (cM (gq C (hW.kind.trans hk) (hP.perm hW.perm) (by rw[hW.size];exact hn) (by lia) ?_ fun m2 sM MG=>h m2 sM ((hW.mono (ck _) (by lia)).trans MG)))
    intro i j hl kH hj
    show R r (mirror (arrOf st) _ _ _) j<=R r (mirror (arrOf st) _ _ _) i
    rw[bD hsz nK,bD hsz nK]
    by_cases hjn:j<lo+n
    ·rw[nK i hl (by lia),nK j (by lia) hjn];exact wo _
    ·have wa:j=lo+n:=by lia
     subst wa
     by_cases ki:i=lo+n
     ·subst ki;exact wo _
     ·rw[nK i hl (by lia)];exact GA dE
  ·rw[if_neg Wn]
   have co':n=1:=by lia
   subst co'
   refine gq C hk hP hn (by lia) ?_ h
   intro i j hl kH hj
   by_cases ki:i=j
   ·subst ki;exact wo _
   ·have w_:i=lo:=by lia
    have HG:j=lo+1:=by lia
    subst w_;subst HG
    exact GA dE
theorem cp'{r:Value->Int}{xs:Array Keyed}{i:Nat}{p:Keyed}(e:xs[i]? = some p):R r xs i=r p.1:=by unfold R;rw[e]
theorem Gy{r:Value->Int}{xs:Array Keyed}{i:Nat}(h:i<xs.size):R r xs i=r xs[i].1:=cp' (wm h)
structure One(r:Value->Int)(kK:Array Keyed)(st:SortSt):Prop where
 perm:(arrOf st).Perm kK
 failed:failedOf st=none
 pend:(pendingOf st).size<=1
 up:Up r (arrOf st) 0 kK.size
theorem wpS_sortRuns{st:SortSt}{Q:Unit->SortSt->Prop}(C:pe prog w A s κ r P)(hk:kindOf st=κ)(hP:AllP P (arrOf st))(hp:pendingOf st = #[])(hf:failedOf st=none)(h64:(arrOf st).size<64)(h1:1<=(arrOf st).size)
  (h:∀ bq,(arrOf bq).Perm (arrOf st)->failedOf bq=none->Up r (arrOf bq) 0 (arrOf st).size->Q () bq):wpS (model prog w) A E s sortRuns' Q st:=by
 rw[sortRuns'_eq]
 refine wpS_bind (wpS_get ?_)
 dsimp only
 generalize ha:arrOf st=kK at *
 have hmr:minRun' kK.size kK.size 0=kK.size:=by
  obtain⟨f,hf⟩:∃ f,kK.size=f+1:=⟨kK.size-1,by lia⟩
  have:minRun' (f+1) kK.size 0=kK.size:=by rw[minRun'_succ,if_pos h64];rfl
  rwa[<- hf] at this
 rw[hmr]
 have push:∀ bq:SortSt,kS 0 kK.size st bq->Up r (arrOf bq) 0 kK.size->One r kK (setPending bq ((pendingOf bq).push (0,kK.size,0))):=fun bq hw u =>
  ⟨ha ▸ hw.perm,hw.failed.trans hf,by show((pendingOf bq).push _).size<=1;rw[hw.pend,hp];simp,u⟩
 refine wpS_bind (wpS_mono (wpS_forRange (I:=fun x c bq=>(x=0/\c=(none,0)/\bq=st)\/(1<=x/\c=(none,kK.size)/\One r kK bq))
  (Q:=fun c bq=>c=(none,kK.size)/\One r kK bq) ?step ?fin (.inl ⟨rfl,rfl,rfl⟩)) ?post)
 case fin =>
  rintro c bq (⟨hx,_,_⟩|⟨_,hc,hD⟩)
  ·lia
  ·exact⟨hc,hD⟩
 case step =>
  rintro x c bq _ hx (⟨rfl,rfl,rfl⟩|⟨RN,rfl,hD⟩)
  ·dsimp only
   rw[if_neg (by lia)]
   simp only[NZ,D1,D2]
   refine wpS_bind (wpS_countRun C hk (by rw[ha];exact hP) (by rw[ha];lia) h1 fun m sM hw rq n5 hu=>?_)
   dsimp only
   rw[D2] at hw hu
   have hz:(arrOf sM).size=kK.size:=by rw[hw.size,ha]
   by_cases z:m<kK.size
   ·rw[if_pos z]
    refine wpS_bind (wpS_lift (wpAny_rule ⟨rfl,?_⟩))
    refine wpS_bind (wpS_binarySort C (hw.kind.trans hk) (hP.perm (ha ▸ hw.perm)) (by lia) (by lia) (by rw[D2];exact hu) fun y6 RP Wq=>?_)
    rw[D2] at RP Wq
    simp only[N4,kP,if_false]
    refine wpS_bind (wpS_get ?_)
    have hb:(pendingOf y6).back? = none:=by rw[RP.pend,hw.pend,hp];rfl
    rw[hb]
    dsimp only
    exact wpS_bind (wpS_modify (wpS_pure (.inr ⟨by lia,rfl,push y6 (hw.trans RP) Wq⟩)))
   ·rw[if_neg z]
    have hm:m=kK.size:=by lia
    rw[hm] at hu ⊢
    refine wpS_bind (wpS_get ?_)
    have hb:(pendingOf sM).back? = none:=by rw[hw.pend,hp];rfl
    rw[hb]
    dsimp only
    exact wpS_bind (wpS_modify (wpS_pure (.inr ⟨by lia,rfl,push sM hw hu⟩)))
  ·dsimp only
   rw[if_pos (ck _)]
   exact wpS_pure ⟨rfl,hD⟩
 case post =>
  rintro c bq ⟨rfl,hD⟩
  dsimp only
  refine wpS_bind (wpS_mono (wpS_forRange (I:=fun _ c bq=>c=(none,())/\One r kK bq) (Q:=fun c bq=>c=(none,())/\One r kK bq) ?ct' (fun _ _ q=>q) ⟨rfl,hD⟩) ?cu')
  case ct' =>
   rintro y c Wr _ hy ⟨rfl,H⟩
   refine wpS_bind (wpS_get ?_)
   rw[if_pos H.pend]
   exact wpS_pure ⟨rfl,H⟩
  case cu' =>
   rintro c Wr ⟨rfl,H⟩
   exact wpS_pure (h Wr H.perm H.failed H.up)
def cI (h:Heap) (a:Addr) (vs:List Value):Heap:=((h.update a (Obj.mapSeq fun _=>#[])).push (seqObj "tuple" vs.toArray 0)).push (seqObj "list" #[] 0)
theorem fX{h:Heap}{a b:Addr}{vs:List Value}(hb:b≠a)(dE:b<h.objs.size):(cI h a vs).get? b=h.get? b:=by
 unfold cI
 rw[FK _ _ _ (by rw[size_push',DV];exact eM (vt dE)),
  FK _ _ _ (by rw[DV];exact eM dE),Qo _ _ _ _ hb]
theorem qP{vs:List Value}{xs:Array Keyed}(hp:xs.Perm (pairsOf vs))(hs:Up r xs 0 vs.length):(xs.map (·.2)).toList.Perm vs/\(xs.map (·.2)).toList.Pairwise fun x y=>r x<=r y:=by
 have hl:xs.toList.Perm (vs.zip vs):=by rw[<- pairsOf_toList];exact Array.perm_iff_toList_perm.mp hp
 have MH:∀ p,p∈xs.toList->p.1=p.2:=fun p eI=>(mem_zip_self (hl.mem_iff.mp eI)).1
 have e:(xs.map (·.2)).toList=xs.toList.map (·.1):=by
  rw[Array.toList_map];exact Kk fun p eI=>(MH p eI).symm
 have hsz:xs.size=vs.length:=by rw[hp.size_eq,pairsOf_size]
 rw[e]
 refine⟨?_,?_⟩
 ·have h1:=hl.map (·.1)
  rwa[NQ (ck _)] at h1
 ·rw[DL]
  intro i j hi hj kH
  have ki:i<xs.size:=by simpa using hi
  have wa:j<xs.size:=by simpa using hj
  have h1:=hs i j (gV _) (ot kH) (by lia)
  rw[Gy ki,Gy wa] at h1
  simpa using h1
theorem dZ {a:Addr} {vs:List Value} {n:Nat} {F:PySem.Fin->Shared->Prop} (ho:s.heap.get? a=some (seqObj "list" vs.toArray n)) (kD:vs.length<=63) (hP:∀ v∈vs,P v)
  (hk:2<=vs.length->∀ (Q:SortKind->Shared->Prop),Q κ { s with heap:=cI s.heap a vs }->wpAny (model prog w) A (keyKind' vs.toArray) Q E { s with heap:=cI s.heap a vs })
  (C:2<=vs.length->pe prog w A { s with heap:=cI s.heap a vs } κ r P)
  (h:∀ out:Array Value,out.toList.Perm vs->(out.toList.Pairwise fun x y=>r x<=r y)->F (.done (.ret .none)) { s with heap:=sortedHeap s.heap a vs out }) :
  wpAny (model prog w) A (Builtin.«list.sort» ⟨[.ref a],[]⟩) F E s:=by
 have hsz:vs.length<=sizeLine:=gS kD (by rw[sizeLine_eq];decide)
 rw[list_sort_plain]
 have ha:a<s.heap.objs.size:=dy ho
 refine ag (listItems_at ho rfl ?_)
 refine ag (listUpdate_at ho rfl ?_ (by simpa using hsz) (gV _))
 obtain⟨e1,zh⟩:∃ e1,(s.heap.update a (Obj.mapSeq fun _=>#[])).get? a=some (seqObj "list" #[] e1):=⟨_,get?_update_seq ho (fun _=>#[])⟩
 refine ag (seqEpoch_at zh rfl ?_)
 refine ag (wpAny_newTuple ?_ (by simpa using hsz))
 refine ag (wpAny_newList ?_ (gV _))
 refine wpAny_holding ?_
 have O6:(cI s.heap a vs).get? a=some (seqObj "list" #[] e1):=by
  unfold cI
  rw[FK _ _ _ (by rw[size_push',DV];exact eM (vt ha)),FK _ _ _ (by rw[DV];exact eM ha)]
  exact zh
 show wpAny (model prog w) A _ F E { s with heap:=cI s.heap a vs }
 dsimp only
 have hvz:vs.toArray.size=vs.length:=by simp
 have fin:∀ bq:SortSt,(arrOf bq).Perm (pairsOf vs)->Up r (arrOf bq) 0 vs.length->F (.done (.ret .none)) { s with heap:=sortedHeap s.heap a vs ((arrOf bq).map (·.2)) }:=by
  intro bq hp hs
  obtain⟨h1,h2⟩:=qP hp hs
  exact h _ h1 h2
 by_cases h2:vs.toArray.size<2
 ·rw[if_pos h2,if_pos h2]
  refine ag (aI ?_)
  rw[StateT.run_pure]
  refine ag (aI ?_)
  dsimp only
  refine ag (seqEpoch_at O6 rfl ?_)
  refine ag (listUpdate_at O6 rfl ?_ (gV _) (by rw[Array.size_map];show(pairsOf vs).size<=_;rw[pairsOf_size];lia))
  simp only[bne_self_eq_false,kP,if_false]
  refine aI (fin (SortSt.mk' general' (vs.toArray.zip vs.toArray) #[] 7 none) (Array.Perm.refl _) ?_)
  intro i j _ kH hj
  have:i=j:=by lia
  subst this;exact wo _
 ·rw[if_neg h2,if_neg h2]
  refine ag (hk (by lia) _ ?_)
  refine ag (oI (wpS_sortRuns (st:=SortSt.mk' κ (vs.toArray.zip vs.toArray) #[] 7 none)
   (Q:=fun _ bq=>(arrOf bq).Perm (pairsOf vs)/\failedOf bq=none/\Up r (arrOf bq) 0 vs.length)
   (C (by lia)) rfl (fun p hp=>?_) rfl rfl (BU (gS (FT (pairsOf_size vs)) kD)) (gS (by lia) (FT (pairsOf_size vs).symm)) fun bq a1 a2 a3=>⟨a1,a2,?_⟩) ?_ fun _ _ e=>e)
  ·have eI:p∈(pairsOf vs).toList:=hp
   rw[pairsOf_toList] at eI
   exact hP _ (mem_zip_self eI).2
  ·have e:(arrOf (SortSt.mk' κ (vs.toArray.zip vs.toArray) #[] 7 none)).size=vs.length:=pairsOf_size vs
   rw[e] at a3
   exact a3
  ·rintro⟨⟨⟩,bq⟩ s' ⟨rfl,hp,hf,hs⟩
   dsimp only
   refine ag (seqEpoch_at O6 rfl ?_)
   refine ag (listUpdate_at O6 rfl ?_ (gV _) (by refine gS (FT ((Array.size_map ..).trans (hp.size_eq.trans (pairsOf_size _)))) ?_;lia))
   rw[hf]
   simp only[bne_self_eq_false,kP,if_false]
   exact aI (fin bq hp hs)
def gj (h:Heap) (vs:List Value):Heap:=((h.push (seqObj "list" #[] 0)).update h.objs.size (Obj.mapSeq (· ++ vs.toArray))).push (seqObj "list" vs.toArray 0)
theorem jk{h:Heap}{vs:List Value}{b:Addr}{o:Obj}(hb:h.get? b=some o):(cI (gj h vs) (h.objs.size+1) vs).get? b=some o:=by
 have dE:b<h.objs.size:=dy hb
 have e:(gj h vs).get? b=some o:=by
  unfold gj
  rw[FK _ _ _ (by rw[DV,size_push'];exact eM (vt dE)),Qo _ _ _ _ (eM dE),FK _ _ _ (eM dE)]
  exact hb
 rw[fX (eM (vt dE)) (dy e)]
 exact e
theorem pM{l:Addr}{vs:List Value}{Q:Value->Shared->Prop}(hl:s.heap.IsList l vs.toArray)(kD:vs.length<=63)(hP:∀ v∈vs,P v)
  (hk:2<=vs.length->∀ (A':Around) (E':Value->Shared->Prop) (s':Shared),(∀ b o,s.heap.get? b=some o->s'.heap.get? b=some o)->∀ (Q:SortKind->Shared->Prop),Q κ s'->wpAny (model prog w) A' (keyKind' vs.toArray) Q E' s')
  (C:2<=vs.length->∀ (s':Shared),(∀ b o,s.heap.get? b=some o->s'.heap.get? b=some o)->pe prog w A.in1.in1 s' κ r P)
  (h:∀ (h':Heap) (out:List Value) (n:Nat),out.Perm vs->(out.Pairwise fun x y=>r x<=r y)->(∀ b o,s.heap.get? b=some o->h'.get? b=some o)->h'.get? (s.heap.objs.size+1)=some (seqObj "list" out.toArray n)->Q (.ref (s.heap.objs.size+1)) { s with heap:=h' }) :
  wpAny (model prog w) A (call (.builtin "sorted") [.ref l]) Q E s:=by
 have hsz:vs.length<=sizeLine:=gS kD (by rw[sizeLine_eq];decide)
 refine Calls.call_function_entry kind_sorted plain_sorted entry_sorted (args_sorted1 _) ?_
 unfold Builtin.«sorted»
 refine ag (m:=checkCount "sorted" 1 1 _) (aI ?_)
 refine ag (collect_list hl ?_ hsz)
 refine ag (wpAny_newList ?_ (by simpa using hsz))
 have Ws:((s.heap.push (seqObj "list" #[] 0)).update s.heap.objs.size (Obj.mapSeq (· ++ vs.toArray))).objs.size=s.heap.objs.size+1:=by
  rw[DV,size_push']
 have vx:(gj s.heap vs).get? (s.heap.objs.size+1)=some (seqObj "list" vs.toArray 0):=by
  unfold gj
  rw[<- Ws];exact jv _ rfl
 show wpAny _ _ _ _ _ { s with heap:=gj s.heap vs }
 rw[Ws]
 refine ag (wpAny_holding (wpAny_call_entry slot_list_sort ⟨_,vx,rfl⟩ entry_list_sort (dZ (r:=r) (s:={ s with heap:=gj s.heap vs }) vx kD hP
  (fun h2=>hk h2 _ _ _ fun b o e=>jk e) (fun h2=>?_) fun out a1 a2=>⟨_,rfl,?_⟩) (args_list_sort _)))
 ·exact C h2 _ fun b o e=>jk e
 ·obtain⟨n,e⟩:=sortedAll_at s.heap vs out
  refine aI ⟨_,rfl,h (sortedAll s.heap vs out) out.toList n a1 a2 (fun b o e=>sortedAll_old e) (by rw[N7];exact e)⟩
end
end sP
namespace L2
open PySem PySem.Spec PyProof.Rows
def pj:Key->Key->Bool
 |.inl i,.inl j=>decide (i<j)
 |.inr x,.inr y=>oz x y
 |_,_=>false
def fi:List Key->List Key->Bool
 |a :: as,b :: bs=>if a=b then fi as bs else pj a b
 |_,_=>false
def px:Key->Bool
 |.inl _=>true
 |.inr _=>false
def gE(k:List Key):List Bool:=k.map px
theorem vO(x:Str):oz x x=false:=by unfold oz;simp[List.lt_irrefl]
theorem Ax{x y z:Str}(h:oz x y=true)(g:oz y z=true):oz x z=true:=by
 unfold oz at *
 simp only[decide_eq_true_eq] at *
 exact List.lt_trans h g
theorem vG{x y:Str}(h:x.cps.toList=y.cps.toList):x=y:=by
 cases x;cases y
 simp only at h
 rw[Array.toList_inj.mp h]
theorem xK{x y:Str}(h:oz x y=false)(g:oz y x=false):x=y:=by
 unfold oz at *
 simp only[decide_eq_false_iff_not] at *
 apply vG
 exact List.le_antisymm (List.not_lt.mp g) (List.not_lt.mp h)
theorem wO(a:Key):pj a a=false:=by cases a with|inl i=>simp[pj]|inr x=>exact vO x
theorem EY{a b c:Key}(h:pj a b=true)(g:pj b c=true):pj a c=true:=by
 cases a<;>cases b<;>cases c<;>simp only[pj,decide_eq_true_eq] at *<;>first|lia|contradiction|exact Ax h g
theorem Dt{a b:Key}(e:px a=px b)(h:pj a b=false)(g:pj b a=false):a=b:=by
 cases a<;>cases b<;>simp only[pj,px,decide_eq_false_iff_not] at *
 ·congr 1;lia
 ·cases e
 ·cases e
 ·congr 1;exact xK h g
theorem du:∀ a:List Key,fi a a=false
 |[]=>rfl
 |a :: as=>by unfold fi;rw[if_pos rfl];exact du as
theorem lM:∀ {a b c:List Key},fi a b=true->fi b c=true->fi a c=true
 |[],_,_,h,_=>by simp[fi] at h
 |_ :: _,[],_,h,_=>by simp[fi] at h
 |_ :: _,_ :: _,[],_,g=>by simp[fi] at g
 |a :: as,b :: bs,c :: cs,h,g=>by
  unfold fi at h g ⊢
  by_cases e1:a=b
  ·subst e1
   rw[if_pos rfl] at h
   by_cases e2:a=c
   ·subst e2
    rw[if_pos rfl] at g ⊢
    exact lM h g
   ·rw[if_neg e2] at g ⊢
    exact g
  ·rw[if_neg e1] at h
   by_cases e2:b=c
   ·subst e2
    rw[if_neg e1]
    exact h
   ·rw[if_neg e2] at g
    have t:=EY h g
    have ne:a≠c:=fun e=>by subst e;rw[wO] at t;cases t
    rw[if_neg ne]
    exact t
theorem jn:∀ {a b:List Key},gE a=gE b->fi a b=false->fi b a=false->a=b
 |[],[],_,_,_=>rfl
 |[],_ :: _,e,_,_=>by simp[gE] at e
 |_ :: _,[],e,_,_=>by simp[gE] at e
 |a :: as,b :: bs,e,h,g=>by
  simp only[gE,fo,List.cons.injEq] at e
  unfold fi at h g
  by_cases e1:a=b
  ·subst e1
   rw[if_pos rfl] at h g
   rw[jn (show gE as=gE bs from e.2) h g]
  ·rw[if_neg e1] at h
   rw[if_neg (Ne.symm e1)] at g
   exact absurd (Dt e.1 h g) e1
theorem count_le{α:Type}(p q:α->Bool):∀ (l:List α),(∀ x∈l,p x=true->q x=true)->l.countP p<=l.countP q
 |[],_=>ck _
 |x :: l,h=>by
  have ih:=count_le p q l fun y hy=>h y (b5 _ hy)
  have h1:=h x bX
  rw[NR,NR]
  cases hp:p x<;>cases hq:q x<;>simp_all<;>exact Nat.le_succ_of_le ‹_›
theorem mH{α:Type}(p q:α->Bool)(a:α)(ha:p a=false)(hb:q a=true):∀ (l:List α),a∈l->(∀ x∈l,p x=true->q x=true)->l.countP p<l.countP q
 |[],m,_=>by cases m
 |x :: l,m,h=>by
  rw[NR,NR]
  rcases df.mp m with rfl|m
  ·have:=count_le p q l fun y hy=>h y (b5 _ hy)
   rw[ha,hb];simp;exact BU ‹_›
  ·have ih:=mH p q a ha hb l m fun y hy=>h y (b5 _ hy)
   have h1:=h x bX
   cases hp:p x<;>cases hq:q x<;>simp_all<;>exact vt ‹_›
def xl(L:List (List Key))(k:List Key):Int:=(L.countP fun j=>fi j k:Nat)
theorem lO{L:List (List Key)}{a b:List Key}(e:gE a=gE b)(ma:a∈L):decide (xl L a<xl L b)=fi a b:=by
 unfold xl
 cases h:fi a b with
 |true =>
  have:=mH (fun j=>fi j a) (fun j=>fi j b) a (du a) h L ma fun x _ hx=>lM hx h
  exact decide_eq_true (by lia)
 |false =>
  apply decide_eq_false
  cases g:fi b a with
  |false=>rw[jn e h g];lia
  |true =>
   have:=count_le (fun j=>fi j b) (fun j=>fi j a) L fun x _ hx=>lM hx g
   lia
def RQ:V->Option Key
 |.int i=>some (.inl i)
 |.str x=>some (.inr x)
 |_=>none
theorem G7(k:Key):RQ (kV k)=some k:=by cases k<;>rfl
theorem z_:∀ k:List Key,(k.map kV).filterMap RQ=k
 |[]=>rfl
 |a :: as=>by rw[fo,yk,G7,z_ as]
def il(H:Hp):Value->List Key
 |.ref b=>match H b with
  |some (.tup xs)=>xs.filterMap RQ
  |_=>[]
 |_=>[]
theorem bf{H:Hp}{b:Addr}{k:List Key}(h:H b=some (.tup (k.map kV))):il H (.ref b)=k:=by
 simp only[il,h];exact z_ k
section
variable {prog:Program}{w:World}{A:Around}{E:Value->Shared->Prop}{s:Shared}{Q:Bool->Shared->Prop}
theorem Eo{a b:Key}{u v:Value}(ru:RelV (kV a) u)(rv:RelV (kV b) v)(e:px a=px b)(q:Q (pj a b) s):wpAny (model prog w) A (oneLt' false u v) Q E s:=by
 refine PySem.W.kat_one u v ?_
 cases a with
 |inl i =>
  cases b with
  |inr x=>cases e
  |inl j =>
   obtain⟨t,rfl⟩:=ru
   obtain⟨t',rfl⟩:=rv
   exact lt_int q
 |inr x =>
  cases b with
  |inl j=>cases e
  |inr y =>
   obtain⟨t,rfl⟩:=ru
   obtain⟨t',rfl⟩:=rv
   exact PySem.P.lt_str q
theorem Ey{a b:Key}{u v:Value}(ru:RelV (kV a) u)(rv:RelV (kV b) v)(e:px a=px b)(q:Q (decide (a=b)) s):wpAny (model prog w) A (eqBool u v) Q E s:=by
 cases a with
 |inl i =>
  cases b with
  |inr x=>cases e
  |inl j =>
   obtain⟨t,rfl⟩:=ru
   obtain⟨t',rfl⟩:=rv
   refine wpAny_eqBool_int ?_
   rw[<- UT];exact q
 |inr x =>
  cases b with
  |inl j=>cases e
  |inr y =>
   obtain⟨t,rfl⟩:=ru
   obtain⟨t',rfl⟩:=rv
   refine wpAny_eqBool_str ?_
   rw[<- UU];exact q
theorem zO{fin:Bool}(k m:List Key)(us vs:List Value)(i:Nat)(ha:Vals (k.map kV) us)(hb:Vals (m.map kV) vs)(e:gE k=gE m)(hf:fin=false)(q:Q (fi k m) s) :
  PySem.W.KatLex prog w A true fin Q (us.zip vs) i s:=by
 induction k generalizing m us vs i with
 |nil =>
  cases m with
  |cons b m=>simp[gE] at e
  |nil =>
   rw[Paired.n0 ha,Paired.n0 hb]
   subst hf
   exact PySem.W.kat_nil q
 |cons a k ih =>
  cases m with
  |nil=>simp[gE] at e
  |cons b m =>
   obtain⟨u,us,rfl,ra,rk⟩:=Paired.c ha
   obtain⟨v,vs,rfl,rb,rm⟩:=Paired.c hb
   simp only[gE,fo,List.cons.injEq] at e
   rw[zI]
   refine PySem.W.kat_cons (Ey ra rb e.1 (PySem.W.kat_go (fun h=>PySem.W.kat_yes ?_) (fun h=>PySem.W.kat_no ?_)))
   ·have h:=of_decide_eq_true h
    subst h
    unfold fi at q
    rw[if_pos rfl] at q
    exact ih m _ _ (i+1) rk rm e.2 q
   ·have h:=of_decide_eq_false h
    unfold fi at q
    rw[if_neg h] at q
    by_cases h0:i=0
    ·subst h0
     cases a with
     |inr x =>
      cases b with
      |inl j=>cases e.1
      |inr y =>
       obtain⟨t,rfl⟩:=ra
       obtain⟨t',rfl⟩:=rb
       exact oneLt_str q
     |inl i =>
      cases b with
      |inr x=>cases e.1
      |inl j =>
       obtain⟨t,rfl⟩:=ra
       obtain⟨t',rfl⟩:=rb
       exact oneLt_int q
    ·rw[show(true && i == 0)=false by simp[h0]]
     exact Eo ra rb e.1 q
end
section
variable {X:Cx}{pins:List (Addr × Obj)}{σ:St}{H:Hp}{s:Shared}
theorem Inv.tup{b:Addr}{xs:List V}(I:Inv X pins σ H s)(h:H b=some (.tup xs)):∃ its:List Value,Vals xs its/\IsTup s.heap b its.toArray:=(I.aE b _ h).2
theorem n8(I:Inv X pins σ H s){s':Shared}(kp:∀ b o,s.heap.get? b=some o->s'.heap.get? b=some o){A:Around}{L:List (List Key)}{b0:Bool}{sh:List Bool} :
  sP.pe X.prog X.w A s' (tuples' true) (fun v=>xl L (il H v)) (fun v=>∃ b k,v=.ref b/\H b=some (.tup (k.map kV))/\gE k=b0 :: sh/\k∈L):=by
 rintro x y ⟨b,k,rfl,hb,hk,mk⟩ ⟨c,m,rfl,hc,hm,mm⟩ Q E q
 obtain⟨us,ru,o,e1,c1,n1,d1⟩:=I.tup hb
 obtain⟨vs,rv,o',e2,c2,n2,d2⟩:=I.tup hc
 have RT:gE k=gE m:=hk.trans hm.symm
 simp only[bf hb,bf hc] at q
 rw[lO RT mk] at q
 refine PySem.W.kat_lt (kp _ _ e1) d1 (kp _ _ e2) d2 (zO k m us vs 0 ru rv RT ?_ q)
 ·have h1:=ru.length
  have h2:=rv.length
  have h3:k.length=m.length:=by
   have:=congrArg List.length RT
   simpa[gE] using this
  simp only[bT] at h1 h2
  exact decide_eq_false (by simp only[hX];lia)
theorem kat_tups(I:Inv X pins σ H s){s':Shared}(kp:∀ b o,s.heap.get? b=some o->s'.heap.get? b=some o){b0:Bool}{sh:List Bool}{ys:List V}{ks:List (List Key)}{vs:List Value}(ht:bB H ys ks)(hv:Vals ys vs)(hs:∀ k∈ks,gE k=b0 :: sh) :
  ∃ fs:List Value,PySem.W.KatTups s'.heap vs fs/\fs.length=vs.length/\∀ f∈fs,(b0=true->∃ i t,f=Value.int i t)/\(b0=false->∃ x t,f=Value.str x t):=by
 induction ys generalizing ks vs with
 |nil =>
  rw[Paired.n0 hv]
  exact⟨[],.nil,rfl,by simp⟩
 |cons y ys ih =>
  obtain⟨k,ks,rfl,⟨b,rfl,hb⟩,t⟩:=Paired.c ht
  obtain⟨v,vs,rfl,rfl,rs⟩:=Paired.c hv
  obtain⟨fs,f1,f2,f3⟩:=ih t rs fun j hj=>hs j (b5 _ hj)
  have hk:=hs k bX
  obtain⟨us,ru,o,e1,c1,n1,d1⟩:=I.tup hb
  cases k with
  |nil=>simp[gE] at hk
  |cons a k =>
   obtain⟨u,us,rfl,ra,rr⟩:=Paired.c ru
   simp only[gE,fo,List.cons.injEq] at hk
   refine⟨u :: fs,.cons (kp _ _ e1) c1 d1 rfl f1,by simp[f2],fun f hf=>?_⟩
   rcases df.mp hf with rfl|hf
   ·cases a with
    |inr x =>
     obtain⟨tk,rfl⟩:=ra
     exact⟨(fun z=>by rw[<- hk.1] at z;cases z),fun _=>⟨_,_,rfl⟩⟩
    |inl i =>
     obtain⟨tk,rfl⟩:=ra
     exact⟨fun _=>⟨_,_,rfl⟩,fun z=>by rw[<- hk.1] at z;cases z⟩
   ·exact f3 f hf
end
def sI(K:PySem.W.Frag):List V->Hp->VK->Prop:=fun xs H Q=>match xs with
 |[.ref p]=>∃ ys ks sh,eB K H p ys/\ys.length<=63/\bB H ys ks/\(∀ k∈ks,gE k=true :: sh) /\
   ∀ zs ms l,bB H zs ms->ms.Perm ks->(ms.Pairwise fun a b=>fi b a=false)->H l=none->Q (.ref l) (upd H l (.lst zs))
 |_=>False
theorem bB.keys{H:Hp}{ys:List V}{ks:List (List Key)}{vs:List Value}(h:bB H ys ks)(hv:Vals ys vs):vs.map (il H)=ks/\∀ v∈vs,∃ b k,v=.ref b/\H b=some (.tup (k.map kV))/\k∈ks:=by
 induction ys generalizing ks vs with
 |nil=>rw[Paired.n0 hv,show ks=[] from Paired.n0 h];exact⟨rfl,by simp⟩
 |cons y ys ih =>
  obtain⟨k,ks,rfl,⟨b,rfl,g⟩,t⟩:=Paired.c h
  obtain⟨v,vs,rfl,rfl,rs⟩:=Paired.c hv
  obtain⟨e,m⟩:=ih t rs
  refine⟨by rw[fo,bf g,e],fun v hv=>?_⟩
  rcases df.mp hv with rfl|hv
  ·exact⟨b,k,rfl,g,bX⟩
  ·obtain⟨b',k',e1,e2,e3⟩:=m v hv
   exact⟨b',k',e1,e2,b5 _ e3⟩
theorem bB.of{H:Hp}{ks:List (List Key)}(vs:List Value)(h:∀ v∈vs,∃ b k,v=Value.ref b/\H b=some (.tup (k.map kV))/\k∈ks):∃ zs,bB H zs (vs.map (il H))/\Vals zs vs:=by
 induction vs with
 |nil=>exact⟨[],.nil,.nil⟩
 |cons v vs ih =>
  obtain⟨zs,a,c⟩:=ih fun u hu=>h u (b5 _ hu)
  obtain⟨b,k,rfl,e,_⟩:=h v bX
  exact⟨.ref b :: zs,.cons ⟨b,rfl,by rw[bf e];exact e⟩ a,.cons rfl c⟩
section
variable {X:Cx}
theorem um:kb X (.builtin "sorted") (sI X.K):=by
 intro pins s σ H xs us Q I r h
 unfold sI at h
 split at h
 ·rename_i p
  obtain⟨ys,ks,sh,hl,kD,ht,hs,q⟩:=h
  obtain⟨u,rfl,ru⟩:=Vals.one r
  cases ru
  obtain⟨vs,rv,pl,hz⟩:=I.list hl
  obtain⟨ek,mem⟩:=ht.keys rv
  have hlen:=rv.length
  refine sP.pM (κ:=tuples' true) (r:=fun v=>xl ks (il H v)) (P:=fun v=>∃ b k,v=.ref b/\H b=some (.tup (k.map kV))/\gE k=true :: sh/\k∈ks) pl.isList (by lia) (fun v hv=>?_) (fun h2 A' E' s' kp Q' q'=>?_) (fun h2 s' kp=>n8 I kp) fun h' out n pm pw kp eo=>?_
  ·obtain⟨b,k,e1,e2,e3⟩:=mem v hv
   exact⟨b,k,e1,e2,hs k e3,e3⟩
  ·obtain⟨fs,f1,f2,f3⟩:=kat_tups I kp ht rv hs
   refine PySem.W.kat_kind (T:=.type "int") f1 (by lia) (fun f hf=>?_) (by decide) q'
   obtain⟨i,t,rfl⟩:=(f3 f hf).1 rfl
   exact .now
  ·obtain⟨zs,z1,z2⟩:=bB.of (H:=H) (ks:=ks) out fun v hv=>mem v (pm.mem_iff.mp hv)
   have zl:=z2.length
   have ol:=pm.length_eq
   have ER:(out.map (il H)).Perm ks:=by rw[<- ek];exact pm.map _
   refine⟨.ref (s.heap.objs.size+1),_,I.laid (a:=s.heap.objs.size+1) (t':=s.toks) kp (D4 _) (show eP X.prog X.w _ h' _ (.lst zs) from⟨by lia,out,n,z2,eo⟩),rfl,
    q zs _ _ z1 ER ?_ (I.aE.fresh (D4 _))⟩
   rw[ly]
   refine pw.imp_of_mem fun {x y} mx my hle=>?_
   obtain⟨b,k,rfl,hb,kk⟩:=mem x (pm.mem_iff.mp mx)
   obtain⟨c,m,rfl,hc,km⟩:=mem y (pm.mem_iff.mp my)
   rw[bf hb,bf hc] at *
   have:=lO (L:=ks) ((hs m km).trans (hs k kk).symm) km
   rw[<- this]
   exact decide_eq_false (by lia)
 ·exact h.elim
end
end L2
namespace sP
open PySem PyProof.Rows
section
variable {prog:Program}{w:World}{A:Around}{E:Value->Shared->Prop}{s:Shared}{κ:SortKind}{r:Value->Int}{P:Value->Prop}
theorem oM{T:String}{r d:Addr}{n:Nat}{P:Nat->Value->Prop}{OK:Heap->Prop}{R:Result->Shared->Prop}(K:PySem.W.KdlSrc prog w T r d n P OK)(hh:A.handled=none)(aE:OK s.heap)(hn:n<=sizeLine)
  (hR:∀ h' tk acc c,(∀ b o,s.heap.get? b=some o->h'.get? b=some o)->h'.get? s.heap.objs.size=some { cls:=.type "list",data:=.seq acc c }->ItemsOf P acc n->R (.ok (.ret (.ref s.heap.objs.size))) { s with heap:=h',toks:=tk }) :
  codeAny (model prog w) A (.builtin "proto.collect" ⟨[.ref r],[]⟩) R s:=by
 have Wt:=K.there _ aE
 have hS:(s.heap.push { cls:=.type "list",data:=.seq ([]:List Value).toArray }).get? s.heap.objs.size=some { cls:=.type "list",data:=.seq ([]:List Value).toArray }:=jv _ rfl
 refine codeAny_builtin F.entry_proto_collect ?_
 rw[Around.under_plainId F.plain_proto_collect _]
 show wpAny _ A.in1 (newList [] >>= fun l=>again (.builtin "list.__iadd__" ⟨[l,.ref r],[]⟩)) _ _ s
 refine ag (wpAny_newObj_type ?_)
 refine aI ⟨plainId_quiet F.plain_list_iadd _,codeAny_builtin F.entry_list_iadd ?_⟩
 rw[Around.under_plainId F.plain_list_iadd _]
 show wpAny _ A.in1 (Builtin.List.listExtendWith (.ref s.heap.objs.size) (.ref r) (.ref s.heap.objs.size)) _ _ _
 exact PySem.W.kdl_extend (R:=R) (s:={ s with heap:=s.heap.push { cls:=.type "list",data:=.seq ([]:List Value).toArray } }) K hh (K.keep _ _ aE fun b _ o e=>eW _ e) s.heap.objs.size (FR Wt.1) (FR Wt.2) _ 0 hS
  (fun h' tk xo c' kp eo ia=>hR h' tk xo c' (fun b o e=>kp b o (eM (dy e)) (eW _ e)) eo ia) hn
theorem q_{T:String}{r d:Addr}{n:Nat}{P:Nat->Value->Prop}{OK:Heap->Prop}{Q:List Value->Shared->Prop}(K:PySem.W.KdlSrc prog w T r d n P OK)(hh:A.handled=none)(aE:OK s.heap)(hn:n<=sizeLine)
  (hQ:∀ h' tk acc,(∀ b o,s.heap.get? b=some o->h'.get? b=some o)->s.heap.objs.size<=h'.objs.size->ItemsOf P acc n->Q acc.toList { s with heap:=h',toks:=tk }):wpAny (model prog w) A (collect (.ref r)) Q E s:=by
 unfold collect
 refine ag (wpAny_runValue (oM K hh aE hn fun h' tk acc c kp eo ia=>?_))
 show wpAny _ A (load s.heap.objs.size >>= _) _ _ { s with heap:=h',toks:=tk }
 refine ag (wpAny_load eo ?_)
 exact aI (hQ h' tk acc kp (ot (dy eo)) ia)
theorem uI{v:Value}{R:List Value->Prop}{Q:Value->Shared->Prop}
  (RV:∀ (A':Around) (E':Value->Shared->Prop) (Q':List Value->Shared->Prop),A'.handled=A.handled->(∀ vs h1 tk,R vs->(∀ b o,s.heap.get? b=some o->h1.get? b=some o)->s.heap.objs.size<=h1.objs.size->Q' vs { s with heap:=h1,toks:=tk })->wpAny (model prog w) A' (collect v) Q' E' s)
  (hsz:∀ vs,R vs->vs.length<=63) (hP:∀ vs,R vs->∀ v∈vs,P v)
  (hk:∀ vs,R vs->2<=vs.length->∀ (A':Around) (E':Value->Shared->Prop) (s':Shared),(∀ b o,s.heap.get? b=some o->s'.heap.get? b=some o)->∀ (Q:SortKind->Shared->Prop),Q κ s'->wpAny (model prog w) A' (keyKind' vs.toArray) Q E' s')
  (C:∀ (s':Shared),(∀ b o,s.heap.get? b=some o->s'.heap.get? b=some o)->pe prog w A.in1.in1 s' κ r P)
  (h:∀ (vs:List Value) (h':Heap) (a:Addr) (out:List Value) (n tk:Nat),R vs->out.Perm vs->(out.Pairwise fun x y=>r x<=r y)->(∀ b o,s.heap.get? b=some o->h'.get? b=some o)->s.heap.objs.size<=a->h'.get? a=some (seqObj "list" out.toArray n)->Q (.ref a) { s with heap:=h',toks:=tk }) :
  wpAny (model prog w) A (call (.builtin "sorted") [v]) Q E s:=by
 refine Calls.call_function_entry kind_sorted plain_sorted entry_sorted (args_sorted1 _) ?_
 unfold Builtin.«sorted»
 refine ag (m:=checkCount "sorted" 1 1 _) (aI ?_)
 refine ag (RV _ _ _ rfl fun vs h1 tk hR kp hz=>?_)
 have kD:=hsz vs hR
 have CH:vs.length<=sizeLine:=gS kD (by rw[sizeLine_eq];decide)
 refine ag (wpAny_newList ?_ (by simpa using CH))
 have vx:(h1.push (seqObj "list" vs.toArray 0)).get? h1.objs.size=some (seqObj "list" vs.toArray 0):=jv _ rfl
 have old:∀ b o,s.heap.get? b=some o->(cI (h1.push (seqObj "list" vs.toArray 0)) h1.objs.size vs).get? b=some o:=fun b o e=>by
  have dE:b<h1.objs.size:=dy (kp b o e)
  rw[fX (eM dE) (by rw[size_push'];exact vt dE)]
  exact eW _ (kp b o e)
 show wpAny _ _ _ _ _ { s with heap:=h1.push (seqObj "list" vs.toArray 0),toks:=tk }
 refine ag (wpAny_holding (wpAny_call_entry slot_list_sort ⟨_,vx,rfl⟩ entry_list_sort (dZ (r:=r) (s:={ s with heap:=h1.push (seqObj "list" vs.toArray 0),toks:=tk }) vx kD (hP vs hR)
  (fun h2=>hk vs hR h2 _ _ _ old) (fun h2=>C _ old) fun out a1 a2=>⟨_,rfl,?_⟩) (args_list_sort _)))
 obtain⟨n,e⟩:=sortedHeap_at (out:=out) vx
 refine aI ⟨_,rfl,h vs _ h1.objs.size out.toList n tk hR a1 a2 (fun b o e=>?_) hz (by rw[N7];exact e)⟩
 have dE:b<h1.objs.size:=dy (kp b o e)
 rw[sortedHeap_old (eM dE) (by rw[size_push'];exact vt dE)]
 exact eW _ (kp b o e)
end
end sP
namespace L2
open PySem PySem.Spec PyProof.Rows
def qe:Value->List Key
 |.int i _=>[.inl i]
 |.str x _=>[.inr x]
 |_=>[]
theorem qG{k:Key}{v:Value}(h:RelV (kV k) v):qe v=[k]:=by
 cases k with
 |inl i=>obtain⟨t,rfl⟩:=h;rfl
 |inr x=>obtain⟨t,rfl⟩:=h;rfl
theorem vV{a b:Key}:fi [a] [b]=pj a b:=by
 unfold fi
 by_cases e:a=b
 ·subst e;rw[if_pos rfl,wO];rfl
 ·rw[if_neg e]
theorem yJ{prog:Program}{w:World}{A:Around}{s:Shared}{b:Bool}{L:List Key} :
  sP.pe prog w A s oneType' (fun v=>xl (L.map fun k=>[k]) (qe v)) (fun v=>∃ k,RelV (kV k) v/\px k=b/\k∈L):=by
 rintro x y ⟨k,rk,ik,mk⟩ ⟨m,rm,im,mm⟩ Q E q
 simp only[qG rk,qG rm] at q
 rw[lO (by simp[gE,ik,im]) (b9.mpr ⟨k,mk,rfl⟩),vV] at q
 rw[keyLt'_oneType]
 cases k with
 |inl i =>
  cases m with
  |inr y=>rw[<- im] at ik;cases ik
  |inl j =>
   obtain⟨t,rfl⟩:=rk
   obtain⟨u,rfl⟩:=rm
   exact oneLt_int q
 |inr x =>
  cases m with
  |inl y=>rw[<- im] at ik;cases ik
  |inr j =>
   obtain⟨t,rfl⟩:=rk
   obtain⟨u,rfl⟩:=rm
   exact oneLt_str q
theorem ints_of{ks:List Key}{vs:List Value}(r:Vals (ks.map kV) vs)(h:∀ k∈ks,px k=true):∃ ns,IntsAre vs ns:=by
 induction ks generalizing vs with
 |nil=>rw[Paired.n0 r];exact⟨[],.nil⟩
 |cons k ks ih =>
  obtain⟨v,vs,rfl,r,rs⟩:=Paired.c r
  obtain⟨ns,q⟩:=ih rs fun j hj=>h j (b5 _ hj)
  have:=h k bX
  cases k with
  |inr x=>cases this
  |inl i=>obtain⟨t,rfl⟩:=r;exact⟨_,.cons i t q⟩
theorem A_{ks:List Key}{vs:List Value}(r:Vals (ks.map kV) vs)(h:∀ k∈ks,px k=false):∃ ns,StrsAre vs ns:=by
 induction ks generalizing vs with
 |nil=>rw[Paired.n0 r];exact⟨[],.nil⟩
 |cons k ks ih =>
  obtain⟨v,vs,rfl,r,rs⟩:=Paired.c r
  obtain⟨ns,q⟩:=ih rs fun j hj=>h j (b5 _ hj)
  have:=h k bX
  cases k with
  |inl x=>cases this
  |inr i=>obtain⟨t,rfl⟩:=r;exact⟨_,.cons i t q⟩
theorem wF{prog:Program}{w:World}{A:Around}{E:Value->Shared->Prop}{s:Shared}{b:Bool}{ks:List Key}{vs:List Value}(r:Vals (ks.map kV) vs)(h:∀ k∈ks,px k=b)(h2:2<=vs.length){Q:SortKind->Shared->Prop}(q:Q oneType' s) :
  wpAny (model prog w) A (keyKind' vs.toArray) Q E s:=by
 match vs,h2 with
 |v1 :: v2 :: vs,_ =>
  cases b with
  |true=>obtain⟨ns,hI⟩:=ints_of r h;rw[keyKind_ints hI];exact aI q
  |false=>obtain⟨ns,hI⟩:=A_ r h;rw[keyKind_strs hI];exact aI q
theorem mem_keys{ks:List Key}{vs:List Value}(r:Vals (ks.map kV) vs)(v:Value)(h:v∈vs):∃ k,RelV (kV k) v/\k∈ks:=by
 induction ks generalizing vs with
 |nil=>rw[Paired.n0 r] at h;cases h
 |cons k ks ih =>
  obtain⟨u,vs,rfl,r,rs⟩:=Paired.c r
  rcases df.mp h with rfl|h
  ·exact⟨k,r,bX⟩
  ·obtain⟨j,a,b⟩:=ih rs h
   exact⟨j,a,b5 _ b⟩
theorem keys_map{ks:List Key}{vs:List Value}(r:Vals (ks.map kV) vs):vs.map qe=ks.map fun k=>[k]:=by
 induction ks generalizing vs with
 |nil=>rw[Paired.n0 r];rfl
 |cons k ks ih =>
  obtain⟨u,vs,rfl,r,rs⟩:=Paired.c r
  rw[fo,fo,qG r,ih rs]
theorem vW{ks:List Key}(vs:List Value)(h:∀ v∈vs,∃ k,RelV (kV k) v/\k∈ks):∃ ms:List Key,Vals (ms.map kV) vs:=by
 induction vs with
 |nil=>exact⟨[],.nil⟩
 |cons v vs ih =>
  obtain⟨ms,r⟩:=ih fun u hu=>h u (b5 _ hu)
  obtain⟨k,rk,_⟩:=h v bX
  exact⟨k :: ms,.cons rk r⟩
theorem xX:∀ {ms ks:List Key},(ms.map fun k=>[k]).Perm (ks.map fun k=>[k])->ms.Perm ks:=fun {ms ks} h=>by
 have:=h.map (fun l:List Key=>l.head?)
 simp only[js] at this
 have e:∀ l:List Key,l.map ((fun l:List Key=>l.head?) ∘ fun k=>[k])=l.map some:=fun l=>Kk fun _ _=>rfl
 rw[e,e] at this
 have:=this.filterMap id
 simpa using this
section
variable {X:Cx}
def tO(K:PySem.W.Frag):List V->Hp->VK->Prop:=fun xs H Q=>match xs with
 |[.ref p]=>∃ ks b,ks.length<=63/\(eB K H p (ks.map kV)\/∃ kvs,Rd H p (.dK kvs)/\ks=kvs.map (·.1))/\(∀ k∈ks,px k=b) /\
   ∀ (ms:List Key) (l:Addr),ms.Perm ks->(ms.Pairwise fun a b=>pj b a=false)->H l=none->Q (.ref l) (upd H l (.lst (ms.map kV)))
 |_=>False
theorem uK (hc:X.calm=true):kb X (.builtin "sorted") (tO X.K):=by
 intro pins s σ H xs us Q I r h
 unfold tO at h
 split at h
 ·rename_i p
  obtain⟨ks,b,kD,hl,hb,q⟩:=h
  obtain⟨u,rfl,ru⟩:=Vals.one r
  cases ru
  have hsz:ks.length<=sizeLine:=by
   rcases hl with hl|⟨kvs,e,rfl⟩
   ·obtain⟨vs,rv,pl,hz⟩:=I.list hl
    simpa using hz
   ·obtain⟨z,_⟩:=(show eP X.prog X.w H s.heap p (.dK kvs) from I.rd e)
    simpa using z
  refine sP.uI (κ:=oneType') (R:=fun vs=>Vals (ks.map kV) vs) (r:=fun v=>xl (ks.map fun k=>[k]) (qe v)) (P:=fun v=>∃ k,RelV (kV k) v/\px k=b/\k∈ks) (fun A' E' Q' hA hQ=>?_) (fun vs rv=>?_) (fun vs rv v hv=>?_)
   (fun vs rv h2 A' E' s' kp Q' q'=>wF rv hb h2 q') (fun s' kp=>yJ) fun vs h' a out n tk rv pm pw kp ha eo=>?_
  ·rcases hl with hl|⟨kvs,e,rfl⟩
   ·obtain⟨vs,rv,pl,hz⟩:=I.list hl
    refine collect_list pl.isList (hQ vs _ s.toks rv (fun b o e=>?_) ?_) (by have:=rv.length;lia)
    ·rw[Qo _ _ _ _ (eM (dy e))]
     exact eW _ e
    ·rw[DV,size_push'];exact D4 _
   ·obtain⟨z,y,vs,rel,dd⟩:=(show eP X.prog X.w H s.heap p (.dK kvs) from I.rd e)
    obtain⟨ep,da⟩:=dd.dictAt
    have hlen:vs.length=kvs.length:=rel.length.symm
    refine sP.q_ (PySem.W.kdl_dict (knd:=i6 X.prog X.w) (kvs:=vs) (ep:=ep) y) (hA.trans (I.ok.hd hc)) da (by lia) fun h' tk acc kp hz CF=>hQ _ h' tk ?_ kp hz
    have go:∀ {l1:List (Key × V)} {l2:List (Key × Value)} (ac:List Value),KV l1 l2->ac.length=l2.length->(∀ (i:Nat) (v:Value),ac[i]? = some v->∃ k x,l2[i]? = some (k,x)/\D7 k v=true)->Vals ((l1.map (·.1)).map kV) ac:=by
     intro l1 l2 ac rl
     induction rl generalizing ac with
     |nil=>intro hl _;cases ac with
      |nil=>exact .nil
      |cons _ _=>cases hl
     |@cons p1 q1 l1 l2 r1 rs ih =>
      intro hl hi
      cases ac with
      |nil=>cases hl
      |cons v ac =>
       obtain⟨k,x,e1,e2⟩:=hi 0 v rfl
       simp only[List.getElem?_cons_zero,Option.some.injEq] at e1
       subst e1
       refine .cons ?_ (ih ac (by simpa using hl) fun i v h=>hi (i+1) v (by simpa using h))
       have RW:p1.1=k:=r1.1
       show RelV (kV p1.1) v
       rw[RW]
       rcases wq e2 with⟨i,t,rfl,rfl⟩|⟨x,t,rfl,rfl⟩<;>exact⟨t,rfl⟩
    exact go acc.toList rel (by rw[yy];exact CF.1) fun i v h=>CF.2 i v (by simpa using h)
  ·have:=rv.length
   rw[bT] at this
   lia
  ·obtain⟨k,rk,mk⟩:=mem_keys rv v hv
   exact⟨k,rk,hb k mk,mk⟩
  ·obtain⟨ms,rm⟩:=vW (ks:=ks) out fun v hv=>mem_keys rv v (pm.mem_iff.mp hv)
   have pk:ms.Perm ks:=xX (by rw[<- keys_map rm,<- keys_map rv];exact pm.map _)
   refine⟨.ref a,_,I.laid (a:=a) (t':=tk) kp ha (show eP X.prog X.w _ h' _ (.lst (ms.map kV)) from⟨by rw[bT,pk.length_eq];exact hsz,out,n,rm,eo⟩),rfl,q ms _ pk ?_ (I.aE.fresh ha)⟩
   have Wu:(out.map qe).Pairwise fun x y=>xl (ks.map fun k=>[k]) x<=xl (ks.map fun k=>[k]) y:=ly.mpr pw
   rw[keys_map rm,ly] at Wu
   refine Wu.imp_of_mem fun {x y} mx my hle=>?_
   have mx:=pk.mem_iff.mp mx
   have my:=pk.mem_iff.mp my
   rw[<- vV,<- lO (L:=ks.map fun k=>[k]) (by simp[gE,hb x mx,hb y my]) (b9.mpr ⟨y,my,rfl⟩)]
   exact decide_eq_false (by lia)
 ·exact h.elim
end
end L2
namespace L2.Q
open PySem PySem.Spec PyProof.Rows
inductive D where
 |non|bl (b:Bool)|int (i:Int)|str (x:Str)
 |list (xs:List D)|tup (xs:List D)|dK (kvs:List (Key × D))|dT (kvs:List (List Key × D))
mutual
/-- nothing in it can be changed -/
def D.flat:D->Bool
 |.list _=>false
 |.dK _=>false
 |.dT _=>false
 |.tup xs=>cv xs
 |_=>true
def cv:List D->Bool
 |[]=>true
 |x :: xs=>x.flat && cv xs
end
theorem jr:∀ {xs:List D},cv xs=true↔∀ x∈xs,x.flat=true
 |[]=>by simp[cv]
 |x :: xs=>by simp[cv,jr (xs:=xs)]
theorem dY:cv (xs++ys)=(cv xs && cv ys):=by
 induction xs with
 |nil=>simp[cv]
 |cons x xs ih=>simp[cv,ih,Bool.and_assoc]
def xt:Key->Bool
 |.inl _=>true
 |.inr x=>decide (x.length<=sizeLine)
def O7(kvs:List (Key × D)):Prop:=kvs.length<=sizeLine/\∀ p∈kvs,xt p.1=true
def O8(kvs:List (List Key × D)):Prop:=kvs.length<=sizeLine/\∀ p∈kvs,p.1.length<=sizeLine/\∀ k∈p.1,xt k=true
mutual
inductive Rep(K:PySem.W.Frag)(H:Hp):D->V->Prop
 |non:Rep K H .non .non
 |bl (b:Bool):Rep K H (.bl b) (.bl b)
 |int (i:Int):Rep K H (.int i) (.int i)
 |str {x:Str}:x.length<=sizeLine->Rep K H (.str x) (.str x)
 |list {a:Addr} {vs:List V} {ds:List D}:vs.length<=sizeLine->eB K H a vs->aS K H ds vs->Rep K H (.list ds) (.ref a)
 |tup {a:Addr} {vs:List V} {ds:List D}:vs.length<=sizeLine->H a=some (.tup vs)->aS K H ds vs->Rep K H (.tup ds) (.ref a)
 |dK {a:Addr} {vs:List V} {kvs:List (Key × D)}:O7 kvs->Rd H a (.dK ((kvs.map (·.1)).zip vs))->aS K H (kvs.map (·.2)) vs->Rep K H (.dK kvs) (.ref a)
 |dT {a:Addr} {vs:List V} {kvs:List (List Key × D)}:O8 kvs->Rd H a (.dT ((kvs.map (·.1)).zip vs))->aS K H (kvs.map (·.2)) vs->Rep K H (.dT kvs) (.ref a)
inductive aS(K:PySem.W.Frag)(H:Hp):List D->List V->Prop
 |nil:aS K H [] []
 |cons {d:D} {v:V} {ds:List D} {vs:List V}:Rep K H d v->aS K H ds vs->aS K H (d :: ds) (v :: vs)
end
theorem Rep.ind{K:PySem.W.Frag}{H:Hp}{m1:D->V->Prop}{m2:List D->List V->Prop}(h0:m1 .non .non)(hb:∀ b,m1 (.bl b) (.bl b))(hi:∀ i,m1 (.int i) (.int i))(hs:∀ x,x.length<=sizeLine->m1 (.str x) (.str x))
  (hl:∀ a vs ds,vs.length<=sizeLine->eB K H a vs->aS K H ds vs->m2 ds vs->m1 (.list ds) (.ref a)) (ht:∀ a vs ds,vs.length<=sizeLine->H a=some (.tup vs)->aS K H ds vs->m2 ds vs->m1 (.tup ds) (.ref a))
  (hk:∀ a vs kvs,O7 kvs->Rd H a (.dK ((kvs.map (·.1)).zip vs))->aS K H (kvs.map (·.2)) vs->m2 (kvs.map (·.2)) vs->m1 (.dK kvs) (.ref a)) (hT:∀ a vs kvs,O8 kvs->Rd H a (.dT ((kvs.map (·.1)).zip vs))->aS K H (kvs.map (·.2)) vs->m2 (kvs.map (·.2)) vs->m1 (.dT kvs) (.ref a))
  (hn:m2 [] []) (hc:∀ d v ds vs,Rep K H d v->aS K H ds vs->m1 d v->m2 ds vs->m2 (d :: ds) (v :: vs)):(∀ {d v},Rep K H d v->m1 d v)/\∀ {ds vs},aS K H ds vs->m2 ds vs :=
 ⟨fun r=>Rep.rec (motive_1:=fun d v _=>m1 d v) (motive_2:=fun ds vs _=>m2 ds vs) h0 hb hi (fun h=>hs _ h) (fun z s r ih=>hl _ _ _ z s r ih) (fun z s r ih=>ht _ _ _ z s r ih) (fun z s r ih=>hk _ _ _ z s r ih) (fun z s r ih=>hT _ _ _ z s r ih) hn (fun r s a b=>hc _ _ _ _ r s a b) r,
  fun r=>aS.rec (motive_1:=fun d v _=>m1 d v) (motive_2:=fun ds vs _=>m2 ds vs) h0 hb hi (fun h=>hs _ h) (fun z s r ih=>hl _ _ _ z s r ih) (fun z s r ih=>ht _ _ _ z s r ih) (fun z s r ih=>hk _ _ _ z s r ih) (fun z s r ih=>hT _ _ _ z s r ih) hn (fun r s a b=>hc _ _ _ _ r s a b) r⟩
theorem kG.k'(e:Rd H a (.dK kvs)):kG H a (kV k) (fI kvs k):=.inl ⟨kvs,k,e,rfl,rfl⟩
theorem kG.t'(e:Rd H a (.dT kvs))(eb:H b=some (.tup (k.map kV))):kG H a (.ref b) (fI kvs k):=.inr ⟨kvs,k,b,e,rfl,eb,rfl⟩
theorem ay.rd(s:ay H H')(h:Rd H a u):Rd H' a u:=h.imp (s _ _) fun⟨o,e⟩=>⟨o,s _ _ e⟩
theorem Rep.Ge{K:PySem.W.Frag}(s:ay H H'):(∀ {d:D} {v:V},Rep K H d v->Rep K H' d v)/\∀ {ds:List D} {vs:List V},aS K H ds vs->aS K H' ds vs :=
 Rep.ind .non .bl .int (fun _ h=>.str h) (fun _ _ _ z h _ ih=>.list z (s.lst h) ih) (fun _ _ _ z h _ ih=>.tup z (s _ _ h) ih) (fun _ _ _ kk h _ ih=>.dK kk (ay.rd s h) ih) (fun _ _ _ kk h _ ih=>.dT kk (ay.rd s h) ih) .nil fun _ _ _ _ _ _ a b=>.cons a b
theorem Rep.same{K:PySem.W.Frag}(s:ay H H')(r:Rep K H d v):Rep K H' d v:=(Rep.Ge s).1 r
theorem aS.same{K:PySem.W.Frag}(s:ay H H')(r:aS K H ds vs):aS K H' ds vs:=(Rep.Ge s).2 r
theorem aS.ind{K:PySem.W.Frag}{H:Hp}{m:List D->List V->Prop}(hn:m [] [])(hc:∀ d v ds vs,Rep K H d v->aS K H ds vs->m ds vs->m (d :: ds) (v :: vs)):∀ {ds vs},aS K H ds vs->m ds vs :=
 fun r=>(Rep.ind (m1:=fun _ _=>True) (m2:=m) trivial (fun _=>trivial) (fun _=>trivial) (fun _ _=>trivial) (fun _ _ _ _ _ _ _=>trivial) (fun _ _ _ _ _ _ _=>trivial) (fun _ _ _ _ _ _ _=>trivial) (fun _ _ _ _ _ _ _=>trivial) hn fun d v ds vs r s _ b=>hc d v ds vs r s b).2 r
theorem aS.length{K:PySem.W.Frag}(r:aS K H ds vs):ds.length=vs.length :=
 aS.ind (m:=fun ds vs=>ds.length=vs.length) rfl (fun _ _ _ _ _ _ ih=>by rw[tI,tI,ih]) r
theorem aS.append{K:PySem.W.Frag}(r:aS K H ds vs)(t:aS K H es ws):aS K H (ds++es) (vs++ws) :=
 aS.ind (m:=fun ds vs=>aS K H (ds++es) (vs++ws)) t (fun _ _ _ _ h _ ih=>.cons h ih) r
theorem aS.get{K:PySem.W.Frag}{H:Hp}{ds:List D}{vs:List V}{i:Nat}{d:D}(r:aS K H ds vs)(e:ds[i]? = some d):∃ v,vs[i]? = some v/\Rep K H d v :=
 aS.ind (m:=fun ds vs=>∀ i d,ds[i]? = some d->∃ v,vs[i]? = some v/\Rep K H d v) (fun i d e=>by simp at e) (fun _ _ _ _ h _ ih i d e=>by
  cases i with
  |zero=>simp at e;subst e;exact⟨_,rfl,h⟩
  |succ i =>
   obtain⟨v,e1,r⟩:=ih i d (by simpa using e)
   exact⟨v,by simpa using e1,r⟩) r i d e
theorem aS.RX{K:PySem.W.Frag}{H:Hp}{ds:List D}{vs:List V}{i:Nat}{v:V}(r:aS K H ds vs)(e:vs[i]? = some v):∃ d,ds[i]? = some d/\Rep K H d v :=
 aS.ind (m:=fun ds vs=>∀ i v,vs[i]? = some v->∃ d,ds[i]? = some d/\Rep K H d v) (fun i d e=>by simp at e) (fun _ _ _ _ h _ ih i d e=>by
  cases i with
  |zero=>simp at e;subst e;exact⟨_,rfl,h⟩
  |succ i =>
   obtain⟨v,e1,r⟩:=ih i d (by simpa using e)
   exact⟨v,by simpa using e1,r⟩) r i v e
theorem aS.drop{K:PySem.W.Frag}(n:Nat)(r:aS K H ds vs):aS K H (ds.drop n) (vs.drop n) :=
 aS.ind (m:=fun ds vs=>∀ n,aS K H (ds.drop n) (vs.drop n)) (fun n=>by rw[List.drop_nil,List.drop_nil];exact .nil) (fun _ _ _ _ h hs ih n=>by
  cases n with
  |zero=>exact .cons h hs
  |succ n=>exact ih n) r n
theorem aS.n0{K:PySem.W.Frag}(h:aS K H [] vs):vs=[]:=by cases h;rfl
theorem aS.c{K:PySem.W.Frag}(h:aS K H (d :: ds) vs):∃ u us,vs=u :: us/\Rep K H d u/\aS K H ds us:=by
 cases h with
 |cons r rs=>exact⟨_,_,rfl,r,rs⟩
theorem aS.take{K:PySem.W.Frag}(n:Nat)(r:aS K H ds vs):aS K H (ds.take n) (vs.take n) :=
 aS.ind (m:=fun ds vs=>∀ n,aS K H (ds.take n) (vs.take n)) (fun n=>by rw[List.take_nil,List.take_nil];exact .nil) (fun _ _ _ _ h hs ih n=>by
  cases n with
  |zero=>exact .nil
  |succ n=>exact .cons h (ih n)) r n
mutual
/-- what is owned: a tree whose lists and gR' stand at As,gS' gT';its leaves shared (fl: and flat) -/
inductive bI(K:PySem.W.Frag)(Hs H:Hp)(fl:Bool):D->V->List Addr->Prop
 |sh {d:D} {v:V}:(fl=true->d.flat=true)->Rep K Hs d v->bI K Hs H fl d v []
 |list {a:Addr} {vs:List V} {ds:List D} {As:List Addr}:vs.length<=sizeLine->H a=some (.lst vs)->aA K Hs H fl ds vs As->bI K Hs H fl (.list ds) (.ref a) (a :: As)
 |tup {a:Addr} {vs:List V} {ds:List D} {As:List Addr}:vs.length<=sizeLine->Hs a=some (.tup vs)->cv ds=false->aA K Hs H fl ds vs As->bI K Hs H fl (.tup ds) (.ref a) As
 |dK {a:Addr} {vs:List V} {kvs:List (Key × D)} {As:List Addr}:O7 kvs->H a=some (.dK ((kvs.map (·.1)).zip vs))->aA K Hs H fl (kvs.map (·.2)) vs As->bI K Hs H fl (.dK kvs) (.ref a) (a :: As)
 |dT {a:Addr} {vs:List V} {kvs:List (List Key × D)} {As:List Addr}:O8 kvs->H a=some (.dT ((kvs.map (·.1)).zip vs))->aA K Hs H fl (kvs.map (·.2)) vs As->bI K Hs H fl (.dT kvs) (.ref a) (a :: As)
inductive aA(K:PySem.W.Frag)(Hs H:Hp)(fl:Bool):List D->List V->List Addr->Prop
 |nil:aA K Hs H fl [] [] []
 |cons {d:D} {v:V} {ds:List D} {vs:List V} {As Bs:List Addr}:bI K Hs H fl d v As->aA K Hs H fl ds vs Bs->aA K Hs H fl (d :: ds) (v :: vs) (As++Bs)
end
def Own(H:Hp)(a:Addr):Prop:=(∃ vs,H a=some (.lst vs))\/(∃ kvs,H a=some (.dK kvs))\/∃ kvs,H a=some (.dT kvs)
section
variable {K:PySem.W.Frag}{Hs ah H H':Hp}{fl:Bool}
theorem Own.ne(h:Own H a):H a≠none:=by
 rcases h with⟨_,e⟩|⟨_,e⟩|⟨_,e⟩<;>rw[e]<;>exact fun z=>nomatch z
theorem Own.Aq(h:Own H a):H a≠some (.tup vs):=by
 rcases h with⟨_,e⟩|⟨_,e⟩|⟨_,e⟩<;>rw[e]<;>exact fun z=>nomatch z
theorem bI.ind{m1:D->V->List Addr->Prop}{m2:List D->List V->List Addr->Prop}(hs:∀ d v,(fl=true->d.flat=true)->Rep K Hs d v->m1 d v [])
  (hl:∀ a vs ds As,vs.length<=sizeLine->H a=some (.lst vs)->aA K Hs H fl ds vs As->m2 ds vs As->m1 (.list ds) (.ref a) (a :: As)) (ht:∀ a vs ds As,vs.length<=sizeLine->Hs a=some (.tup vs)->cv ds=false->aA K Hs H fl ds vs As->m2 ds vs As->m1 (.tup ds) (.ref a) As)
  (hk:∀ a vs kvs As,O7 kvs->H a=some (.dK ((kvs.map (·.1)).zip vs))->aA K Hs H fl (kvs.map (·.2)) vs As->m2 (kvs.map (·.2)) vs As->m1 (.dK kvs) (.ref a) (a :: As)) (hT:∀ a vs kvs As,O8 kvs->H a=some (.dT ((kvs.map (·.1)).zip vs))->aA K Hs H fl (kvs.map (·.2)) vs As->m2 (kvs.map (·.2)) vs As->m1 (.dT kvs) (.ref a) (a :: As))
  (hn:m2 [] [] []) (hc:∀ d v ds vs As Bs,bI K Hs H fl d v As->aA K Hs H fl ds vs Bs->m1 d v As->m2 ds vs Bs->m2 (d :: ds) (v :: vs) (As++Bs)):(∀ {d v As},bI K Hs H fl d v As->m1 d v As)/\∀ {ds vs As},aA K Hs H fl ds vs As->m2 ds vs As :=
 ⟨fun r=>bI.rec (motive_1:=fun d v As _=>m1 d v As) (motive_2:=fun ds vs As _=>m2 ds vs As) (fun f r=>hs _ _ f r) (fun z s r ih=>hl _ _ _ _ z s r ih) (fun z s n r ih=>ht _ _ _ _ z s n r ih) (fun z s r ih=>hk _ _ _ _ z s r ih) (fun z s r ih=>hT _ _ _ _ z s r ih) hn (fun r s a b=>hc _ _ _ _ _ _ r s a b) r,
  fun r=>aA.rec (motive_1:=fun d v As _=>m1 d v As) (motive_2:=fun ds vs As _=>m2 ds vs As) (fun f r=>hs _ _ f r) (fun z s r ih=>hl _ _ _ _ z s r ih) (fun z s n r ih=>ht _ _ _ _ z s n r ih) (fun z s r ih=>hk _ _ _ _ z s r ih) (fun z s r ih=>hT _ _ _ _ z s r ih) hn (fun r s a b=>hc _ _ _ _ _ _ r s a b) r⟩
theorem uk{a:Addr}{p:Prop}(h:a∈([]:List Addr)):p:=absurd h zS
theorem bI.Wv:(∀ {d:D} {v:V} {As:List Addr},bI K Hs H fl d v As->∀ a∈As,Own H a)/\∀ {ds:List D} {vs:List V} {As:List Addr},aA K Hs H fl ds vs As->∀ a∈As,Own H a :=
 bI.ind (m1:=fun _ _ As=>∀ a∈As,Own H a) (m2:=fun _ _ As=>∀ a∈As,Own H a) (fun _ _ _ _ a h=>uk h) (fun _ _ _ _ _ e _ ih a h=>(df.mp h).elim (fun z=>z ▸ .inl ⟨_,e⟩) (ih a)) (fun _ _ _ _ _ _ _ _ ih=>ih)
  (fun _ _ _ _ _ e _ ih a h=>(df.mp h).elim (fun z=>z ▸ .inr (.inl ⟨_,e⟩)) (ih a)) (fun _ _ _ _ _ e _ ih a h=>(df.mp h).elim (fun z=>z ▸ .inr (.inr ⟨_,e⟩)) (ih a)) (fun a h=>uk h) fun _ _ _ _ _ _ _ _ i1 i2 a h=>(dS.mp h).elim (i1 a) (i2 a)
theorem bI.own(r:bI K Hs H fl d v As):∀ a∈As,Own H a:=bI.Wv.1 r
theorem aA.own(r:aA K Hs H fl ds vs As):∀ a∈As,Own H a:=bI.Wv.2 r
theorem bI.Ef(s:ay Hs ah):(∀ {d:D} {v:V} {As:List Addr},bI K Hs H fl d v As->(∀ a∈As,H' a=H a)->bI K ah H' fl d v As)/\∀ {ds:List D} {vs:List V} {As:List Addr},aA K Hs H fl ds vs As->(∀ a∈As,H' a=H a)->aA K ah H' fl ds vs As :=
 bI.ind (m1:=fun d v As=>(∀ a∈As,H' a=H a)->bI K ah H' fl d v As) (m2:=fun ds vs As=>(∀ a∈As,H' a=H a)->aA K ah H' fl ds vs As) (fun _ _ f r _=>.sh f (r.same s))
  (fun _ _ _ _ z e _ ih k=>.list z ((k _ bX).trans e) (ih fun a h=>k a (b5 _ h))) (fun _ _ _ _ z e n _ ih k=>.tup z (s _ _ e) n (ih k)) (fun _ _ _ _ z e _ ih k=>.dK z ((k _ bX).trans e) (ih fun a h=>k a (b5 _ h)))
  (fun _ _ _ _ z e _ ih k=>.dT z ((k _ bX).trans e) (ih fun a h=>k a (b5 _ h))) (fun _=>.nil) fun _ _ _ _ _ _ _ _ i1 i2 k=>.cons (i1 fun a h=>k a (i9 _ h)) (i2 fun a h=>k a (fF _ h))
theorem bI.eh(s:ay Hs ah)(r:bI K Hs H fl d v As)(k:∀ a∈As,H' a=H a):bI K ah H' fl d v As:=(bI.Ef s).1 r k
theorem aA.eh(s:ay Hs ah)(r:aA K Hs H fl ds vs As)(k:∀ a∈As,H' a=H a):aA K ah H' fl ds vs As:=(bI.Ef s).2 r k
theorem bI.grow(s:ay Hs ah)(t:ay H H')(r:bI K Hs H fl d v As):bI K ah H' fl d v As :=
 r.eh s fun a h=>by
  cases e:H a with
  |none=>exact absurd e (r.own a h).ne
  |some o=>exact t a o e
theorem aA.grow(s:ay Hs ah)(t:ay H H')(r:aA K Hs H fl ds vs As):aA K ah H' fl ds vs As :=
 r.eh s fun a h=>by
  cases e:H a with
  |none=>exact absurd e (r.own a h).ne
  |some o=>exact t a o e
theorem bI.rep2{G:Hp}(s:ay Hs G):(∀ {d:D} {v:V} {As:List Addr},bI K Hs H fl d v As->(∀ a∈As,G a=H a)->Rep K G d v)/\∀ {ds:List D} {vs:List V} {As:List Addr},aA K Hs H fl ds vs As->(∀ a∈As,G a=H a)->aS K G ds vs :=
 bI.ind (m1:=fun d v As=>(∀ a∈As,G a=H a)->Rep K G d v) (m2:=fun ds vs As=>(∀ a∈As,G a=H a)->aS K G ds vs) (fun _ _ _ r _=>r.same s)
  (fun _ _ _ _ z e _ ih k=>.list z (.inl (.inl ((k _ bX).trans e))) (ih fun a h=>k a (b5 _ h))) (fun _ _ _ _ z e n _ ih k=>.tup z (s _ _ e) (ih k)) (fun _ _ _ _ z e _ ih k=>.dK z (.inl ((k _ bX).trans e)) (ih fun a h=>k a (b5 _ h)))
  (fun _ _ _ _ z e _ ih k=>.dT z (.inl ((k _ bX).trans e)) (ih fun a h=>k a (b5 _ h))) (fun _=>.nil) fun _ _ _ _ _ _ _ _ i1 i2 k=>.cons (i1 fun a h=>k a (i9 _ h)) (i2 fun a h=>k a (fF _ h))
theorem bI.rep(s:ay Hs G)(r:bI K Hs H fl d v As)(k:∀ a∈As,G a=H a):Rep K G d v:=(bI.rep2 s).1 r k
theorem aA.reps(s:ay Hs G)(r:aA K Hs H fl ds vs As)(k:∀ a∈As,G a=H a):aS K G ds vs:=(bI.rep2 s).2 r k
theorem Rep.vK(t:∀ a vs,H a=some (.tup vs)->G a=some (.tup vs)):(∀ {d:D} {v:V},Rep K H d v->d.flat=true->Rep K G d v)/\∀ {ds:List D} {vs:List V},aS K H ds vs->cv ds=true->aS K G ds vs :=
 Rep.ind (m1:=fun d v=>d.flat=true->Rep K G d v) (m2:=fun ds vs=>cv ds=true->aS K G ds vs) (fun _=>.non) (fun b _=>.bl b) (fun i _=>.int i) (fun _ h _=>.str h) (fun _ _ _ _ _ _ _ f=>by simp[D.flat] at f) (fun _ _ _ z e _ ih f=>.tup z (t _ _ e) (ih (by simpa[D.flat] using f)))
  (fun _ _ _ _ _ _ _ f=>by simp[D.flat] at f) (fun _ _ _ _ _ _ _ f=>by simp[D.flat] at f) (fun _=>.nil) fun _ _ _ _ _ _ i1 i2 f=>by
   simp only[cv,kQ] at f
   exact .cons (i1 f.1) (i2 f.2)
theorem Rep.eZ(t:∀ a vs,H a=some (.tup vs)->G a=some (.tup vs))(r:Rep K H d v)(f:d.flat=true):Rep K G d v:=(Rep.vK t).1 r f
theorem aS.eZ(t:∀ a vs,H a=some (.tup vs)->G a=some (.tup vs))(r:aS K H ds vs)(f:cv ds=true):aS K G ds vs:=(Rep.vK t).2 r f
theorem aS.owned(r:aS K Hs ds vs)(f:cv ds=true):aA K Hs H fl ds vs [] :=
 aS.ind (m:=fun ds vs=>cv ds=true->aA K Hs H fl ds vs []) (fun _=>.nil) (fun _ _ _ _ h _ ih f=>by
  simp only[cv,kQ] at f
  exact .cons (As:=[]) (.sh (fun _=>f.1) h) (ih f.2)) r f
theorem aS.Eu(r:aS K Hs ds vs):aA K Hs H false ds vs [] :=
 aS.ind (m:=fun ds vs=>aA K Hs H false ds vs []) .nil (fun _ _ _ _ h _ ih=>.cons (As:=[]) (.sh (fun z=>Bool.noConfusion z) h) ih) r
theorem bI.Ww:(∀ {d:D} {v:V} {As:List Addr},bI K Hs H fl d v As->bI K Hs H false d v As)/\∀ {ds:List D} {vs:List V} {As:List Addr},aA K Hs H fl ds vs As->aA K Hs H false ds vs As :=
 bI.ind (fun _ _ _ r=>.sh (fun z=>Bool.noConfusion z) r) (fun _ _ _ _ z e _ ih=>.list z e ih) (fun _ _ _ _ z e n _ ih=>.tup z e n ih) (fun _ _ _ _ z e _ ih=>.dK z e ih) (fun _ _ _ _ z e _ ih=>.dT z e ih) .nil fun _ _ _ _ _ _ _ _ a b=>.cons a b
theorem bI.O9(r:bI K Hs H fl d v As):bI K Hs H false d v As:=bI.Ww.1 r
theorem aA.O9(r:aA K Hs H fl ds vs As):aA K Hs H false ds vs As:=bI.Ww.2 r
theorem bI.CT(t:∀ a vs,Hs a=some (.tup vs)->G a=some (.tup vs)):(∀ {d:D} {v:V} {As:List Addr},bI K Hs H true d v As->bI K G H true d v As)/\∀ {ds:List D} {vs:List V} {As:List Addr},aA K Hs H true ds vs As->aA K G H true ds vs As :=
 bI.ind (fun _ _ f r=>.sh f (r.eZ t (f rfl))) (fun _ _ _ _ z e _ ih=>.list z e ih) (fun _ _ _ _ z e n _ ih=>.tup z (t _ _ e) n ih) (fun _ _ _ _ z e _ ih=>.dK z e ih) (fun _ _ _ _ z e _ ih=>.dT z e ih) .nil fun _ _ _ _ _ _ _ _ a b=>.cons a b
theorem bI.leaves(t:∀ a vs,Hs a=some (.tup vs)->G a=some (.tup vs))(r:bI K Hs H true d v As):bI K G H true d v As:=(bI.CT t).1 r
theorem aA.ind{m:List D->List V->List Addr->Prop}(hn:m [] [] [])(hc:∀ d v ds vs As Bs,bI K Hs H fl d v As->aA K Hs H fl ds vs Bs->m ds vs Bs->m (d :: ds) (v :: vs) (As++Bs)):∀ {ds vs As},aA K Hs H fl ds vs As->m ds vs As :=
 fun r=>(bI.ind (m1:=fun _ _ _=>True) (m2:=m) (fun _ _ _ _=>trivial) (fun _ _ _ _ _ _ _ _=>trivial) (fun _ _ _ _ _ _ _ _ _=>trivial) (fun _ _ _ _ _ _ _ _=>trivial) (fun _ _ _ _ _ _ _ _=>trivial) hn fun d v ds vs As Bs r s _ b=>hc d v ds vs As Bs r s b).2 r
theorem aA.append(r:aA K Hs H fl ds vs As)(t:aA K Hs H fl es ws Bs):aA K Hs H fl (ds++es) (vs++ws) (As++Bs) :=
 aA.ind (m:=fun ds vs As=>aA K Hs H fl (ds++es) (vs++ws) (As++Bs)) t (fun _ _ _ _ _ _ h _ ih=>by
  rw[NM]
  exact .cons h ih) r
theorem aA.n0(h:aA K Hs H fl [] vs As):vs=[]/\As=[]:=by cases h;exact⟨rfl,rfl⟩
theorem aA.c(h:aA K Hs H fl (d :: ds) vs As):∃ u us A B,vs=u :: us/\As=A++B/\bI K Hs H fl d u A/\aA K Hs H fl ds us B:=by
 cases h with
 |cons r rs=>exact⟨_,_,_,_,rfl,rfl,r,rs⟩
theorem aA.length(r:aA K Hs H fl ds vs As):ds.length=vs.length :=
 aA.ind (m:=fun ds vs _=>ds.length=vs.length) rfl (fun _ _ _ _ _ _ _ _ ih=>by rw[tI,tI,ih]) r
end
inductive Sl where
 /-- shared;owned;owned and walked by a loop just now (at a) -/
 |sh (d:D)|ow (fl:Bool) (d:D)|lk (a:Addr) (fl:Bool) (d:D)
 /-- an exception,at a -/
 |xc (a:Addr)
abbrev Env:=List (Option Sl)
inductive SR(K:PySem.W.Frag)(Hs H:Hp):Env->St->List Addr->Prop
 |nil:SR K Hs H [] [] []
 |non {ρ:Env} {σ:St} {ae:List Addr} {o:Option V}:SR K Hs H ρ σ ae->SR K Hs H (none :: ρ) (o :: σ) ae
 |sh {ρ:Env} {σ:St} {ae:List Addr} {d:D} {v:V}:Rep K Hs d v->SR K Hs H ρ σ ae->SR K Hs H (some (.sh d) :: ρ) (some v :: σ) ae
 |xc {ρ:Env} {σ:St} {ae:List Addr} {a:Addr}:SR K Hs H ρ σ ae->SR K Hs H (some (.xc a) :: ρ) (some (.ref a) :: σ) ae
 |ow {ρ:Env} {σ:St} {ae As:List Addr} {fl:Bool} {d:D} {v:V}:As≠[]->bI K Hs H fl d v As->SR K Hs H ρ σ ae->SR K Hs H (some (.ow fl d) :: ρ) (some v :: σ) (As++ae)
 |lk {ρ:Env} {σ:St} {ae As:List Addr} {a:Addr} {fl:Bool} {d:D}:As≠[]->bI K Hs H fl d (.ref a) As->SR K Hs H ρ σ ae->SR K Hs H (some (.lk a fl d) :: ρ) (some (.ref a) :: σ) (As++ae)
structure Wf(Hs H:Hp):Prop where
 sub:ay Hs H
 iO:∀ a vs,H a=some (.tup vs)->Hs a=some (.tup vs)
structure dr(K:PySem.W.Frag)(Hs:Hp)(ρ:Env)(σ:St)(H:Hp)(ae:List Addr):Prop where
 sr:SR K Hs H ρ σ ae
 wf:Wf Hs H
 oB:ae.Nodup
 own:∀ a∈ae,Hs a=none
structure eJ(Hs H ah H':Hp):Prop where
 all:ay H H'
 sh:ay Hs ah
 wf:Wf ah H'
 new:∀ a,ah a≠none->Hs a≠none\/H a=none
section
variable {K:PySem.W.Frag}{Hs H ah H' Wx Wy:Hp}
theorem eJ.refl(w:Wf Hs H):eJ Hs H Hs H:=⟨ay.refl _,ay.refl _,w,fun _ h=>.inl h⟩
theorem eJ.trans(a:eJ Hs H ah H')(b:eJ ah H' Wx Wy):eJ Hs H Wx Wy :=
 ⟨a.all.trans b.all,a.sh.trans b.sh,b.wf,fun c h=>by
  rcases b.new c h with h|h
  ·exact a.new c h
  ·exact .inr (a.all.free h)⟩
theorem eJ.kU(g:eJ Hs H ah H')(h:Hs a=none)(h':H a≠none):ah a=none:=by
 cases e:ah a with
 |none=>rfl
 |some o =>
  rcases g.new a (by rw[e];exact fun z=>nomatch z) with z|z
  ·exact absurd h z
  ·exact absurd z h'
theorem SR.own{ρ:Env}{σ:St}{ae:List Addr}(s:SR K Hs H ρ σ ae):∀ a∈ae,Own H a:=by
 induction s with
 |nil=>exact fun a h=>uk h
 |non _ ih=>exact ih
 |sh _ _ ih=>exact ih
 |xc _ ih=>exact ih
 |ow _ r _ ih=>exact fun a h=>(dS.mp h).elim (r.own a) (ih a)
 |lk _ r _ ih=>exact fun a h=>(dS.mp h).elim (r.own a) (ih a)
theorem SR.eh(s:ay Hs ah)(r:SR K Hs H ρ σ ae):(∀ a∈ae,H' a=H a)->SR K ah H' ρ σ ae:=by
 induction r with
 |nil=>exact fun _=>.nil
 |non _ ih=>exact fun k=>.non (ih k)
 |sh h _ ih=>exact fun k=>.sh (h.same s) (ih k)
 |xc _ ih=>exact fun k=>.xc (ih k)
 |ow ne h _ ih=>exact fun k=>.ow ne (h.eh s fun a m=>k a (i9 _ m)) (ih fun a m=>k a (fF _ m))
 |lk ne h _ ih=>exact fun k=>.lk ne (h.eh s fun a m=>k a (i9 _ m)) (ih fun a m=>k a (fF _ m))
theorem dr.grow(r:dr K Hs ρ σ H ae)(g:eJ Hs H ah H'):dr K ah ρ σ H' ae :=
 ⟨r.sr.eh g.sh fun a h=>by
  cases e:H a with
  |none=>exact absurd e (r.sr.own a h).ne
  |some o=>exact g.all a o e,g.wf,r.oB,fun a h=>g.kU (r.own a h) (r.sr.own a h).ne⟩
def zG(K:PySem.W.Frag)(Hs H:Hp)(ae:List Addr)(sl:Sl)(v:V):Prop:=match sl with
 |.sh d=>Rep K Hs d v
 |.ow fl d=>∃ As,As≠[]/\bI K Hs H fl d v As/\∀ a∈As,a∈ae
 |.lk a fl d=>∃ As,As≠[]/\bI K Hs H fl d v As/\v=.ref a/\∀ a∈As,a∈ae
 |.xc a=>v=.ref a
theorem zG.mono(h:zG K Hs H ae sl v)(m:∀ a∈ae,a∈bS):zG K Hs H bS sl v:=by
 cases sl with
 |sh d=>exact h
 |xc a=>exact h
 |ow fl d =>
  obtain⟨As,ne,r,q⟩:=h
  exact⟨As,ne,r,fun a ha=>m a (q a ha)⟩
 |lk a fl d =>
  obtain⟨As,ne,r,e,q⟩:=h
  exact⟨As,ne,r,e,fun a ha=>m a (q a ha)⟩
theorem SR.get{ρ:Env}{σ:St}{ae:List Addr}{i:Nat}{sl:Sl}(s:SR K Hs H ρ σ ae)(e:ρ[i]? = some (some sl)):∃ v,σ[i]? = some (some v)/\zG K Hs H ae sl v:=by
 induction s generalizing i with
 |nil=>simp at e
 |non s ih =>
  cases i with
  |zero=>simp at e
  |succ i=>exact ih e
 |sh r s ih =>
  cases i with
  |zero=>simp at e;subst e;exact⟨_,rfl,r⟩
  |succ i=>exact ih e
 |xc s ih =>
  cases i with
  |zero=>simp at e;subst e;exact⟨_,rfl,rfl⟩
  |succ i=>exact ih e
 |ow ne r s ih =>
  cases i with
  |zero=>simp at e;subst e;exact⟨_,rfl,_,ne,r,fun a m=>i9 _ m⟩
  |succ i =>
   obtain⟨v,e1,h⟩:=ih e
   exact⟨v,e1,h.mono fun a m=>fF _ m⟩
 |lk ne r s ih =>
  cases i with
  |zero=>simp at e;subst e;exact⟨_,rfl,_,ne,r,rfl,fun a m=>i9 _ m⟩
  |succ i =>
   obtain⟨v,e1,h⟩:=ih e
   exact⟨v,e1,h.mono fun a m=>fF _ m⟩
end
inductive Md where
 |sh|ow (fl:Bool)|bo
def RM(K:PySem.W.Frag)(Hs H:Hp):Md->D->V->List Addr->Prop
 |.sh,d,v,As=>As=[]/\Rep K Hs d v
 |.ow fl,d,v,As=>bI K Hs H fl d v As/\As≠[]
 |.bo,d,v,As=>As=[]/\Rep K H d v
inductive xv(K:PySem.W.Frag)(Hs H:Hp):List (Md × D)->List V->List Addr->Prop
 |nil:xv K Hs H [] [] []
 |cons {m:Md} {d:D} {v:V} {ps:List (Md × D)} {vs:List V} {As Bs:List Addr}:RM K Hs H m d v As->xv K Hs H ps vs Bs->xv K Hs H ((m,d) :: ps) (v :: vs) (As++Bs)
section
variable {K:PySem.W.Frag}{Hs H ah H':Hp}
theorem RM.own{m:Md}{d:D}{v:V}{As:List Addr}(r:RM K Hs H m d v As):∀ a∈As,Own H a:=by
 cases m with
 |sh=>obtain⟨rfl,_⟩:=r;exact fun a h=>uk h
 |ow fl=>exact bI.own r.1
 |bo=>obtain⟨rfl,_⟩:=r;exact fun a h=>uk h
theorem RM.grow(r:RM K Hs H m d v As)(g:eJ Hs H ah H'):RM K ah H' m d v As:=by
 cases m with
 |sh=>exact⟨r.1,r.2.same g.sh⟩
 |ow fl=>exact⟨bI.grow g.sh g.all r.1,r.2⟩
 |bo=>exact⟨r.1,r.2.same g.all⟩
theorem RM.rep(w:Wf Hs H)(r:RM K Hs H m d v As):Rep K H d v:=by
 cases m with
 |sh=>exact r.2.same w.sub
 |ow fl=>exact bI.rep w.sub r.1 fun _ _=>rfl
 |bo=>exact r.2
theorem RM.flat(w:Wf Hs H)(r:RM K Hs H m d v As)(f:d.flat=true):Rep K Hs d v:=(r.rep w).eZ w.iO f
theorem xv.reps(w:Wf Hs H){ps:List (Md × D)}(r:xv K Hs H ps vs As):aS K H (ps.map (·.2)) vs:=by
 induction r with
 |nil=>exact .nil
 |cons r _ ih=>exact .cons (r.rep w) ih
end
abbrev WE:=Env->(Md->D->Prop)->Prop
abbrev WT:=Env->(Bool->Prop)->Prop
abbrev WA:=Env->(List (Md × D)->Prop)->Prop
structure pY where
 nx:Env->Prop
 rt:Md->D->Prop
 bk:Env->Prop:=fun _=>False
 ct:Env->Prop:=fun _=>False
abbrev WS:=pY->Env->Prop
def cg(ah H:Hp)(As:List Addr):Prop:=As.Nodup/\∀ a∈As,ah a=none/\H a=none
def ml(K:PySem.W.Frag)(t:WE):TE:=fun σ H Qv=>∃ Hs ρ ae Q,dr K Hs ρ σ H ae/\t ρ Q /\
 ∀ v H' ah m d As,eJ Hs H ah H'->RM K ah H' m d v As->cg ah H As->Q m d->Qv v H'
def AW(K:PySem.W.Frag)(t:WT):TT:=fun σ H Qv=>∃ Hs ρ ae Q,dr K Hs ρ σ H ae/\t ρ Q/\∀ b H' ah,eJ Hs H ah H'->Q b->Qv b H'
def RZ(K:PySem.W.Frag)(t:WA):TA:=fun σ H Qv=>∃ Hs ρ ae Q,dr K Hs ρ σ H ae/\t ρ Q /\
 ∀ vs H' ah ps As,eJ Hs H ah H'->xv K ah H' ps vs As->cg ah H As->Q ps->Qv vs H'
def xA(K:PySem.W.Frag)(L:Str->Hp->Prop)(t:WS):TS:=fun D σ H=>∃ Hs ρ ae E,dr K Hs ρ σ H ae/\t E ρ /\
 (∀ bp H' ah bG bS,ay Hs ah->dr K ah bG bp H' bS->E.nx bG->D.nx bp H') /\
 (∀ bp H' ah bG bS,ay Hs ah->dr K ah bG bp H' bS->E.bk bG->D.bk bp H') /\
 (∀ bp H' ah bG bS,ay Hs ah->dr K ah bG bp H' bS->E.ct bG->D.ct bp H') /\
 (∀ v H' ah m d As,ay Hs ah->Wf ah H'->RM K ah H' m d v As->As.Nodup->(∀ a∈As,ah a=none)->E.rt m d->D.rt v H') /\
 ∀ n H',ay Hs H'->E.rt (.ow false) (.str n)->L n H'
theorem dW{K:PySem.W.Frag}{L:Str->Hp->Prop}{t:WS}{D:Ends}{σ:St}{H:Hp}{G:Prop}(x:xA K L t D σ H)(k:∀ Hs ρ ae E,dr K Hs ρ σ H ae->t E ρ ->
 (∀ bp H' ah bG bS,ay Hs ah->dr K ah bG bp H' bS->E.nx bG->D.nx bp H') ->
 (∀ bp H' ah bG bS,ay Hs ah->dr K ah bG bp H' bS->E.bk bG->D.bk bp H') ->
 (∀ bp H' ah bG bS,ay Hs ah->dr K ah bG bp H' bS->E.ct bG->D.ct bp H') ->
 (∀ v H' ah m d As,ay Hs ah->Wf ah H'->RM K ah H' m d v As->As.Nodup->(∀ a∈As,ah a=none)->E.rt m d->D.rt v H') ->
 (∀ n H',ay Hs H'->E.rt (.ow false) (.str n)->L n H')->G):G :=
 by
 obtain⟨Hs,ρ,ae,E,sr,h,k1,k2,k3,k4,kx⟩:=x
 exact k Hs ρ ae E sr h k1 k2 k3 k4 kx
theorem dg{K:PySem.W.Frag}{L:Str->Hp->Prop}{t:WS}{D:Ends}{σ:St}{H:Hp}{G:Prop}(x:xA K L t D σ H)(k:∀ Hs ρ ae E,dr K Hs ρ σ H ae->t E ρ ->
 (∀ bp H' ah bG bS,ay Hs ah->dr K ah bG bp H' bS->E.nx bG->D.nx bp H') ->
 (∀ bp H' ah bG bS,ay Hs ah->dr K ah bG bp H' bS->E.bk bG->D.bk bp H') ->
 (∀ bp H' ah bG bS,ay Hs ah->dr K ah bG bp H' bS->E.ct bG->D.ct bp H') ->
 (∀ v H' ah m d As,ay Hs ah->Wf ah H'->RM K ah H' m d v As->As.Nodup->(∀ a∈As,ah a=none)->E.rt m d->D.rt v H')->G):G :=
 dW x fun Hs ρ ae E sr h k1 k2 k3 k4 _=>k Hs ρ ae E sr h k1 k2 k3 k4
theorem iE{α β γ δ:Type _}{A B C:α->β->γ->δ->Prop}{G:Prop}(x:∃ a b c d,A a b c d/\B a b c d/\C a b c d)(k:∀ a b c d,A a b c d->B a b c d->C a b c d->G):G :=
 by
 obtain⟨a,b,c,d,p,q,r⟩:=x
 exact k a b c d p q r
abbrev QE(X:Cx)(K:PySem.W.Frag)(e:Expr)(t:WE):Prop:=PE X e (ml K t)
abbrev QT(X:Cx)(K:PySem.W.Frag)(e:Expr)(t:WT):Prop:=PT X e (AW K t)
abbrev QW(X:Cx)(K:PySem.W.Frag)(e:Expr)(t:WT):Prop:=PW X e (AW K t)
abbrev QA(X:Cx)(K:PySem.W.Frag)(es:List Expr)(t:WA):Prop:=PA X es (RZ K t)
abbrev QS(X:Cx)(K:PySem.W.Frag)(L:Str->Hp->Prop)(st:Stmt)(t:WS):Prop:=PS X st (xA K L t)
abbrev pz(X:Cx)(K:PySem.W.Frag)(L:Str->Hp->Prop)(st:List Stmt)(t:WS):Prop:=mB X st (xA K L t)
abbrev L0:Str->Hp->Prop:=fun _ _=>True
end L2.Q
namespace L2.Q
open PySem PySem.Spec PyProof.Rows
structure Kt{α:Type}(f:α->Prop):Type where
def bE{α:Type}(a:α){f:α->Prop}(_:Kt f):Prop:=f a
mutual
def D.py:D->PyData
 |.non=>.none
 |.bl b=>.bool b
 |.int i=>.int i
 |.str x=>.str x
 |.list xs=>.list (kX xs)
 |.tup xs=>.tuple (kX xs)
 |.dK _=>.none
 |.dT _=>.none
def kX:List D->List PyData
 |[]=>[]
 |x :: xs=>x.py :: kX xs
end
def cq:Nat->D->Bool
 |_,.non=>true
 |_,.bl _=>true
 |_,.int _=>true
 |_,.str x=>PyData.strOk x
 |n+1,.list xs=>xs.all (cq n)
 |n+1,.tup xs=>xs.all (cq n)
 |_,_=>false
def gu(x y:D):Bool:=PyData.eqv x.py y.py
def D.ty:D->String
 |.non => "NoneType"
 |.bl _ => "bool"
 |.int _ => "int"
 |.str _ => "str"
 |.list _ => "list"
 |.tup _ => "tuple"
 |.dK _ => "dict"
 |.dT _ => "dict"
def D.key1:D->Option Key
 |.int i=>some (.inl i)
 |.str x=>some (.inr x)
 |_=>none
def dq:List D->Option (List Key)
 |[]=>some []
 |x :: xs=>match x.key1,dq xs with
  |some k,some ks=>some (k :: ks)
  |_,_=>none
section
variable {κ:Type}[DecidableEq κ]{β:Type}
def cE(kvs:List (κ × β))(k:κ):Option β:=(kvs.find? fun kv=>decide (kv.1=k)).map (·.2)
def i5(kvs:List (κ × β))(k:κ)(v:β):List (κ × β) :=
 if (kvs.any fun kv=>decide (kv.1=k))=true then kvs.map (fun kv=>if kv.1=k then (kv.1,v) else kv) else kvs++[(k,v)]
end
theorem Rep.R0{K:PySem.W.Frag}:(∀ {d:D} {v:V},Rep K H d v->∀ n,cq n d=true->L2.Rep K H d.py v)/\∀ {ds:List D} {vs:List V},aS K H ds vs->∀ n,(∀ d∈ds,cq n d=true)->L2.aS K H (kX ds) vs :=
 Rep.ind (m1:=fun d v=>∀ n,cq n d=true->L2.Rep K H d.py v) (m2:=fun ds vs=>∀ n,(∀ d∈ds,cq n d=true)->L2.aS K H (kX ds) vs) (fun _ _=>.none) (fun b _ _=>.bool b) (fun i _ _=>.int i) (fun _ _ _ _=>.str _)
  (fun _ _ _ _ h _ ih n o=>by
   cases n with
   |zero=>simp[cq] at o
   |succ n=>exact .list h (ih n (by simpa[cq] using o)))
  (fun _ _ _ _ h _ ih n o=>by
   cases n with
   |zero=>simp[cq] at o
   |succ n=>exact .tuple (.inl (.inl h)) (ih n (by simpa[cq] using o)))
  (fun _ _ _ _ _ _ _ n o=>by cases n<;>simp[cq] at o) (fun _ _ _ _ _ _ _ n o=>by cases n<;>simp[cq] at o) (fun _ _=>.nil)
  fun _ _ _ _ _ _ i1 i2 n o=>.cons (i1 n (o _ bX)) (i2 n fun d m=>o d (b5 _ m))
theorem Rep.l2{K:PySem.W.Frag}(r:Rep K H d v)(o:cq n d=true):L2.Rep K H d.py v:=Rep.R0.1 r n o
theorem vL(ih:∀ d,cq n d=true->d.py.canLay0=true/\d.py.depth<=n)(xs:List D)(h:∀ x∈xs,cq n x=true):PyData.canLayAll0 (kX xs)=true/\PyData.depthAll (kX xs)<=n:=by
 induction xs with
 |nil=>exact⟨rfl,gV _⟩
 |cons x xs R1 =>
  have h1:=ih x (h x bX)
  have h2:=R1 fun y hy=>h y (b5 _ hy)
  simp only[kX,PyData.canLayAll0,PyData.depthAll,h1.1,h2.1,Bool.and_self,true_and]
  lia
theorem iK(n:Nat):∀ (d:D),cq n d=true->d.py.canLay0=true/\d.py.depth<=n:=by
 have st:∀ (n:Nat) (x:Str),cq n (.str x)=true->(D.str x).py.canLay0=true/\(D.str x).py.depth<=n:=fun n x h=>by
  have h:PyData.strOk x=true:=by cases n<;>simpa[cq] using h
  exact⟨by simpa[D.py,PyData.canLay0] using h,gV _⟩
 induction n with
 |zero =>
  intro d h
  cases d with
  |str x=>exact st _ x h
  |non=>exact⟨rfl,gV _⟩
  |bl _=>exact⟨rfl,gV _⟩
  |int _=>exact⟨rfl,gV _⟩
  |_=>simp[cq] at h
 |succ n ih =>
  intro d h
  cases d with
  |str x=>exact st _ x h
  |non=>exact⟨rfl,gV _⟩
  |bl _=>exact⟨rfl,gV _⟩
  |int _=>exact⟨rfl,gV _⟩
  |list xs =>
   have h:∀ x∈xs,cq n x=true:=by simpa[cq] using h
   have:=vL ih xs h
   simp only[D.py,PyData.canLay0,PyData.depth]
   exact⟨this.1,by lia⟩
  |tup xs =>
   have h:∀ x∈xs,cq n x=true:=by simpa[cq] using h
   have:=vL ih xs h
   simp only[D.py,PyData.canLay0,PyData.depth]
   exact⟨this.1,by lia⟩
  |dK _=>simp[cq] at h
  |dT _=>simp[cq] at h
mutual
def D.nb:D->Bool
 |.bl _=>false
 |.list xs=>sQ xs
 |.tup xs=>sQ xs
 |.dK _=>false
 |.dT _=>false
 |_=>true
def sQ:List D->Bool
 |[]=>true
 |x :: xs=>x.nb && sQ xs
end
mutual
theorem ju:∀ (x y:D),x.nb=true->y.nb=true->(gu x y=true↔x=y)
 |.non,y,_,hy=>by cases y<;>simp_all [gu,D.py,PyData.eqv,D.nb]
 |.bl _,y,hx,_=>by simp[D.nb] at hx
 |.int i,y,_,hy=>by cases y<;>simp_all [gu,D.py,PyData.eqv,D.nb]
 |.str i,y,_,hy=>by cases y<;>simp_all [gu,D.py,PyData.eqv,D.nb]
 |.dK _,y,hx,_=>by simp[D.nb] at hx
 |.dT _,y,hx,_=>by simp[D.nb] at hx
 |.list xs,y,hx,hy=>by
  cases y with
  |list ys =>
   have:=mJ xs ys (by simpa[D.nb] using hx) (by simpa[D.nb] using hy)
   simp only[gu,D.py,PyData.eqv,D.list.injEq]
   exact this
  |_=>simp_all [gu,D.py,PyData.eqv,D.nb]
 |.tup xs,y,hx,hy=>by
  cases y with
  |tup ys =>
   have:=mJ xs ys (by simpa[D.nb] using hx) (by simpa[D.nb] using hy)
   simp only[gu,D.py,PyData.eqv,D.tup.injEq]
   exact this
  |_=>simp_all [gu,D.py,PyData.eqv,D.nb]
theorem mJ:∀ (xs ys:List D),sQ xs=true->sQ ys=true->(PyData.eqvAll (kX xs) (kX ys)=true↔xs=ys)
 |[],[],_,_=>by simp[kX,PyData.eqvAll]
 |[],_ :: _,_,_=>by simp[kX,PyData.eqvAll]
 |_ :: _,[],_,_=>by simp[kX,PyData.eqvAll]
 |x :: xs,y :: ys,hx,hy=>by
  simp only[sQ,kQ] at hx hy
  have h1:=ju x y hx.1 hy.1
  have h2:=mJ xs ys hx.2 hy.2
  simp only[kX,PyData.eqvAll,kQ,List.cons.injEq]
  exact and_congr h1 h2
end
section
variable {K:PySem.W.Frag}{H:Hp}
theorem Rep.key(r:Rep K H d v)(h:d.key1=some k):v=kV k:=by
 cases r<;>simp[D.key1] at h<;>subst h<;>rfl
theorem aS.keys(r:aS K H ds vs)(h:dq ds=some ks):vs=ks.map kV:=by
 induction ds generalizing vs ks with
 |nil=>simp[dq] at h;subst h;exact r.n0
 |cons d ds ih =>
  obtain⟨u,us,rfl,r,rs⟩:=r.c
  unfold dq at h
  cases e1:d.key1 with
  |none=>rw[e1] at h;simp at h
  |some k =>
   cases e2:dq ds with
   |none=>rw[e1,e2] at h;simp at h
   |some fm =>
    rw[e1,e2] at h
    simp at h
    subst h
    rw[fo,r.key e1,ih rs e2]
theorem Rep.mn(r:Rep K H (.tup ds) v)(h:dq ds=some ks):∃ b,v=.ref b/\H b=some (.tup (ks.map kV)):=by
 cases r with
 |tup _ e rs=>exact⟨_,rfl,by rw[e,rs.keys h]⟩
end
section
variable {κ:Type}[DecidableEq κ]{K:PySem.W.Frag}{H:Hp}
theorem zip_get{k:κ}{kvs:List (κ × D)}{vs:List V}(h:aS K H (kvs.map (·.2)) vs):match cE kvs k with
  |some d=>∃ v,fI ((kvs.map (·.1)).zip vs) k=some v/\Rep K H d v
  |none=>fI ((kvs.map (·.1)).zip vs) k=none:=by
 induction kvs generalizing vs with
 |nil=>rfl
 |cons p kvs ih =>
  obtain⟨u,us,rfl,r,rs⟩:=aS.c (d:=p.2) h
  by_cases e:p.1=k
  ·have e1:cE (p :: kvs) k=some p.2:=by simp[cE,e]
   rw[e1]
   exact⟨_,by simp only[fo,zI];exact ub e,r⟩
  ·have e1:cE (p :: kvs) k=cE kvs k:=by simp[cE,e]
   rw[e1]
   have:=ih rs
   simp only[fo,zI,ui (p:=(p.1,_)) e]
   exact this
theorem Ci{k:κ}{kvs:List (κ × D)}{vs:List V}(h:kvs.length=vs.length):((kvs.map (·.1)).zip vs).any (fun kv=>decide (kv.1=k))=kvs.any fun kv=>decide (kv.1=k):=by
 induction kvs generalizing vs with
 |nil=>rfl
 |cons p kvs ih =>
  cases vs with
  |nil=>simp at h
  |cons v vs =>
   simp only[fo,zI,An]
   rw[ih (vs:=vs) (by simpa using h)]
end
section
variable {K:PySem.W.Frag}{Hs H:Hp}
theorem MJ(w:Wf Hs H)(hp:H p=none)(ho:∀ vs,o≠.tup vs):eJ Hs H Hs (upd H p o) :=
 ⟨(ay.refl H).upd hp,ay.refl _,⟨w.sub.upd hp,fun a vs e=>by
  by_cases h:a=p
  ·subst h;rw[gd] at e;exact absurd (Option.some.inj e) (ho vs)
  ·rw[dP h] at e;exact w.iO a vs e⟩,fun _ h=>.inl h⟩
theorem O_(w:Wf Hs H)(hp:H p=none):eJ Hs H (upd Hs p (.tup vs)) (upd H p (.tup vs)) :=
 ⟨(ay.refl H).upd hp,(ay.refl Hs).upd (w.sub.free hp),⟨fun a o e=>by
  by_cases h:a=p
  ·subst h;rw[gd] at e ⊢;exact e
  ·rw[dP h] at e ⊢;exact w.sub a o e,fun a vs e=>by
  by_cases h:a=p
  ·subst h;rw[gd] at e ⊢;exact e
  ·rw[dP h] at e ⊢;exact w.iO a vs e⟩,fun a h=>by
  by_cases e:a=p
  ·subst e;exact .inr hp
  ·rw[dP e] at h;exact .inl h⟩
theorem cg.nil:cg Hs H []:=⟨lP,fun a h=>nomatch h⟩
theorem cg.of(s:ay H H')(f:cg Hs H' As):cg Hs H As:=⟨f.1,fun a h=>⟨(f.2 a h).1,s.free (f.2 a h).2⟩⟩
abbrev Fin(K:PySem.W.Frag)(Hs H:Hp)(Qd:Md->D->Prop)(Qv:VK):Prop:=∀ v H' ah m d As,eJ Hs H ah H'->RM K ah H' m d v As->cg ah H As->Qd m d->Qv v H'
theorem Fin.after(f:Fin K Hs H Qd Qv)(g:eJ Hs H ah H'):Fin K ah H' Qd Qv:=fun v H2 ax m d As g2 r fr q=>f v H2 ax m d As (g.trans g2) r (fr.of g.all) q
theorem Fin.sh(f:Fin K Hs H Qd Qv)(w:Wf Hs H)(r:Rep K Hs d v)(q:Qd .sh d):Qv v H:=f v H Hs .sh d [] (eJ.refl w) ⟨rfl,r⟩ cg.nil q
theorem Fin.flat(f:Fin K Hs H Qd Qv)(w:Wf Hs H)(r:Rep K H d v)(hf:d.flat=true)(q:Qd .sh d):Qv v H:=f.sh w (r.eZ w.iO hf) q
theorem Fin.bo(f:Fin K Hs H Qd Qv)(w:Wf Hs H)(r:Rep K H d v)(q:Qd .bo d):Qv v H:=f v H Hs .bo d [] (eJ.refl w) ⟨rfl,r⟩ cg.nil q
def lh(m:Md)(d:D):Md:=match m with
 |.sh=>.sh
 |_=>bif d.flat then .sh else .bo
theorem Fin.lh(f:Fin K Hs H Qd Qv)(w:Wf Hs H)(r:Rep K H d v)(rs:m=.sh->Rep K Hs d v)(q:Qd (lh m d) d):Qv v H:=by
 cases m with
 |sh=>exact f.sh w (rs rfl) q
 |ow fl =>
  cases hf:d.flat with
  |true=>exact f.flat w r hf (by simpa[Q.lh,hf] using q)
  |false=>exact f.bo w r (by simpa[Q.lh,hf] using q)
 |bo =>
  cases hf:d.flat with
  |true=>exact f.flat w r hf (by simpa[Q.lh,hf] using q)
  |false=>exact f.bo w r (by simpa[Q.lh,hf] using q)
theorem Fin.lst(f:Fin K Hs H Qd Qv)(w:Wf Hs H)(hz:ds.length<=sizeLine)(r:aS K H ds vs)(hf:cv ds=true)(q:Qd (.ow true) (.list ds)):∀ p,H p=none->Qv (.ref p) (upd H p (.lst vs)):=fun p hp =>
 f _ _ Hs (.ow true) (.list ds) [p] (MJ w hp fun _ z=>nomatch z) ⟨.list (by rw[<- r.length];exact hz) gd ((r.eZ w.iO hf).owned hf),by simp⟩ ⟨by simp,fun a h=>by
  obtain rfl:a=p:=by simpa using h
  exact⟨w.sub.free hp,hp⟩⟩ q
theorem Fin.MK(f:Fin K Hs H Qd Qv)(w:Wf Hs H)(hz:ds.length<=sizeLine)(r:aS K Hs ds vs)(q:Qd (.ow false) (.list ds)):∀ p,H p=none->Qv (.ref p) (upd H p (.lst vs)):=fun p hp =>
 f _ _ Hs (.ow false) (.list ds) [p] (MJ w hp fun _ z=>nomatch z) ⟨.list (by rw[<- r.length];exact hz) gd r.Eu,by simp⟩ ⟨by simp,fun a h=>by
  obtain rfl:a=p:=by simpa using h
  exact⟨w.sub.free hp,hp⟩⟩ q
theorem Fin.tup(f:Fin K Hs H Qd Qv)(w:Wf Hs H)(hz:ds.length<=sizeLine)(r:aS K H ds vs)(hf:cv ds=true)(q:Qd .sh (.tup ds)):∀ p,H p=none->Qv (.ref p) (upd H p (.tup vs)):=fun p hp =>
 f _ _ (upd Hs p (.tup vs)) .sh (.tup ds) [] (O_ w hp) ⟨rfl,.tup (by rw[<- r.length];exact hz) gd ((r.eZ w.iO hf).same ((ay.refl Hs).upd (w.sub.free hp)))⟩ cg.nil q
end
section
variable {X:Cx}{K:PySem.W.Frag}
theorem PE.imp(h:PE X e te)(i:∀ σ H Q,uS σ H Q->te σ H Q):PE X e uS:=fun pins s σ H Q I q=>h pins s σ H Q I (i σ H Q q)
theorem PT.imp(h:PT X e te)(i:∀ σ H Q,uS σ H Q->te σ H Q):PT X e uS:=fun pins s σ H Q I q=>h pins s σ H Q I (i σ H Q q)
theorem PW.imp(h:PW X e te)(i:∀ σ H Q,uS σ H Q->te σ H Q):PW X e uS:=fun wh pins s σ H Q I q=>h wh pins s σ H Q I (i σ H Q q)
theorem PA.imp(h:PA X e te)(i:∀ σ H Q,uS σ H Q->te σ H Q):PA X e uS:=fun p pins s σ H Q I q=>h p pins s σ H Q I (i σ H Q q)
def ML:Option (Option Sl)->(Md->D->Prop)->Prop
 |some (some (.sh d)),Q=>Q .sh d
 |some (some (.ow _ d)),Q=>Q .bo d
 |some (some (.lk _ _ d)),Q=>Q .bo d
 |_,_=>False
def ai(i:Nat):WE:=fun ρ Q=>ML ρ[i]? Q
theorem HH(h:PE X e (y0 i)):QE X K e (ai i):=by
 refine PE.imp h fun σ H Qv hx=>iE hx fun Hs ρ ae Q sr h f=>?_
 unfold ai at h
 cases e:ρ[i]? with
 |none=>rw[e] at h;exact h.elim
 |some o =>
  cases o with
  |none=>rw[e] at h;exact h.elim
  |some sl =>
   obtain⟨v,e1,r⟩:=sr.sr.get e
   rw[e] at h
   cases sl with
   |sh d=>exact⟨v,e1,Fin.sh f sr.wf r h⟩
   |xc a=>exact h.elim
   |ow fl d =>
    obtain⟨As,_,r,_⟩:=r
    exact⟨v,e1,Fin.bo f sr.wf (r.rep sr.wf.sub fun _ _=>rfl) h⟩
   |lk a fl d =>
    obtain⟨As,_,r,_⟩:=r
    exact⟨v,e1,Fin.bo f sr.wf (r.rep sr.wf.sub fun _ _=>rfl) h⟩
theorem qv (i:Nat) (hN:X.N[i]? = some x:=by rfl) (hv:N_ X.env.scope x:=by first|exact Or.inl rfl|exact Or.inr (Or.inl rfl)|exact Or.inr (Or.inr rfl)) (hd:(x == ("__debug__" : Str))=false:=by decide)
  (oy:(x == ("__classdict__" : Str))=false:=by decide):QE X K (.Name x pos) (ai i):=HH (U6 hN hv hd oy)
def wC(d:D):WE:=fun _ Q=>Q .sh d
theorem yF(h:PE X e (tC v))(r:∀ H,Rep K H d v):QE X K e (wC d) :=
 PE.imp h fun σ H Qv hx=>iE hx fun Hs ρ ae Q sr h f=>Fin.sh f sr.wf (r _) h
theorem aB{i j pos}:QE X K (.Constant (.int i) j pos) (wC (.int i)):=yF YK fun _=>.int i
theorem gU{i j pos}(h:i.length<=sizeLine:=by decide):QE X K (.Constant (.str i) j pos) (wC (.str i)):=yF YM fun _=>.str h
theorem xB{i j pos}:QE X K (.Constant (.bool i) j pos) (wC (.bl i)):=yF YL fun _=>.bl i
theorem Pa (h:RG X.mg x z) (hg:Gl X x:=by rfl) (hd:(x == ("__debug__" : Str))=false:=by decide) (hz:z.length<=sizeLine:=by decide):QE X K (.Name x pos) (wC (.str z)):=yF (Hy h hg hd) fun _=>.str hz
abbrev W2:=Md->D->Md->D->(Md->D->Prop)->Prop
abbrev W1:=Md->D->(Md->D->Prop)->Prop
def kr(K:PySem.W.Frag)(r:R2)(f:W2):Prop:=∀ Hs H m x v As n y u Bs Qd Qv,Wf Hs H->RM K Hs H m x v As->RM K Hs H n y u Bs->f m x n y Qd->Fin K Hs H Qd Qv->r v u H Qv
def Pb(K:PySem.W.Frag)(r:V->Hp->VK->Prop)(f:W1):Prop:=∀ Hs H m x v As Qd Qv,Wf Hs H->RM K Hs H m x v As->f m x Qd->Fin K Hs H Qd Qv->r v H Qv
def aT(f:W2)(ta tb:WE):WE:=fun ρ Q=>ta ρ fun m x=>tb ρ fun n y=>f m x n y Q
def kE(f:W1)(ta:WE):WE:=fun ρ Q=>ta ρ fun m x=>f m x Q
variable {a b:Expr}{ta tb tc:WE}{pos:Pos}
theorem jC(br:kr K r f)(σ:St)(H:Hp)(Qv:VK)(h:ml K (aT f ta tb) σ H Qv):LM r (ml K ta) (ml K tb) σ H Qv:=by
 obtain⟨Hs,ρ,ae,Q,sr,h,fin⟩:=h
 refine⟨Hs,ρ,ae,_,sr,h,fun v H1 aC m x As g1 r1 f1 q1=>⟨aC,ρ,ae,_,sr.grow g1,q1,fun u H2 ax n y Bs g2 r2 f2 q2=>?_⟩⟩
 exact br ax H2 m x v As n y u Bs Q Qv g2.wf (r1.grow g2) r2 q2 (Fin.after fin (g1.trans g2))
theorem CL(ho:cS X (binaryOp op) r)(br:kr K r f)(ha:QE X K a ta)(hb:QE X K b tb):QE X K (.BinOp a op b pos) (aT f ta tb):=PE.imp (Zz ho ha hb) (jC br)
theorem cv'(ho:Om X (unaryOp op) r)(br:Pb K r f)(ha:QE X K a ta):QE X K (.UnaryOp op a pos) (kE f ta):=by
 refine PE.imp (ZC ho ha) fun σ H Qv hx=>iE hx fun Hs ρ ae Q sr h fin=>?_
 exact⟨Hs,ρ,ae,_,sr,h,fun v H1 aC m x As g1 r1 f1 q1=>br aC H1 m x v As Q Qv g1.wf r1 q1 (Fin.after fin g1)⟩
theorem De(ho:cS X (compareOp op) r)(br:kr K r f)(ha:QE X K a ta)(hb:QE X K b tb)(hm:behindInMarks op b=false):QE X K (.Compare a [op] [b] pos) (aT f ta tb):=PE.imp (ZV ho ha hb hm) (jC br)
def wB(t:WE):WT:=fun ρ Q=>t ρ fun _ x=>match x with
 |.bl b=>Q b
 |_=>False
theorem yz(σ:St)(H:Hp)(Qv:Bool->Hp->Prop)(h:AW K (wB t) σ H Qv):QX (ml K t) σ H Qv:=by
 obtain⟨Hs,ρ,ae,Q,sr,h,fin⟩:=h
 refine⟨Hs,ρ,ae,_,sr,h,fun v H1 aC m x As g1 r1 f1 q1=>?_⟩
 have r:=r1.rep g1.wf
 cases r with
 |bl b=>exact⟨b,rfl,fin b H1 aC g1 q1⟩
 |_=>exact q1.elim
theorem cj(ho:cS X (compareOp op) r)(br:kr K r f)(ha:QE X K a ta)(hb:QE X K b tb)(hm:behindInMarks op b=false):QT X K (.Compare a [op] [b] pos) (wB (aT f ta tb)):=by
 refine PT.imp (ZW ho ha hb hm) fun σ H Qv h=>?_
 obtain⟨Hs,ρ,ae,Q,sr,h,fin⟩:=h
 refine jC br σ H _ ⟨Hs,ρ,ae,_,sr,h,fun v H1 aC m x As g1 r1 f1 q1=>?_⟩
 have r:=r1.rep g1.wf
 cases r with
 |bl b=>exact⟨b,rfl,fin b H1 aC g1 q1⟩
 |_=>exact q1.elim
theorem gM(h:QE X K a t)(he:∀ whole,isTrue a X.env whole=(do let v <- whole;standAt a.pos;holding [v] (truthy v)):=by intro _;rfl):QT X K a (wB t):=PT.imp (YQ h he) yz
def pD(f g:W2)(ta tb tc:WE):WE:=fun ρ Q=>ta ρ fun m x=>tb ρ fun n y=>f m x n y fun _ z=>match z with
 |.bl k=>if k=true then tc ρ fun l w=>g n y l w Q else Q .sh (.bl false)
 |_=>False
end
end L2.Q
namespace L2.Q
open PySem PySem.Spec PyProof.Rows
section
variable {X:Cx}{K:PySem.W.Frag}{a b c:Expr}{ta tb tc:WE}{pos:Pos}
theorem uB(br:kr K r f)(R3:kr K r' g)(σ:St)(H:Hp)(Qv:VK)(h:ml K (pD f g ta tb tc) σ H Qv):Vo r r' (ml K ta) (ml K tb) (ml K tc) σ H Qv:=by
 obtain⟨Hs,ρ,ae,Q,sr,h,fin⟩:=h
 refine⟨Hs,ρ,ae,_,sr,h,fun v H1 aC m x As g1 r1 f1 q1=>⟨aC,ρ,ae,_,sr.grow g1,q1,fun u H2 ax n y Bs g2 r2 f2 q2=>?_⟩⟩
 refine br ax H2 m x v As n y u Bs _ _ g2.wf (r1.grow g2) r2 q2 fun z H3 dQ m3 d3 HK g3 r3 f3 q3=>?_
 have rr:=r3.rep g3.wf
 cases rr with
 |bl k =>
  refine⟨k,rfl,?_⟩
  have Wz:Fin K dQ H3 Q Qv:=Fin.after fin ((g1.trans g2).trans g3)
  cases k with
  |false=>exact Wz.sh g3.wf (.bl false) q3
  |true =>
   refine⟨dQ,ρ,ae,_,((sr.grow g1).grow g2).grow g3,q3,fun w H4 HL l z HM g4 r4 f4 q4=>?_⟩
   exact R3 HL H4 n y u Bs l z w HM Q Qv g4.wf ((r2.grow g3).grow g4) r4 q4 (Fin.after Wz g4)
 |_=>exact q3.elim
theorem x_(ho:cS X (compareOp op) r)(mz:cS X (compareOp op') r')(br:kr K r f)(R3:kr K r' g)(ha:QE X K a ta)(hb:QE X K b tb)(hc:QE X K c tc)
  (hm:lastMarks [op,op'] [b,c]=false:=by with_unfolding_all rfl):QT X K (.Compare a [op,op'] [b,c] pos) (wB (pD f g ta tb tc)):=by
 refine PT.imp (ZX ho mz ha hb hc hm) fun σ H Qv h=>?_
 obtain⟨Hs,ρ,ae,Q,sr,h,fin⟩:=h
 refine uB br R3 σ H _ ⟨Hs,ρ,ae,_,sr,h,fun v H1 aC m x As g1 r1 f1 q1=>?_⟩
 have r:=r1.rep g1.wf
 cases r with
 |bl b=>exact⟨b,rfl,fin b H1 aC g1 q1⟩
 |_=>exact q1.elim
def HP(t u:WT):WT:=fun ρ Q=>t ρ fun c=>if c=true then u ρ Q else Q false
def EV(t u:WT):WT:=fun ρ Q=>t ρ fun c=>if c=true then Q true else u ρ Q
def AX(t:WT):WT:=fun ρ Q=>t ρ fun c=>Q (!c)
variable {tA tB:WT}{rest:List Expr}
theorem m7{t u:WT}{f:Bool->TT}{σ:St}{H:Hp}{Qv:Bool->Hp->Prop}{G:Bool->(Bool->Prop)->Env->Prop}
  (h:AW K (fun ρ Q=>t ρ fun c=>G c Q ρ) σ H Qv)
  (i:∀ c H1 aC ρ ae Q,dr K aC ρ σ H1 ae->G c Q ρ->(∀ b H' ah,eJ aC H1 ah H'->Q b->Qv b H')->f c σ H1 Qv):AW K t σ H fun c H1=>f c σ H1 Qv:=by
 obtain⟨Hs,ρ,ae,Q,sr,h,fin⟩:=h
 exact⟨Hs,ρ,ae,_,sr,h,fun c H1 aC g1 q1=>i c H1 aC ρ ae Q (sr.grow g1) q1 fun b H' ah g2=>fin b H' ah (g1.trans g2)⟩
theorem qQ(ha:QT X K a tA):QW X K (.BoolOp .And [a] pos) tA:=pw_and1 ha
theorem vI(ha:QT X K a tA):QW X K (.BoolOp .Or [a] pos) tA:=pw_or1 ha
theorem rZ(ha:QT X K a tA)(hb:QW X K (.BoolOp .And (b :: rest) pos) tB):QW X K (.BoolOp .And (a :: b :: rest) pos) (HP tA tB):=by
 refine PW.imp (pw_and ha hb) fun σ H Qv h=>?_
 refine m7 (u:=tB) (f:=fun c σ H1 Q=>if c=true then AW K tB σ H1 Q else Q false H1) h fun c H1 aC ρ ae Q sr q fin=>?_
 cases c with
 |true=>exact⟨aC,ρ,ae,Q,sr,q,fin⟩
 |false=>exact fin false H1 aC (eJ.refl sr.wf) q
theorem vN(ha:QT X K a tA)(hb:QW X K (.BoolOp .Or (b :: rest) pos) tB):QW X K (.BoolOp .Or (a :: b :: rest) pos) (EV tA tB):=by
 refine PW.imp (pw_or ha hb) fun σ H Qv h=>?_
 refine m7 (u:=tB) (f:=fun c σ H1 Q=>if c=true then Q true H1 else AW K tB σ H1 Q) h fun c H1 aC ρ ae Q sr q fin=>?_
 cases c with
 |true=>exact fin true H1 aC (eJ.refl sr.wf) q
 |false=>exact⟨aC,ρ,ae,Q,sr,q,fin⟩
theorem HV(h:QW X K a tA):QT X K a tA:=h _
theorem kj(ha:QT X K a tA):QT X K (.UnaryOp .Not a pos) (AX tA):=by
 refine PT.imp (YV ha) fun σ H Qv h=>?_
 exact m7 (u:=tA) (f:=fun c σ H1 Q=>Q (!c) H1) h fun c H1 aC ρ ae Q sr q fin=>fin _ H1 aC (eJ.refl sr.wf) q
def zf(ta tb:WE):WE:=fun ρ Q=>ta ρ fun _ x=>match x with
 |.bl c=>if c=true then tb ρ Q else Q .sh (.bl false)
 |_=>False
def Pg(ta tb:WE):WE:=fun ρ Q=>ta ρ fun _ x=>match x with
 |.bl c=>if c=true then Q .sh (.bl true) else tb ρ Q
 |_=>False
def yX(ta:WE):WE:=fun ρ Q=>ta ρ fun _ x=>match x with
 |.bl c=>Q .sh (.bl (!c))
 |_=>False
theorem Fd{op}(h:QE X K a ta):QE X K (.BoolOp op [a] pos) ta:=YZ h
theorem Hh(ha:QE X K a ta)(hb:QE X K (.BoolOp .And (b :: rest) pos) tb):QE X K (.BoolOp .And (a :: b :: rest) pos) (zf ta tb):=by
 refine PE.imp (Y0 ha hb) fun σ H Qv hx=>iE hx fun Hs ρ ae Q sr h fin=>?_
 refine⟨Hs,ρ,ae,_,sr,h,fun v H1 aC m x As g1 r1 f1 q1=>?_⟩
 have r:=r1.rep g1.wf
 cases r with
 |bl c =>
  refine⟨c,rfl,?_⟩
  cases c with
  |true=>exact⟨aC,ρ,ae,Q,sr.grow g1,q1,Fin.after fin g1⟩
  |false=>exact Fin.sh (Fin.after fin g1) g1.wf (.bl false) q1
 |_=>exact q1.elim
theorem cw'(ha:QE X K a ta)(hb:QE X K (.BoolOp .Or (b :: rest) pos) tb):QE X K (.BoolOp .Or (a :: b :: rest) pos) (Pg ta tb):=by
 refine PE.imp (Y1 ha hb) fun σ H Qv hx=>iE hx fun Hs ρ ae Q sr h fin=>?_
 refine⟨Hs,ρ,ae,_,sr,h,fun v H1 aC m x As g1 r1 f1 q1=>?_⟩
 have r:=r1.rep g1.wf
 cases r with
 |bl c =>
  refine⟨c,rfl,?_⟩
  cases c with
  |true=>exact Fin.sh (Fin.after fin g1) g1.wf (.bl true) q1
  |false=>exact⟨aC,ρ,ae,Q,sr.grow g1,q1,Fin.after fin g1⟩
 |_=>exact q1.elim
theorem G6(ha:QE X K a ta):QE X K (.UnaryOp .Not a pos) (yX ta):=by
 refine PE.imp (Y2 ha) fun σ H Qv hx=>iE hx fun Hs ρ ae Q sr h fin=>?_
 refine⟨Hs,ρ,ae,_,sr,h,fun v H1 aC m x As g1 r1 f1 q1=>?_⟩
 have r:=r1.rep g1.wf
 cases r with
 |bl c=>exact⟨c,rfl,Fin.sh (Fin.after fin g1) g1.wf (.bl _) q1⟩
 |_=>exact q1.elim
def Ph:D->Option Bool
 |.non=>some false
 |.bl b=>some b
 |.int i=>some (i != 0)
 |.str x=>some ((x.length:Int) != 0)
 |.list xs=>some !xs.isEmpty
 |.tup xs=>some !xs.isEmpty
 |.dK kvs=>none
 |.dT kvs=>none
def R4(t:WE):WT:=fun ρ Q=>t ρ fun _ x=>∃ b,Ph x=some b/\Q b
end
def kF:W2:=fun m x n y Q=>match x,y with
 |.int i,.int j=>Q .sh (.int (i+j))
 |.str i,.str j=>i.length+j.length<=sizeLine/\Q .sh (.str (i++j))
 |.list xs,.list ys=>xs.length+ys.length<=sizeLine/\((cv xs=true/\cv ys=true/\Q (.ow true) (.list (xs++ys)))\/(m=.sh/\n=.sh/\Q (.ow false) (.list (xs++ys))))
 |.tup xs,.tup ys=>xs≠[]/\xs.length+ys.length<=sizeLine/\cv xs=true/\cv ys=true/\Q .sh (.tup (xs++ys))
 |_,_=>False
def HZ(P:Int->Int->(Md->D->Prop)->Prop):W2:=fun _ x _ y Q=>match x,y with
 |.int i,.int j=>P i j Q
 |_,_=>False
def R5(P:Int->Int->(Md->D->Prop)->Prop)(S:Str->Str->(Md->D->Prop)->Prop):W2:=fun _ x _ y Q=>match x,y with
 |.int i,.int j=>P i j Q
 |.str i,.str j=>S i j Q
 |_,_=>False
def Pj:W2:=HZ fun i j Q=>Q .sh (.int (i-j))
def MN:W2:=HZ fun i j Q=>Ee i j/\Q .sh (.int (i*j))
def mI:W2:=HZ fun i j Q=>(0<j/\j<1073741824)/\Q .sh (.int (i / j))
def iF:W2:=HZ fun i j Q=>0<j/\Q .sh (.int (i % j))
def MP:W2:=HZ fun i j Q=>GU i j/\Q .sh (.int (i ^ j.toNat))
def MQ:W2:=R5 (fun i j Q=>Q .sh (.bl (decide (i<j)))) fun i j Q=>Q .sh (.bl (oz i j))
def Pk:W2:=R5 (fun i j Q=>Q .sh (.bl (decide (i<=j)))) fun i j Q=>Q .sh (.bl (!oz j i))
def sR:W2:=fun _ x _ y Q=>match x,y with
 |.int i,.int j=>Q .sh (.bl (decide (i=j)))
 |.str i,.str j=>Q .sh (.bl (decide (i=j)))
 |.bl i,.bl j=>Q .sh (.bl (decide (i=j)))
 |_,_=>cq 12 x=true/\cq 12 y=true/\Q .sh (.bl (gu x y))
def sT:W2:=fun _ x _ y Q=>match x,y with
 |.int i,.int j=>Q .sh (.bl (!decide (i=j)))
 |.str i,.str j=>Q .sh (.bl (!decide (i=j)))
 |.bl i,.bl j=>Q .sh (.bl (!decide (i=j)))
 |_,_=>cq 12 x=true/\cq 12 y=true/\Q .sh (.bl (!gu x y))
def dI:D->Bool
 |.non=>true
 |.bl _=>true
 |.int _=>true
 |.str _=>true
 |_=>false
def inD(x:D)(ys:List D):Bool:=ys.any fun y=>gu y x
def AY(neg:Bool):W2:=fun _ x _ y Q=>match y with
 |.str j=>match x with
  |.str i=>Q .sh (.bl (if neg then !He i j else He i j))
  |_=>False
 |.list ys=>dI x=true/\ys.all dI=true/\Q .sh (.bl (if neg then !inD x ys else inD x ys))
 |.tup ys=>dI x=true/\ys.all dI=true/\Q .sh (.bl (if neg then !inD x ys else inD x ys))
 |.dK kvs=>∃ k,x.key1=some k/\Q .sh (.bl (if neg then !(cE kvs k).isSome else (cE kvs k).isSome))
 |.dT kvs=>match x with
  |.tup xs=>∃ ks,dq xs=some ks/\Q .sh (.bl (if neg then !(cE kvs ks).isSome else (cE kvs ks).isSome))
  |_=>False
 |_=>False
section
variable {K:PySem.W.Frag}
theorem Bo(f:Fin K Hs H Qd Qv)(w:Wf Hs H)(h:x.length<=sizeLine)(q:Qd .sh (.str x)):Qv (.str x) H:=f.sh w (.str h) q
theorem bW(i j:Str):(i++j).length=i.length+j.length:=by
 show((i++j).cps.size)=_
 show(i.cps++j.cps).size=_
 simp[Str.length]
theorem Ff:kr K (fun x y H Q=>yw K x y H Q\/Ra K x y H Q) kF:=by
 intro Hs H m x v As n y u Bs Qd Qv w rx ry h f
 have r1:=rx.rep w
 have r2:=ry.rep w
 unfold kF at h
 cases r1 with
 |int i=>cases r2 with
  |int j=>exact .inl (f.sh w (.int _) h)
  |_=>exact h.elim
 |str hi=>cases r2 with
  |str hj=>exact .inl ⟨h.1,Bo f w (by rw[bW];exact h.1) h.2⟩
  |_=>exact h.elim
 |list z1 s1 q1=>cases r2 with
  |list z2 s2 q2 =>
   have l1:=q1.length
   have l2:=q2.length
   have hz:=h.1
   rcases h.2 with⟨f1,f2,q⟩|⟨rfl,rfl,q⟩
   ·refine .inl ⟨_,_,s1,s2,by lia,?_⟩
    exact f.lst w (by rw[kA];exact hz) (q1.append q2) (by rw[dY,f1,f2];rfl) q
   ·obtain⟨_,rx⟩:=rx
    obtain⟨_,ry⟩:=ry
    cases rx with
    |list z1' s1' H0=>cases ry with
     |list z2' s2' WB =>
      have l1:=H0.length
      have l2:=WB.length
      refine .inl ⟨_,_,ay.seq w.sub s1',ay.seq w.sub s2',by lia,?_⟩
      exact f.MK w (by rw[kA];exact hz) (H0.append WB) q
  |_=>exact h.elim
 |tup t1 s1 q1=>cases r2 with
  |tup t2 s2 q2 =>
   have l1:=q1.length
   have l2:=q2.length
   obtain⟨fS,hz,f1,f2,q⟩:=h
   refine .inr ⟨_,_,_,_,rfl,rfl,.inl (.inl s1),.inl (.inl s2),?_,by lia,?_⟩
   ·intro e
    subst e
    exact fS (NF.mp l1)
   ·refine⟨fun e=>?_,fun _=>f.tup w (by rw[kA];exact hz) (q1.append q2) (by rw[dY,f1,f2];rfl) q⟩
    subst e
    cases q2
    rw[lI] at q
    exact f.flat w (.tup t1 s1 q1) (by simpa[D.flat] using f1) q
  |_=>exact h.elim
 |_=>exact h.elim
theorem Aw{H:Hp}{x y:D}{v u:V}{m n:Md}{P:Int->Int->(Md->D->Prop)->Prop}{S:Str->Str->(Md->D->Prop)->Prop}{Q:Md->D->Prop}{G:Prop}(r1:Rep K H x v)(r2:Rep K H y u)(h:R5 P S m x n y Q)(k:∀ i j,v=.int i->u=.int j->P i j Q->G)(ks:∀ i j,v=.str i->u=.str j->S i j Q->G):G:=by
 cases r1 with
 |int i=>cases r2 with
  |int j=>exact k i j rfl rfl h
  |_=>exact h.elim
 |str hi=>cases r2 with
  |str hj=>exact ks _ _ rfl rfl h
  |_=>exact h.elim
 |_=>exact h.elim
theorem jP{H:Hp}{x y:D}{v u:V}{m n:Md}{P:Int->Int->(Md->D->Prop)->Prop}{Q:Md->D->Prop}{G:Prop}(r1:Rep K H x v)(r2:Rep K H y u)(h:HZ P m x n y Q)(k:∀ i j,v=.int i->u=.int j->P i j Q->G):G:=by
 cases r1 with
 |int i=>cases r2 with
  |int j=>exact k i j rfl rfl h
  |_=>exact h.elim
 |_=>exact h.elim
theorem GF:kr K Cv Pj:=by
 intro Hs H m x v As n y u Bs Qd Qv w rx ry h f
 exact jP (rx.rep w) (ry.rep w) h fun i j e1 e2 q=>by
  subst e1 e2
  exact f.sh w (.int _) q
theorem Ex:kr K C_ MN:=by
 intro Hs H m x v As n y u Bs Qd Qv w rx ry h f
 exact jP (rx.rep w) (ry.rep w) h fun i j e1 e2 q=>by
  subst e1 e2
  exact⟨q.1,f.sh w (.int _) q.2⟩
theorem FW:kr K CJ mI:=by
 intro Hs H m x v As n y u Bs Qd Qv w rx ry h f
 exact jP (rx.rep w) (ry.rep w) h fun i j e1 e2 q=>by
  subst e1 e2
  exact⟨q.1,f.sh w (.int _) q.2⟩
theorem Gu:kr K Ck iF:=by
 intro Hs H m x v As n y u Bs Qd Qv w rx ry h f
 exact jP (rx.rep w) (ry.rep w) h fun i j e1 e2 q=>by
  subst e1 e2
  exact⟨q.1,f.sh w (.int _) q.2⟩
theorem Gw:kr K CG MP:=by
 intro Hs H m x v As n y u Bs Qd Qv w rx ry h f
 exact jP (rx.rep w) (ry.rep w) h fun i j e1 e2 q=>by
  subst e1 e2
  exact⟨q.1,f.sh w (.int _) q.2⟩
theorem GC:kr K Rx MQ:=by
 intro Hs H m x v As n y u Bs Qd Qv w rx ry h f
 exact Aw (rx.rep w) (ry.rep w) h (fun i j e1 e2 q=>by
  subst e1 e2
  exact f.sh w (.bl _) q) fun i j e1 e2 q=>by
  subst e1 e2
  exact f.sh w (.bl _) q
theorem Ho:kr K Ry Pk:=by
 intro Hs H m x v As n y u Bs Qd Qv w rx ry h f
 exact Aw (rx.rep w) (ry.rep w) h (fun i j e1 e2 q=>by
  subst e1 e2
  exact f.sh w (.bl _) q) fun i j e1 e2 q=>by
  subst e1 e2
  exact f.sh w (.bl _) q
theorem eq_data(w:Wf Hs H)(rx:Rep K H x v)(ry:Rep K H y u)(f:Fin K Hs H Qd Qv)(h:cq 12 x=true/\cq 12 y=true/\Qd .sh (.bl (gu x y))):RA K v u H Qv:=by
 obtain⟨h1,h2,q⟩:=h
 have l1:=iK 12 x h1
 have l2:=iK 12 y h2
 exact⟨x.py,y.py,rx.l2 h1,ry.l2 h2,l1.1,l2.1,by lia,f.sh w (.bl _) q⟩
theorem ne_data(w:Wf Hs H)(rx:Rep K H x v)(ry:Rep K H y u)(f:Fin K Hs H Qd Qv)(h:cq 12 x=true/\cq 12 y=true/\Qd .sh (.bl (!gu x y))):RC K v u H Qv:=by
 obtain⟨h1,h2,q⟩:=h
 have l1:=iK 12 x h1
 have l2:=iK 12 y h2
 exact⟨x.py,y.py,rx.l2 h1,ry.l2 h2,l1.1,l2.1,by lia,f.sh w (.bl _) q⟩
theorem qC:kr K (O0 K) sR:=by
 intro Hs H m x v As n y u Bs Qd Qv w rx ry h f
 have r1:=rx.rep w
 have r2:=ry.rep w
 have d:=fun h=>eq_data (Qd:=Qd) (Qv:=Qv) w r1 r2 f h
 cases r1 with
 |int i=>cases r2 with
  |int j=>exact f.sh w (.bl _) h
  |_=>exact d h
 |str i=>cases r2 with
  |str j=>exact f.sh w (.bl _) h
  |_=>exact d h
 |bl i=>cases r2 with
  |bl j=>exact f.sh w (.bl _) h
  |_=>exact d h
 |_=>exact d h
theorem qj:kr K (O1 K) sT:=by
 intro Hs H m x v As n y u Bs Qd Qv w rx ry h f
 have r1:=rx.rep w
 have r2:=ry.rep w
 have d:=fun h=>ne_data (Qd:=Qd) (Qv:=Qv) w r1 r2 f h
 cases r1 with
 |int i=>cases r2 with
  |int j=>exact f.sh w (.bl _) h
  |_=>exact d h
 |str i=>cases r2 with
  |str j=>exact f.sh w (.bl _) h
  |_=>exact d h
 |bl i=>cases r2 with
  |bl j=>exact f.sh w (.bl _) h
  |_=>exact d h
 |_=>exact d h
theorem jW(r:Rep K H x v)(h:dI x=true):y9 v=true:=by
 cases r<;>first|rfl|(simp[dI] at h)
theorem Cr(r:Rep K H x v)(s:Rep K H y u)(h:dI x=true)(g:dI y=true):AK v u=gu x y:=by
 cases r<;>simp[dI] at h<;>cases s<;>simp[dI] at g<;>rfl
theorem Gp(r:Rep K H x v)(h:dI x=true)(rs:aS K H ys us)(g:ys.all dI=true):us.all y9=true/\Oy v us=inD x ys:=by
 induction ys generalizing us with
 |nil=>rw[rs.n0];exact⟨rfl,rfl⟩
 |cons y ys ih =>
  obtain⟨u,us,rfl,s,ss⟩:=rs.c
  simp only[z5,kQ] at g
  obtain⟨e1,e2⟩:=ih ss g.2
  refine⟨by simp only[z5,jW s g.1,e1,Bool.and_self],?_⟩
  unfold Oy inD at *
  rw[An,An,e2,Cr s r g.1 h]
theorem oG{κ:Type}[DecidableEq κ]{H:Hp}{k:κ}{kvs:List (κ × D)}{vs:List V}(r:aS K H (kvs.map (·.2)) vs):(fI ((kvs.map (·.1)).zip vs) k).isSome=(cE kvs k).isSome:=by
 have:=zip_get (k:=k) r
 split at this
 ·rename_i e
  obtain⟨v,e1,_⟩:=this
  rw[e1,e];rfl
 ·rename_i e
  rw[this,e];rfl
theorem Bc{neg:Bool}:kr K (EI K neg) (AY neg):=by
 intro Hs H m x v As n y u Bs Qd Qv w rx ry h f
 have r1:=rx.rep w
 have r2:=ry.rep w
 cases r2 with
 |str j=>cases r1 with
  |str i=>exact f.sh w (.bl _) h
  |_=>exact h.elim
 |list z s q =>
  obtain⟨h1,h2,h3⟩:=h
  obtain⟨e1,e2⟩:=Gp r1 h1 q h2
  have h4:=jW r1 h1
  have g:L3 K neg v (.ref _) H Qv:=⟨_,_,rfl,.inl s,h4,e1,by rw[e2];exact f.sh w (.bl _) h3⟩
  cases r1<;>exact .inr g
 |tup _ s q =>
  obtain⟨h1,h2,h3⟩:=h
  obtain⟨e1,e2⟩:=Gp r1 h1 q h2
  have h4:=jW r1 h1
  have g:L3 K neg v (.ref _) H Qv:=⟨_,_,rfl,.inr (.inl (.inl s)),h4,e1,by rw[e2];exact f.sh w (.bl _) h3⟩
  cases r1<;>exact .inr g
 |dK kk e q =>
  obtain⟨k,hk,h3⟩:=h
  have ev:=r1.key hk
  subst ev
  have eg:=oG (k:=k) q
  cases k<;>exact .inl ⟨_,kG.k' e,by rw[eg];exact f.sh w (.bl _) h3⟩
 |dT kk e q =>
  cases r1 with
  |tup t1 e1 q1 =>
   obtain⟨ks,hk,h3⟩:=h
   obtain⟨b,eb,e2⟩:=Rep.mn (.tup t1 e1 q1) hk
   cases eb
   have eg:=oG (k:=ks) q
   exact .inl ⟨_,kG.t' e e2,by rw[eg];exact f.sh w (.bl _) h3⟩
  |_=>exact h.elim
 |_=>exact h.elim
end
section
variable {X:Cx}{K:PySem.W.Frag}{a b:Expr}{ta tb:WE}{pos:Pos}
theorem I_(hK:X.K=K:=by rfl):cS X (binaryOp .Add) (fun x y H Q=>yw K x y H Q\/Ra K x y H Q):=by subst hK;exact Eb.or au'
theorem dM(ha:QE X K a ta)(hb:QE X K b tb)(hK:X.K=K:=by rfl):QE X K (.BinOp a .Add b pos) (aT kF ta tb):=CL (I_ hK) Ff ha hb
theorem Hi(ha:QE X K a ta)(hb:QE X K b tb):QE X K (.BinOp a .Sub b pos) (aT Pj ta tb):=CL Dk GF ha hb
theorem FJ(ha:QE X K a ta)(hb:QE X K b tb):QE X K (.BinOp a .Mult b pos) (aT MN ta tb):=CL Ce Ex ha hb
theorem eE(ha:QE X K a ta)(hb:QE X K b tb):QE X K (.BinOp a .FloorDiv b pos) (aT mI ta tb):=CL Bg FW ha hb
theorem bY(ha:QE X K a ta)(hb:QE X K b tb):QE X K (.BinOp a .Mod b pos) (aT iF ta tb):=CL DN Gu ha hb
theorem Fx(ha:QE X K a ta)(hb:QE X K b tb):QE X K (.BinOp a .Pow b pos) (aT MP ta tb):=CL Dl Gw ha hb
def EW:W1:=fun _ x Q=>match x with
 |.int i=>Q .sh (.int (-i))
 |_=>False
theorem Ga:Pb K (rU fun i=>.int (-i)) EW:=by
 intro Hs H m x v As Qd Qv w rx h f
 have r1:=rx.rep w
 cases r1 with
 |int i=>exact⟨i,rfl,f.sh w (.int _) h⟩
 |_=>exact h.elim
theorem yM(ha:QE X K a ta):QE X K (.UnaryOp .USub a pos) (kE EW ta):=cv' ZL Ga ha
end
def cx:WA:=fun _ Q=>Q []
def ak(te:WE)(t:WA):WA:=fun ρ Q=>te ρ fun m x=>t ρ fun ps=>Q ((m,x) :: ps)
def xC:Md × D->Bool
 | (.sh,_)=>true
 | (_,d)=>d.flat
def EX:Md × D->Bool
 | (.bo,d)=>d.flat
 |_=>true
def CM:Md × D->Bool
 | (.ow true,_)=>true
 | (_,d)=>d.flat
def qF(ps:List (Md × D)):Md:=bif ps.all xC then .sh else bif ps.all EX then .ow (ps.all CM) else .bo
def Bl(ps:List (Md × D)):Md:=bif ps.all EX then .ow (ps.all CM) else .bo
def nV(t:WA):WE:=fun ρ Q=>t ρ fun ps=>ps.length<=sizeLine/\Q (qF ps) (.tup (ps.map (·.2)))
def rL(t:WA):WE:=fun ρ Q=>t ρ fun ps=>ps.length<=sizeLine/\Q (Bl ps) (.list (ps.map (·.2)))
section
variable {X:Cx}{K:PySem.W.Frag}{e:Expr}{es:List Expr}{te:WE}{t:WA}{pos:Pos}{Hs H:Hp}
theorem aq:QA X K [] cx:=PA.imp qB fun σ H Qv hx=>iE hx fun Hs ρ ae Q sr h f=>f [] H Hs [] [] (eJ.refl sr.wf) .nil cg.nil h
theorem cg.app(f1:cg aC H As)(o:∀ a∈As,H1 a≠none)(f2:cg ax H1 Bs)(s:ay H H1)(k:∀ a,aC a=none->H1 a≠none->ax a=none):cg ax H (As++Bs) :=
 ⟨ip.mpr ⟨f1.1,f2.1,fun a ha b hb e=>by subst e;exact o a ha (f2.2 a hb).2⟩,fun a h=>by
  rcases dS.mp h with h|h
  ·exact⟨k a (f1.2 a h).1 (o a h),(f1.2 a h).2⟩
  ·exact⟨(f2.2 a h).1,s.free (f2.2 a h).2⟩⟩
theorem aa(ha:QE X K e te)(hr:QA X K es t)(hs:starEach (e :: es) X.env=(false,eval e X.env) :: starEach es X.env:=by rfl):QA X K (e :: es) (ak te t):=by
 refine PA.imp (nI ha hr hs) fun σ H Qv hx=>iE hx fun Hs ρ ae Q sr h f=>?_
 refine⟨Hs,ρ,ae,_,sr,h,fun v H1 aC m x As g1 r1 f1 q1=>⟨aC,ρ,ae,_,sr.grow g1,q1,fun vs H2 ax ps Bs g2 r2 f2 q2=>?_⟩⟩
 exact f (v :: vs) H2 ax _ _ (g1.trans g2) (.cons (r1.grow g2) r2) (f1.app (fun a h=>(r1.own a h).ne) f2 g1.all fun a h1 h2=>g2.kU h1 h2) q2
theorem xv.sh(w:Wf Hs H){ps:List (Md × D)}(r:xv K Hs H ps vs As):ps.all xC=true->aS K Hs (ps.map (·.2)) vs:=by
 induction r with
 |nil=>exact fun _=>.nil
 |@cons m d v ps vs As Bs r rs ih =>
  intro h
  simp only[z5,kQ] at h
  refine .cons ?_ (ih h.2)
  cases m with
  |sh=>exact r.2
  |ow fl=>exact r.flat w h.1
  |bo=>exact r.flat w h.1
theorem xv.ow(w:Wf Hs H){ps:List (Md × D)}(r:xv K Hs H ps vs As):ps.all EX=true->(fl=true->ps.all CM=true)->∃ Bs,Bs.Sublist As/\(ps.all xC=false->Bs≠[])/\aA K Hs H fl (ps.map (·.2)) vs Bs:=by
 induction r with
 |nil=>exact fun _ _=>⟨[],BQ _,(fun z=>Bool.noConfusion z),.nil⟩
 |@cons m d v ps vs A1 Cs r rs ih =>
  intro h hf
  simp only[z5,kQ] at h hf
  obtain⟨Bs,sb,ne,q⟩:=ih h.2 fun z=>(hf z).2
  have sk:([]++Bs).Sublist (A1++Cs):=by simpa using sb.trans (oo _ _)
  have Ap:d.flat=true->xC (m,d)=true->∃ Bs,Bs.Sublist (A1++Cs)/\(((m,d) :: ps).all xC=false->Bs≠[])/\aA K Hs H fl (((m,d) :: ps).map (·.2)) (v :: vs) Bs:=fun hd ho =>
   ⟨[]++Bs,sk,fun z=>ne (by rw[z5,ho] at z;simpa using z),.cons (.sh (fun _=>hd) (r.flat w hd)) q⟩
  cases m with
  |sh=>exact⟨[]++Bs,sk,fun z=>ne (by simpa[xC] using z),.cons (.sh (fun z=>(hf z).1) r.2) q⟩
  |bo=>exact Ap h.1 h.1
  |ow b =>
   cases hd:d.flat with
   |true=>exact Ap hd hd
   |false =>
    refine⟨A1++Bs,sb.append_left _,fun _ z=>r.2 (Kb.mp z).1,.cons ?_ q⟩
    cases fl with
    |false=>exact bI.O9 r.1
    |true =>
     have:=(hf rfl).1
     cases b with
     |true=>exact r.1
     |false=>simp[CM,hd] at this
theorem nW:∀ {ps:List (Md × D)},cv (ps.map (·.2))=true->ps.all xC=true
 |[],_=>rfl
 | (m,d) :: ps,h=>by
  simp only[fo,cv,kQ] at h
  simp only[z5,kQ]
  exact⟨by cases m<;>simp[xC,h.1],nW h.2⟩
theorem eY{x1}(h:QA X K es t):QE X K (.Tuple es x1 pos) (nV t):=by
 refine PE.imp (Vr h) fun σ H Qv hx=>iE hx fun Hs ρ ae Q sr h f=>?_
 refine⟨Hs,ρ,ae,_,sr,h,fun vs H1 aC ps As g1 r1 f1 q1=>?_⟩
 obtain⟨hz,q⟩:=q1
 have rl:=(r1.reps g1.wf)
 have hl:=rl.length
 rw[bT] at hl
 refine⟨by lia,fun p hp=>?_⟩
 have g2:=O_ (vs:=vs) g1.wf hp
 have fin:=Fin.after f g1
 unfold qF at q
 cases h1:ps.all xC with
 |true =>
  rw[h1] at q
  exact fin _ _ _ .sh _ [] g2 ⟨rfl,.tup (by lia) gd ((r1.sh g1.wf h1).same g2.sh)⟩ cg.nil q
 |false =>
  rw[h1] at q
  cases h2:ps.all EX with
  |false =>
   rw[h2] at q
   exact fin _ _ _ .bo _ [] g2 ⟨rfl,.tup (by lia) gd (rl.same g2.all)⟩ cg.nil q
  |true =>
   rw[h2] at q
   obtain⟨Bs,sb,nz,ro⟩:=r1.ow (fl:=ps.all CM) g1.wf h2 fun z=>z
   have fS:cv (ps.map (·.2))=false:=by
    cases hf:cv (ps.map (·.2)) with
    |false=>rfl
    |true=>rw[nW hf] at h1;cases h1
   have own:=ro.own
   refine f _ _ _ (.ow _) _ Bs (g1.trans g2) ⟨.tup (by lia) gd fS (ro.grow g2.sh g2.all),nz h1⟩ ⟨sb.nodup f1.1,fun a ha=>⟨?_,(f1.2 a (sb.subset ha)).2⟩⟩ q
   exact g2.kU (f1.2 a (sb.subset ha)).1 (own a ha).ne
theorem gH(h:QA X K es t):QE X K (.List es pos) (rL t):=by
 refine PE.imp (Z7 h) fun σ H Qv hx=>iE hx fun Hs ρ ae Q sr h f=>?_
 refine⟨Hs,ρ,ae,_,sr,h,fun vs H1 aC ps As g1 r1 f1 q1=>?_⟩
 obtain⟨hz,q⟩:=q1
 have rl:=(r1.reps g1.wf)
 have hl:=rl.length
 rw[bT] at hl
 refine⟨by lia,fun p hp=>?_⟩
 have g2:=MJ (o:=.lst vs) g1.wf hp fun _ z=>nomatch z
 have fin:=Fin.after f g1
 unfold Bl at q
 cases h2:ps.all EX with
 |false =>
  rw[h2] at q
  exact fin _ _ _ .bo _ [] g2 ⟨rfl,.list (by lia) (.inl (.inl gd)) (rl.same g2.all)⟩ cg.nil q
 |true =>
  rw[h2] at q
  obtain⟨Bs,sb,nz,ro⟩:=r1.ow (fl:=ps.all CM) g1.wf h2 fun z=>z
  have own:=ro.own
  refine f _ _ _ (.ow _) _ (p :: Bs) (g1.trans g2) ⟨.list (by lia) gd (ro.grow g2.sh g2.all),by simp⟩ ⟨ja.mpr ⟨fun m=>(own p m).ne hp,sb.nodup f1.1⟩,fun a ha=>?_⟩ q
  rcases df.mp ha with rfl|ha
  ·exact⟨g1.wf.sub.free hp,g1.all.free hp⟩
  ·exact⟨g2.kU (f1.2 a (sb.subset ha)).1 (own a ha).ne,(f1.2 a (sb.subset ha)).2⟩
end
theorem aS.eT{K:PySem.W.Frag}(r:aS K H ds vs)(h:eT ds i=some d):∃ v,L2.eT vs i=some v/\Rep K H d v:=by
 unfold L2.eT at *
 rw[<- r.length]
 cases e:lS ds.length i with
 |none=>rw[e] at h;cases h
 |some j =>
  rw[e] at h
  exact r.get h
def ic:W2:=fun m x _ y Q=>match x with
 |.list xs=>match y with
  |.int i=>∃ d,eT xs i=some d/\bE d (f:=fun d=>Q (lh m d) d) ⟨⟩
  |_=>False
 |.tup xs=>match y with
  |.int i=>∃ d,eT xs i=some d/\bE d (f:=fun d=>Q (lh m d) d) ⟨⟩
  |_=>False
 |.str z=>match y with
  |.int i=>∃ c,eT z.cps.toList i=some c/\Q .sh (.str ⟨#[c]⟩)
  |_=>False
 |.dK kvs=>∃ k d,y.key1=some k/\cE kvs k=some d/\bE d (f:=fun d=>Q (lh m d) d) ⟨⟩
 |.dT kvs=>match y with
  |.tup ys=>∃ ks d,dq ys=some ks/\cE kvs ks=some d/\bE d (f:=fun d=>Q (lh m d) d) ⟨⟩
  |_=>False
 |_=>False
def R6(K:PySem.W.Frag):R2:=fun x y H Q=>OZ K x y H Q\/∃ a v,x=.ref a/\kG H a y (some v)/\Q v H
theorem B_(c:Nat):(⟨#[c]⟩:Str).length<=sizeLine:=by show 1<=sizeLine;decide
theorem RM.here{K:PySem.W.Frag}(w:Wf Hs H)(r:RM K Hs H m d v As):(m=.sh/\Rep K Hs d v)\/(m≠.sh/\Rep K H d v):=by
 cases m with
 |sh=>exact .inl ⟨rfl,r.2⟩
 |ow fl=>exact .inr ⟨(fun z=>nomatch z),r.rep w⟩
 |bo=>exact .inr ⟨(fun z=>nomatch z),r.2⟩
section
variable {X:Cx}{K:PySem.W.Frag}
theorem Hq:kr K (R6 K) ic:=by
 intro Hs H m x v As n y u Bs Qd Qv w rx ry h f
 have r2:=ry.rep w
 have core:∀ G:Hp,ay G H->(∀ d v,Rep K G d v->Rep K H d v/\(m=.sh->Rep K Hs d v))->Rep K G x v->R6 K v u H Qv:=by
  intro G sg up r1
  cases r1 with
  |list z s q =>
   cases r2 with
   |int i =>
    obtain⟨d,e,h⟩:=h
    obtain⟨v',e',r'⟩:=q.eT e
    obtain⟨u1,u2⟩:=up _ _ r'
    exact .inl (.inl ⟨_,v',ay.seq sg s,e',f.lh w u1 u2 h⟩)
   |_=>exact h.elim
  |tup _ s q =>
   cases r2 with
   |int i =>
    obtain⟨d,e,h⟩:=h
    obtain⟨v',e',r'⟩:=q.eT e
    obtain⟨u1,u2⟩:=up _ _ r'
    exact .inl (.inr ⟨_,v',.inl (.inl (sg _ _ s)),e',f.lh w u1 u2 h⟩)
   |_=>exact h.elim
  |str hz =>
   cases r2 with
   |int i =>
    obtain⟨c,e,h⟩:=h
    exact .inl ⟨hz,c,e,f.sh w (.str (B_ c)) h⟩
   |_=>exact h.elim
  |dK kk s q =>
   obtain⟨k,d,hk,hg,h⟩:=h
   have ev:=r2.key hk
   subst ev
   have z:=zip_get (k:=k) q
   rw[hg] at z
   obtain⟨v',e',r'⟩:=z
   obtain⟨u1,u2⟩:=up _ _ r'
   exact .inr ⟨_,v',rfl,by rw[<- e'];exact kG.k' (ay.rd sg s),f.lh w u1 u2 h⟩
  |dT kk s q =>
   cases r2 with
   |tup t2 e2 q2 =>
    obtain⟨ks,d,hk,hg,h⟩:=h
    obtain⟨b,eb,e3⟩:=Rep.mn (.tup t2 e2 q2) hk
    cases eb
    have z:=zip_get (k:=ks) q
    rw[hg] at z
    obtain⟨v',e',r'⟩:=z
    obtain⟨u1,u2⟩:=up _ _ r'
    exact .inr ⟨_,v',rfl,by rw[<- e'];exact kG.t' (ay.rd sg s) e3,f.lh w u1 u2 h⟩
   |_=>exact h.elim
  |_=>exact h.elim
 rcases rx.here w with⟨hm,r⟩|⟨hm,r⟩
 ·exact core Hs w.sub (fun d v q=>And.intro (q.same w.sub) fun _=>q) r
 ·exact core H (ay.refl H) (fun d v q=>And.intro q fun z=>absurd z hm) r
theorem WC(hu:X.A.units+64<cLine)(hK:X.K=K:=by rfl):tT X (R6 K):=by
 subst hK
 refine tT.or Ao ?_
 intro value slice pins s σ H x y v u Q I rx ry h hs
 obtain⟨a,w,rfl,g,q⟩:=h
 cases rx
 exact tail_any (bc' I g) F.slot_dict_getitem.lookup (aW' (by lia) I g ry fun w' s3 I3 kR=>⟨w,H,I3,kR,q⟩) hs
variable {a b:Expr}{ta tb:WE}{pos:Pos}
theorem ku(hu:X.A.units+64<cLine)(ha:QE X K a ta)(hb:QE X K b tb)(hs:Ox b:=by exact fun _ _=>rfl)(hK:X.K=K:=by rfl):QE X K (.Subscript a b pos) (aT ic ta tb):=PE.imp (Rg (WC hu hK) ha hb hs) (jC Hq)
end
def nX(xs:List α)(lo hi:Option Int):List α:=(xs.drop (HT.bP xs.length 0 lo)).take (HT.bP xs.length xs.length hi-HT.bP xs.length 0 lo)
abbrev WO:=Env->(Option Int->Prop)->Prop
def kh:WO:=fun _ Q=>Q none
def oW(t:WE):WO:=fun ρ Q=>t ρ fun _ x=>match x with
 |.int i=>Q (some i)
 |_=>False
def MR(m:Md)(x:D)(lo hi:Option Int)(Q:Md->D->Prop):Prop:=match x with
 |.str z=>Q .sh (.str (pd z lo hi))
 |.list xs=>(cv xs=true/\Q (.ow true) (.list (nX xs lo hi)))\/(m=.sh/\Q (.ow false) (.list (nX xs lo hi)))
 |.tup xs=>cv xs=true/\¬ (HT.bP xs.length 0 lo=0/\HT.bP xs.length xs.length hi=xs.length)/\Q .sh (.tup (nX xs lo hi))
 |_=>False
def Ic(te:WE)(tl th:WO):WE:=fun ρ Q=>te ρ fun m x=>tl ρ fun lo=>th ρ fun hi=>MR m x lo hi Q
def tpO(K:PySem.W.Frag)(t:WO):TO:=fun σ H Qv=>∃ Hs ρ ae Q,dr K Hs ρ σ H ae/\t ρ Q/\∀ o H' ah,eJ Hs H ah H'->Q o->Qv o H'
abbrev QO(X:Cx)(K:PySem.W.Frag)(e:Option Expr)(t:WO):Prop:=PO X e (tpO K t)
theorem tE(z:Str)(lo hi:Option Int):(pd z lo hi).length<=z.length:=by
 unfold pd Str.length
 simp only[hX,vn,DT,yy]
 lia
theorem nq(xs:List α)(lo hi:Option Int):(nX xs lo hi).length<=xs.length:=by
 unfold nX
 rw[vn,DT]
 lia
theorem oR{lo hi:Option Int}(h:cv xs=true):cv (nX xs lo hi)=true:=by
 rw[jr] at *
 intro x hx
 exact h x (Qh (NJ hx))
section
variable {X:Cx}{K:PySem.W.Frag}{e:Expr}{lo hi:Option Expr}{te:WE}{tl th:WO}{pos p2:Pos}
theorem qH:QO X K none kh:=fun pins s σ H Q I h=>an' pins s σ H Q I (by
 obtain⟨Hs,ρ,ae,Qd,sr,h,f⟩:=h
 exact f none H Hs (eJ.refl sr.wf) h)
theorem jE(h:QE X K e te):QO X K (some e) (oW te):=fun pins s σ H Q I hh=>ao' h pins s σ H Q I (by
 obtain⟨Hs,ρ,ae,Qd,sr,h,f⟩:=hh
 refine⟨Hs,ρ,ae,_,sr,h,fun v H1 aC m x As g1 r1 f1 q1=>?_⟩
 have r:=r1.rep g1.wf
 cases r with
 |int i=>exact⟨i,rfl,f _ H1 aC g1 q1⟩
 |_=>exact q1.elim)
theorem jx{lo hi:Option Int}(r:aS K H ds vs):aS K H (nX ds lo hi) (AI vs lo hi):=by
 unfold nX AI
 rw[r.length]
 exact(r.drop _).take _
theorem cA'(hK:X.K=K:=by rfl):GV X (fun x lo hi H Q=>Rz K x lo hi H Q\/VD K x lo hi H Q):=by
 subst hK
 intro pins s σ H x v vl vu lo hi sl Q I rx hs pl pu h
 rcases h with h|h
 ·exact Gs pins s σ H x v vl vu lo hi sl Q I rx hs pl pu h
 ·exact ar' pins s σ H x v vl vu lo hi sl Q I rx hs pl pu h
theorem mW(he:QE X K e te)(hl:QO X K lo tl)(hh:QO X K hi th)(hK:X.K=K:=by rfl):QE X K (.Subscript e (.Slice lo hi none p2) pos) (Ic te tl th):=by
 refine PE.imp (aq' (cA' hK) he hl hh) fun σ H Qv hx=>iE hx fun Hs ρ ae Q sr h f=>?_
 refine⟨Hs,ρ,ae,_,sr,h,fun v H1 aC m x As g1 r1 f1 q1=>⟨aC,ρ,ae,_,sr.grow g1,q1,fun l H2 ax g2 q2=>⟨ax,ρ,ae,_,(sr.grow g1).grow g2,q2,fun u H3 dQ g3 q3=>?_⟩⟩⟩
 have r3:=(r1.grow g2).grow g3
 have fin:Fin K dQ H3 Q Qv:=Fin.after f ((g1.trans g2).trans g3)
 have rr:=r3.rep g3.wf
 cases rr with
 |str hz=>exact .inl ⟨hz,fin.sh g3.wf (.str (gS (tE _ _ _) hz)) q3⟩
 |list z s q =>
  have hz:=q.length
  rcases q3 with⟨hf,q3⟩|⟨rfl,q3⟩
  ·exact .inl ⟨_,s,fin.lst g3.wf (gS (nq _ _ _) (by lia)) (jx q) (oR hf) q3⟩
  ·obtain⟨_,r3⟩:=r3
   cases r3 with
   |list z' s' q' =>
    have hz:=q'.length
    exact .inl ⟨_,ay.seq g3.wf.sub s',fin.MK g3.wf (gS (nq _ _ _) (by lia)) (jx q') q3⟩
 |tup z s q =>
  have hz:=q.length
  obtain⟨hf,hn,q3⟩:=q3
  exact .inr ⟨_,_,rfl,.inl (.inl s),by rw[<- hz];exact hn,fin.tup g3.wf (gS (nq _ _ _) (by lia)) (jx q) (oR hf) q3⟩
 |_=>exact q3.elim
end
def AZ:W1:=fun _ x Q=>match x with
 |.str z=>Q .sh (.int z.length)
 |.list xs=>Q .sh (.int xs.length)
 |.tup xs=>Q .sh (.int xs.length)
 |.dK kvs=>Q .sh (.int kvs.length)
 |.dT kvs=>Q .sh (.int kvs.length)
 |_=>False
def R7(T:String):W1:=fun _ x Q=>Q .sh (.bl (G0 x.ty T))
def A2(K:PySem.W.Frag)(r:List V->Hp->VK->Prop)(f:W1):Prop:=∀ Hs H m x v As Qd Qv,Wf Hs H->RM K Hs H m x v As->f m x Qd->Fin K Hs H Qd Qv->r [v] H Qv
section
variable {X:Cx}{K:PySem.W.Frag}{e:Expr}{te:WE}{pos p:Pos}{x:Str}{id T:String}
theorem l_(br:A2 K r f)(σ:St)(H:Hp)(Qv:VK)(h:ml K (kE f te) σ H Qv):Q9 r (Q7 (ml K te) Q6) σ H Qv:=by
 obtain⟨Hs,ρ,ae,Q,sr,h,fin⟩:=h
 exact⟨Hs,ρ,ae,_,sr,h,fun v H1 aC m x As g1 r1 f1 q1=>br aC H1 m x v As Q Qv g1.wf r1 q1 (Fin.after fin g1)⟩
theorem gZ(hc:kb X (.builtin id) r)(br:A2 K r f)(hg:Gl X x)(hm:X.mg x=none)(hv:bootBuiltins x=some (.builtin id))(he:QE X K e te)
  (hs:starEach [e] X.env=(false,eval e X.env) :: starEach [] X.env:=by rfl) (hn:x ≠ "__name__" := by decide) (gy:(x == ("__debug__" : Str))=false:=by decide):QE X K (.Call (.Name x p) [e] [] pos) (kE f te) :=
 PE.imp (Ou hc hg hm hv (nI he qB hs) hn gy hs) (l_ br)
theorem tK(hc:kb X (.type T) r)(br:A2 K r f)(hg:Gl X x)(hm:X.mg x=none)(hv:bootBuiltins x=some (.type T))(he:QE X K e te)
  (hs:starEach [e] X.env=(false,eval e X.env) :: starEach [] X.env:=by rfl) (hn:x ≠ "__name__" := by decide) (gy:(x == ("__debug__" : Str))=false:=by decide):QE X K (.Call (.Name x p) [e] [] pos) (kE f te) :=
 PE.imp (ac' hc hg hm hv (nI he qB hs) hn gy hs) (l_ br)
theorem Dh(hd:(d == sysModules)=false)(x:sN s.heap d es ep)(WD:(es.size:Int)<2 ^ 63)
  (h:∀ t t',Q (.int es.size t) { s with toks:=t' }):wpAny (model prog w) A (call (.builtin "len") [.ref d]) Q E s:=by
 refine Calls.call_function_entry kind_len plain_len entry_len (args_len1 _) ?_
 have mt:MeetsIn prog w (Builtin.«dict.__len__» ⟨[.ref d],[]⟩) (fun _ R s=>sN s.heap d es ep/\R (.ok (.ret (.int es.size s.toks))) { s with toks:=s.toks+1 }):=.of_wp fun A R s cy=>by
  obtain⟨hm,h⟩:=cy
  obtain⟨o,ho,hc,O3⟩:=hm
  show wpAny _ _ (dictSize d >>= _) _ _ s
  unfold dictSize
  refine ag (ag (wpAny_dictEntries ho O3 (aI ?_)))
  show wpAny _ _ (Builtin.Dict.pendingCount d >>= _) _ _ s
  refine ag (wpAny_pendingCount_other hd ?_)
  refine wpAny_ret_mkInt ?_
  rw[Nat.add_zero];exact h
 unfold Builtin.«len»
 refine ag (m:=oneArg "len" _) (aI ?_)
 refine ag (m:=callSpecial? (.ref d) (Str.ofString "__len__")) (wpAny_callSpecial?_slot (name:=Str.ofString "__len__") x.typ F.slot_dict_len
  (call_meetsIn F.slot_dict_len x.typ F.entry_dict_len (F.args_dict_len_1 _) mt ⟨x,?_⟩))
 show wpAny _ _ _ _ _ { s with toks:=s.toks+1 }
 refine ag (wpAny_holding (aI ?_))
 refine ag (wpAny_letGo ?_)
 show wpAny _ _ (if ((es.size:Nat):Int)<0 then _ else _) _ _ _
 rw[if_neg (by lia)]
 show wpAny _ _ (if ((es.size:Nat):Int) >= 2 ^ 63 then _ else _) _ _ _
 rw[if_neg (by lia)]
 exact ag (wpAny_mkInt (aI ⟨_,rfl,h _ _⟩))
theorem g_ (hK:X.K=K:=by rfl):kb X (.builtin "len") (fun xs H Q=>OY K xs H Q\/∃ a kvs,xs=[.ref a]/\Rd H a (.dT kvs)/\Q (.int kvs.length) H):=by
 subst hK
 intro pins s σ H xs us Q I r h
 rcases h with h|⟨a,kvs,rfl,ha,q⟩
 ·exact vm pins s σ H xs us Q I r h
 ·obtain⟨u,rfl,ru⟩:=Vals.one r
  cases ru
  obtain⟨z,hd,ys,rel,o,es,ep,h1,h2,h3,h4,h5⟩:=(show eP X.prog X.w H s.heap a (.dT kvs) from I.rd ha)
  have hl:es.size=kvs.length:=by
   have:=congrArg List.length h4
   rw[yy,bT] at this
   rw[this];exact rel.length.symm
  exact Dh hd ⟨o,h1,h2,h3⟩ (by rw[sizeLine_eq] at z;lia) fun t t'=>⟨.int kvs.length,H,I.tok _,⟨t,by rw[hl]⟩,q⟩
theorem vq:A2 K (fun xs H Q=>OY K xs H Q\/∃ a kvs,xs=[.ref a]/\Rd H a (.dT kvs)/\Q (.int kvs.length) H) AZ:=by
 intro Hs H m x v As Qd Qv w rx h f
 have r1:=rx.rep w
 cases r1 with
 |str hz=>exact .inl ⟨hz,f.sh w (.int _) h⟩
 |list z s q=>exact .inl (.inl ⟨_,s,by rw[<- q.length];exact f.sh w (.int _) h⟩)
 |tup _ s q=>exact .inl (.inr (.inl ⟨_,.inl (.inl s),by rw[<- q.length];exact f.sh w (.int _) h⟩))
 |dK kk s q=>exact .inl (.inr (.inr ⟨_,s,by
   have:=q.length
   rw[bT] at this
   rw[FH,bT,<- this,D1]
   exact f.sh w (.int _) h⟩))
 |dT kk s q=>exact .inr ⟨_,_,rfl,s,by
   have:=q.length
   rw[bT] at this
   rw[FH,bT,<- this,D1]
   exact f.sh w (.int _) h⟩
 |_=>exact h.elim
end
section
variable {X:Cx}{K:PySem.W.Frag}{e e2:Expr}{te:WE}{pos p:Pos}{T:String}
theorem vQ (hK:X.K=K:=by rfl):kb X (.builtin "isinstance") (fun xs H Q=>∃ x d T,xs=[x,.ty T]/\Rep K H d x/\Rw T=true/\Q (.bl (G0 d.ty T)) H):=by
 subst hK
 intro pins s σ H xs us Q I r h
 obtain⟨x,d,T,rfl,rd,hT,q⟩:=h
 obtain⟨u,v,rfl,ru,rv⟩:=Vals.two r
 obtain rfl:v=Value.type T:=rv
 have hb:T∈["str", "int", "bool", "list", "tuple", "dict"]:=by simpa[Rw] using hT
 have fin:∀ tk,EP X pins σ Q (.bool (G0 d.ty T)) { s with toks:=tk }:=fun tk=>⟨.bl (G0 d.ty T),H,I.tok tk,rfl,q⟩
 cases rd with
 |non=>exact LP I ru .non (iB X.K _ T (by simp) hb) fin
 |bl b=>exact LP I ru (.bl b) (iB X.K _ T (by simp) hb) fin
 |int i=>exact LP I ru (.int i) (iB X.K _ T (by simp) hb) fin
 |str y=>exact LP I ru (.str _) (iB X.K _ T (by simp) hb) fin
 |list z s' q' =>
  cases ru
  obtain⟨its,_,pl,_⟩:=I.list s'
  obtain⟨o,h1,h2,_⟩:=pl.isList
  exact PySem.W.kia_one PySem.W.kitx_list I.kB ⟨o,h1,h2⟩ (iB X.K "list" T (by simp) hb) (fun z=>nomatch z) fin
 |tup _ s' q'=>exact LP I ru (.tup s') (iB X.K _ T (by simp) hb) fin
 |dK _ s' q' =>
  cases ru
  obtain⟨_,_,vs,_,p⟩:=I.rd s'
  obtain⟨o,es,ep,h1,h2,_⟩:=p
  exact PySem.W.kia_one PySem.W.kitx_dict I.kB ⟨o,h1,h2.1⟩ (iB X.K "dict" T (by simp) hb) (fun z=>nomatch z) fin
 |dT _ s' q' =>
  cases ru
  obtain⟨_,_,xs,_,o,es,ep,h1,h2,_⟩:=I.rd s'
  exact PySem.W.kia_one PySem.W.kitx_dict I.kB ⟨o,h1,h2.1⟩ (iB X.K "dict" T (by simp) hb) (fun z=>nomatch z) fin
theorem Hu (hm:X.mg "isinstance" = none) (he:QE X K e te) (ht:PE X e2 (tC (.ty T))) (hT:Rw T=true:=by rfl) (hg:Gl X "isinstance" := by rfl) (hK:X.K=K:=by rfl)
  (hs:starEach (e :: [e2]) X.env=(false,eval e X.env) :: starEach [e2] X.env:=by rfl) (nS:starEach (e2 :: []) X.env=(false,eval e2 X.env) :: starEach [] X.env:=by rfl) (ft:(backTo pos (starEach [e2] X.env)).any (·.1)=false:=by rfl) :
  QE X K (.Call (.Name "isinstance" p) [e,e2] [] pos) (kE (R7 T) te):=by
 refine PE.imp (Ou (vQ hK) hg hm gJ (nI he (nI ht qB nS) hs) (by decide) (by decide) hs ft) fun σ H Qv hx=>iE hx fun Hs ρ ae Q sr h f=>?_
 refine⟨Hs,ρ,ae,_,sr,h,fun v H1 aC m x As g1 r1 f1 q1=>⟨v,x,T,rfl,r1.rep g1.wf,hT,Fin.sh (Fin.after f g1) g1.wf (.bl _) q1⟩⟩
theorem CZ(r:Rep K H d v)(h:Ph d=some b):QY K v H b:=by
 cases r with
 |non=>cases h;rfl
 |bl b=>cases h;rfl
 |int i=>cases h;rfl
 |str hz =>
  cases h
  exact⟨hz,rfl⟩
 |list z s q =>
  cases h
  refine .inl ⟨_,s,?_⟩
  cases q<;>rfl
 |tup _ s q =>
  cases h
  refine .inr (.inl ⟨_,.inl (.inl s),?_⟩)
  cases q<;>rfl
 |dK _ s q=>cases h
 |dT _ s q=>cases h
theorem Bu(ha:QE X K e te)(he:∀ whole,isTrue e X.env whole=(do let v <- whole;standAt e.pos;holding [v] (truthy v)):=by intro _;rfl)(hK:X.K=K:=by rfl):QT X K e (R4 te):=by
 subst hK
 refine PT.imp (Z0 ha he) fun σ H Qv hx=>iE hx fun Hs ρ ae Q sr h f=>?_
 refine⟨Hs,ρ,ae,_,sr,h,fun v H1 aC m x As g1 r1 f1 q1=>?_⟩
 obtain⟨b,hb,q⟩:=q1
 exact⟨b,CZ (r1.rep g1.wf) hb,f b H1 aC g1 q⟩
end
def rS:Key->D
 |.inl i=>.int i
 |.inr x=>.str x
def uO:W1:=fun m x Q=>match x with
 |.list xs=>(cv xs=true/\Q (.ow true) (.list xs))\/(m=.sh/\Q (.ow false) (.list xs))
 |.tup xs=>(cv xs=true/\Q (.ow true) (.list xs))\/(m=.sh/\Q (.ow false) (.list xs))
 |.dT kvs=>Q (.ow true) (.list (kvs.map fun kv=>.tup (kv.1.map rS)))
 |_=>False
section
variable {X:Cx}{K:PySem.W.Frag}
theorem jf:∀ {ks:List Key},(∀ k∈ks,xt k=true)->aS K H (ks.map rS) (ks.map kV)
 |[],_=>.nil
 |k :: ks,h=>by
  refine .cons ?_ (jf fun j m=>h j (b5 _ m))
  have:=h k bX
  cases k with
  |inl i=>exact .int i
  |inr x=>exact .str (by simpa[xt] using this)
theorem gA:∀ (ks:List Key),cv (ks.map rS)=true
 |[]=>rfl
 |k :: ks=>by simp only[fo,cv,gA ks,N5];cases k<;>rfl
theorem i_(t:bB H ys ks)(h:∀ l∈ks,l.length<=sizeLine/\∀ k∈l,xt k=true):aS K H (ks.map fun l=>.tup (l.map rS)) ys:=by
 induction ys generalizing ks with
 |nil=>rw[show ks=[] from Paired.n0 t];exact .nil
 |cons y ys ih =>
  obtain⟨k,ks,rfl,⟨b,rfl,e⟩,t2⟩:=Paired.c t
  exact .cons (.tup (by rw[bT];exact(h _ bX).1) e (jf (h _ bX).2)) (ih t2 fun l m=>h l (b5 _ m))
theorem eV:∀ (ks:List (List Key)),cv (ks.map fun l=>.tup (l.map rS))=true
 |[]=>rfl
 |l :: ks=>by simp only[fo,cv,eV ks,N5,D.flat,gA]
theorem lR (hc:X.calm=true:=by rfl) (hK:X.K=K:=by rfl):kb X (.type "list") (fun xs H Q=>(∃ p ys,xs=[.ref p]/\(eB K H p ys\/jI K H p ys)/\∀ l,H l=none->Q (.ref l) (upd H l (.lst ys)))\/sW xs H Q):=by
 subst hK;exact aJ'.or (uC hc)
theorem xF:A2 K (fun xs H Q=>(∃ p ys,xs=[.ref p]/\(eB K H p ys\/jI K H p ys)/\∀ l,H l=none->Q (.ref l) (upd H l (.lst ys)))\/sW xs H Q) uO:=by
 intro Hs H m x v As Qd Qv w rx h f
 have r1:=rx.rep w
 cases r1 with
 |list z s q =>
  have hl:=q.length
  rcases h with⟨hf,h⟩|⟨rfl,h⟩
  ·exact .inl ⟨_,_,rfl,.inl s,f.lst w (by lia) q hf h⟩
  ·obtain⟨_,rx⟩:=rx
   cases rx with
   |list z' s' q' =>
    have hl:=q'.length
    exact .inl ⟨_,_,rfl,.inl (ay.seq w.sub s'),f.MK w (by lia) q' h⟩
 |tup z s q =>
  have hl:=q.length
  rcases h with⟨hf,h⟩|⟨rfl,h⟩
  ·exact .inl ⟨_,_,rfl,.inr (.inl (.inl s)),f.lst w (by lia) q hf h⟩
  ·obtain⟨_,rx⟩:=rx
   cases rx with
   |tup z' s' q' =>
    have hl:=q'.length
    exact .inl ⟨_,_,rfl,.inr (.inl (.inl (w.sub _ _ s'))),f.MK w (by lia) q' h⟩
 |@dT _ vs kvs kk s q =>
  refine .inr ⟨_,s,fun ys l ht hl=>?_⟩
  have hlen:=q.length
  rw[bT] at hlen
  have e:((kvs.map (·.1)).zip vs).map (·.1)=kvs.map (·.1):=NQ (by rw[bT];exact FT hlen)
  rw[e] at ht
  have rr:=i_ (K:=K) ht (fun l m=>by
   obtain⟨p,hp,rfl⟩:=b9.mp m
   exact kk.2 p hp)
  have ff:=eV (kvs.map (·.1))
  rw[js] at rr ff
  exact f.lst w (by rw[bT];exact kk.1) rr ff h l hl
 |_=>exact h.elim
end
section
variable {K:PySem.W.Frag}{Hs H:Hp}
theorem SR.xf(r:Rep K Hs d v)(i:Nat)(s:SR K Hs H ρ σ ae):∃ bS,bS.Sublist ae/\SR K Hs H (ρ.set i (some (.sh d))) (σ.set i (some v)) bS:=by
 induction s generalizing i with
 |nil=>exact⟨[],BQ _,.nil⟩
 |non s ih =>
  cases i with
  |zero=>exact⟨_,List.Sublist.refl _,.sh r s⟩
  |succ i=>obtain⟨t,a,b⟩:=ih i;exact⟨t,a,.non b⟩
 |sh q s ih =>
  cases i with
  |zero=>exact⟨_,List.Sublist.refl _,.sh r s⟩
  |succ i=>obtain⟨t,a,b⟩:=ih i;exact⟨t,a,.sh q b⟩
 |xc s ih =>
  cases i with
  |zero=>exact⟨_,List.Sublist.refl _,.sh r s⟩
  |succ i=>obtain⟨t,a,b⟩:=ih i;exact⟨t,a,.xc b⟩
 |ow ne q s ih =>
  cases i with
  |zero=>exact⟨_,oo _ _,.sh r s⟩
  |succ i=>obtain⟨t,a,b⟩:=ih i;exact⟨_,a.append_left _,.ow ne q b⟩
 |lk ne q s ih =>
  cases i with
  |zero=>exact⟨_,oo _ _,.sh r s⟩
  |succ i=>obtain⟨t,a,b⟩:=ih i;exact⟨_,a.append_left _,.lk ne q b⟩
theorem oA{As ae:List Addr}(nd:As.Nodup)(n:ae.Nodup)(dj:∀ a∈As,a∉ae):(As++ae).Nodup:=ip.mpr ⟨nd,n,fun a ha b hb e=>dj a ha (e ▸ hb)⟩
theorem fu{As ae B t:List Addr}(n:(B++ae).Nodup)(dj:∀ a∈As,a∉B++ae)(a:t.Nodup)(b:∀ x∈t,x∈ae\/x∈As):(B++t).Nodup/\∀ x∈B++t,x∈B++ae\/x∈As:=by
 obtain⟨n1,n2,n3⟩:=ip.mp n
 refine⟨ip.mpr ⟨n1,a,fun x hx y hy e=>?_⟩,fun x hx=>?_⟩
 ·subst e
  rcases b x hy with z|z
  ·exact n3 x hx x z rfl
  ·exact dj x z (i9 _ hx)
 ·rcases dS.mp hx with z|z
  ·exact .inl (i9 _ z)
  ·exact(b x z).imp (fun z=>fF _ z) fun z=>z
theorem SR.FZ{d:D}{v:V}{fl:Bool}{As:List Addr}(ne:As≠[])(r:bI K Hs H fl d v As)(nd:As.Nodup){ρ:Env}{σ:St}{ae:List Addr}(i:Nat)(s:SR K Hs H ρ σ ae):ae.Nodup->(∀ a∈As,a∉ae) ->
  ∃ bS,bS.Nodup/\(∀ a∈bS,a∈ae\/a∈As)/\SR K Hs H (ρ.set i (some (.ow fl d))) (σ.set i (some v)) bS:=by
 induction s generalizing i with
 |nil=>exact fun n _=>⟨[],lP,(fun a h=>uk h),.nil⟩
 |non s ih =>
  intro n dj
  cases i with
  |zero=>exact⟨_,oA nd n dj,fun a h=>(dS.mp h).symm,.ow ne r s⟩
  |succ i=>obtain⟨t,a,b,c⟩:=ih i n dj;exact⟨t,a,b,.non c⟩
 |sh q s ih =>
  intro n dj
  cases i with
  |zero=>exact⟨_,oA nd n dj,fun a h=>(dS.mp h).symm,.ow ne r s⟩
  |succ i=>obtain⟨t,a,b,c⟩:=ih i n dj;exact⟨t,a,b,.sh q c⟩
 |xc s ih =>
  intro n dj
  cases i with
  |zero=>exact⟨_,oA nd n dj,fun a h=>(dS.mp h).symm,.ow ne r s⟩
  |succ i=>obtain⟨t,a,b,c⟩:=ih i n dj;exact⟨t,a,b,.xc c⟩
 |ow ne' q s ih =>
  intro n dj
  obtain⟨n1,n2,n3⟩:=ip.mp n
  have MS:=fun a ha m=>dj a ha (fF _ m)
  cases i with
  |zero=>exact⟨_,oA nd n2 MS,fun a h=>(dS.mp h).symm.imp (fun z=>fF _ z) fun z=>z,.ow ne r s⟩
  |succ i=>obtain⟨t,a,b,c⟩:=ih i n2 MS;exact⟨_,(fu n dj a b).1,(fu n dj a b).2,.ow ne' q c⟩
 |lk ne' q s ih =>
  intro n dj
  obtain⟨n1,n2,n3⟩:=ip.mp n
  have MS:=fun a ha m=>dj a ha (fF _ m)
  cases i with
  |zero=>exact⟨_,oA nd n2 MS,fun a h=>(dS.mp h).symm.imp (fun z=>fF _ z) fun z=>z,.ow ne r s⟩
  |succ i=>obtain⟨t,a,b,c⟩:=ih i n2 MS;exact⟨_,(fu n dj a b).1,(fu n dj a b).2,.lk ne' q c⟩
def asg:Md->D->Option Sl
 |.sh,d=>some (.sh d)
 |.ow fl,d=>some (.ow fl d)
 |.bo,d=>bif d.flat then some (.sh d) else none
theorem dr.set(i:Nat)(s:dr K Hs ρ σ H ae)(r:RM K Hs H m d v As)(nd:As.Nodup)(dj:∀ a∈As,Hs a=none/\a∉ae)(e:asg m d=some sl) :
  ∃ bS,dr K Hs (ρ.set i (some sl)) (σ.set i (some v)) H bS:=by
 have WH:Rep K Hs d v->∃ bS,dr K Hs (ρ.set i (some (.sh d))) (σ.set i (some v)) H bS:=fun r=>by
  obtain⟨t,a,b⟩:=s.sr.xf r i
  exact⟨t,b,s.wf,a.nodup s.oB,fun x hx=>s.own x (a.subset hx)⟩
 cases m with
 |sh=>cases e;exact WH r.2
 |ow fl =>
  cases e
  obtain⟨t,a,b,c⟩:=SR.FZ r.2 r.1 nd i s.sr s.oB fun a ha=>(dj a ha).2
  exact⟨t,c,s.wf,a,fun x hx=>(b x hx).elim (s.own x) fun z=>(dj x z).1⟩
 |bo =>
  cases hf:d.flat with
  |true =>
   simp only[asg,hf,cond_true,Option.some.injEq] at e
   subst e
   exact WH (r.flat s.wf hf)
  |false=>simp[asg,hf] at e
end
section
variable {X:Cx}{K:PySem.W.Frag}{e c:Expr}{te:WE}{tc:WT}{pos:Pos}{st:Stmt}{a b rest:List Stmt}{t u:WS}
theorem PS.imp{te uS:TS}(h:PS X st te)(i:∀ D σ H,uS D σ H->te D σ H):PS X st uS:=fun pins s σ H D I q=>h pins s σ H D I (i D σ H q)
theorem mB.imp{te uS:TS}(h:mB X a te)(i:∀ D σ H,uS D σ H->te D σ H):mB X a uS:=fun pins s σ H D I q=>h pins s σ H D I (i D σ H q)
def dH:WS:=fun E ρ=>E.nx ρ
def dk(t u:WS):WS:=fun E ρ=>t { E with nx:=u E } ρ
def mM(te:WE):WS:=fun E ρ=>te ρ E.rt
def fw(i:Nat)(te:WE):WS:=fun E ρ=>te ρ fun m d=>match asg m d with
 |some sl=>E.nx (ρ.set i (some sl))
 |none=>False
def n9(c:WT)(t u:WS):WS:=fun E ρ=>c ρ fun b=>if b=true then t E ρ else u E ρ
theorem bC:pz X K L [] dH:=mB.imp U_ fun D σ H hx=>dg hx fun Hs ρ ae E sr h k1 _ _ _=>k1 σ H Hs ρ ae (ay.refl _) sr h
theorem yq{D:Ends}(h:xA K L (dk t u) D σ H):U9 (xA K L t) (xA K L u) D σ H:=by
 obtain⟨Hs,ρ,ae,E,sr,h,k1,k2,k3,k4,kx⟩:=h
 refine⟨Hs,ρ,ae,{ E with nx:=u E },sr,h,fun bp H' ah bG bS s R8 q=>?_,k2,k3,k4,kx⟩
 exact⟨ah,bG,bS,E,R8,q,fun ka H2 ax fN dv s2=>k1 ka H2 ax fN dv (s.trans s2),fun ka H2 ax fN dv s2=>k2 ka H2 ax fN dv (s.trans s2),fun ka H2 ax fN dv s2=>k3 ka H2 ax fN dv (s.trans s2),
  fun v H2 ax m d As s2=>k4 v H2 ax m d As (s.trans s2),fun n H2 s2=>kx n H2 (s.trans s2)⟩
theorem aj(h1:QS X K L st t)(h2:pz X K L rest u):pz X K L (st :: rest) (dk t u):=mB.imp (Va h1 h2) fun D σ H h=>yq h
theorem ao(h1:QS X K L st t):pz X K L [st] t:=Vb h1
theorem bR(he:QE X K e te):QS X K L (.Return (some e) pos) (mM te):=PS.imp (Oe he) fun D σ H hx=>dg hx fun Hs ρ ae E sr h k1 k2 k3 k4 =>
 ⟨Hs,ρ,ae,_,sr,h,fun v H1 aC m d As g1 r1 f1 q1=>k4 v H1 aC m d As g1.sh g1.wf r1 f1.1 (fun a ha=>(f1.2 a ha).1) q1⟩
def oZ(i:Nat):WS:=fun E ρ=>match ρ[i]? with
 |some (some (.sh d))=>E.rt .sh d
 |some (some (.ow fl d))=>E.rt (.ow fl) d
 |_=>False
theorem SR.at{ρ:Env}{σ:St}{ae:List Addr}{i:Nat}{fl:Bool}{d:D}{Hs H:Hp}(s:SR K Hs H ρ σ ae)(e:ρ[i]? = some (some (.ow fl d))):∃ v As,σ[i]? = some (some v)/\As≠[]/\bI K Hs H fl d v As/\As.Sublist ae:=by
 induction s generalizing i with
 |nil=>simp at e
 |non s ih =>
  cases i with
  |zero=>simp at e
  |succ i=>exact ih e
 |sh r s ih =>
  cases i with
  |zero=>simp at e
  |succ i=>exact ih e
 |xc s ih =>
  cases i with
  |zero=>simp at e
  |succ i=>exact ih e
 |ow ne r s ih =>
  cases i with
  |zero=>simp at e;obtain⟨rfl,rfl⟩:=e;exact⟨_,_,rfl,ne,r,FG _ _⟩
  |succ i =>
   obtain⟨v,As,a,b,c,d⟩:=ih e
   exact⟨v,As,a,b,c,d.trans (oo _ _)⟩
 |lk ne r s ih =>
  cases i with
  |zero=>simp at e
  |succ i =>
   obtain⟨v,As,a,b,c,d⟩:=ih e
   exact⟨v,As,a,b,c,d.trans (oo _ _)⟩
theorem jy{i:Nat}(he:PE X e (y0 i)):QS X K L (.Return (some e) pos) (oZ i):=PS.imp (Oe he) fun D σ H hx=>dg hx fun Hs ρ ae E sr h k1 k2 k3 k4=>by
 unfold oZ at h
 split at h
 ·rename_i d e1
  obtain⟨v,e2,r⟩:=sr.sr.get e1
  exact⟨v,e2,k4 v H Hs .sh d [] (ay.refl _) sr.wf ⟨rfl,r⟩ lP (fun a ha=>nomatch ha) h⟩
 ·rename_i fl d e1
  obtain⟨v,As,e2,ne,r,sb⟩:=sr.sr.at e1
  exact⟨v,e2,k4 v H Hs (.ow fl) d As (ay.refl _) sr.wf ⟨r,ne⟩ (sb.nodup sr.oB) (fun a ha=>sr.own a (sb.subset ha)) h⟩
 ·exact h.elim
theorem aG{i:Nat}{x:Str}{pos':Pos}(hN:X.N.Nodup)(hi:X.N[i]? = some x)(hx:Loc X.env.scope x)(he:QE X K e te)(hs:swapsWith e (some (.Name x pos')) pos.line X.env=pure false:=by rfl)
  (hf:X.fn x=true\/X.env.scope.names.lookup x=some .local:=by first|exact .inl rfl|exact .inr rfl|assumption):QS X K L (.Assign [.Name x pos'] e pos) (fw i te):=PS.imp (Og hN hi hx he hs hf) fun D σ H hx=>dg hx fun Hs ρ ae E sr h k1 k2 k3 k4=>by
 refine⟨Hs,ρ,ae,_,sr,h,fun v H1 aC m d As g1 r1 f1 q1=>?_⟩
 have q1:match asg m d with
  |some sl=>E.nx (ρ.set i (some sl))
  |none=>False:=q1
 cases e:asg m d with
 |none=>rw[e] at q1;exact q1.elim
 |some sl =>
  rw[e] at q1
  obtain⟨bS,s'⟩:=(sr.grow g1).set i r1 f1.1 (fun a ha=>⟨(f1.2 a ha).1,fun m=>(sr.sr.own a m).ne (f1.2 a ha).2⟩) e
  exact k1 _ H1 aC _ bS g1.sh s' q1
theorem fK(hc:QT X K c tc)(ha:pz X K L a t)(hb:pz X K L b u):QS X K L (.If c a b pos) (n9 tc t u):=PS.imp (Y9 hc ha hb) fun D σ H hx=>dW hx fun Hs ρ ae E sr h k1 k2 k3 k4 kx=>by
 refine⟨Hs,ρ,ae,_,sr,h,fun k H1 aC g1 q1=>?_⟩
 have WK:∀ bp H' ah bG bS,ay aC ah->dr K ah bG bp H' bS->E.nx bG->D.nx bp H':=fun ka H2 ax fN dv s2=>k1 ka H2 ax fN dv (g1.sh.trans s2)
 have WL:∀ bp H' ah bG bS,ay aC ah->dr K ah bG bp H' bS->E.bk bG->D.bk bp H':=fun ka H2 ax fN dv s2=>k2 ka H2 ax fN dv (g1.sh.trans s2)
 have WM:∀ bp H' ah bG bS,ay aC ah->dr K ah bG bp H' bS->E.ct bG->D.ct bp H':=fun ka H2 ax fN dv s2=>k3 ka H2 ax fN dv (g1.sh.trans s2)
 cases k with
 |true=>exact⟨aC,ρ,ae,E,sr.grow g1,q1,WK,WL,WM,(fun v H2 ax m d As s2=>k4 v H2 ax m d As (g1.sh.trans s2)),fun n H2 s2=>kx n H2 (g1.sh.trans s2)⟩
 |false=>exact⟨aC,ρ,ae,E,sr.grow g1,q1,WK,WL,WM,(fun v H2 ax m d As s2=>k4 v H2 ax m d As (g1.sh.trans s2)),fun n H2 s2=>kx n H2 (g1.sh.trans s2)⟩
def tf(Hs H:Hp)(As:List Addr):Hp:=fun a=>if a∈As then H a else Hs a
theorem gO(n:∀ a∈As,Hs a=none):ay Hs (tf Hs H As):=fun a o e=>by
 unfold tf
 rw[if_neg fun m=>by rw[n a m] at e;cases e]
 exact e
theorem uZ(w:Wf Hs H)(o:∀ a∈As,Own H a):Wf (tf Hs H As) H:=⟨fun a u e=>by
  unfold tf at e
  by_cases m:a∈As
  ·rw[if_pos m] at e;exact e
  ·rw[if_neg m] at e;exact w.sub a u e,fun a vs e=>by
  unfold tf
  rw[if_neg fun m=>(o a m).Aq e]
  exact w.iO a vs e⟩
def MT:Sl->Sl
 |.sh d=>.sh d
 |.ow _ d=>.sh d
 |.lk a fl d=>.lk a fl d
 |.xc a=>.xc a
def MV:Sl->Sl
 |.sh d=>.sh d
 |.ow _ d=>.sh d
 |.lk _ _ d=>.sh d
 |.xc a=>.xc a
def MX(i:Nat)(ρ:Env):Env:=match ρ[i]? with
 |some (some sl)=>ρ.set i (some (MT sl))
 |_=>ρ
theorem mF{As ae B t:List Addr}(n:(B++ae).Nodup)(a:As.Sublist ae)(c:∀ x∈As,x∉t):∀ x∈As,x∉B++t:=fun x hx m=>by
 obtain⟨n1,n2,n3⟩:=ip.mp n
 rcases dS.mp m with z|z
 ·exact n3 x z x (a.subset hx) rfl
 ·exact c x hx z
theorem SR.mw(i:Nat)(s:SR K Hs H ρ σ ae):ρ[i]? = some (some (.ow fl d))->ae.Nodup ->
  ∃ (As bS:List Addr),As.Sublist ae/\bS.Sublist ae/\(∀ a∈As,a∉bS)/\∀ ah,ay Hs ah->(∀ a∈As,ah a=H a)->SR K ah H (ρ.set i (some (.sh d))) σ bS:=by
 induction s generalizing i with
 |nil=>intro e;simp at e
 |non q ih =>
  intro e n
  cases i with
  |zero=>simp at e
  |succ i =>
   obtain⟨As,t,a,b,c,d⟩:=ih i e n
   exact⟨As,t,a,b,c,fun ah s k=>.non (d ah s k)⟩
 |sh r q ih =>
  intro e n
  cases i with
  |zero=>simp at e
  |succ i =>
   obtain⟨As,t,a,b,c,d⟩:=ih i e n
   exact⟨As,t,a,b,c,fun ah s k=>.sh (r.same s) (d ah s k)⟩
 |xc q ih =>
  intro e n
  cases i with
  |zero=>simp at e
  |succ i =>
   obtain⟨As,t,a,b,c,d⟩:=ih i e n
   exact⟨As,t,a,b,c,fun ah s k=>.xc (d ah s k)⟩
 |ow ne r q ih =>
  intro e n
  obtain⟨n1,n2,n3⟩:=ip.mp n
  cases i with
  |zero =>
   simp at e
   obtain⟨rfl,rfl⟩:=e
   exact⟨_,_,FG _ _,oo _ _,fun a h m=>n3 a h a m rfl,fun ah s k=>.sh (r.rep s k) (q.eh s fun _ _=>rfl)⟩
  |succ i =>
   obtain⟨As,t,a,b,c,d⟩:=ih i e n2
   exact⟨As,_,a.trans (oo _ _),b.append_left _,mF n a c,fun ah s k=>.ow ne (r.eh s fun _ _=>rfl) (d ah s k)⟩
 |lk ne r q ih =>
  intro e n
  obtain⟨n1,n2,n3⟩:=ip.mp n
  cases i with
  |zero=>simp at e
  |succ i =>
   obtain⟨As,t,a,b,c,d⟩:=ih i e n2
   exact⟨As,_,a.trans (oo _ _),b.append_left _,mF n a c,fun ah s k=>.lk ne (r.eh s fun _ _=>rfl) (d ah s k)⟩
theorem dr.mw(i:Nat)(s:dr K Hs ρ σ H ae):∃ ah bS,ay Hs ah/\dr K ah (MX i ρ) σ H bS:=by
 unfold MX
 split
 ·rename_i sl e
  have keep:MT sl=sl->∃ ah bS,ay Hs ah/\dr K ah (ρ.set i (some (MT sl))) σ H bS:=fun hs=>by
   have e2:ρ.set i (some (MT sl))=ρ:=by
    apply DM
    intro j
    rw[List.getElem?_set]
    by_cases h:i=j
    ·subst h
     rw[if_pos rfl,e]
     have:i<ρ.length:=(iN.mp e).1
     simp[this,hs]
    ·rw[if_neg h]
   rw[e2]
   exact⟨Hs,ae,ay.refl _,s⟩
  cases sl with
  |sh d=>exact keep rfl
  |xc a=>exact keep rfl
  |lk a fl d=>exact keep rfl
  |ow fl d =>
   obtain⟨As,t,a,b,c,g⟩:=SR.mw i s.sr e s.oB
   have hn:∀ a∈As,Hs a=none:=fun x hx=>s.own x (a.subset hx)
   have ho:∀ a∈As,Own H a:=fun x hx=>s.sr.own x (a.subset hx)
   refine⟨tf Hs H As,t,gO hn,g _ (gO hn) fun x hx=>by unfold tf;rw[if_pos hx],uZ s.wf ho,b.nodup s.oB,fun x hx=>?_⟩
   unfold tf
   rw[if_neg fun m=>c x m hx]
   exact s.own x (b.subset hx)
 ·exact⟨Hs,ae,ay.refl _,s⟩
def iS(i:Nat)(t:WS):WS:=fun E ρ=>t E (MX i ρ)
theorem zL{D:Ends}(h:xA K L (iS i t) D σ H):xA K L t D σ H:=by
 obtain⟨Hs,ρ,ae,E,sr,h,k1,k2,k3,k4,kx⟩:=h
 obtain⟨ah,bS,s,R8⟩:=sr.mw i
 exact⟨ah,_,bS,E,R8,h,fun ka H2 ax fN dv s2=>k1 ka H2 ax fN dv (s.trans s2),fun ka H2 ax fN dv s2=>k2 ka H2 ax fN dv (s.trans s2),fun ka H2 ax fN dv s2=>k3 ka H2 ax fN dv (s.trans s2),
  fun v H2 ax m d As s2=>k4 v H2 ax m d As (s.trans s2),fun n H2 s2=>kx n H2 (s.trans s2)⟩
theorem aU(i:Nat)(h:QS X K L st t):QS X K L st (iS i t):=PS.imp h fun D σ H h=>zL h
def jA(aC H1 ah H':Hp):Hp:=fun a=>match H' a with
 |some (.tup vs)=>some (.tup vs)
 |_=>match H1 a with
  |none=>ah a
  |some _=>aC a
theorem dU(w:Wf aC H1)(s:ay H1 ah)(w':Wf ah H'):eJ aC H1 (jA aC H1 ah H') H':=by
 have sa:ay H1 H':=s.trans w'.sub
 have tp:∀ a vs,H' a=some (.tup vs)->jA aC H1 ah H' a=some (.tup vs):=fun a vs e=>by unfold jA;rw[e]
 have nt:∀ a,(∀ vs,H' a≠some (.tup vs))->jA aC H1 ah H' a=match H1 a with
  |none=>ah a
  |some _=>aC a:=fun a h=>by
  unfold jA
  split
  ·rename_i vs e;exact absurd e (h vs)
  ·rfl
 refine⟨sa,fun a o e=>?_,⟨fun a o e=>?_,tp⟩,fun a h=>?_⟩
 ·have e1:=w.sub a o e
  have e2:=sa a o e1
  by_cases ht:∃ vs,o=.tup vs
  ·obtain⟨vs,rfl⟩:=ht
   exact tp a vs e2
  ·rw[nt a fun vs z=>ht ⟨vs,by rw[e2] at z;exact Option.some.inj z⟩,e1]
   exact e
 ·by_cases ht:∃ vs,H' a=some (.tup vs)
  ·obtain⟨vs,z⟩:=ht
   rw[tp a vs z] at e
   rw[z];exact e
  ·rw[nt a fun vs z=>ht ⟨vs,z⟩] at e
   cases q:H1 a with
   |none=>rw[q] at e;exact w'.sub a o e
   |some u =>
    rw[q] at e
    have:=w.sub a o e
    exact sa a o this
 ·cases q:H1 a with
  |none=>exact .inr rfl
  |some u =>
   refine .inl ?_
   by_cases ht:∃ vs,H' a=some (.tup vs)
   ·obtain⟨vs,z⟩:=ht
    have:=sa a u q
    rw[z] at this
    cases this
    rw[w.iO a vs q]
    exact fun z=>nomatch z
   ·rw[nt a fun vs z=>ht ⟨vs,z⟩,q] at h
    exact h
theorem vU{aC H1 ah H':Hp}{a:Addr}(s:ay H1 ah)(h:ah a=none)(o:Own H' a):jA aC H1 ah H' a=none/\H1 a=none:=by
 have h1:=s.free h
 refine⟨?_,h1⟩
 unfold jA
 split
 ·rename_i vs e;exact absurd e o.Aq
 ·rw[h1];exact h
def pE:Md->D->Md
 |.ow true,_=>.ow true
 |_,d=>bif d.flat then .sh else .bo
theorem nF(w:Wf aC H1)(s:ay H1 ah)(w':Wf ah H')(r:RM K ah H' m d v As)(nd:As.Nodup)(own:∀ a∈As,ah a=none) :
  ∃ fz,RM K (jA aC H1 ah H') H' (pE m d) d v fz/\cg (jA aC H1 ah H') H1 fz:=by
 have g:=dU w s w'
 have other:∃ fz,RM K (jA aC H1 ah H') H' (bif d.flat then .sh else .bo) d v fz/\cg (jA aC H1 ah H') H1 fz:=by
  cases hf:d.flat with
  |true=>exact⟨[],⟨rfl,(r.rep w').eZ g.wf.iO hf⟩,cg.nil⟩
  |false=>exact⟨[],⟨rfl,r.rep w'⟩,cg.nil⟩
 cases m with
 |sh=>exact other
 |bo=>exact other
 |ow fl =>
  cases fl with
  |false=>exact other
  |true=>exact⟨As,⟨bI.leaves (fun a vs e=>g.wf.iO a vs (w'.sub _ _ e)) r.1,r.2⟩,nd,fun a h=>vU s (own a h) (r.own a h)⟩
abbrev hV:=List D->(Md->D->Prop)->Prop
def au(K:PySem.W.Frag)(sp:hV):Sp:=fun vs H Qv _=>∃ ds Qd,aS K H ds vs/\sp ds Qd /\
 ∀ v H' ah m d As,ay H ah->Wf ah H'->RM K ah H' m d v As->As.Nodup->(∀ a∈As,ah a=none)->Qd m d->Qv v H'
def aJ(n:Nat)(ds:List D):Env:=ds.map (fun d=>some (.sh d))++List.replicate (n-ds.length) none
theorem SR.start(r:aS K H ds vs):SR K H H (ds.map (fun d=>some (.sh d))++List.replicate n none) (vs.map some++List.replicate n none) []:=by
 induction ds generalizing vs with
 |nil =>
  rw[r.n0]
  induction n with
  |zero=>exact .nil
  |succ n ih=>exact .non ih
 |cons d ds ih =>
  obtain⟨u,us,rfl,r,rs⟩:=r.c
  exact .sh r (ih rs)
theorem vo(h:au K sp vs H Qv E)(hp:∀ ds Q,sp ds Q->t { nx:=fun _=>Q .sh .non,rt:=Q } (aJ N.length ds)) :
  xA K L0 t { nx:=fun _ H'=>Qv .non H',rt:=Qv } (start N vs) H:=by
 obtain⟨ds,Qd,rs,hs,fin⟩:=h
 have hl:=rs.length
 refine⟨H,aJ N.length ds,[],{ nx:=fun _=>Qd .sh .non,rt:=Qd },⟨?_,⟨ay.refl _,fun _ _ e=>e⟩,lP,fun a h=>nomatch h⟩,hp ds Qd hs,?_,?_,?_,?_,fun _ _ _ _=>trivial⟩
 ·unfold aJ start
  rw[hl]
  exact SR.start rs
 ·exact fun bp H' ah bG bS s sr q=>fin .non H' ah .sh .non [] s sr.wf ⟨rfl,.non⟩ lP (fun a h=>nomatch h) q
 ·exact fun bp H' ah bG bS s sr q=>q.elim
 ·exact fun bp H' ah bG bS s sr q=>q.elim
 ·exact fun v H' ah m d As s w r nd own q=>fin v H' ah m d As s w r nd own q
theorem pS.ok{P:Program}{st:Stmt}{N ps:List Str}(F:g9 K x qual st f fd)(S:kC N ps (cw st))(len:∀ ds Q,sp ds Q->ds.length=ps.length)
  (AH:∀ (cK:Value) (A:Around) (outer:List PySem.Env) (s:Shared) (H:Hp) (E:XK),kc k (A.deeper (envOfC qual (cw st) s.heap.objs.size f cK))->pz (qE kg P w K mg base N qual (cw st) f cK A outer s H E).LD K L0 (ib st) t)
  (hp:∀ ds Q,sp ds Q->t { nx:=fun _=>Q .sh .non,rt:=Q } (aJ N.length ds)):g7 P w K mg base kg (k+1) f fd ps (au K sp) :=
 F.ok S (fun vs H Q E ⟨ds,Qd,rs,hs,_⟩=>by rw[<- rs.length];exact len ds Qd hs) fun cK A outer s H vs Q E hr hs=>⟨_,AH cK A outer s H E hr,vo hs hp⟩
def bO(sp:hV)(t:WA):WE:=fun ρ Q=>t ρ fun ps=>sp (ps.map (·.2)) fun m d=>bE (m,d) (f:=fun p=>Q (pE p.1 p.2) p.2) ⟨⟩
theorem uQ{sp:hV}{t:WA}{σ:St}{H:Hp}{Qv:VK}{E:XK}(h:ml K (bO sp t) σ H Qv):LS (au K sp) [] E (RZ K t) σ H Qv:=by
 obtain⟨Hs,ρ,ae,Q,sr,h,f⟩:=h
 refine⟨Hs,ρ,ae,_,sr,h,fun vs H1 aC ps As g1 r1 f1 q1=>?_⟩
 refine⟨_,_,by rw[lI];exact r1.reps g1.wf,q1,fun v H' ah m d As s w r nd own q=>?_⟩
 obtain⟨fz,r',fr⟩:=nF g1.wf s w r nd own
 exact Fin.after f g1 v H' _ (pE m d) d fz (dU g1.wf s w) r' fr q
theorem b_ {k:Nat} {x:Str} {ps:List Str} {sp:hV} {p:Pos} {es:List Expr} {t:WA} (C:fA X.prog X.w X.K X.mg X.base k x ps (au K sp)) (hr:kc k X.A) (ha:QA X K (e :: es) t) (hg:Gl X x:=by rfl) (gy:(x == ("__debug__" : Str))=false:=by decide) (he:starEach (e :: es) X.env=(false,eval e X.env) :: starEach es X.env:=by rfl)
  (ft:(backTo pos (starEach es X.env)).any (·.1)=false:=by rfl):QE X K (.Call (.Name x p) (e :: es) [] pos) (bO sp t):=PE.imp (Gm C hr ha hg gy he ft) fun σ H Qv h=>uQ h
end
abbrev WG:=D->Env->(Env->Prop)->Prop
def WN(K:PySem.W.Frag)(g:WG):TG:=fun v σ H Qv=>∃ Hs ρ ae d Q,dr K Hs ρ σ H ae/\Rep K Hs d v/\g d ρ Q/\∀ bp bG bS,dr K Hs bG bp H bS->(∀ a∈bS,a∈ae)->Q bG->Qv bp H
abbrev QG(X:Cx)(K:PySem.W.Frag)(e:Expr)(g:WG):Prop:=PG X e (WN K g)
def gN(i:Nat):WG:=fun d ρ Q=>Q (ρ.set i (some (.sh d)))
abbrev EZ:=List D->Env->(Env->Prop)->Prop
def cB'(K:PySem.W.Frag)(g:EZ):GH:=fun vs σ H Qv=>∃ Hs ρ ae ds Q,dr K Hs ρ σ H ae/\aS K Hs ds vs/\g ds ρ Q/\∀ bp bG bS,dr K Hs bG bp H bS->(∀ a∈bS,a∈ae)->Q bG->Qv bp H
abbrev Pl(X:Cx)(K:PySem.W.Frag)(es:List Expr)(g:EZ):Prop:=y3 X es (cB' K g)
def pG:EZ:=fun ds ρ Q=>ds=[]/\Q ρ
def cN(g:WG)(gs:EZ):EZ:=fun ds ρ Q=>match ds with
 |d :: ds=>g d ρ fun bG=>gs ds bG Q
 |[]=>False
def gT(n:Nat)(gs:EZ):WG:=fun d ρ Q=>match d with
 |.tup ds=>ds.length=n/\gs ds ρ Q
 |_=>False
section
variable {X:Cx}{K:PySem.W.Frag}{e:Expr}{es:List Expr}{g:WG}{gs:EZ}{pos:Pos}
theorem PG.imp(h:PG X e t)(i:∀ v σ H Q,t' v σ H Q->t v σ H Q):PG X e t':=fun pins s σ H v u Q I r q=>h pins s σ H v u Q I r (i v σ H Q q)
theorem y3.imp(h:y3 X es t)(i:∀ v σ H Q,t' v σ H Q->t v σ H Q):y3 X es t':=fun pins s σ H v u Q I r q=>h pins s σ H v u Q I r (i v σ H Q q)
theorem dr.Fz(i:Nat)(s:dr K Hs ρ σ H ae)(r:Rep K Hs d v):∃ bS,(∀ a∈bS,a∈ae)/\dr K Hs (ρ.set i (some (.sh d))) (σ.set i (some v)) H bS:=by
 obtain⟨t,a,b⟩:=s.sr.xf r i
 exact⟨t,fun x hx=>a.subset hx,b,s.wf,a.nodup s.oB,fun x hx=>s.own x (a.subset hx)⟩
theorem aD(hN:X.N.Nodup)(hi:X.N[i]? = some x)(hx:Loc X.env.scope x)(hf:X.fn x=true\/X.env.scope.names.lookup x=some .local:=by first|exact .inl rfl|exact .inr rfl|assumption):QG X K (.Name x pos) (gN i) :=
 PG.imp (Y_ hN hi hx hf) fun v σ H Qv cy=>by
  obtain⟨Hs,ρ,ae,d,Q,sr,r,h,k⟩:=cy
  obtain⟨t,m,s⟩:=sr.Fz i r
  exact k _ _ t s m h
theorem kO:Pl X K [] pG:=y3.imp Zc fun v σ H Qv cy=>by
 obtain⟨Hs,ρ,ae,ds,Q,sr,r,h,k⟩:=cy
 obtain⟨rfl,h⟩:=h
 cases r
 exact⟨rfl,k σ ρ ae sr (fun _ z=>z) h⟩
theorem bF(h1:QG X K e g)(h2:Pl X K es gs)(hs:(assignEach (e :: es) X.env).map (·.2)=assign e X.env :: (assignEach es X.env).map (·.2):=by rfl):Pl X K (e :: es) (cN g gs) :=
 y3.imp (Zd h1 h2 hs) fun v σ H Qv cy=>by
  obtain⟨Hs,ρ,ae,ds,Q,sr,r,h,k⟩:=cy
  cases r with
  |nil=>exact h.elim
  |cons r rs=>exact⟨_,_,rfl,Hs,ρ,ae,_,_,sr,r,h,fun ka fN dv fP m2 q2=>⟨Hs,fN,dv,_,Q,fP,rs,q2,fun oQ Iq R9 R_ m3=>k oQ Iq R9 R_ fun a h=>m2 a (m3 a h)⟩⟩
theorem pZ(hc:X.calm=true)(h:Pl X K es gs)(hn:(assignEach es X.env).length=n:=by rfl)(jS:(assignEach es X.env).findIdx? (·.1)=none:=by rfl):QG X K (.Tuple es k pos) (gT n gs) :=
 PG.imp (Zf hc h hn jS) fun v σ H Qv cy=>by
  obtain⟨Hs,ρ,ae,d,Q,sr,r,h,k⟩:=cy
  cases r with
  |tup z e rs=>exact⟨_,_,rfl,.inl (.inl (sr.wf.sub _ _ e)),by rw[<- rs.length];exact h.1,Hs,ρ,ae,_,Q,sr,rs,h.2,k⟩
  |_=>exact h.elim
end
abbrev WI:=Env->(List D->Prop)->Prop
structure nR(K:PySem.W.Frag)(J:It)(ds:List D)(C:Hp->Hp->Prop):Prop where
 go:∀ i Hs H,C Hs H->Wf Hs H->i<ds.length->J.go i H
 mE:∀ i Hs H x H' d,C Hs H->Wf Hs H->ds[i]? = some d->J.mE i H x H'->∃ ah,eJ Hs H ah H'/\Rep K ah d x
 stop:∀ Hs H,C Hs H->Wf Hs H->J.stop ds.length H
abbrev wW(K:PySem.W.Frag)(Hs:Hp)(J:It)(ds:List D):Prop:=nR K J ds fun G _=>ay Hs G
def lD(xs:List D):List D:=xs.mapIdx fun i x=>.tup [.int i,x]
section
variable {K:PySem.W.Frag}{Hs:Hp}{J:It}{ds:List D}{C C':Hp->Hp->Prop}{a:Addr}
theorem nR.imp(S:nR K J ds C)(h:∀ Hs H,C' Hs H->C Hs H):nR K J ds C':=⟨fun i Hs H c=>S.go i Hs H (h _ _ c),fun i Hs H x H' d c=>S.mE i Hs H x H' d (h _ _ c),fun Hs H c=>S.stop Hs H (h _ _ c)⟩
theorem nR.seq(rs:aS K Hs ds vs)(S:k_ J vs fun H=>ay Hs H):wW K Hs J ds where
 go:=fun i G H s w h=>S.go i H (s.trans w.sub) (by rw[<- rs.length];exact h)
 mE:=fun i G H x H' d s w h y=>by
  have hi:i<ds.length:=by
   rcases D3 i ds.length with q|q
   ·exact q
   ·rw[sA q] at h;cases h
  obtain⟨e,z⟩:=S.mE i H x H' (s.trans w.sub) (by rw[<- rs.length];exact hi) y
  subst e
  obtain⟨d',ed,rd⟩:=rs.RX z
  rw[h] at ed;cases ed
  exact⟨G,eJ.refl w,rd.same s⟩
 stop:=fun G H s w=>by rw[rs.length];exact S.stop H (s.trans w.sub)
abbrev uY(K:PySem.W.Frag)(a:Addr)(ds:List D)(C:Hp->Hp->Prop):Prop:=∀ Hs H,C Hs H->Wf Hs H->∃ vs,eB K H a vs/\aS K Hs ds vs
theorem nR.list(h:uY K a ds C):nR K (Oh K a) ds C where
 go:=fun i G H c w hi=>by
  obtain⟨vs,q,rs⟩:=h G H c w
  exact⟨vs,vs[i]'(by rw[<- rs.length];exact hi),q,by simp⟩
 mE:=fun i G H x H' d c w hd y=>by
  obtain⟨vs,q,rs⟩:=h G H c w
  obtain⟨rfl,y⟩:=y
  obtain⟨d',ed,rd⟩:=rs.RX (y vs q)
  rw[hd] at ed;cases ed
  exact⟨G,eJ.refl w,rd⟩
 stop:=fun G H c w=>by
  obtain⟨vs,q,rs⟩:=h G H c w
  exact⟨vs,q,by rw[rs.length];exact ck _⟩
theorem nR.enum(h:uY K a ds C):nR K (RD K a) (lD ds) C where
 go:=fun i G H c w hi=>by
  obtain⟨vs,q,rs⟩:=h G H c w
  have hi:i<ds.length:=by simpa[lD] using hi
  exact⟨vs,vs[i]'(by rw[<- rs.length];exact hi),q,by simp⟩
 mE:=fun i G H x H' d c w hd y=>by
  obtain⟨vs,q,rs⟩:=h G H c w
  obtain⟨p,v,rfl,hp,rfl,y⟩:=y
  obtain⟨d',ed,rd⟩:=rs.RX (y vs q)
  have:d=.tup [.int i,d']:=by
   simp only[lD,List.getElem?_mapIdx,ed,K2] at hd
   cases hd;rfl
  subst this
  have g:=O_ (vs:=[.int i,v]) w hp
  exact⟨_,g,.tup (vs:=[.int i,v]) Ah gd (.cons (.int _) (.cons (rd.same g.sh) .nil))⟩
 stop:=fun G H c w=>by
  obtain⟨vs,q,rs⟩:=h G H c w
  exact⟨vs,q,by rw[lD,List.length_mapIdx,rs.length];exact ck _⟩
theorem pB(s:eB K Hs a vs)(rs:aS K Hs ds vs):uY K a ds fun G _=>ay Hs G:=fun G H c w=>⟨vs,ay.seq (c.trans w.sub) s,rs.same c⟩
end
def tpI(K:PySem.W.Frag)(wi:WI):TI:=fun σ H R=>∃ Hs ρ ae Q,dr K Hs ρ σ H ae/\wi ρ Q/\∀ J H' ah ds,eJ Hs H ah H'->wW K ah J ds->ds.length<=sizeLine->Q ds->R J H'
abbrev QI(X:Cx)(K:PySem.W.Frag)(tg iter:Expr)(wi:WI):Prop:=PI X tg iter (tpI K wi)
def iM:Md->Prop
 |.bo=>False
 |_=>True
def dJ(te:WE):WI:=fun ρ Q=>te ρ fun m d=>iM m/\match d with
 |.list xs=>Q xs
 |_=>False
def wy(te:WE):WI:=fun ρ Q=>te ρ fun m d=>iM m/\match d with
 |.tup xs=>Q xs
 |_=>False
def pQ(lo:Int)(n:Nat):List D:=(List.range n).map fun i=>.int (lo+(i:Nat))
def gK(te:WE):WI:=fun ρ Q=>te ρ fun _ d=>match d with
 |.int j=>j<=16777216/\-(2 ^ 62)<=j/\Q (pQ 0 j.toNat)
 |_=>False
section
variable {X:Cx}{K:PySem.W.Frag}{e e2 tg:Expr}{te te2:WE}{pos p:Pos}
theorem PI.imp(h:PI X tg iter t)(i:∀ σ H R,t' σ H R->t σ H R):PI X tg iter t':=fun pins s σ H R I q=>h pins s σ H R I (i σ H R q)
theorem k_.imp{J:It}(s:k_ J vs c)(h:∀ H,c' H->c H):k_ J vs c':=⟨fun i H q=>s.go i H (h H q),fun i H x H' q=>s.mE i H x H' (h H q),fun H q=>s.stop H (h H q)⟩
theorem RM.qp(g:eJ Hs H aC H1)(r:RM K aC H1 m d v As)(f:cg aC H As)(h:iM m):∃ ax,eJ Hs H ax H1/\Rep K ax d v:=by
 cases m with
 |sh=>exact⟨aC,g,r.2⟩
 |bo=>exact h.elim
 |ow fl =>
  have n:∀ a∈As,aC a=none:=fun a ha=>(f.2 a ha).1
  have o:=r.own
  refine⟨tf aC H1 As,⟨g.all,g.sh.trans (gO n),uZ g.wf o,fun a h=>?_⟩,bI.rep (gO n) r.1 fun a ha=>by unfold tf;rw[if_pos ha]⟩
  unfold tf at h
  by_cases m:a∈As
  ·exact .inr (f.2 a m).2
  ·rw[if_neg m] at h;exact g.new a h
theorem eO(he:QE X K e te)(hK:X.K=K:=by rfl):QI X K tg e (dJ te):=by
 subst hK
 refine PI.imp (Ve he) fun σ H R hx=>iE hx fun Hs ρ ae Q sr h k=>⟨Hs,ρ,ae,_,sr,h,fun v H1 aC m d As g1 r1 f1 q1=>?_⟩
 obtain⟨nb,q1⟩:=q1
 obtain⟨ax,g2,r2⟩:=r1.qp g1 f1 nb
 cases r2 with
 |list z s rs=>exact⟨_,rfl,⟨_,ay.seq g2.wf.sub s⟩,k _ H1 ax _ g2 (.seq rs (k_.imp (yL X.K _ _) fun H' s'=>ay.seq s' s)) (by rw[rs.length];exact z) q1⟩
 |_=>exact q1.elim
theorem Ay(he:QE X K e te)(hK:X.K=K:=by rfl):QI X K tg e (wy te):=by
 subst hK
 refine PI.imp (Zo he) fun σ H R hx=>iE hx fun Hs ρ ae Q sr h k=>⟨Hs,ρ,ae,_,sr,h,fun v H1 aC m d As g1 r1 f1 q1=>?_⟩
 obtain⟨nb,q1⟩:=q1
 obtain⟨ax,g2,r2⟩:=r1.qp g1 f1 nb
 cases r2 with
 |tup z s rs=>exact⟨_,rfl,⟨_,.inl (.inl (g2.wf.sub _ _ s))⟩,k _ H1 ax _ g2 (.seq rs (k_.imp (DK X.K _ _) fun H' s'=>.inl (.inl (s' _ _ s)))) (by rw[rs.length];exact z) q1⟩
 |_=>exact q1.elim
theorem pA(lo:Int):∀ (l:List Nat),aS K H (l.map fun i=>.int (lo+(i:Nat))) (l.map fun i=>V.int (lo+(i:Nat)))
 |[]=>.nil
 |c :: l=>.cons (.int _) (pA lo l)
theorem gY (hm:X.mg "range" = none) (he:QE X K e te) (hg:Gl X "range" := by rfl) (hs:starEach [e] X.env=(false,eval e X.env) :: starEach [] X.env:=by rfl) (hJ:starEach [e] X.env=[(false,eval e X.env)]:=by rfl):QI X K tg (.Call (.Name "range" p) [e] [] pos) (gK te):=by
 refine PI.imp (Zt hg hm (nI he qB hs) hJ) fun σ H R hx=>iE hx fun Hs ρ ae Q sr h k=>⟨Hs,ρ,ae,_,sr,h,fun v H1 aC m d As g1 r1 f1 q1=>?_⟩
 have r:=r1.rep g1.wf
 cases r with
 |int j =>
  obtain⟨h1,h2,q1⟩:=q1
  exact⟨j,rfl,h2,by lia,k _ H1 aC _ g1 (.seq (pA 0 _) (k_.imp (BK _ _) fun _ _=>trivial)) (by rw[bT,Ql,sizeLine_eq];lia) q1⟩
 |_=>exact q1.elim
section
variable {X:Cx}{K:PySem.W.Frag}{e tg:Expr}{te:WE}{pos p:Pos}
def sJ(te:WE):WI:=fun ρ Q=>te ρ fun m d=>iM m/\match d with
 |.list xs=>Q (lD xs)
 |_=>False
theorem CQ (hm:X.mg "enumerate" = none) (he:QE X K e te) (hK:X.K=K:=by rfl) (hg:Gl X "enumerate" := by rfl) (hs:starEach [e] X.env=(false,eval e X.env) :: starEach [] X.env:=by rfl) (hJ:starEach [e] X.env=[(false,eval e X.env)]:=by rfl) :
  QI X K (.Tuple elts kk tp) (.Call (.Name "enumerate" p) [e] [] pos) (sJ te):=by
 subst hK
 refine PI.imp (DW hg hm (nI he qB hs) hJ) fun σ H R hx=>iE hx fun Hs ρ ae Q sr h k=>⟨Hs,ρ,ae,_,sr,h,fun v H1 aC m d As g1 r1 f1 q1=>?_⟩
 obtain⟨nb,q1⟩:=q1
 obtain⟨ax,g2,r2⟩:=r1.qp g1 f1 nb
 cases r2 with
 |list z s rs=>exact⟨_,rfl,⟨_,ay.seq g2.wf.sub s⟩,k _ H1 ax _ g2 (.enum (pB s rs)) (by rw[lD,List.length_mapIdx,rs.length];exact z) q1⟩
 |_=>exact q1.elim
def WQ(K:PySem.W.Frag)(wi:WI):TI:=fun σ H R=>∃ Hs ρ ae Q,dr K Hs ρ σ H ae/\wi ρ Q/\∀ J H' ah ds,eJ Hs H ah H'->wW K H' J ds->ds.length<=sizeLine->Q ds->R J H'
abbrev Pm(X:Cx)(K:PySem.W.Frag)(tg iter:Expr)(wi:WI):Prop:=PI X tg iter (WQ K wi)
theorem vR(h:QI X K tg iter wi):Pm X K tg iter wi:=PI.imp h fun σ H R hx=>iE hx fun Hs ρ ae Q sr h k=>⟨Hs,ρ,ae,Q,sr,h,fun J H' ah ds g w z q=>k J H' ah ds g (w.imp fun G H s=>g.wf.sub.trans s) z q⟩
def j_(te:WE):WI:=fun ρ Q=>te ρ fun _ d=>match d with
 |.list xs=>Q xs
 |_=>False
theorem nO(he:QE X K e te)(hK:X.K=K:=by rfl):Pm X K tg e (j_ te):=by
 subst hK
 refine PI.imp (Ve he) fun σ H R hx=>iE hx fun Hs ρ ae Q sr h k=>⟨Hs,ρ,ae,_,sr,h,fun v H1 aC m d As g1 r1 f1 q1=>?_⟩
 have r:=r1.rep g1.wf
 cases r with
 |list z s rs=>exact⟨_,rfl,⟨_,s⟩,k _ H1 aC _ g1 (.list (pB s rs)) (by rw[rs.length];exact z) q1⟩
 |_=>exact q1.elim
end
def oY(g:WG)(b:WS)(E:pY):List D->Env->Prop
 |[],ρ=>E.nx ρ
 |x :: xs,ρ=>g x ρ fun oa=>b { E with nx:=oY g b E xs,ct:=oY g b E xs,bk:=E.nx } oa
def pT(wi:WI)(g:WG)(b:WS):WS:=fun E ρ=>wi ρ fun ds=>oY g b E ds ρ
variable {wi:WI}{g:WG}{b:WS}{body:List Stmt}
theorem cO(hp:PassesOwn (model X.prog X.w) X.A X.env X.xe)(hc:X.calm=true)(hi:QI X K tg iter wi)(hg:QG X K tg g)(hb:pz X K L body b)(hs:∀ x,foldedSetIterable iter X.env x=pure x:=by intro _;rfl) :
  QS X K L (.For tg iter body [] pos) (pT wi g b):=by
 refine PS.imp (Zv hp hc hi hg hb hs) fun D σ H hx=>dW hx fun Hs ρ ae E sr h k1 k2 k3 k4 kx=>?_
 rw[Bm]
 refine⟨Hs,ρ,ae,_,sr,h,fun J H1 aC ds g1 S hz q1=>?_⟩
 refine⟨fun i m σ H=>m=ds.length-i/\i<=ds.length/\∃ ah bG bS,ay aC ah/\dr K ah bG σ H bS/\oY g b E (ds.drop i) bG,⟨ds.length,by simp,gV _,aC,ρ,ae,ay.refl _,sr.grow g1,by simpa using q1⟩,?_⟩
 rintro i m ka H2 ⟨rfl,hi,ax,fN,dv,s2,fP,q2⟩
 by_cases dE:i<ds.length
 ·refine .inr ⟨S.go i ax H2 s2 fP.wf dE,fun oQ H3=>∃ ah bG bS,ay aC ah/\dr K ah bG oQ H3 bS/\oY g b E (ds.drop (i+1)) bG,fun oQ H3 h3=>⟨ds.length-(i+1),by lia,rfl,dE,h3⟩,fun x H3 y=>?_⟩
  obtain⟨dQ,g3,rd⟩:=S.mE i ax H2 x H3 ds[i] s2 fP.wf (by simp[dE]) y
  rw[BO dE] at q2
  have s3:=s2.trans g3.sh
  refine⟨dQ,fN,dv,ds[i],_,fP.grow g3,rd,q2,fun σ4 ve Sb Pn _ q4=>?_⟩
  refine⟨dQ,ve,Sb,_,Pn,q4,?_,?_,?_,?_,fun n H5 s5=>kx n H5 ((g1.sh.trans s3).trans s5)⟩
  ·exact fun E2 H5 og xD xE s5 xI q5=>⟨og,xD,xE,s3.trans s5,xI,q5⟩
  ·exact fun E2 H5 og xD xE s5 xI q5=>k1 E2 H5 og xD xE ((g1.sh.trans s3).trans s5) xI q5
  ·exact fun E2 H5 og xD xE s5 xI q5=>⟨og,xD,xE,s3.trans s5,xI,q5⟩
  ·exact fun v H5 og m d As s5=>k4 v H5 og m d As ((g1.sh.trans s3).trans s5)
 ·have e:i=ds.length:=by lia
  subst e
  refine .inl ⟨S.stop ax H2 s2 fP.wf,?_⟩
  rw[Qn] at q2
  exact k1 ka H2 ax fN dv (g1.sh.trans s2) fP q2
theorem bN(xs:List D)(Pv:Nat->Env->Prop)(h0:Pv 0 ρ)
  (hs:∀ i x ρ,xs[i]? = some x->Pv i ρ->∀ N:Env->Prop,(∀ bG,Pv (i+1) bG->N bG)->g x ρ fun oa=>b { E with nx:=N,ct:=N,bk:=E.nx } oa)
  (hd:∀ ρ,Pv xs.length ρ->E.nx ρ):oY g b E xs ρ:=by
 have go:∀ (k i:Nat) (ρ:Env),i+k=xs.length->Pv i ρ->oY g b E (xs.drop i) ρ:=by
  intro k
  induction k with
  |zero =>
   intro i ρ e p
   have:i=xs.length:=by lia
   subst this
   rw[Qn]
   exact hd ρ p
  |succ k ih =>
   intro i ρ e p
   have hi:i<xs.length:=by lia
   rw[BO hi]
   exact hs i xs[i] ρ (by simp[hi]) p _ fun fN h2=>ih (i+1) fN (by lia) h2
 have:=go xs.length 0 ρ (by lia) h0
 simpa using this
def uX(c:WT)(b:WS):WS:=fun E ρ=>∃ (Pv:Env->Prop) (μ:Env->Nat),Pv ρ/\∀ ρ,Pv ρ->c ρ fun k=>if k=true then b { E with nx:=fun bG=>Pv bG/\μ bG<μ ρ,ct:=fun bG=>Pv bG/\μ bG<μ ρ,bk:=E.nx } ρ else E.nx ρ
theorem tY(hp:PassesOwn (model X.prog X.w) X.A X.env X.xe)(hc:QT X K c tc)(hb:pz X K L body b):QS X K L (.While c body [] pos) (uX tc b):=by
 refine PS.imp (Zh hp hc hb) fun D σ H hx=>dW hx fun Hs ρ ae E sr h k1 k2 k3 k4 kx=>?_
 obtain⟨Pv,μ,p0,turn⟩:=h
 refine⟨fun m σ H=>∃ ah bG bS,ay Hs ah/\dr K ah bG σ H bS/\Pv bG/\μ bG=m,⟨_,Hs,ρ,ae,ay.refl _,sr,p0,rfl⟩,?_⟩
 rintro m ka H2 ⟨ax,fN,dv,s2,fP,p2,rfl⟩
 refine⟨ax,fN,dv,_,fP,turn fN p2,fun k H3 dQ g3 q3=>?_⟩
 cases k with
 |false=>exact k1 ka H3 dQ fN dv (s2.trans g3.sh) (fP.grow g3) q3
 |true =>
  refine⟨fun bp H'=>∃ ah bG bS,ay Hs ah/\dr K ah bG bp H' bS/\Pv bG/\μ bG<μ fN,fun bp H' ⟨ah,bG,bS,a,b,c,d⟩=>⟨μ bG,d,ah,bG,bS,a,b,c,rfl⟩,?_⟩
  have s3:ay Hs dQ:=s2.trans g3.sh
  refine⟨dQ,fN,dv,_,fP.grow g3,q3,?_,?_,?_,?_,fun n H5 s5=>kx n H5 (s3.trans s5)⟩
  ·exact fun E2 H5 og xD xE s5 xI q5=>⟨og,xD,xE,s3.trans s5,xI,q5.1,q5.2⟩
  ·exact fun E2 H5 og xD xE s5 xI q5=>k1 E2 H5 og xD xE (s3.trans s5) xI q5
  ·exact fun E2 H5 og xD xE s5 xI q5=>⟨og,xD,xE,s3.trans s5,xI,q5.1,q5.2⟩
  ·exact fun v H5 og m d As s5=>k4 v H5 og m d As (s3.trans s5)
end
def A3:WT:=fun _ Q=>Q true
def MY(m:Md)(d:D):Prop:=d.flat=true\/m=.ow true
def gP(g:WG)(tc:WT)(te:WE):List D->Env->(List D->Prop)->Prop
 |[],_,k=>k []
 |x :: xs,ρ,k=>g x ρ fun oa=>tc oa fun b=>if b=true then te oa fun m d=>MY m d/\gP g tc te xs oa (fun out=>k (d :: out)) else gP g tc te xs oa k
def BJ(tn:Nat)(ix:List Nat)(ρ:Env):Env:=List.replicate tn none++ix.map fun j=>(ρ[j]?).join.map MV
def jL(wi:WI)(g:WG)(tc:WT)(te:WE)(tn:Nat)(ix:List Nat):WE:=fun ρ Q=>wi ρ fun ds=>gP g tc te ds (BJ tn ix ρ) fun out=>Q (.ow true) (.list out)
section
variable {X:Cx}{K:PySem.W.Frag}
theorem lQ{Hs H G:Hp}(sr:dr K Hs ρ σ H ae)(G':Hp):∀ (ix:List Nat),SR K H G' (ix.map fun j=>(ρ[j]?).join.map MV) (ix.map fun j=>(σ[j]?).join) []
 |[]=>.nil
 |j :: ix=>by
  have ih:=lQ sr G' ix (G:=G)
  simp only[fo]
  cases e:ρ[j]? with
  |none=>exact .non ih
  |some o =>
   cases o with
   |none=>exact .non ih
   |some sl =>
    obtain⟨v,e1,r⟩:=sr.sr.get e
    rw[e1]
    cases sl with
    |sh d=>exact .sh (Rep.same sr.wf.sub r) ih
    |xc a=>subst r;exact .xc ih
    |ow fl d =>
     obtain⟨As,_,r,_⟩:=r
     exact .sh (r.rep sr.wf.sub fun _ _=>rfl) ih
    |lk a fl d =>
     obtain⟨As,_,r,_⟩:=r
     exact .sh (r.rep sr.wf.sub fun _ _=>rfl) ih
theorem pC(s:SR K H G ρ σ []):∀ (n:Nat),SR K H G (List.replicate n none++ρ) (List.replicate n none++σ) []
 |0=>s
 |n+1=>.non (pC s n)
theorem SR.heap(s:SR K Hs H ρ σ []):SR K Hs H' ρ σ []:=s.eh (ay.refl _) fun a h=>nomatch h
theorem p_(w:Wf Hs H)(n:Hs p=none)(ho:∀ vs,o≠.tup vs):Wf Hs (upd H p o):=⟨fun b u q=>by
  rw[dP (fun z=>by subst z;rw[n] at q;cases q)];exact w.sub b u q,fun b us q=>by
  by_cases hb:b=p
  ·subst hb;rw[gd] at q;exact absurd (Option.some.inj q) (ho us)
  ·rw[dP hb] at q;exact w.iO b us q⟩
structure CompI(K:PySem.W.Frag)(H1:Hp)(b:Addr)(acc:List D)(ys:List V)(As:List Addr)(Hs:Hp)(ρ:Env)(τ:St)(H:Hp):Prop where
 sm:ay H1 Hs
 sr:dr K Hs ρ τ H []
 eD:H b=some (.lst ys)
 nD:Hs b=none
 ra:aA K Hs H true acc ys As
 nd:(b :: As).Nodup
 own:∀ a∈As,Hs a=none
theorem CompI.grow(c:CompI K H1 b acc ys As Hs ρ τ H)(g:eJ Hs H ah H'):CompI K H1 b acc ys As ah ρ τ H' :=
 ⟨c.sm.trans g.sh,c.sr.grow g,g.all _ _ c.eD,g.kU c.nD (by rw[c.eD];exact fun z=>nomatch z),c.ra.grow g.sh g.all,c.nd,fun a ha=>g.kU (c.own a ha) (c.ra.own a ha).ne⟩
theorem CompI.push(c:CompI K H1 b acc ys As Hs ρ τ H)(r:RM K Hs H m d v Bs)(ok:MY m d)(nb:Bs.Nodup)(fb:∀ a∈Bs,Hs a=none/\a∉b :: As):∃ fz,CompI K H1 b (acc++[d]) (ys++[v]) fz Hs ρ τ (upd H b (.lst (ys++[v]))):=by
 obtain⟨B,sb,rb⟩:∃ B,B.Sublist Bs/\bI K Hs H true d v B:=by
  rcases ok with hf|rfl
  ·exact⟨[],BQ _,.sh (fun _=>hf) (r.flat c.sr.wf hf)⟩
  ·exact⟨Bs,List.Sublist.refl _,r.1⟩
 obtain⟨na,nA⟩:=ja.mp c.nd
 have Pp:=fun a ha=>fb a (sb.subset ha)
 refine⟨As++(B++[]),c.sm,⟨c.sr.sr.heap,p_ c.sr.wf c.nD (fun _ z=>nomatch z),lP,fun a h=>nomatch h⟩,gd,c.nD,(c.ra.eh (H':=upd H b (.lst (ys++[v]))) (ay.refl _) fun a ha=>dP fun z=>na (by subst z;exact ha)).append (.cons (rb.eh (ay.refl _) fun a ha=>dP fun z=>(Pp a ha).2 (by subst z;exact bX)) .nil),?_,?_⟩
 ·rw[lI]
  refine ja.mpr ⟨fun m=>(dS.mp m).elim na fun m=>(Pp b m).2 bX,ip.mpr ⟨nA,sb.nodup nb,fun x hx y hy e=>(Pp y hy).2 (e ▸ b5 _ hx)⟩⟩
 ·rw[lI]
  exact fun a ha=>(dS.mp ha).elim (c.own a) fun m=>(Pp a m).1
theorem pJ(h:ml K (jL wi g tc te tn ix) σ H Qv):wK (WQ K wi) (WN K g) (AW K tc) (ml K te) tn ix σ H Qv:=by
 obtain⟨Hs,ρ,ae,Q,sr,h,f⟩:=h
 rw[zQ]
 refine⟨Hs,ρ,ae,_,sr,h,fun J H1 aC ds g1 S hz q1 b hb=>?_⟩
 have st:CompI K H1 b [] [] [] H1 (BJ tn ix ρ) (nT tn ix σ) (upd H1 b (.lst [])):=by
  refine⟨ay.refl _,⟨pC (lQ (G:=H1) (sr.grow g1) _ ix) tn,⟨(ay.refl H1).upd hb,fun a xs e=>?_⟩,lP,fun a h=>nomatch h⟩,gd,hb,.nil,by simp,fun a h=>nomatch h⟩
  by_cases ha:a=b
  ·subst ha;rw[gd] at e;cases e
  ·rw[dP ha] at e;exact e
 refine⟨fun i m τ H2=>m=ds.length-i/\i<=ds.length/\∃ ax fN acc ys As,CompI K H1 b acc ys As ax fN τ H2/\acc.length<=i/\gP g tc te (ds.drop i) fN (fun out=>Q (.ow true) (.list (acc++out))),
  ⟨ds.length,by simp,gV _,H1,_,[],[],[],st,ck _,by simpa using q1⟩,?_⟩
 rintro i m τ H2 ⟨rfl,hi,ax,fN,acc,ys,As,c,la,q2⟩
 by_cases dE:i<ds.length
 ·refine .inr ⟨S.go i ax H2 c.sm c.sr.wf dE,
   fun Iy v H4=>∃ HL ve d,CompI K H1 b acc ys As HL ve Iy H4/\(∃ fz,CompI K H1 b (acc++[d]) (ys++[v]) fz HL ve Iy (upd H4 b (.lst (ys++[v]))))/\gP g tc te (ds.drop (i+1)) ve (fun out=>Q (.ow true) (.list (acc++d :: out))),
   fun Iy H3=>∃ dQ Iq,CompI K H1 b acc ys As dQ Iq Iy H3/\gP g tc te (ds.drop (i+1)) Iq (fun out=>Q (.ow true) (.list (acc++out))),?_,?_,?_⟩
  ·rintro Iy v H4 ⟨HL,ve,d,c4,⟨fz,c5⟩,q4⟩
   have lya:=c4.ra.length
   exact⟨ys,ds.length-(i+1),c4.eD,by lia,by lia,rfl,dE,HL,ve,acc++[d],ys++[v],fz,c5,by rw[kA];simpa using la,by simpa using q4⟩
  ·rintro Iy H3 ⟨dQ,Iq,c3,q3⟩
   exact⟨ds.length-(i+1),by lia,rfl,dE,dQ,Iq,acc,ys,As,c3,by lia,q3⟩
  ·intro x H3 y
   obtain⟨dQ,g3,rd⟩:=S.mE i ax H2 x H3 ds[i] c.sm c.sr.wf (by simp[dE]) y
   rw[BO dE] at q2
   have c3:=c.grow g3
   refine⟨dQ,fN,[],ds[i],_,c3.sr,rd,q2,fun τ4 ve Sb Pn m4 q4=>?_⟩
   have t4:Sb=[]:=List.eq_nil_iff_forall_not_mem.mpr fun a ha=>nomatch m4 a ha
   subst t4
   have c4:CompI K H1 b acc ys As dQ ve τ4 H3:=⟨c3.sm,Pn,c3.eD,c3.nD,c3.ra,c3.nd,c3.own⟩
   refine⟨dQ,ve,[],_,Pn,q4,fun k H5 og g5 q5=>?_⟩
   have c5:=c4.grow g5
   cases k with
   |false=>exact⟨og,ve,c5,q5⟩
   |true =>
    refine⟨og,ve,[],_,c5.sr,q5,fun v H6 Hs6 m6 d6 As6 g6 r6 f6 q6=>?_⟩
    have c6:=c5.grow g6
    refine⟨Hs6,ve,d6,c6,c6.push r6 q6.1 f6.1 fun a ha=>⟨(f6.2 a ha).1,fun m=>?_⟩,q6.2⟩
    rcases df.mp m with rfl|m
    ·have:=(f6.2 _ ha).2
     rw[c5.eD] at this;cases this
    ·exact(c5.ra.own a m).ne (f6.2 a ha).2
 ·have e:i=ds.length:=by lia
  subst e
  refine .inl ⟨S.stop ax H2 c.sm c.sr.wf,?_⟩
  rw[Qn] at q2
  have q2:Q (.ow true) (.list (acc++[])):=q2
  rw[lI] at q2
  have lya:=c.ra.length
  have rm:RM K ax H2 (.ow true) (.list acc) (.ref b) (b :: As):=⟨.list (by lia) c.eD c.ra,by simp⟩
  obtain⟨fz,r',fr⟩:=nF g1.wf c.sm c.sr.wf rm c.nd fun a ha=>(df.mp ha).elim (fun z=>z ▸ c.nD) (c.own a)
  exact Fin.after f g1 (.ref b) H2 _ (.ow true) (.list acc) fz (dU g1.wf c.sm c.sr.wf) r' fr q2
theorem AU.imp(h:AU X ifs t)(i:∀ σ H Q,t' σ H Q->t σ H Q):AU X ifs t':=fun pins s σ H Q I q=>h pins s σ H Q I (i σ H Q q)
abbrev Sd(X:Cx)(K:PySem.W.Frag)(ifs:List Expr)(t:WT):Prop:=AU X ifs (AW K t)
theorem gf:Sd X K [] A3:=AU.imp Ba fun σ H Qv hx=>iE hx fun Hs ρ ae Q sr h k=>k true H Hs (eJ.refl sr.wf) h
theorem xq(hc:X.calm=true)(hi:Pm X K tg iter wi)(O:cD X scope tn cn ix)
  (hg:∀ C fp gi iA,QG (aO X scope C (tn++cn) fp gi iA) K tg g) (vT:∀ C fp gi iA,Sd (aO X scope C (tn++cn) fp gi iA) K ifs tc) (he:∀ C fp gi iA,QE (aO X scope C (tn++cn) fp gi iA) K elt te)
  (hs:∀ x,foldedSetIterable iter X.env x=pure x:=by intro _;rfl):QE X K (.ListComp elt [⟨tg,iter,ifs,0⟩] scope pos) (jL wi g tc te tn.length ix) :=
 PE.imp (BZ hc hi O hg vT he hs) fun σ H Qv h=>pJ h
end
theorem fH(p:D->Bool)(f:D->D)(Iv:Env->Prop):∀ (xs:List D) (ρ:Env) (k:List D->Prop),Iv ρ ->
  (∀ x∈xs,∀ ρ,Iv ρ->∀ N1:Env->Prop,∀ N2:Env->D->Prop,(∀ bG,Iv bG->p x=false->N1 bG)->(∀ bG,Iv bG->p x=true->N2 bG (f x))->g x ρ fun oa=>tc oa fun b=>if b=true then te oa fun m d=>MY m d/\N2 oa d else N1 oa) ->
  k ((xs.filter p).map f)->gP g tc te xs ρ k
 |[],_,k,_,_,h=>h
 |x :: xs,ρ,k,iv,hs,h=>by
  refine hs x bX ρ iv _ _ (fun bG MZ hp=>?_) (fun bG MZ hp=>?_)
  ·exact fH p f Iv xs bG k MZ (fun y hy=>hs y (b5 _ hy)) (by simpa[hp] using h)
  ·exact fH p f Iv xs bG _ MZ (fun y hy=>hs y (b5 _ hy)) (by simpa[hp] using h)
def Upd(K:PySem.W.Frag)(Hs H:Hp)(σ:St)(fl:Bool)(v:V)(up:Bool->D->Env)(fz:List Addr):Prop:=∀ ax H2 fl2 d2 fE,ay Hs ax->Wf ax H2->(∀ a,Hs a=none->H a≠none->ax a=none)->(fl2=true->fl=true) ->
  bI K ax H2 fl2 d2 v fE->fE≠[]->fE.Nodup->(∀ a∈fE,ax a=none/\(a∈fz\/H a=none))->(∀ a,H a≠none->a∉fz->H2 a=H a)->∃ dv,dr K ax (up fl2 d2) σ H2 dv
structure Place(K:PySem.W.Frag)(Hs H:Hp)(σ:St)(fl:Bool)(d:D)(v:V)(up:Bool->D->Env):Prop where
 ex:∃ fz,bI K Hs H fl d v fz/\fz≠[]/\fz.Nodup/\(∀ a∈fz,Hs a=none)/\Upd K Hs H σ fl v up fz
theorem Upd.node{K:PySem.W.Frag}(k:Upd K Hs H σ fl (.ref a) up (a :: A))(g:eJ Hs H ax H2)(own:∀ x∈a :: A,Hs x=none/\H x≠none)(ho:∀ vs,o≠.tup vs)(hf:fl2=true->fl=true)
  (r:bI K ax (upd H2 a o) fl2 d2 (.ref a) (a :: C)) (nC:C.Nodup) (Pq:a∉C) (hC:∀ x∈C,x∈A\/(ax x=none/\H x=none)):∃ dv,dr K ax (up fl2 d2) σ (upd H2 a o) dv:=by
 have hn:∀ x∈a :: A,ax x=none:=fun x hx=>g.kU (own x hx).1 (own x hx).2
 refine k ax _ fl2 d2 (a :: C) g.sh (p_ g.wf (hn a bX) ho) (fun b h1 h2=>g.kU h1 h2) hf r (NS _ _) (ja.mpr ⟨Pq,nC⟩) (fun b hb=>?_) fun b h1 h2=>?_
 ·rcases df.mp hb with rfl|hb
  ·exact⟨hn _ bX,.inl bX⟩
  ·exact(hC b hb).elim (fun q=>⟨hn b (b5 _ q),.inl (b5 _ q)⟩) fun q=>⟨q.1,.inr q.2⟩
 ·rw[dP fun z=>h2 (by subst z;exact bX)]
  cases q:H b with
  |none=>exact absurd q h1
  |some o=>exact g.all b o q
abbrev WP:=Env->(Bool->D->(Bool->D->Env)->Prop)->Prop
def tpP(K:PySem.W.Frag)(t:WP):TE:=fun σ H Qv=>∃ Hs ρ ae Q,dr K Hs ρ σ H ae/\t ρ Q/\∀ v H' ah fl d up,eJ Hs H ah H'->Place K ah H' σ fl d v up->Q fl d up->Qv v H'
abbrev QP(X:Cx)(K:PySem.W.Frag)(e:Expr)(t:WP):Prop:=PE X e (tpP K t)
section
variable {K:PySem.W.Frag}{Hs H ah H':Hp}{σ:St}{fl:Bool}{d:D}{v:V}{up:Bool->D->Env}
theorem Place.grow(p:Place K Hs H σ fl d v up)(g:eJ Hs H ah H'):Place K ah H' σ fl d v up:=by
 obtain⟨fz,r,ne,nd,own,k⟩:=p.ex
 refine⟨fz,r.grow g.sh g.all,ne,nd,fun a h=>g.kU (own a h) (r.own a h).ne,fun ax H2 fl2 d2 fE s2 w2 n2 hf r2 ne2 kz o2 st=>?_⟩
 refine k ax H2 fl2 d2 fE (g.sh.trans s2) w2 (fun a h1 h2=>n2 a (g.kU h1 h2) ?_) hf r2 ne2 kz (fun a h=>⟨(o2 a h).1,(o2 a h).2.imp id g.all.free⟩) fun a h1 h2=>?_
 ·cases e:H a with
  |none=>exact absurd e h2
  |some o=>rw[g.all a o e];exact fun z=>nomatch z
 ·cases e:H a with
  |none=>exact absurd e h1
  |some o =>
   have:=g.all a o e
   rw[<- this]
   exact st a (by rw[this];exact fun z=>nomatch z) h2
theorem bI.ne2:(∀ {d:D} {v:V} {As:List Addr},bI K Hs H true d v As->d.flat=false->As≠[])/\∀ {ds:List D} {vs:List V} {As:List Addr},aA K Hs H true ds vs As->cv ds=false->As≠[] :=
 bI.ind (m1:=fun d _ As=>d.flat=false->As≠[]) (m2:=fun ds _ As=>cv ds=false->As≠[]) (fun _ _ f _ h=>by rw[f rfl] at h;cases h) (fun _ _ _ _ _ _ _ _ _=>NS _ _) (fun _ _ _ _ _ _ n _ ih _=>ih n) (fun _ _ _ _ _ _ _ _ _=>NS _ _) (fun _ _ _ _ _ _ _ _ _=>NS _ _)
  (fun h=>by simp[cv] at h) fun d _ _ _ _ _ _ _ i1 i2 h=>by
   cases e:d.flat with
   |false=>exact fun z=>i1 e (Kb.mp z).1
   |true =>
    simp only[cv,e,Bool.true_and] at h
    exact fun z=>i2 h (Kb.mp z).2
theorem bI.ne(r:bI K Hs H true d v As)(h:d.flat=false):As≠[]:=bI.ne2.1 r h
theorem bI.nil_of(r:bI K Hs H fl d v As)(h:d.flat=true):As=[]:=by
 cases r with
 |sh _ _=>rfl
 |tup _ _ n _=>simp[D.flat,n] at h
 |_=>simp[D.flat] at h
def vi(i:Nat):WP:=fun ρ Q=>match ρ[i]? with
 |some (some (.ow fl d))=>Q fl d fun fl2 d2=>ρ.set i (some (.ow fl2 d2))
 |_=>False
theorem SR.put(i:Nat)(s:SR K Hs H ρ σ ae):ρ[i]? = some (some (.ow fl d))->ae.Nodup ->
  ∃ (v:V) (As bS:List Addr),σ[i]? = some (some v)/\As≠[]/\bI K Hs H fl d v As/\As.Sublist ae/\∀ ax H2 fl2 d2 fE,ay Hs ax->bI K ax H2 fl2 d2 v fE->fE≠[]->fE.Nodup->(∀ a∈fE,a∈ae->a∈As)->(∀ a∈ae,a∉As->H2 a=H a) ->
   ∃ dv,dv.Nodup/\(∀ a∈dv,a∈ae\/a∈fE)/\SR K ax H2 (ρ.set i (some (.ow fl2 d2))) σ dv:=by
 induction s generalizing i with
 |nil=>intro e;simp at e
 |@non ρ σ ae o q ih =>
  intro e n
  cases i with
  |zero=>simp at e
  |succ i =>
   obtain⟨v,As,t,a,b,c,d,g⟩:=ih i (by simpa using e) n
   refine⟨v,As,t,by simpa using a,b,c,d,fun ax H2 fl2 d2 fE s2 r2 ne2 kz dj st=>?_⟩
   obtain⟨t2,x,y,z⟩:=g ax H2 fl2 d2 fE s2 r2 ne2 kz dj st
   exact⟨t2,x,y,.non z⟩
 |sh r q ih =>
  intro e n
  cases i with
  |zero=>simp at e
  |succ i =>
   obtain⟨v,As,t,a,b,c,d,g⟩:=ih i (by simpa using e) n
   refine⟨v,As,t,by simpa using a,b,c,d,fun ax H2 fl2 d2 fE s2 r2 ne2 kz dj st=>?_⟩
   obtain⟨t2,x,y,z⟩:=g ax H2 fl2 d2 fE s2 r2 ne2 kz dj st
   exact⟨t2,x,y,.sh (r.same s2) z⟩
 |xc q ih =>
  intro e n
  cases i with
  |zero=>simp at e
  |succ i =>
   obtain⟨v,As,t,a,b,c,d,g⟩:=ih i (by simpa using e) n
   refine⟨v,As,t,by simpa using a,b,c,d,fun ax H2 fl2 d2 fE s2 r2 ne2 kz dj st=>?_⟩
   obtain⟨t2,x,y,z⟩:=g ax H2 fl2 d2 fE s2 r2 ne2 kz dj st
   exact⟨t2,x,y,.xc z⟩
 |@ow ρ σ t2 B fl0 d0 v ne r q ih =>
  intro e n
  obtain⟨n1,n2,n3⟩:=ip.mp n
  cases i with
  |zero =>
   simp at e
   obtain⟨rfl,rfl⟩:=e
   refine⟨v,B,t2,rfl,ne,r,FG _ _,fun ax H2 fl2 d2 fE s2 r2 ne2 kz dj st=>⟨fE++t2,ip.mpr ⟨kz,n2,fun a ha b hb e=>?_⟩,fun a h=>?_,.ow ne2 r2 (q.eh s2 fun a h=>st a (fF _ h) fun z=>n3 a z a h rfl)⟩⟩
   ·subst e
    exact n3 a (dj a ha (fF _ hb)) a hb rfl
   ·exact(dS.mp h).symm.imp (fun z=>fF _ z) id
  |succ i =>
   obtain⟨v,As,t,a,b,c,d,g⟩:=ih i (by simpa using e) n2
   have hB:∀ x∈B,x∉As:=fun x hx m=>n3 x hx x (d.subset m) rfl
   refine⟨v,As,B++t,by simpa using a,b,c,d.trans (oo _ _),fun ax H2 fl2 d2 fE s2 r2 ne2 kz dj st=>?_⟩
   obtain⟨t2,x,y,z⟩:=g ax H2 fl2 d2 fE s2 r2 ne2 kz (fun a ha m=>dj a ha (fF _ m)) fun a ha m=>st a (fF _ ha) m
   refine⟨B++t2,ip.mpr ⟨n1,x,fun a ha b hb e=>?_⟩,fun a h=>?_,.ow ne (r.eh s2 fun a h=>st a (i9 _ h) (hB a h)) z⟩
   ·subst e
    rcases y a hb with w|w
    ·exact n3 a ha a w rfl
    ·exact hB a ha (dj a w (i9 _ ha))
   ·rcases dS.mp h with w|w
    ·exact .inl (i9 _ w)
    ·exact(y a w).imp (fun w=>fF _ w) id
 |@lk ρ σ t2 B a0 fl0 d0 ne r q ih =>
  intro e n
  obtain⟨n1,n2,n3⟩:=ip.mp n
  cases i with
  |zero=>simp at e
  |succ i =>
   obtain⟨v,As,t,a,b,c,d,g⟩:=ih i (by simpa using e) n2
   have hB:∀ x∈B,x∉As:=fun x hx m=>n3 x hx x (d.subset m) rfl
   refine⟨v,As,B++t,by simpa using a,b,c,d.trans (oo _ _),fun ax H2 fl2 d2 fE s2 r2 ne2 kz dj st=>?_⟩
   obtain⟨t2,x,y,z⟩:=g ax H2 fl2 d2 fE s2 r2 ne2 kz (fun a ha m=>dj a ha (fF _ m)) fun a ha m=>st a (fF _ ha) m
   refine⟨B++t2,ip.mpr ⟨n1,x,fun a ha b hb e=>?_⟩,fun a h=>?_,.lk ne (r.eh s2 fun a h=>st a (i9 _ h) (hB a h)) z⟩
   ·subst e
    rcases y a hb with w|w
    ·exact n3 a ha a w rfl
    ·exact hB a ha (dj a w (i9 _ ha))
   ·rcases dS.mp h with w|w
    ·exact .inl (i9 _ w)
    ·exact(y a w).imp (fun w=>fF _ w) id
theorem cW{X:Cx}(h:PE X e (y0 i)):QP X K e (vi i):=PE.imp h fun σ H Qv hx=>iE hx fun Hs ρ ae Q sr h f=>by
 unfold vi at h
 split at h
 ·rename_i fl d e1
  obtain⟨v,As,t,e2,ne,r,sb,g⟩:=SR.put i sr.sr e1 sr.oB
  refine⟨v,e2,f v H Hs fl d _ (eJ.refl sr.wf) ⟨As,r,ne,sb.nodup sr.oB,fun a h=>sr.own a (sb.subset h),fun ax H2 fl2 d2 fE s2 w2 n2 _ r2 ne2 kz o2 st=>?_⟩ h⟩
  obtain⟨t2,x,y,z⟩:=g ax H2 fl2 d2 fE s2 r2 ne2 kz (fun a ha m=>(o2 a ha).2.elim id fun q=>absurd q (sr.sr.own a m).ne) fun a ha m=>st a (sr.sr.own a ha).ne m
  exact⟨t2,z,w2,x,fun a h=>(y a h).elim (fun q=>n2 a (sr.own a q) (sr.sr.own a q).ne) fun q=>(o2 a q).1⟩
 ·exact h.elim
theorem bI.wk(h:fl2=true->fl=true)(r:bI K Hs H fl d v As):bI K Hs H fl2 d v As:=by
 cases fl2 with
 |false=>exact r.O9
 |true=>rw[h rfl] at r;exact r
theorem aA.wk{fl fl2:Bool}{d:List D}{v:List V}{As:List Addr}(h:fl2=true->fl=true)(r:aA K Hs H fl d v As):aA K Hs H fl2 d v As:=by
 cases fl2 with
 |false=>exact r.O9
 |true=>rw[h rfl] at r;exact r
theorem aA.at(r:aA K Hs H fl ds vs As)(e:ds[j]? = some d)(n:As.Nodup) :
  ∃ (v:V) (B:List Addr),vs[j]? = some v/\bI K Hs H fl d v B/\B.Sublist As/\∀ ax H2 fl2 d2 B2,ay Hs ax->(fl2=true->fl=true)->bI K ax H2 fl2 d2 v B2->B2.Nodup->(∀ a∈B2,a∈As->a∈B)->(∀ a∈As,a∉B->H2 a=H a) ->
   ∃ fE,fE.Nodup/\(∀ a∈fE,(a∈As/\a∉B)\/a∈B2)/\(B2≠[]->fE≠[])/\aA K ax H2 fl2 (ds.set j d2) vs fE:=by
 induction ds generalizing vs As j with
 |nil=>simp at e
 |cons x ds ih =>
  obtain⟨v,us,A,B,rfl,rfl,r,rs⟩:=r.c
  obtain⟨n1,n2,n3⟩:=ip.mp n
  cases j with
  |zero =>
   simp at e
   subst e
   refine⟨v,A,rfl,r,FG _ _,fun ax H2 fl2 d2 B2 s2 hf r2 kz dj st=>⟨B2++B,ip.mpr ⟨kz,n2,fun a ha b hb e=>?_⟩,fun a h=>?_,fun ne z=>ne (Kb.mp z).1,.cons r2 ((rs.wk hf).eh s2 fun a h=>st a (fF _ h) fun z=>n3 a z a h rfl)⟩⟩
   ·subst e
    exact n3 a (dj a ha (fF _ hb)) a hb rfl
   ·rcases dS.mp h with w|w
    ·exact .inr w
    ·exact .inl ⟨fF _ w,fun z=>n3 a z a w rfl⟩
  |succ j =>
   obtain⟨v,C,a,b,c,g⟩:=ih (j:=j) rs (by simpa using e) n2
   have hA:∀ x∈A,x∉C:=fun x hx m=>n3 x hx x (c.subset m) rfl
   refine⟨v,C,by simpa using a,b,c.trans (oo _ _),fun ax H2 fl2 d2 B2 s2 hf r2 kz dj st=>?_⟩
   obtain⟨fE,x,y,w,z⟩:=g ax H2 fl2 d2 B2 s2 hf r2 kz (fun a ha m=>dj a ha (fF _ m)) fun a ha m=>st a (fF _ ha) m
   refine⟨A++fE,ip.mpr ⟨n1,x,fun a ha b hb e=>?_⟩,fun a h=>?_,fun ne q=>w ne (Kb.mp q).2,.cons ((r.wk hf).eh s2 fun a h=>st a (i9 _ h) (hA a h)) z⟩
   ·subst e
    rcases y a hb with q|q
    ·exact n3 a ha a q.1 rfl
    ·exact hA a ha (dj a q (i9 _ ha))
   ·rcases dS.mp h with q|q
    ·exact .inl ⟨i9 _ q,hA a q⟩
    ·exact(y a q).imp (fun q=>⟨fF _ q.1,q.2⟩) id
theorem F_{α:Type}{xs:List α}{i:Int}{x:α}(h:eT xs i=some x):∃ j,lS xs.length i=some j/\xs[j]? = some x:=by
 unfold L2.eT at h
 cases e:lS xs.length i with
 |none=>rw[e] at h;cases h
 |some j=>rw[e] at h;exact⟨j,rfl,h⟩
def Pt(p:WP)(t:WE):WP:=fun ρ Q=>p ρ fun fl d up=>t ρ fun _ y=>fl=true/\match y with
 |.int i=>match d with
  |.list ds=>∃ j d',lS ds.length i=some j/\ds[j]? = some d'/\d'.flat=false/\Q true d' fun fl2 d2=>up fl2 (.list (ds.set j d2))
  |.tup ds=>∃ j d',lS ds.length i=some j/\ds[j]? = some d'/\d'.flat=false/\Q true d' fun fl2 d2=>up fl2 (.tup (ds.set j d2))
  |_=>False
 |_=>False
theorem t_{α:Type}{xs:List α}{i:Int}{j:Nat}{x:α}(h:lS xs.length i=some j)(e:xs[j]? = some x):eT xs i=some x:=by unfold L2.eT;rw[h];exact e
theorem zB{ds:List D}{j:Nat}{d:D}(e:ds[j]? = some d)(h:d.flat=false):cv ds=false:=by
 cases q:cv ds with
 |false=>rfl
 |true=>rw[jr.mp q d (ll e)] at h;cases h
theorem xV{ds:List D}{j:Nat}{d d2:D}(e:ds[j]? = some d)(h:d2.flat=false):cv (ds.set j d2)=false:=by
 have hj:j<ds.length:=(iN.mp e).1
 exact zB (j:=j) (d:=d2) (by simp[hj]) h
theorem HX{X:Cx}{a b:Expr}{p:WP}{t:WE}{pos:Pos}(hu:X.A.units+64<cLine)(ha:QP X K a p)(hb:QE X K b t)(hs:Ox b:=by exact fun _ _=>rfl)(hK:X.K=K:=by rfl):QP X K (.Subscript a b pos) (Pt p t):=by
 refine PE.imp (Rg (WC hu hK) ha hb hs) fun σ H Qv hx=>iE hx fun Hs ρ ae Q sr h f=>?_
 refine⟨Hs,ρ,ae,_,sr,h,fun v H1 aC fl d up g1 p1 q1=>⟨aC,ρ,ae,_,sr.grow g1,q1,fun u H2 ax m y As g2 r2 f2 q2=>?_⟩⟩
 have p2:=p1.grow g2
 have gg:=g1.trans g2
 obtain⟨rfl,q2⟩:=q2
 have ry:=r2.rep g2.wf
 cases ry with
 |int i =>
  obtain⟨fz,r,ne,nd,own,k⟩:=p2.ex
  cases r with
  |sh hf _=>exact absurd rfl ne
  |@list a0 vs0 ds0 A0 hz e rs =>
   obtain⟨j,d',e1,e2,hd,q⟩:=q2
   obtain⟨na,nb⟩:=ja.mp nd
   obtain⟨w,B,e3,r3,sb,g⟩:=rs.at e2 nb
   refine .inl (.inl ⟨_,w,.inl (.inl e),t_ (by rw[<- rs.length];exact e1) e3,f w H2 ax true d' _ gg ⟨B,r3,r3.ne hd,sb.nodup nb,fun a h=>own a (b5 _ (sb.subset h)),fun dQ H3 M0 d3 HK s3 w3 n3 hf r4 ne3 Se o3 st=>?_⟩ q⟩)
   have bq:∀ x∈A0,x∉B->H3 x=H2 x:=fun x hx m=>st x (rs.own x hx).ne m
   obtain⟨HM,x4,y4,z4,r5⟩:=g dQ H3 M0 d3 HK s3 hf r4 Se (fun a ha m=>(o3 a ha).2.elim id fun q=>absurd q (rs.own a m).ne) bq
   have eA:H3 a0=H2 a0:=st a0 (by rw[e];exact fun z=>nomatch z) fun m=>na (sb.subset m)
   have cl:∀ a∈HM,dQ a=none/\(a∈a0 :: A0\/H2 a=none):=fun a h=>by
    rcases y4 a h with⟨m,_⟩|m
    ·exact⟨n3 a (own a (b5 _ m)) (rs.own a m).ne,.inl (b5 _ m)⟩
    ·exact⟨(o3 a m).1,(o3 a m).2.imp (fun q=>b5 _ (sb.subset q)) id⟩
   refine k dQ H3 M0 (.list _) (_ :: HM) s3 w3 n3 hf (.list hz (eA.trans e) r5) (by simp) (ja.mpr ⟨fun m=>?_,x4⟩) (fun a h=>?_) fun a h1 h2=>st a h1 fun m=>h2 (b5 _ (sb.subset m))
   ·rcases y4 _ m with⟨q,_⟩|q
    ·exact na q
    ·rcases (o3 _ q).2 with q|q
     ·exact na (sb.subset q)
     ·rw[e] at q;cases q
   ·rcases df.mp h with rfl|h
    ·exact⟨n3 _ (own _ bX) (by rw[e];exact fun z=>nomatch z),.inl bX⟩
    ·exact cl a h
  |tup hz e hn rs =>
   obtain⟨j,d',e1,e2,hd,q⟩:=q2
   obtain⟨w,B,e3,r3,sb,g⟩:=rs.at e2 nd
   refine .inl (.inr ⟨_,w,.inl (.inl (g2.wf.sub _ _ e)),t_ (by rw[<- rs.length];exact e1) e3,f w H2 ax true d' _ gg ⟨B,r3,r3.ne hd,sb.nodup nd,fun a h=>own a (sb.subset h),fun dQ H3 M0 d3 HK s3 w3 n3 hf r4 ne3 Se o3 st=>?_⟩ q⟩)
   obtain⟨HM,x4,y4,z4,r5⟩:=g dQ H3 M0 d3 HK s3 hf r4 Se (fun a ha m=>(o3 a ha).2.elim id fun q=>absurd q (rs.own a m).ne) (fun x hx m=>st x (rs.own x hx).ne m)
   have GW:cv (List.set _ j d3)=false:=xV e2 (by
    cases hh:d3.flat with
    |false=>rfl
    |true=>exact absurd (r4.nil_of hh) ne3)
   refine k dQ H3 M0 (.tup _) HM s3 w3 n3 hf (.tup hz (s3 _ _ e) GW r5) (z4 ne3) x4 (fun a h=>?_) fun a h1 h2=>st a h1 fun m=>h2 (sb.subset m)
   rcases y4 a h with⟨m,_⟩|m
   ·exact⟨n3 a (own a m) (rs.own a m).ne,.inl m⟩
   ·exact⟨(o3 a m).1,(o3 a m).2.imp (fun q=>sb.subset q) id⟩
  |_=>exact q2.elim
 |_=>exact q2.elim
end
section
variable {X:Cx}{K:PySem.W.Frag}{e:Expr}{p:WP}{te:WE}{apos dz pos:Pos}
def lN(fl:Bool)(m:Md)(d:D):Option Bool:=match m with
 |.sh=>some (fl && d.flat)
 |.ow b=>some (fl && b)
 |.bo=>bif d.flat then some fl else none
def E3(p:WP)(te:WE):WS:=fun E ρ=>p ρ fun fl d up=>match d with
 |.list xs=>te ρ fun m x=>xs.length<sizeLine/\match lN fl m x with
  |some fl2=>E.nx (up fl2 (.list (xs++[x])))
  |none=>False
 |_=>False
theorem zK(w:Wf Hs H)(r:RM K Hs H m d v As)(h:lN fl m d=some fl2):(fl2=true->fl=true)/\∃ B,B.Sublist As/\bI K Hs H fl2 d v B:=by
 cases m with
 |sh =>
  cases h
  exact⟨fun z=>by cases fl<;>simp_all,[],BQ _,.sh (fun z=>by cases fl<;>simp_all) r.2⟩
 |ow b =>
  cases h
  refine⟨fun z=>by cases fl<;>simp_all,As,List.Sublist.refl _,r.1.wk fun z=>by cases fl<;>simp_all⟩
 |bo =>
  cases hf:d.flat with
  |true =>
   simp only[lN,hf,cond_true,Option.some.injEq] at h
   subst h
   exact⟨id,[],BQ _,.sh (fun _=>hf) (r.flat w hf)⟩
  |false=>simp[lN,hf] at h
theorem Place.put(pl:Place K aC H1 σ fl (.list xs) v up)(g:eJ aC H1 ax H2) :
  ∃ a vs A,v=.ref a/\H2 a=some (.lst vs)/\H1 a=some (.lst vs)/\aA K ax H2 fl xs vs A/\(a :: A).Nodup/\(∀ x∈a :: A,ax x=none/\H1 x≠none) /\
   ∀ fl2 ys ws C,(fl2=true->fl=true)->aA K ax H2 fl2 ys ws C->ws.length<=sizeLine->C.Nodup->a∉C->(∀ x∈C,x∈A\/(ax x=none/\H1 x=none))->∃ dv,dr K ax (up fl2 (.list ys)) σ (upd H2 a (.lst ws)) dv:=by
 obtain⟨fz,r,ne,nd,own,k⟩:=pl.ex
 cases r with
 |sh hf _=>exact absurd rfl ne
 |@list a vs _ A hz e rs =>
  have e2:=g.all _ _ e
  have Pu:=rs.grow g.sh g.all
  have hw:∀ x∈a :: A,aC x=none/\H1 x≠none:=fun x hx=>⟨own x hx,by
   rcases df.mp hx with rfl|hx
   ·rw[e];exact fun z=>nomatch z
   ·exact(rs.own x hx).ne⟩
  exact⟨a,vs,A,rfl,e2,e,Pu,nd,fun x hx=>⟨g.kU (hw x hx).1 (hw x hx).2,(hw x hx).2⟩,fun fl2 ys ws C hf kR hz ndC Pq hC=>k.node g hw (fun _ z=>by cases z) hf (.list hz gd (kR.eh (ay.refl _) fun b hb=>dP fun z=>Pq (by subst z;exact hb))) ndC Pq hC⟩
theorem Place.WR(w:Wf aC H1)(pl:Place K aC H1 σ fl (.list xs) v up):∃ a vs,v=.ref a/\eB K H1 a vs:=by
 obtain⟨fz,r,ne,nd,own,k⟩:=pl.ex
 cases r with
 |sh hf _=>exact absurd rfl ne
 |list hz e rs=>exact⟨_,_,rfl,.inl (.inl e)⟩
theorem tL (ho:QP X K e p) (he:QE X K e2 te) (hK:X.K=K:=by rfl) (hs:swapsWith (.Call (.Attribute e "append" apos) [e2] [] dz) none pos.line X.env=pure false:=by rfl)
  (ua:attributeBase e "append" X.env (eval e X.env)=eval e X.env:=by rfl)
  (w9:((backTo dz (starEach [e2] X.env)).all (fun x=>!x.1) && (backToKw dz (keywordEach [] X.env)).all (fun x=>x.1.isSome)
   && decide ([e2].length+([]:List Keyword).length+(if ([]:List Keyword).isEmpty then 0 else 1)<30))=true:=by rfl)
  (hline:(apos.endLine == dz.line)=true:=by rfl) (xS:starEach (e2 :: []) X.env=(false,eval e2 X.env) :: starEach [] X.env:=by rfl) (AO:(backTo dz (starEach [] X.env)).any (·.1)=false:=by rfl) :
  QS X K L (.Expr (.Call (.Attribute e "append" apos) [e2] [] dz) pos) (E3 p te):=by
 subst hK
 refine PS.imp (LG (L4 PySem.F.plainAttrs_list PySem.F.slot_list_append PySem.F.type_list_append OD ho (nI he qB xS) ua w9 hline xS AO) hs) fun D σ H hx=>dg hx fun Hs ρ ae E sr h k1 k2 k3 k4=>?_
 refine⟨Hs,ρ,ae,_,sr,h,fun v H1 aC fl d up g1 p1 q1=>?_⟩
 cases d with
 |list xs =>
  obtain⟨a1,vs1,e1,s1⟩:=p1.WR g1.wf
  subst e1
  refine⟨.inl ⟨rfl,_,s1⟩,aC,ρ,ae,_,sr.grow g1,q1,fun y H2 ax m x As g2 r2 f2 q2=>?_⟩
  obtain⟨hz,q2⟩:=q2
  obtain⟨a,vs,A,ea,e2,_,rs,nd,hn,k⟩:=p1.put g2
  cases ea
  have hl:=rs.length
  refine⟨a1,vs,y,rfl,rfl,e2,by lia,?_⟩
  cases hp:lN fl m x with
  |none=>rw[hp] at q2;exact q2.elim
  |some fl2 =>
   rw[hp] at q2
   obtain⟨hf,B,sb,rb⟩:=zK g2.wf r2 hp
   obtain⟨na,nA⟩:=ja.mp nd
   have fB:∀ x∈B,ax x=none/\H1 x=none:=fun x hx=>f2.2 x (sb.subset hx)
   have c1:(A++(B++[])).Nodup:=by
    rw[lI]
    exact ip.mpr ⟨nA,sb.nodup f2.1,fun x hx z hz e=>by subst e;exact(hn x (b5 _ hx)).2 (fB x hz).2⟩
   have c2:a1∉A++(B++[]):=by
    rw[lI]
    intro m
    rcases dS.mp m with m|m
    ·exact na m
    ·exact(hn _ bX).2 (fB _ m).2
   have c3:∀ x∈A++(B++[]),x∈A\/(ax x=none/\H1 x=none):=by
    rw[lI]
    intro x hx
    exact(dS.mp hx).imp id fun z=>fB x z
   obtain⟨dv,fP⟩:=k fl2 (xs++[x]) (vs++[y]) (A++(B++[])) hf ((rs.wk hf).append (.cons rb .nil)) (by rw[kA];simp;lia) c1 c2 c3
   exact k1 σ _ ax _ dv (g1.sh.trans g2.sh) fP q2
 |_=>exact q1.elim
def sS:WE:=fun _ Q=>Q (.ow true) (.dT [])
theorem xU:QE X K (.Dict [] [] pos) sS:=PE.imp bh' fun σ H Qv hx=>iE hx fun Hs ρ ae Q sr h f=>fun a ha =>
 f _ _ Hs (.ow true) (.dT []) [a] (MJ sr.wf ha fun _ z=>nomatch z) ⟨.dT (vs:=[]) ⟨gV _,fun p hp=>nomatch hp⟩ gd .nil,by simp⟩ ⟨by simp,fun b hb=>by
  obtain rfl:b=a:=by simpa using hb
  exact⟨sr.wf.sub.free ha,ha⟩⟩ h
section
variable {κ:Type}[DecidableEq κ]
theorem uU{Hs H:Hp}{fl:Bool}{k:κ}{d:D}{v:V}(r:bI K Hs H fl d v []){kvs:List (κ × D)}{vs:List V}{As:List Addr}(qs:aA K Hs H fl (kvs.map (·.2)) vs As):∃ ws Bs,Bs.Sublist As /\
  aA K Hs H fl ((kvs.map fun kv=>if kv.1=k then (kv.1,d) else kv).map (·.2)) ws Bs/\((kvs.map (·.1)).zip vs).map (fun kv=>if kv.1=k then (kv.1,v) else kv)=(((kvs.map fun kv=>if kv.1=k then (kv.1,d) else kv)).map (·.1)).zip ws:=by
 induction kvs generalizing vs As with
 |nil=>exact⟨[],[],BQ _,.nil,rfl⟩
 |cons p kvs ih =>
  obtain⟨u,vs,A,B,rfl,rfl,q,qs⟩:=aA.c (d:=p.2) qs
  obtain⟨ws,Bs,sb,rs,e⟩:=ih qs
  by_cases h:p.1=k
  ·refine⟨v :: ws,[]++Bs,by simpa using sb.trans (oo _ _),?_,?_⟩
   ·simp only[fo,h,if_true]
    exact .cons r rs
   ·simp only[fo,zI,h,if_true,e]
  ·refine⟨u :: ws,A++Bs,sb.append_left _,?_,?_⟩
   ·simp only[fo,h,if_false]
    exact .cons q rs
   ·simp only[fo,zI,h,if_false,e]
theorem rG{Hs H:Hp}{fl:Bool}{k:κ}{d:D}{v:V}(r:bI K Hs H fl d v []){kvs:List (κ × D)}{vs:List V}{As:List Addr}(q:aA K Hs H fl (kvs.map (·.2)) vs As) :
  ∃ ws Bs,Bs.Sublist As/\aA K Hs H fl ((i5 kvs k d).map (·.2)) ws Bs/\putK ((kvs.map (·.1)).zip vs) k v=((i5 kvs k d).map (·.1)).zip ws:=by
 have hl:=q.length
 rw[bT] at hl
 unfold putK i5
 rw[Ci hl]
 cases h:kvs.any fun kv=>decide (kv.1=k) with
 |true =>
  simp only[if_true]
  exact uU r q
 |false =>
  simp only[kP,if_false]
  refine⟨vs++[v],As++([]++[]),by simp,?_,?_⟩
  ·rw[sC]
   exact q.append (.cons r .nil)
  ·rw[sC,List.zip_append (by rw[bT];exact hl)]
   rfl
theorem vB{Hs H:Hp}{fl:Bool}{k:κ}{d:D}{v:V}(r:Rep K Hs d v)(hd:d.flat=true){kvs:List (κ × D)}{vs:List V}{As:List Addr}(q:aA K Hs H fl (kvs.map (·.2)) vs As) :
  ∃ ws Bs,Bs.Sublist As/\aA K Hs H fl ((i5 kvs k d).map (·.2)) ws Bs/\putK ((kvs.map (·.1)).zip vs) k v=((i5 kvs k d).map (·.1)).zip ws:=rG (.sh (fun _=>hd) r) q
theorem gB{β:Type}(kvs:List (κ × β))(k:κ)(v:β):(i5 kvs k v).length<=kvs.length+1:=by
 unfold i5
 split
 ·rw[bT];exact Qp _ _
 ·simp
theorem iZ{β:Type}{kvs:List (κ × β)}{k:κ}{v:β}{p:κ × β}(h:p∈i5 kvs k v):p.1=k\/p.1∈kvs.map (·.1):=by
 unfold i5 at h
 split at h
 ·obtain⟨q,hq,e⟩:=b9.mp h
  by_cases hk:q.1=k
  ·rw[if_pos hk] at e;subst e;exact .inl hk
  ·rw[if_neg hk] at e;subst e;exact .inr (b9.mpr ⟨q,hq,rfl⟩)
 ·rcases dS.mp h with h|h
  ·exact .inr (b9.mpr ⟨p,h,rfl⟩)
  ·have:p=(k,v):=by simpa using h
   subst this;exact .inl rfl
end
def vh(p:WP)(tk tv:WE):WS:=fun E ρ=>tv ρ fun _ x=>p ρ fun fl d up=>tk ρ fun _ y=>x.flat=true/\match d with
 |.dK kvs=>∃ k,y.key1=some k/\kvs.length<sizeLine/\E.nx (up fl (.dK (i5 kvs k x)))
 |.dT kvs=>match y with
  |.tup ys=>∃ ks,dq ys=some ks/\kvs.length<sizeLine/\E.nx (up fl (.dT (i5 kvs ks x)))
  |_=>False
 |_=>False
theorem mq(r:Rep K H d v)(h:d.key1=some k):xt k=true:=by
 cases r<;>simp[D.key1] at h<;>subst h
 ·rfl
 ·rename_i hz;simp[xt,hz]
theorem tD(r:aS K H ds vs)(h:dq ds=some ks):ks.length=ds.length/\∀ k∈ks,xt k=true:=by
 induction ds generalizing vs ks with
 |nil=>simp[dq] at h;subst h;exact⟨rfl,fun k hk=>nomatch hk⟩
 |cons d ds ih =>
  obtain⟨u,us,rfl,r,rs⟩:=r.c
  unfold dq at h
  cases e1:d.key1 with
  |none=>rw[e1] at h;simp at h
  |some k =>
   cases e2:dq ds with
   |none=>rw[e1,e2] at h;simp at h
   |some fm =>
    rw[e1,e2] at h
    simp at h
    subst h
    obtain⟨a,b⟩:=ih rs e2
    refine⟨by simp[a],fun j hj=>?_⟩
    rcases df.mp hj with rfl|hj
    ·exact mq r e1
    ·exact b j hj
theorem wz{a b c:Expr}{tk tv:WE}{pos':Pos}(hu:X.A.units+64<cLine)(ho:QP X K a p)(hi:QE X K b tk)(hv:QE X K c tv)(hs:swapsWith c (some (.Subscript a b pos')) pos.line X.env=pure false:=by rfl) :
  QS X K L (.Assign [.Subscript a b pos'] c pos) (vh p tk tv):=by
 refine PS.imp (VX (by lia) ho hi hv hs) fun D σ H hx=>dg hx fun Hs ρ ae E sr h k1 k2 k3 k4=>?_
 refine⟨Hs,ρ,ae,_,sr,h,fun v H1 aC m1 x As1 g1 r1 f1 q1=>⟨aC,ρ,ae,_,sr.grow g1,q1,fun u H2 ax fl d up g2 p2 q2=>⟨ax,ρ,ae,_,(sr.grow g1).grow g2,q2,fun y H3 dQ m3 yd HK g3 r3 f3 q3=>?_⟩⟩⟩
 obtain⟨hx,q3⟩:=q3
 have rx:Rep K dQ x v:=((r1.grow g2).grow g3).flat g3.wf hx
 have ry:=r3.rep g3.wf
 obtain⟨fz,r,ne,nd,own,k⟩:=p2.ex
 have sm:ay Hs dQ:=(g1.sh.trans g2.sh).trans g3.sh
 have lv:∀ x∈fz,ax x=none/\H2 x≠none:=fun x hx=>⟨own x hx,(r.own x hx).ne⟩
 cases r with
 |sh hf _=>exact absurd rfl ne
 |@dK a0 vs kvs A kk e rs =>
  obtain⟨key,hk,hz,q⟩:=q3
  have ey:=ry.key hk
  subst ey
  obtain⟨na,nA⟩:=ja.mp nd
  obtain⟨ws,Bs,sb,kR,ew⟩:=vB (k:=key) rx hx (rs.grow g3.sh g3.all)
  have hl:kvs.length=vs.length:=by have:=rs.length;rwa[bT] at this
  refine⟨a0,_,rfl,AQ.k (g3.all _ _ e) (by rw[FH,bT,<- hl,D1];exact hz),?_⟩
  rw[ew]
  have nB:a0∉Bs:=fun z=>na (sb.subset z)
  obtain⟨dv,fP⟩:=k.node (fl2:=fl) (d2:=.dK (i5 kvs key x)) g3 lv (fun _ z=>by cases z) id (.dK ⟨gS (gB _ _ _) hz,fun p hp=>(iZ hp).elim (fun z=>by rw[z];exact mq ry hk) fun z=>by obtain⟨p',eI,e'⟩:=b9.mp z;rw[<- e'];exact kk.2 p' eI⟩ gd (kR.eh (ay.refl _) fun b hb=>dP fun z=>nB (by subst z;exact hb)))
   (sb.nodup nA) nB fun b hb=>.inl (sb.subset hb)
  exact k1 σ _ dQ _ dv sm fP q
 |@dT a0 vs kvs A kk e rs =>
  cases ry with
  |tup t1 e1 H0 =>
   obtain⟨key,hk,hz,q⟩:=q3
   obtain⟨b,eb,e5⟩:=Rep.mn (.tup t1 e1 H0) hk
   cases eb
   obtain⟨kl,ko⟩:=tD H0 hk
   obtain⟨na,nA⟩:=ja.mp nd
   obtain⟨ws,Bs,sb,kR,ew⟩:=vB (k:=key) rx hx (rs.grow g3.sh g3.all)
   have hl:kvs.length=vs.length:=by have:=rs.length;rwa[bT] at this
   refine⟨a0,_,rfl,AQ.t (g3.all _ _ e) e5 (by rw[FH,bT,<- hl,D1];exact hz),?_⟩
   rw[ew]
   have nB:a0∉Bs:=fun z=>na (sb.subset z)
   have l1:=H0.length
   obtain⟨dv,fP⟩:=k.node (fl2:=fl) (d2:=.dT (i5 kvs key x)) g3 lv (fun _ z=>by cases z) id (.dT ⟨gS (gB _ _ _) hz,fun p hp=>(iZ hp).elim (fun z=>by rw[z];exact⟨by lia,ko⟩) fun z=>by obtain⟨p',eI,e'⟩:=b9.mp z;rw[<- e'];exact kk.2 p' eI⟩ gd (kR.eh (ay.refl _) fun b hb=>dP fun z=>nB (by subst z;exact hb)))
    (sb.nodup nA) nB fun b hb=>.inl (sb.subset hb)
   exact k1 σ _ dQ _ dv sm fP q
  |_=>exact q3.elim
 |_=>exact q3.elim
end
abbrev WJ:=Env->Str->(Str->Prop)->Prop
section
variable {X:Cx}{K:PySem.W.Frag}{e:Expr}{j:WJ}
def Ip:List D->Option (List Str)
 |[]=>some []
 |.str x :: xs=>(Ip xs).map (x :: ·)
 |_ :: _=>none
def mn(k:List Key):D:=.tup (k.map rS)
def rY:W1:=fun _ x Q=>match x with
 |.list xs=>∃ ks sh,xs=ks.map mn/\ks.length<=63/\(∀ k∈ks,gE k=true :: sh)/\∀ ms:List (List Key),ms.Perm ks->(ms.Pairwise fun a b=>fi b a=false)->Q (.ow true) (.list (ms.map mn))
 |_=>False
theorem uT{H:Hp}{ks:List Key}{vs:List V}(r:aS K H (ks.map rS) vs):vs=ks.map kV/\∀ k∈ks,xt k=true:=by
 induction ks generalizing vs with
 |nil=>exact⟨r.n0,fun k h=>nomatch h⟩
 |cons k ks ih =>
  obtain⟨u,us,rfl,r1,rs⟩:=aS.c (d:=rS k) r
  obtain⟨e,o⟩:=ih rs
  subst e
  cases k with
  |inl i=>cases r1;exact⟨rfl,fun j hj=>by rcases df.mp hj with rfl|hj;rfl;exact o j hj⟩
  |inr x =>
   cases r1 with
   |str hz=>exact⟨rfl,fun j hj=>by rcases df.mp hj with rfl|hj;simp[xt,hz];exact o j hj⟩
theorem qX{H:Hp}{ks:List (List Key)}{vs:List V}(r:aS K H (ks.map mn) vs):bB H vs ks/\∀ k∈ks,k.length<=sizeLine/\∀ j∈k,xt j=true:=by
 induction ks generalizing vs with
 |nil=>rw[r.n0];exact⟨.nil,fun k h=>nomatch h⟩
 |cons k ks ih =>
  obtain⟨u,us,rfl,r1,rs⟩:=aS.c (d:=mn k) r
  obtain⟨t,o⟩:=ih rs
  cases r1 with
  |tup hz e q =>
   obtain⟨e2,o2⟩:=uT q
   subst e2
   exact⟨.cons ⟨_,rfl,e⟩ t,fun j hj=>by
    rcases df.mp hj with rfl|hj
    ·exact⟨by simpa using hz,o2⟩
    ·exact o j hj⟩
theorem zp:A2 K (sI K) rY:=by
 intro Hs H m x v As Qd Qv w rx h f
 have r1:=rx.rep w
 cases r1 with
 |list z s q =>
  obtain⟨ks,sh,rfl,kD,hs,h⟩:=h
  obtain⟨ta,ok⟩:=qX q
  have hl:=q.length
  rw[bT] at hl
  refine⟨_,ks,sh,s,by lia,ta,hs,fun zs ms l tz pm pw M3=>?_⟩
  have rr:=i_ (K:=K) tz fun k hk=>ok k (pm.mem_iff.mp hk)
  exact f.lst w (by rw[bT,pm.length_eq];lia) rr (eV ms) (h ms pm pw) l M3
 |_=>exact h.elim
theorem Fg (hK:X.K=K:=by rfl):kb X (.builtin "sorted") (sI K):=by subst hK;exact um
theorem dN:bootBuiltins "sorted" = some (.builtin "sorted"):=by decide +kernel
end
def WU(A:List Addr)(F:Nat->List Addr):Nat->List Addr
 |0=>A
 |i+1=>F i
def E4(K:PySem.W.Frag)(Hs H:Hp)(ρ:Env)(σ:St)(ae:List Addr)(F:Nat->List Addr):Prop:=(∀ i fl d,ρ[i]? = some (some (.ow fl d))->∃ v,σ[i]? = some (some v)/\F i≠[]/\bI K Hs H fl d v (F i)) /\
  (∀ i,(F i).Sublist ae)/\∀ i j,i≠j->∀ a∈F i,a∉F j
theorem E4.skip{K:PySem.W.Frag}{F:Nat->List Addr}(h:E4 K Hs H ρ σ ae F)(no:∀ fl d,o≠some (.ow fl d)):E4 K Hs H (o :: ρ) (u :: σ) ae (WU [] F):=by
 obtain⟨a,b,c⟩:=h
 refine⟨fun i fl d e=>?_,fun i=>?_,fun i j ne x hx=>?_⟩
 ·cases i with
  |zero=>simp at e;exact absurd e (no fl d)
  |succ i=>exact a i fl d (by simpa using e)
 ·cases i with
  |zero=>exact BQ _
  |succ i=>exact b i
 ·cases i with
  |zero=>exact uk hx
  |succ i =>
   cases j with
   |zero=>exact fun z=>uk z
   |succ j=>exact c i j (fun z=>ne (by rw[z])) x hx
theorem E4.own{K:PySem.W.Frag}{ae B:List Addr}{F:Nat->List Addr}(h:E4 K Hs H ρ σ ae F)(n:(B++ae).Nodup)(hs:∀ fl d,sl=.ow fl d->B≠[]/\bI K Hs H fl d v B):E4 K Hs H (some sl :: ρ) (some v :: σ) (B++ae) (WU B F):=by
 obtain⟨a,b,c⟩:=h
 obtain⟨n1,n2,n3⟩:=ip.mp n
 refine⟨fun i fl d e=>?_,fun i=>?_,fun i j ne x hx=>?_⟩
 ·cases i with
  |zero=>simp at e;exact⟨v,rfl,hs fl d e⟩
  |succ i=>exact a i fl d (by simpa using e)
 ·cases i with
  |zero=>exact FG _ _
  |succ i=>exact(b i).trans (oo _ _)
 ·cases i with
  |zero =>
   cases j with
   |zero=>exact absurd rfl ne
   |succ j=>exact fun z=>n3 x hx x ((b j).subset z) rfl
  |succ i =>
   cases j with
   |zero=>exact fun z=>n3 x z x ((b i).subset hx) rfl
   |succ j=>exact c i j (fun z=>ne (by rw[z])) x hx
theorem SR.addrs{K:PySem.W.Frag}(s:SR K Hs H ρ σ ae):ae.Nodup->∃ F:Nat->List Addr,E4 K Hs H ρ σ ae F:=by
 induction s with
 |nil=>exact fun _=>⟨fun _=>[],fun i fl d e=>by simp at e,fun i=>BQ _,fun i j _ a h=>uk h⟩
 |non s ih =>
  intro n
  obtain⟨F,h⟩:=ih n
  exact⟨_,h.skip fun fl d z=>by cases z⟩
 |sh r s ih =>
  intro n
  obtain⟨F,h⟩:=ih n
  exact⟨_,h.skip fun fl d z=>by cases z⟩
 |xc s ih =>
  intro n
  obtain⟨F,h⟩:=ih n
  exact⟨_,h.skip fun fl d z=>by cases z⟩
 |ow ne r s ih =>
  intro n
  obtain⟨F,h⟩:=ih (ip.mp n).2.1
  exact⟨_,h.own n fun fl d e=>by cases e;exact⟨ne,r⟩⟩
 |lk ne r s ih =>
  intro n
  obtain⟨F,h⟩:=ih (ip.mp n).2.1
  exact⟨_,h.own n fun fl d e=>by cases e⟩
abbrev Plan:=List (WE ⊕ Nat)
def Pw:Plan->List Nat
 |[]=>[]
 |.inl _ :: r=>Pw r
 |.inr i :: r=>i :: Pw r
def Px:Option (Option Sl)->Option (Md × D)
 |some (some (.sh d))=>some (.sh,d)
 |some (some (.ow fl d))=>some (.ow fl,d)
 |_=>none
def kI:Plan->Env->(List (Md × D)->Prop)->Prop
 |[],_,Q=>Q []
 |.inl t :: r,ρ,Q=>t ρ fun m x=>kI r ρ fun ps=>Q ((m,x) :: ps)
 |.inr i :: r,ρ,Q=>match Px ρ[i]? with
  |some p=>kI r ρ fun ps=>Q (p :: ps)
  |none=>False
def tpM(K:PySem.W.Frag)(pl:Plan):TA:=fun σ H Qv=>∃ (Hs:Hp) (ρ:Env) (ae:List Addr) (F:Nat->List Addr) (Q:List (Md × D)->Prop),dr K Hs ρ σ H ae/\(∀ i fl d,ρ[i]? = some (some (.ow fl d))->∃ v,σ[i]? = some (some v)/\F i≠[]/\bI K Hs H fl d v (F i))/\(∀ i,(F i).Sublist ae)/\(∀ i j,i≠j->∀ a∈F i,a∉F j) /\
 kI pl ρ Q/\∀ vs H' ah ps As,eJ Hs H ah H'->xv K ah H' ps vs As->As.Nodup->(∀ a∈As,ah a=none/\(H a=none\/∃ i∈Pw pl,a∈F i))->Q ps->Qv vs H'
abbrev QM(X:Cx)(K:PySem.W.Frag)(es:List Expr)(pl:Plan):Prop:=PA X es (tpM K pl)
section
variable {X:Cx}{K:PySem.W.Frag}{e:Expr}{es:List Expr}{te:WE}{pl:Plan}{pos:Pos}
theorem xW:QM X K [] []:=PA.imp qB fun σ H Qv hx=>by
 obtain⟨Hs,ρ,ae,F,Q,sr,h1,h2,h3,h,f⟩:=hx
 exact f [] H Hs [] [] (eJ.refl sr.wf) .nil lP (fun a h=>uk h) h
theorem Sf(ha:QE X K e te)(hr:QM X K es pl)(hs:starEach (e :: es) X.env=(false,eval e X.env) :: starEach es X.env:=by rfl):QM X K (e :: es) (.inl te :: pl):=by
 refine PA.imp (nI ha hr hs) fun σ H Qv cy=>?_
 obtain⟨Hs,ρ,ae,F,Q,sr,h1,h2,h3,h,f⟩:=cy
 refine⟨Hs,ρ,ae,_,sr,h,fun v H1 aC m x As g1 r1 f1 q1=>⟨aC,ρ,ae,F,_,sr.grow g1,(fun i fl d e=>?_),h2,h3,q1,fun vs H2 ax ps Bs g2 r2 kz o2 q2=>?_⟩⟩
 ·obtain⟨v,a,b,c⟩:=h1 i fl d e
  exact⟨v,a,b,c.grow g1.sh g1.all⟩
 ·refine f (v :: vs) H2 ax _ _ (g1.trans g2) (.cons (r1.grow g2) r2) (ip.mpr ⟨f1.1,kz,fun a ha b hb e=>?_⟩) (fun a ha=>?_) q2
  ·subst e
   rcases (o2 a hb).2 with z|⟨i,_,z⟩
   ·exact(r1.own a ha).ne z
   ·exact(sr.sr.own a ((h2 i).subset z)).ne (f1.2 a ha).2
  ·rcases dS.mp ha with z|z
   ·exact⟨g2.kU (f1.2 a z).1 (r1.own a z).ne,.inl (f1.2 a z).2⟩
   ·exact⟨(o2 a z).1,(o2 a z).2.imp g1.all.free id⟩
theorem Sg(ha:PE X e (y0 i))(hr:QM X K es pl)(hi:i∉Pw pl:=by decide)(hs:starEach (e :: es) X.env=(false,eval e X.env) :: starEach es X.env:=by rfl):QM X K (e :: es) (.inr i :: pl):=by
 refine PA.imp (nI ha hr hs) fun σ H Qv cy=>?_
 obtain⟨Hs,ρ,ae,F,Q,sr,h1,h2,h3,h,f⟩:=cy
 unfold kI at h
 cases hm:Px ρ[i]? with
 |none=>rw[hm] at h;exact h.elim
 |some p =>
  rw[hm] at h
  have key:∃ v A,σ[i]? = some (some v)/\RM K Hs H p.1 p.2 v A/\A.Nodup/\∀ a∈A,a∈F i:=by
   cases e1:ρ[i]? with
   |none=>rw[e1] at hm;cases hm
   |some o =>
    cases o with
    |none=>rw[e1] at hm;cases hm
    |some sl =>
     cases sl with
     |sh d =>
      rw[e1] at hm;cases hm
      obtain⟨v,a,b⟩:=sr.sr.get e1
      exact⟨v,[],a,⟨rfl,b⟩,lP,fun a h=>nomatch h⟩
     |lk a fl d=>rw[e1] at hm;cases hm
     |xc a=>rw[e1] at hm;cases hm
     |ow fl d =>
      rw[e1] at hm;cases hm
      obtain⟨v,a,b,c⟩:=h1 i fl d e1
      exact⟨v,F i,a,⟨c,b⟩,(h2 i).nodup sr.oB,fun a h=>h⟩
  obtain⟨v,A,ev,rm,M4,hA⟩:=key
  refine⟨v,ev,Hs,ρ,ae,F,_,sr,h1,h2,h3,h,fun vs H2 ax ps Bs g2 r2 kz o2 q2=>?_⟩
  refine f (v :: vs) H2 ax _ _ g2 (.cons (rm.grow g2) r2) (ip.mpr ⟨M4,kz,fun a ha b hb e=>?_⟩) (fun a ha=>?_) q2
  ·subst e
   rcases (o2 a hb).2 with z|⟨j,hj,z⟩
   ·exact(rm.own a ha).ne z
   ·exact h3 i j (fun z=>hi (by rw[z];exact hj)) a (hA a ha) z
  ·rcases dS.mp ha with z|z
   ·have:a∈ae:=(h2 i).subset (hA a z)
    exact⟨g2.kU (sr.own a this) (sr.sr.own a this).ne,.inr ⟨i,bX,hA a z⟩⟩
   ·exact⟨(o2 a z).1,(o2 a z).2.imp id fun⟨j,hj,q⟩=>⟨j,b5 _ hj,q⟩⟩
def xM(pl:Plan):WS:=fun E ρ=>kI pl ρ fun ps=>ps.length<=sizeLine/\E.rt (qF ps) (.tup (ps.map (·.2)))
theorem qi{x1}(h:QM X K es pl):QS X K L (.Return (some (.Tuple es x1 ha')) pos) (xM pl):=by
 refine PS.imp (Oe (Vr h)) fun D σ H hx=>dg hx fun Hs ρ ae E sr h k1 k2 k3 k4=>?_
 obtain⟨F,h1,h2,h3⟩:=sr.sr.addrs sr.oB
 refine⟨Hs,ρ,ae,F,_,sr,h1,h2,h3,h,fun vs H1 aC ps As g1 r1 Sh o1 q1=>?_⟩
 obtain⟨hz,q⟩:=q1
 have rl:=r1.reps g1.wf
 have hl:=rl.length
 rw[bT] at hl
 refine⟨by lia,fun p hp=>?_⟩
 have g2:=O_ (vs:=vs) g1.wf hp
 have sm:ay Hs (upd aC p (.tup vs)):=g1.sh.trans g2.sh
 unfold qF at q
 cases e1:ps.all xC with
 |true =>
  rw[e1] at q
  exact k4 _ _ _ .sh _ [] sm g2.wf ⟨rfl,.tup (by lia) gd ((r1.sh g1.wf e1).same g2.sh)⟩ lP (fun a h=>nomatch h) q
 |false =>
  rw[e1] at q
  cases e2:ps.all EX with
  |false =>
   rw[e2] at q
   exact k4 _ _ _ .bo _ [] sm g2.wf ⟨rfl,.tup (by lia) gd (rl.same g2.all)⟩ lP (fun a h=>nomatch h) q
  |true =>
   rw[e2] at q
   obtain⟨Bs,sb,nz,ro⟩:=r1.ow (fl:=ps.all CM) g1.wf e2 fun z=>z
   have fS:cv (ps.map (·.2))=false:=by
    cases hf:cv (ps.map (·.2)) with
    |false=>rfl
    |true=>rw[nW hf] at e1;cases e1
   exact k4 _ _ _ (.ow _) _ Bs sm g2.wf ⟨.tup (by lia) gd fS (ro.grow g2.sh g2.all),nz e1⟩ (sb.nodup Sh) (fun a ha=>g2.kU (o1 a (sb.subset ha)).1 (ro.own a ha).ne) q
end
def WV:hV:=fun ds Q=>∃ ns:List Int,ds=[.list (ns.map .int)]/\ns.length<=63/\∀ m,Q m (.bl true)
theorem ints_rep{K:PySem.W.Frag}:∀ (ns:List Int),aS K H (ns.map .int) (ns.map V.int)
 |[]=>.nil
 |n :: ns=>.cons (.int n) (ints_rep ns)
theorem yE{K:PySem.W.Frag}{H:Hp}{a:Addr}{ns:List Int}{E:XK}(hl:ns.length<=63)(hS:eB K H a (ns.map V.int)):au K WV [.ref a] H (fun v _=>v=.bl true) E:=by
 refine⟨[.list (ns.map .int)],fun _ d=>d=.bl true,.cons (.list (by rw[bT];exact gS hl (by decide)) hS (ints_rep ns)) .nil,⟨ns,rfl,hl,fun _=>rfl⟩,?_⟩
 intro v H' ah m d As s w r nd own q
 subst q
 have:=r.rep w
 cases this
 rfl
abbrev sg(x:Str):List Nat:=x.cps.toList
theorem zX(x y:Str):sg (x++y)=sg x++sg y:=by
 show(x.cps++y.cps).toList=_
 simp[sg]
theorem empty_app(x:Str):Str.empty++x=x:=vG (by rw[<- sg,zX];rfl)
def WW(x:Str):Prop:=∀ c∈sg x,c<0x110000
theorem D_(x:Str):PyData.strOk x=true↔WW x:=by
 unfold PyData.strOk WW sg
 rw[Array.all_eq_true']
 simp
theorem cM'(x:α)(l:List α):eT (x :: l) 0=some x:=by simp[L2.eT,lS]
theorem cN'(x y:α)(l:List α):eT (x :: y :: l) 1=some y:=by
 have:=LY (xs:=x :: y :: l) (j:=1) (v:=y) rfl
 exact this
theorem cO'(x y z:α)(l:List α):eT (x :: y :: z :: l) 2=some z:=by
 have:=LY (xs:=x :: y :: z :: l) (j:=2) (v:=z) rfl
 exact this
theorem Ft:Str.empty.length=0:=by decide
end L2.Q
namespace L2.Q.R
open PySem PySem.Spec PyProof.Rows L2.Q
section
variable {f:D->Prop}{k:Kt f}
theorem J2:bE .non k=f .non:=rfl
theorem K3:bE (.bl b) k=f (.bl b):=rfl
theorem Ka:bE (.int i) k=f (.int i):=rfl
theorem Jv:bE (.str x) k=f (.str x):=rfl
theorem Hd:bE (.list xs) k=f (.list xs):=rfl
theorem J5:bE (.tup xs) k=f (.tup xs):=rfl
theorem Mx:bE (.dK xs) k=f (.dK xs):=rfl
theorem KR:bE (.dT xs) k=f (.dT xs):=rfl
end
theorem HN{f:Bool->Prop}{k:Kt f}:bE true k=f true:=rfl
theorem GQ{f:Bool->Prop}{k:Kt f}:bE false k=f false:=rfl
theorem Jg{d:D}{f:Md × D->Prop}{k:Kt f}:bE (Md.sh,d) k=f (.sh,d):=rfl
theorem Jr{b:Bool}{d:D}{f:Md × D->Prop}{k:Kt f}:bE (Md.ow b,d) k=f (.ow b,d):=rfl
theorem Jh{d:D}{f:Md × D->Prop}{k:Kt f}:bE (Md.bo,d) k=f (.bo,d):=rfl
theorem Kf{d:D}{f:Option Sl->Prop}{k:Kt f}:bE (some (.sh d)) k=f (some (.sh d)):=rfl
theorem Jd{b:Bool}{d:D}{f:Option Sl->Prop}{k:Kt f}:bE (some (.ow b d)) k=f (some (.ow b d)):=rfl
theorem Jp{p:Md × D}{f:Option (Md × D)->Prop}{k:Kt f}:bE (some p) k=f (some p):=rfl
theorem K4{p:Bool}{f:Option Bool->Prop}{k:Kt f}:bE (some p) k=f (some p):=rfl
theorem JF{d:D}{f:Option (Option Sl)->Prop}{k:Kt f}:bE (some (some (.sh d))) k=f (some (some (.sh d))):=rfl
theorem Ji{b:Bool}{d:D}{f:Option (Option Sl)->Prop}{k:Kt f}:bE (some (some (.ow b d))) k=f (some (some (.ow b d))):=rfl
section
variable {E:pY}{ρ:Env}{Q:Md->D->Prop}{B:Bool->Prop}{t u:WS}{te ta tb tc:WE}{tt tu:WT}{tar:WA}{i j n:Nat}{m m':Md}{d d':D}{sp:hV}{p:WP}{R:List (Md × D)->Prop}
theorem JV:dH E ρ=E.nx ρ:=rfl
theorem K1:dk t u E ρ=t { E with nx:=u E } ρ:=rfl
theorem La:mM te E ρ=te ρ E.rt:=rfl
def put(sl:Option Sl)(k:Sl->Prop):Prop:=match sl with
 |some s=>k s
 |none=>False
theorem J3:put (some (.sh d)) k=k (.sh d):=rfl
theorem Jo:put (some (.ow b d)) k=k (.ow b d):=rfl
theorem Le:fw i te E ρ=te ρ fun m d=>bE (asg m d) (f:=fun o=>put o fun sl=>E.nx (ρ.set i (some sl))) ⟨⟩:=rfl
theorem KJ:n9 tt t u E ρ=tt ρ fun b=>bE b (f:=fun b=>if b=true then t E ρ else u E ρ) ⟨⟩:=rfl
theorem Kd:oZ i E ρ=bE ρ[i]? (f:=fun o=>match o with
 |some (some (.sh d))=>E.rt .sh d
 |some (some (.ow fl d))=>E.rt (.ow fl) d
 |_=>False) ⟨⟩:=rfl
theorem Js:xM pl E ρ=kI pl ρ fun ps=>ps.length<=sizeLine/\E.rt (qF ps) (.tup (ps.map (·.2))):=rfl
theorem Gg:kI [] ρ R=R []:=rfl
theorem G_:kI (.inl te :: r) ρ R=te ρ fun m x=>kI r ρ fun ps=>R ((m,x) :: ps):=rfl
def WX(o:Option (Md × D))(k:Md × D->Prop):Prop:=match o with
 |some p=>k p
 |none=>False
theorem GR{p:Md × D}{k:Md × D->Prop}:WX (some p) k=k p:=rfl
theorem Ib:kI (.inr i :: r) ρ R=bE (Px ρ[i]?) (f:=fun o=>WX o fun p=>kI r ρ fun ps=>R (p :: ps)) ⟨⟩:=rfl
theorem Ml:iS i t E ρ=t E (MX i ρ):=rfl
-- tests
def bol(d:D)(B:Bool->Prop):Prop:=match d with
 |.bl b=>B b
 |_=>False
theorem J4:bol (.bl b) B=B b:=rfl
theorem wB_:wB te ρ B=te ρ fun _ x=>bE x (f:=fun x=>bol x B) ⟨⟩:=rfl
theorem K9:R4 te ρ B=te ρ fun _ x=>bE x (f:=fun x=>∃ b,Ph x=some b/\B b) ⟨⟩:=rfl
theorem K_:AX tt ρ B=tt ρ fun c=>B (!c):=rfl
theorem Mj:HP tt tu ρ B=tt ρ fun c=>bE c (f:=fun c=>if c=true then tu ρ B else B false) ⟨⟩:=rfl
theorem cQ':EV tt tu ρ B=tt ρ fun c=>bE c (f:=fun c=>if c=true then B true else tu ρ B) ⟨⟩:=rfl
theorem Mi:A3 ρ B=B true:=rfl
-- expressions
theorem KH:ai i ρ Q=bE ρ[i]? (f:=fun o=>ML o Q) ⟨⟩:=rfl
theorem Hx:ML (some (some (.sh d))) Q=Q .sh d:=rfl
theorem Ik:ML (some (some (.ow b d))) Q=Q .bo d:=rfl
theorem wC_:wC d ρ Q=Q .sh d:=rfl
theorem cS':aT f ta tb ρ Q=ta ρ fun m x=>tb ρ fun n y=>f m x n y Q:=rfl
theorem cT':kE f ta ρ Q=ta ρ fun m x=>f m x Q:=rfl
theorem Io:pD f g ta tb tc ρ Q=ta ρ fun m x=>tb ρ fun n y=>f m x n y fun _ z=>bE z (f:=fun z=>bol z fun k=>bE k (f:=fun k=>if k=true then tc ρ fun l w=>g n y l w Q else Q .sh (.bl false)) ⟨⟩) ⟨⟩:=by
 unfold pD bE bol
 rfl
theorem JM:zf ta tb ρ Q=ta ρ fun _ x=>bE x (f:=fun x=>bol x fun c=>bE c (f:=fun c=>if c=true then tb ρ Q else Q .sh (.bl false)) ⟨⟩) ⟨⟩:=by unfold zf bE bol;rfl
theorem Ma:Pg ta tb ρ Q=ta ρ fun _ x=>bE x (f:=fun x=>bol x fun c=>bE c (f:=fun c=>if c=true then Q .sh (.bl true) else tb ρ Q) ⟨⟩) ⟨⟩:=by unfold Pg bE bol;rfl
theorem Jk:yX ta ρ Q=ta ρ fun _ x=>bE x (f:=fun x=>bol x fun c=>Q .sh (.bl (!c))) ⟨⟩:=by unfold yX bE bol;rfl
theorem Jx:ak te tar ρ R=te ρ fun m x=>tar ρ fun ps=>R ((m,x) :: ps):=rfl
theorem Kr:cx ρ R=R []:=rfl
theorem LC:nV tar ρ Q=tar ρ fun ps=>ps.length<=sizeLine/\Q (qF ps) (.tup (ps.map (·.2))):=rfl
theorem Lw:rL tar ρ Q=tar ρ fun ps=>ps.length<=sizeLine/\Q (Bl ps) (.list (ps.map (·.2))):=rfl
theorem Je:bO sp tar ρ Q=tar ρ fun ps=>sp (ps.map (·.2)) fun m d=>bE (m,d) (f:=fun p=>Q (pE p.1 p.2) p.2) ⟨⟩:=rfl
-- operators
section
variable {x y:Str}{a b:Int}{xs ys:List D}{kvs:List (Key × D)}{A4:List (List Key × D)}
theorem IV:kF m (.int a) m' (.int b) Q=Q .sh (.int (a+b)):=rfl
theorem G8:kF m (.str x) m' (.str y) Q=(x.length+y.length<=sizeLine/\Q .sh (.str (x++y))):=rfl
theorem Hb:kF m (.list xs) m' (.list ys) Q=(xs.length+ys.length<=sizeLine/\((cv xs=true/\cv ys=true/\Q (.ow true) (.list (xs++ys)))\/(m=.sh/\m'=.sh/\Q (.ow false) (.list (xs++ys))))):=rfl
theorem Hz:kF m (.tup xs) m' (.tup ys) Q=(xs≠[]/\xs.length+ys.length<=sizeLine/\cv xs=true/\cv ys=true/\Q .sh (.tup (xs++ys))):=rfl
theorem Hw:Pj m (.int a) m' (.int b) Q=Q .sh (.int (a-b)):=rfl
theorem HJ:MN m (.int a) m' (.int b) Q=(Ee a b/\Q .sh (.int (a*b))):=rfl
theorem Hf:mI m (.int a) m' (.int b) Q=((0<b/\b<1073741824)/\Q .sh (.int (a / b))):=rfl
theorem Iu:iF m (.int a) m' (.int b) Q=(0<b/\Q .sh (.int (a % b))):=rfl
theorem Ih:MP m (.int a) m' (.int b) Q=(GU a b/\Q .sh (.int (a ^ b.toNat))):=rfl
theorem Ke:MQ m (.int a) m' (.int b) Q=Q .sh (.bl (decide (a<b))):=rfl
theorem J0:MQ m (.str x) m' (.str y) Q=Q .sh (.bl (oz x y)):=rfl
theorem Jl:Pk m (.int a) m' (.int b) Q=Q .sh (.bl (decide (a<=b))):=rfl
theorem JL:Pk m (.str x) m' (.str y) Q=Q .sh (.bl (!oz y x)):=rfl
theorem Kp:sR m (.int a) m' (.int b) Q=Q .sh (.bl (decide (a=b))):=rfl
theorem JB:sR m (.str x) m' (.str y) Q=Q .sh (.bl (decide (x=y))):=rfl
theorem JT:sR m (.bl k) m' (.bl l) Q=Q .sh (.bl (decide (k=l))):=rfl
theorem Ls:sR m (.list xs) m' d Q=(cq 12 (.list xs)=true/\cq 12 d=true/\Q .sh (.bl (gu (.list xs) d))):=by cases d<;>rfl
theorem Lf:sR m (.tup xs) m' d Q=(cq 12 (.tup xs)=true/\cq 12 d=true/\Q .sh (.bl (gu (.tup xs) d))):=by cases d<;>rfl
theorem Mf:sR m .non m' d Q=(cq 12 .non=true/\cq 12 d=true/\Q .sh (.bl (gu .non d))):=by cases d<;>rfl
theorem Kh:sT m (.int a) m' (.int b) Q=Q .sh (.bl (!decide (a=b))):=rfl
theorem JP:sT m (.str x) m' (.str y) Q=Q .sh (.bl (!decide (x=y))):=rfl
theorem Ld:sT m (.list xs) m' d Q=(cq 12 (.list xs)=true/\cq 12 d=true/\Q .sh (.bl (!gu (.list xs) d))):=by cases d<;>rfl
theorem Ln:sT m (.tup xs) m' d Q=(cq 12 (.tup xs)=true/\cq 12 d=true/\Q .sh (.bl (!gu (.tup xs) d))):=by cases d<;>rfl
theorem Lq:sT m .non m' d Q=(cq 12 .non=true/\cq 12 d=true/\Q .sh (.bl (!gu .non d))):=by cases d<;>rfl
theorem Lx:AY neg m (.str x) m' (.str y) Q=Q .sh (.bl (if neg then !He x y else He x y)):=rfl
theorem Kw:AY neg m d m' (.list ys) Q=(dI d=true/\ys.all dI=true/\Q .sh (.bl (if neg then !inD d ys else inD d ys))):=rfl
theorem Mh:AY neg m d m' (.tup ys) Q=(dI d=true/\ys.all dI=true/\Q .sh (.bl (if neg then !inD d ys else inD d ys))):=rfl
theorem Mg:AY neg m d m' (.dK kvs) Q = ∃ k,d.key1=some k/\Q .sh (.bl (if neg then !(cE kvs k).isSome else (cE kvs k).isSome)):=rfl
theorem Mm:AY neg m (.tup xs) m' (.dT A4) Q = ∃ ks,dq xs=some ks/\Q .sh (.bl (if neg then !(cE A4 ks).isSome else (cE A4 ks).isSome)):=rfl
theorem LR:EW m (.int a) Q=Q .sh (.int (-a)):=rfl
theorem Lz:ic m (.list xs) m' (.int a) Q = ∃ d,eT xs a=some d/\bE d (f:=fun d=>Q (lh m d) d) ⟨⟩:=rfl
theorem K6:ic m (.tup xs) m' (.int a) Q = ∃ d,eT xs a=some d/\bE d (f:=fun d=>Q (lh m d) d) ⟨⟩:=rfl
theorem Kv:ic m (.str x) m' (.int a) Q = ∃ c,eT x.cps.toList a=some c/\Q .sh (.str ⟨#[c]⟩):=rfl
theorem Ks:ic m (.dK kvs) m' d Q = ∃ k d',d.key1=some k/\cE kvs k=some d'/\bE d' (f:=fun d'=>Q (lh m d') d') ⟨⟩:=rfl
theorem Mt:ic m (.dT A4) m' (.tup ys) Q = ∃ ks d',dq ys=some ks/\cE A4 ks=some d'/\bE d' (f:=fun d'=>Q (lh m d') d') ⟨⟩:=rfl
theorem JS:AZ m (.str x) Q=Q .sh (.int x.length):=rfl
theorem Jq:AZ m (.list xs) Q=Q .sh (.int xs.length):=rfl
theorem Jy:AZ m (.tup xs) Q=Q .sh (.int xs.length):=rfl
theorem Ko:AZ m (.dK kvs) Q=Q .sh (.int kvs.length):=rfl
theorem J7:AZ m (.dT A4) Q=Q .sh (.int A4.length):=rfl
theorem Mv{T:String}:R7 T m d Q=Q .sh (.bl (G0 d.ty T)):=rfl
theorem HD:uO m (.list xs) Q=((cv xs=true/\Q (.ow true) (.list xs))\/(m=.sh/\Q (.ow false) (.list xs))):=rfl
theorem Hn:uO m (.tup xs) Q=((cv xs=true/\Q (.ow true) (.list xs))\/(m=.sh/\Q (.ow false) (.list xs))):=rfl
theorem Ja:uO m (.dT A4) Q=Q (.ow true) (.list (A4.map fun kv=>.tup (kv.1.map rS))):=rfl
theorem cU':Ic te tl th ρ Q=te ρ fun m x=>tl ρ fun lo=>th ρ fun hi=>MR m x lo hi Q:=rfl
theorem G4:kh ρ O=O none:=rfl
def int'(d:D)(k:Int->Prop):Prop:=match d with
 |.int i=>k i
 |_=>False
theorem Kc:int' (.int a) k=k a:=rfl
theorem Jc:oW te ρ O=te ρ fun _ x=>bE x (f:=fun x=>int' x fun i=>O (some i)) ⟨⟩:=by unfold oW bE int';rfl
theorem K7{lo hi:Option Int}:MR m (.str x) lo hi Q=Q .sh (.str (pd x lo hi)):=rfl
theorem Mp{lo hi:Option Int}:MR m (.list xs) lo hi Q=((cv xs=true/\Q (.ow true) (.list (nX xs lo hi)))\/(m=.sh/\Q (.ow false) (.list (nX xs lo hi)))):=rfl
theorem Ly{lo hi:Option Int}:MR m (.tup xs) lo hi Q=(cv xs=true/\¬ (HT.bP xs.length 0 lo=0/\HT.bP xs.length xs.length hi=xs.length)/\Q .sh (.tup (nX xs lo hi))):=rfl
end
-- texts
def cV'(d:D)(k:Str->Prop):Prop:=match d with
 |.str x=>k x
 |_=>False
theorem JG:cV' (.str x) k=k x:=rfl
def rV(d:D)(k:List D->Prop):Prop:=match d with
 |.list x=>k x
 |_=>False
theorem Iz:rV (.list x) k=k x:=rfl
-- places
theorem cW'{P:Bool->D->(Bool->D->Env)->Prop}:vi i ρ P=bE ρ[i]? (f:=fun o=>match o with
 |some (some (.ow fl d))=>P fl d fun fl2 d2=>ρ.set i (some (.ow fl2 d2))
 |_=>False) ⟨⟩:=rfl
def Si(o:Option Bool)(k:Bool->Prop):Prop:=match o with
 |some b=>k b
 |none=>False
theorem GX:Si (some b) k=k b:=rfl
theorem Kq:E3 p te E ρ=p ρ fun fl d up=>bE d (f:=fun d=>rV d fun xs=>te ρ fun m x=>xs.length<sizeLine/\bE (lN fl m x) (f:=fun o=>Si o fun fl2=>E.nx (up fl2 (.list (xs++[x])))) ⟨⟩) ⟨⟩:=by unfold E3 bE rV Si;rfl
theorem Hc:sS ρ Q=Q (.ow true) (.dT []):=rfl
def dct(d y:D)(k1:List (Key × D)->Prop)(k2:List (List Key × D)->List D->Prop):Prop:=match d with
 |.dK kvs=>k1 kvs
 |.dT kvs=>match y with
  |.tup ys=>k2 kvs ys
  |_=>False
 |_=>False
theorem Mu:dct (.dK kvs) y k1 k2=k1 kvs:=rfl
theorem Mw:dct (.dT kvs) (.tup ys) k1 k2=k2 kvs ys:=rfl
theorem JD:vh p tk tv E ρ=tv ρ fun _ x=>p ρ fun fl d up=>tk ρ fun _ y=>x.flat=true/\bE d (f:=fun d=>dct d y (fun kvs=>∃ k,y.key1=some k/\kvs.length<sizeLine/\E.nx (up fl (.dK (i5 kvs k x)))) (fun kvs ys=>∃ ks,dq ys=some ks/\kvs.length<sizeLine/\E.nx (up fl (.dT (i5 kvs ks x))))) ⟨⟩:=by
 unfold vh bE dct
 rfl
-- loops
variable {LQ:List D->Prop}
theorem Mz:pT wi g b E ρ=wi ρ fun ds=>oY g b E ds ρ:=rfl
theorem Im:dJ te ρ LQ=te ρ fun m d=>iM m/\bE d (f:=fun d=>rV d LQ) ⟨⟩:=by unfold dJ bE rV;rfl
def M5(d:D)(k:List D->Prop):Prop:=match d with
 |.tup x=>k x
 |_=>False
theorem Jt:M5 (.tup x) k=k x:=rfl
theorem JN:wy te ρ LQ=te ρ fun m d=>iM m/\bE d (f:=fun d=>M5 d LQ) ⟨⟩:=by unfold wy bE M5;rfl
theorem Ht:gK te ρ LQ=te ρ fun _ d=>bE d (f:=fun d=>int' d fun j=>j<=16777216/\-(2 ^ 62)<=j/\LQ (pQ 0 j.toNat)) ⟨⟩:=by unfold gK bE int';rfl
theorem GZ:iM .sh=True:=rfl
theorem G3:iM (.ow b)=True:=rfl
theorem GK:iM .bo=False:=rfl
theorem gN_:gN i d ρ N=N (ρ.set i (some (.sh d))):=rfl
theorem gT_:gT n gs d ρ N=bE d (f:=fun d=>M5 d fun ds=>ds.length=n/\gs ds ρ N) ⟨⟩:=by unfold gT bE M5;rfl
theorem Km:cN g gs (d :: ds) ρ N=g d ρ fun bG=>gs ds bG N:=rfl
theorem KN:pG [] ρ N=N ρ:=by simp[pG]
theorem J_:jL wi g tt te tn ix ρ Q=wi ρ fun ds=>gP g tt te ds (BJ tn ix ρ) fun out=>Q (.ow true) (.list out):=rfl
end
theorem B{c:Bool}{f:Bool->Prop}{k:Kt f}(h1:c=true->f true)(h2:c=false->f false):bE c k:=by
 cases c with
 |true=>exact h1 rfl
 |false=>exact h2 rfl
theorem D{p:Prop}[Decidable p]{f:Bool->Prop}{k:Kt f}(h1:p->f true)(h2:¬ p->f false):bE (decide p) k :=
 B (fun h=>h1 (of_decide_eq_true h)) fun h=>h2 (of_decide_eq_false h)
theorem T{c:Bool}{f:Bool->Prop}{k:Kt f}(h:c=true)(h1:f true):bE c k:=by subst h;exact h1
theorem F{c:Bool}{f:Bool->Prop}{k:Kt f}(h:c=false)(h1:f false):bE c k:=by subst h;exact h1
end L2.Q.R
namespace L2
open PySem PySem.Spec PyProof.Rows
end L2
namespace L2.Q
open PySem PySem.Spec PyProof.Rows
section
variable {X:Cx}{K:PySem.W.Frag}{e e2:Expr}{pos p dz apos:Pos}
def xJ:W1:=fun _ x Q=>match x with
 |.list xs=>∃ ks b,xs=ks.map rS/\ks.length<=63/\(∀ k∈ks,px k=b)/\∀ ms:List Key,ms.Perm ks->(ms.Pairwise fun a b=>pj b a=false)->Q (.ow true) (.list (ms.map rS))
 |.dK kvs=>∃ b,kvs.length<=63/\(∀ p∈kvs,px p.1=b)/\∀ ms:List Key,ms.Perm (kvs.map (·.1))->(ms.Pairwise fun a b=>pj b a=false)->Q (.ow true) (.list (ms.map rS))
 |_=>False
theorem yC:A2 K (tO K) xJ:=by
 intro Hs H m x v As Qd Qv w rx h f
 have r1:=rx.rep w
 cases r1 with
 |list z s q =>
  obtain⟨ks,b,rfl,kD,hb,h⟩:=h
  obtain⟨e,ok⟩:=uT q
  subst e
  refine⟨ks,b,kD,.inl s,hb,fun ms l pm pw hl=>?_⟩
  exact f.lst w (by rw[bT,pm.length_eq];simpa using z) (jf fun k hk=>ok k (pm.mem_iff.mp hk)) (gA ms) (h ms pm pw) l hl
 |@dK a vs kvs kk e q =>
  obtain⟨b,kD,hb,h⟩:=h
  have hlen:=q.length
  rw[bT] at hlen
  have ez:(((kvs.map (·.1)).zip vs).map (·.1))=kvs.map (·.1):=by rw[NQ (by rw[bT];lia)]
  refine⟨kvs.map (·.1),b,by rw[bT];exact kD,.inr ⟨_,e,ez.symm⟩,fun k hk=>?_,fun ms l pm pw hl=>?_⟩
  ·obtain⟨p,hp,rfl⟩:=b9.mp hk
   exact hb p hp
  ·refine f.lst w (by rw[bT,pm.length_eq,bT];exact kk.1) (jf fun k hk=>?_) (gA ms) (h ms pm pw) l hl
   obtain⟨p,hp,rfl⟩:=b9.mp (pm.mem_iff.mp hk)
   exact kk.2 p hp
 |_=>exact h.elim
theorem Ek (hc:X.calm=true:=by rfl) (hK:X.K=K:=by rfl):kb X (.builtin "sorted") (tO K):=by subst hK;exact uK hc
section
variable {Hs H:Hp}{fl:Bool}
theorem aA.erase{ds:List D}{vs:List V}{As:List Addr}(k:Nat)(r:aA K Hs H fl ds vs As):∃ Bs,Bs.Sublist As/\aA K Hs H fl (ds.eraseIdx k) (vs.eraseIdx k) Bs:=by
 induction ds generalizing vs As k with
 |nil =>
  obtain⟨rfl,rfl⟩:=r.n0
  exact⟨[],List.Sublist.refl _,.nil⟩
 |cons d ds ih =>
  obtain⟨u,us,A,B,rfl,rfl,r,rs⟩:=r.c
  cases k with
  |zero=>exact⟨B,oo _ _,rs⟩
  |succ k =>
   obtain⟨C,sb,q⟩:=ih k rs
   exact⟨A++C,sb.append_left _,.cons r q⟩
theorem aA.cZ'{ds:List D}{vs:List V}{As:List Addr}{k:Nat}{d:D}(r:aA K Hs H fl ds vs As)(e:ds[k]? = some d)(hf:d.flat=true)(w:Wf Hs H):∃ v,vs[k]? = some v/\Rep K Hs d v:=by
 induction ds generalizing vs As k with
 |nil=>simp at e
 |cons x ds ih =>
  obtain⟨u,us,A,B,rfl,rfl,r,rs⟩:=r.c
  cases k with
  |zero =>
   simp at e
   subst e
   exact⟨_,rfl,(r.rep w.sub fun _ _=>rfl).eZ w.iO hf⟩
  |succ k=>exact ih (k:=k) rs (by simpa using e)
end
def Py(i:Nat)(p:WP):WS:=fun E ρ=>p ρ fun fl d up=>match d with
 |.list xs=>∃ y,xs[xs.length-1]? = some y/\y.flat=true/\E.nx ((up fl (.list xs.dropLast)).set i (some (.sh y)))
 |_=>False
theorem oN{α:Type}(xs:List α):xs.eraseIdx (xs.length-1)=xs.dropLast:=by
 rw[List.dropLast_eq_take,List.eraseIdx_eq_take_drop_succ]
 rw[List.drop_eq_nil_of_le (by lia),lI]
theorem GD{wp:WP}{i:Nat}{x:Str}{pos':Pos}(hN:X.N.Nodup)(hi:X.N[i]? = some x)(hx:Loc X.env.scope x)(ho:QP X K e wp)(hK:X.K=K:=by rfl)
  (ua:attributeBase e "pop" X.env (eval e X.env)=eval e X.env:=by rfl) (hline:(apos.endLine == dz.line)=true:=by rfl)
  (hs:swapsWith (.Call (.Attribute e "pop" apos) [] [] dz) (some (.Name x pos')) pos.line X.env=pure false:=by rfl) (hf:X.fn x=true\/X.env.scope.names.lookup x=some .local:=by first|exact .inl rfl|exact .inr rfl|assumption) :
  QS X K L (.Assign [.Name x pos'] (.Call (.Attribute e "pop" apos) [] [] dz) pos) (Py i wp):=by
 subst hK
 refine PS.imp (Og hN hi hx (aM' PySem.F.plainAttrs_list PySem.F.slot_list_pop PySem.F.type_list_pop aT' ho ua hline) hs hf) fun D σ H hx=>dg hx fun Hs ρ ae E sr h k1 k2 k3 k4=>?_
 refine⟨Hs,ρ,ae,_,sr,h,fun v H1 aC fl d up g1 p1 q1=>?_⟩
 cases d with
 |list xs =>
  obtain⟨y,ey,fy,q1⟩:=q1
  obtain⟨a,vs,A,ea,e2,_,rs,nd,hn,k⟩:=p1.put (eJ.refl g1.wf)
  subst ea
  obtain⟨nA,M4⟩:=ja.mp nd
  obtain⟨u,eu,ru⟩:=rs.cZ' ey fy g1.wf
  obtain⟨B,sb,rb⟩:=rs.erase (xs.length-1)
  have hl:=rs.length
  rw[oN] at rb
  rw[hl,oN] at rb
  rw[hl] at eu
  refine⟨.inl ⟨rfl,_,.inl (.inl e2)⟩,a,vs,u,rfl,rfl,e2,eu,?_⟩
  have hz:vs.dropLast.length<=sizeLine:=by
   rcases p1.ex with⟨fz,r,ne,_⟩
   cases r with
   |sh _ _=>exact absurd rfl ne
   |list hz e3 _=>rw[e2] at e3;cases e3;rw[List.length_dropLast];lia
  obtain⟨dv,fP⟩:=k fl _ _ B id rb hz (sb.nodup M4) (fun z=>nA (sb.subset z)) (fun x hx=>.inl (sb.subset hx))
  obtain⟨R9,_,R_⟩:=fP.Fz i ru
  exact k1 _ _ aC _ R9 g1.sh R_ q1
 |_=>exact q1.elim
end
abbrev WIL:=Env->(List D->Prop)->Prop
section
variable {X:Cx}{K:PySem.W.Frag}
theorem fD{i:Nat}{x:Str}{tg iter elt:Expr}{ifs:List Expr}{scope:Scope}{pos pos' OX:Pos}{wi:WI}{g:WG}{tc:WT}{te:WE}{tn cn:List Str}{ix:List Nat}(hN:X.N.Nodup)(w_:X.N[i]? = some x)(hx:Loc X.env.scope x)(hc:X.calm=true)
  (hi:Pm X K tg iter wi) (O:cD X scope tn cn ix)
  (hg:∀ C fp gi iA,QG (aO X scope C (tn++cn) fp gi iA) K tg g) (vT:∀ C fp gi iA,Sd (aO X scope C (tn++cn) fp gi iA) K ifs tc) (he:∀ C fp gi iA,QE (aO X scope C (tn++cn) fp gi iA) K elt te)
  (Rv:swapsWith (.ListComp elt [⟨tg,iter,ifs,0⟩] scope pos) (some (.Name x pos')) OX.line X.env=pure true:=by rfl)
  (hs:∀ x,foldedSetIterable iter X.env x=pure x:=by intro _;rfl) (hf:X.fn x=true\/X.env.scope.names.lookup x=some .local:=by first|exact .inl rfl|exact .inr rfl|assumption) :
  QS X K L (.Assign [.Name x pos'] (.ListComp elt [⟨tg,iter,ifs,0⟩] scope pos) OX) (fw i (jL wi g tc te tn.length ix)) :=
 PS.imp (uM hN w_ hx hc hi O hg vT he Rv hs hf) fun D σ H hx=>dg hx fun Hs ρ ae E sr h k1 k2 k3 k4=>by
  refine pJ ⟨Hs,ρ,ae,_,sr,h,fun v H1 aC m d As g1 r1 f1 q1=>?_⟩
  have q1:match asg m d with
   |some sl=>E.nx (ρ.set i (some sl))
   |none=>False:=q1
  cases e:asg m d with
  |none=>rw[e] at q1;exact q1.elim
  |some sl =>
   rw[e] at q1
   obtain⟨bS,s'⟩:=(sr.grow g1).set i r1 f1.1 (fun a ha=>⟨(f1.2 a ha).1,fun m=>(sr.sr.own a m).ne (f1.2 a ha).2⟩) e
   exact k1 _ H1 aC _ bS g1.sh s' q1
end
end L2.Q
namespace L2.Q.R
open PySem PySem.Spec PyProof.Rows L2.Q
section
variable {E:pY}{ρ:Env}{Q:Md->L2.Q.D->Prop}{te:WE}{i:Nat}{d:L2.Q.D}{p:WP}{a:Addr}{b:Bool}{LQ:List L2.Q.D->Prop}
theorem JW{f:Option Sl->Prop}{k:Kt f}:bE (some (.lk a b d)) k=f (some (.lk a b d)):=rfl
theorem JH{f:Option (Option Sl)->Prop}{k:Kt f}:bE (some (some (.lk a b d))) k=f (some (some (.lk a b d))):=rfl
theorem Hk:ML (some (some (.lk a b d))) Q=Q .bo d:=rfl
theorem L_:Py i p E ρ=p ρ fun fl d up=>bE d (f:=fun d=>rV d fun xs=>∃ y,xs[xs.length-1]? = some y/\y.flat=true/\bE y (f:=fun y=>E.nx ((up fl (.list xs.dropLast)).set i (some (.sh y)))) ⟨⟩) ⟨⟩:=by unfold Py bE rV;rfl
def da'(o:Option (Option Sl))(k:Bool->L2.Q.D->Prop):Prop:=match o with
 |some (some (.ow fl d))=>k fl d
 |_=>False
theorem Ie:da' (some (some (.ow b d))) k=k b d:=rfl
theorem HW:sJ te ρ LQ=te ρ fun m d=>iM m/\bE d (f:=fun d=>rV d fun xs=>LQ (lD xs)) ⟨⟩:=by unfold sJ bE rV;rfl
theorem Hj:j_ te ρ LQ=te ρ fun _ d=>bE d (f:=fun d=>rV d LQ) ⟨⟩:=by unfold j_ bE rV;rfl
def wpAt(d:L2.Q.D)(i:Int)(P:Bool->L2.Q.D->(Bool->L2.Q.D->Env)->Prop)(up:Bool->L2.Q.D->Env):Prop:=match d with
 |.list ds=>∃ j d',lS ds.length i=some j/\ds[j]? = some d'/\d'.flat=false/\bE d' (f:=fun d'=>P true d' fun fl2 d2=>up fl2 (.list (ds.set j d2))) ⟨⟩
 |.tup ds=>∃ j d',lS ds.length i=some j/\ds[j]? = some d'/\d'.flat=false/\bE d' (f:=fun d'=>P true d' fun fl2 d2=>up fl2 (.tup (ds.set j d2))) ⟨⟩
 |_=>False
section
variable {P:Bool->L2.Q.D->(Bool->L2.Q.D->Env)->Prop}{up:Bool->L2.Q.D->Env}{ds:List L2.Q.D}{j:Int}
theorem JK:wpAt (.list ds) j P up = ∃ k d',lS ds.length j=some k/\ds[k]? = some d'/\d'.flat=false/\bE d' (f:=fun d'=>P true d' fun fl2 d2=>up fl2 (.list (ds.set k d2))) ⟨⟩:=rfl
theorem JZ:wpAt (.tup ds) j P up = ∃ k d',lS ds.length j=some k/\ds[k]? = some d'/\d'.flat=false/\bE d' (f:=fun d'=>P true d' fun fl2 d2=>up fl2 (.tup (ds.set k d2))) ⟨⟩:=rfl
theorem Lb:Pt p te ρ P=p ρ fun fl d up=>te ρ fun _ y=>fl=true/\bE y (f:=fun y=>int' y fun i=>bE d (f:=fun d=>wpAt d i P up) ⟨⟩) ⟨⟩:=by
 unfold Pt bE int' wpAt
 rfl
end
end
end L2.Q.R
namespace L2
open PySem PySem.Spec PyProof.Rows Builtin Builtin.Str Builtin.Int
def oi(n:Int)(z:Str):Str:=⟨(List.replicate n.toNat z.cps.toList).flatten.toArray⟩
theorem lX(xs:Array Nat):∀ (k:Nat) (acc:Array Nat),(List.replicate k xs).foldl (· ++ ·) acc=acc++(List.replicate k xs.toList).flatten.toArray
 |0,acc=>by simp
 |k+1,acc=>by
  rw[tF,List.foldl_cons,lX xs k,tF,vk]
  apply Array.ext'
  simp
theorem Br(h:1<=n):Txt.mul z n=oi n z:=by
 unfold Txt.mul oi
 rw[if_neg (by lia)]
 by_cases h1:n=1
 ·subst h1
  simp
 ·by_cases h0:z.length=0
  ·have hz:z.cps = #[]:=Array.eq_empty_of_size_eq_zero h0
   rw[if_pos (by simp[h0])]
   obtain⟨c⟩:=z
   cases hz
   simp
  ·rw[if_neg (by simp[h1,h0]),lX]
   simp
def Fv:R2:=fun x y H Q=>match x,y with
 |.int n,.str z=>(1<=n/\n<=100/\z.length<=100)/\Q (.str (oi n z)) H
 |_,_=>False
end L2
namespace L2
open PySem PySem.Spec PyProof.Rows
end L2
namespace L2.Q
open PySem PySem.Spec PyProof.Rows
section
variable {X:Cx}{K:PySem.W.Frag}{e a b:Expr}{ta tb:WE}{p pos:Pos}{x:Str}{id:String}
theorem nG(n:Int)(z:Str):(oi n z).length=n.toNat*z.length:=by
 unfold oi Str.length
 rw[hX,len_rep,yy]
theorem Gk:bootBuiltins "min" = some (.builtin "min"):=by decide +kernel
def Bj:R2:=fun x y H Q=>match x,y with
 |.int i,.int j=>Q (.int (if j<i then j else i)) H
 |_,_=>False
def Cu:W2:=fun _ x _ y Q=>match x,y with
 |.int i,.int j=>Q .sh (.int (if j<i then j else i))
 |_,_=>False
theorem Bb:kr K Bj Cu:=by
 intro Hs H m x v As n y u Bs Qd Qv w rx ry h f
 have r1:=rx.rep w
 have r2:=ry.rep w
 cases r1 with
 |int i=>cases r2 with
  |int j=>exact f.sh w (.int _) h
  |_=>exact h.elim
 |_=>cases r2<;>exact h.elim
theorem Cd(hc:kb X (.builtin id) fun xs H Q=>∃ x y,xs=[x,y]/\r x y H Q)(br:kr K r f)(hg:Gl X x)(hm:X.mg x=none)(hv:bootBuiltins x=some (.builtin id))(ha:QE X K a ta)(hb:QE X K b tb)
  (hs:starEach [a,b] X.env=(false,eval a X.env) :: starEach [b] X.env:=by rfl) (nS:starEach [b] X.env=(false,eval b X.env) :: starEach [] X.env:=by rfl) (hn:x ≠ "__name__" := by decide) (gy:(x == ("__debug__" : Str))=false:=by decide)
  (ft:(backTo pos (starEach [b] X.env)).any (·.1)=false:=by rfl):QE X K (.Call (.Name x p) [a,b] [] pos) (aT f ta tb):=by
 refine PE.imp (Ou hc hg hm hv (nI ha (nI hb qB nS) hs) hn gy hs ft) fun σ H Qv h=>?_
 obtain⟨Hs,ρ,ae,Q,sr,h,fin⟩:=jC br σ H Qv h
 exact⟨Hs,ρ,ae,Q,sr,h,fun v H1 aC m x As g1 r1 f1 q1=>by
  obtain⟨ax,fN,dv,Q2,fP,h2,fin2⟩:=fin v H1 aC m x As g1 r1 f1 q1
  exact⟨ax,fN,dv,Q2,fP,h2,fun u H2 dQ n y Bs g2 r2 f2 q2=>⟨v,u,rfl,fin2 u H2 dQ n y Bs g2 r2 f2 q2⟩⟩⟩
theorem FQ (hc:X.calm=true:=by rfl):kb X (.builtin "min") fun xs H Q=>∃ x y,xs=[x,y]/\Bj x y H Q:=fun pins s σ H xs us Q I r cy=>by
 obtain⟨x,y,e,q⟩:=cy
 subst e
 unfold Bj at q
 split at q
 ·exact Z2 hc pins s σ H _ us Q I r ⟨_,_,rfl,q⟩
 ·exact q.elim
end
end L2.Q
namespace L2.Q.R
open PySem PySem.Spec PyProof.Rows L2.Q
section
variable {Q:Md->L2.Q.D->Prop}{m m':Md}{a b:Int}
theorem JR:Cu m (.int a) m' (.int b) Q=Q .sh (.int (if b<a then b else a)):=rfl
end
end L2.Q.R
namespace L2.Q
open PySem PySem.Spec PyProof.Rows
theorem gD(O:Nat->List D->Prop)(Iv:Env->Prop):∀ (xs:List D) (i:Nat) (pre:List D) (ρ:Env) (k:List D->Prop),Iv ρ->O i pre ->
  (∀ j x,xs[j]? = some x->∀ ρ,Iv ρ->∀ out,O (i+j) out->∀ N1:Env->Prop,∀ N2:Env->D->Prop,(∀ bG d,Iv bG->O (i+j+1) (out++[d])->N2 bG d)->g x ρ fun oa=>tc oa fun b=>if b=true then te oa fun m d=>MY m d/\N2 oa d else N1 oa) ->
  (∀ out,O (i+xs.length) (pre++out)->k out)->gP g tc te xs ρ k
 |[],i,pre,_,k,_,h0,_,h=>h [] (by simpa using h0)
 |x :: xs,i,pre,ρ,k,iv,h0,hs,h=>by
  refine hs 0 x rfl ρ iv pre h0 _ _ (fun bG d MZ o'=>?_)
  refine gD O Iv xs (i+1) (pre++[d]) bG _ MZ o' (fun j y hy ρ iv out ho=>?_) fun out ho=>?_
  ·have:=hs (j+1) y (by simpa using hy) ρ iv out (by rwa[show i+(j+1)=i+1+j by lia])
   rwa[show i+(j+1)+1=i+1+j+1 by lia] at this
  ·refine h (d :: out) ?_
   rw[NM] at ho
   rwa[tI,show i+(xs.length+1)=i+1+xs.length by lia]
end L2.Q
namespace TS
open PySem PySem.SetTable
def fk:Nat->Nat->Nat
 |0,s=>s
 |k+1,s=>5*fk k s+1
theorem Gv(a b s:Nat):fk (a+b) s=fk b (fk a s):=by
 induction b with
 |zero=>rfl
 |succ b ih=>show 5*fk (a+b) s+1=5*fk b (fk a s)+1;rw[ih]
theorem vd(n s:Nat):4*fk n s+1=5 ^ n*(4*s+1):=by
 induction n with
 |zero=>simp[fk]
 |succ n ih =>
  show 4*(5*fk n s+1)+1=5 ^ (n+1)*(4*s+1)
  rw[yn,N0 (5 ^ n) 5,FP,<- ih];lia
theorem yW(m:Nat):∃ q,5 ^ 2 ^ m=1+2 ^ (m+2)*q/\q % 2=1:=by
 induction m with
 |zero=>exact⟨1,by decide,by decide⟩
 |succ m ih =>
  obtain⟨q,e,o⟩:=ih
  refine⟨q+2 ^ (m+1)*(q*q),?_,?_⟩
  ·have hp:5 ^ 2 ^ (m+1)=(5 ^ 2 ^ m) ^ 2:=by rw[yn 2 m,Nat.pow_mul]
   rw[hp,e]
   clear e hp
   have e1:2 ^ (m+1+2)=2*2 ^ (m+2):=by rw[show m+1+2=(m+2)+1 by exact Nat.add_assoc ..,yn];lia
   have e2:2 ^ (m+2)=2*2 ^ (m+1):=by rw[show m+2=(m+1)+1 by rfl,yn];lia
   rw[e1,e2]
   generalize 2 ^ (m+1)=y
   rw[Nat.pow_two]
   simp only[Nat.mul_add,Nat.add_mul,KW,Nat.mul_one]
   have a1:2*y*q*(2*y*q)=2*(2*y)*(y*(q*q)):=by
    simp only[FP,Nat.mul_left_comm,N0]
   have a2:2*(2*y)*q=2*y*q+2*y*q:=by
    rw[FP 2 (2*y) q];lia
   rw[a1,a2];lia
  ·have:2 ^ (m+1)*(q*q) % 2=0:=by
    rw[yn,N0 (2 ^ m) 2,FP,Nat.mul_mod_right]
   lia
theorem Dm(m x:Nat):∃ r,fk (2 ^ m) x=x+2 ^ m*r/\r % 2=1:=by
 obtain⟨q,e,o⟩:=yW m
 have c:=vd (2 ^ m) x
 rw[e] at c
 refine⟨q*(4*x+1),?_,?_⟩
 ·have e2:2 ^ (m+2)=4*2 ^ m:=by rw[Nat.pow_add];lia
  rw[e2,Nat.add_mul,KW,FP,FP] at c
  lia
 ·rw[Nat.mul_mod,o,KW];lia
theorem Eg(m s e:Nat):∃ k,k+1<=2 ^ m/\fk k s % 2 ^ m=e % 2 ^ m:=by
 induction m with
 |zero=>exact⟨0,by decide,by simp[Nat.mod_one]⟩
 |succ m ih =>
  obtain⟨k,hk,h⟩:=ih
  have hp:2 ^ (m+1)=2 ^ m*2:=yn ..
  have WY:0<2 ^ m:=Nat.pow_pos (by decide)
  have key:∀ a:Nat,a % (2 ^ m*2)=a % 2 ^ m+2 ^ m*(a / 2 ^ m % 2):=fun a=>Nat.mod_mul
  by_cases c:fk k s / 2 ^ m % 2=e / 2 ^ m % 2
  ·exact⟨k,by walk_at "s4",by rw[hp,key,key,h,c]⟩
  ·refine⟨k+2 ^ m,by lia,?_⟩
   obtain⟨r,er,ro⟩:=Dm m (fk k s)
   rw[Gv,er,hp,key,key,Nat.add_mul_mod_self_left,h,Nat.add_mul_div_left _ _ WY]
   have:(fk k s / 2 ^ m+r) % 2=e / 2 ^ m % 2:=by lia
   rw[this]
def pV(M:Nat)(p:Probe):Probe :=
 if p.more>0 then { p with j:=p.j+1,more:=p.more-1 } else
 { p with j:=(leap M p.i p.perturb).1,more:=runEnd M (leap M p.i p.perturb).1-(leap M p.i p.perturb).1,i:=(leap M p.i p.perturb).1,perturb:=(leap M p.i p.perturb).2 }
def ps(M:Nat)(h:Int):Nat->Probe
 |0=>{ j:=bits h % (M+1),more:=runEnd M (bits h % (M+1))-bits h % (M+1),i:=bits h % (M+1),perturb:=bits h,dummy:=none }
 |n+1=>pV M (ps M h n)
def J(M:Nat)(h:Int)(n:Nat):Nat:=(ps M h n).j
theorem rM(h:i<=M):i<=runEnd M i/\runEnd M i<=M/\runEnd M i<=i+9:=by
 unfold runEnd;split<;>lia
theorem CV(M:Nat)(h:Int):∀ n,(ps M h n).i<=M/\(ps M h n).j+(ps M h n).more<=M/\(ps M h n).dummy=none/\(ps M h n).more<=9
 |0=>by
  have h0:bits h % (M+1)<=M:=NX (FU _ (N3 _))
  have:=rM h0
  exact⟨h0,by show bits h % (M+1)+(runEnd M (bits h % (M+1))-bits h % (M+1))<=M;lia,rfl,by show runEnd M (bits h % (M+1))-bits h % (M+1)<=9;lia⟩
 |n+1=>by
  obtain⟨a,b,c,d⟩:=CV M h n
  show(pV M (ps M h n)).i<=M/\_/\(pV M (ps M h n)).dummy=none/\_
  unfold pV
  by_cases hm:(ps M h n).more>0
  ·simp only[hm,if_true]
   show _/\(pV M (ps M h n)).j+(pV M (ps M h n)).more<=M/\_/\(pV M (ps M h n)).more<=9
   simp only[pV,hm,if_true]
   exact⟨a,by lia,c,by walk_at "s4"⟩
  ·simp only[hm,if_false]
   show _/\(pV M (ps M h n)).j+(pV M (ps M h n)).more<=M/\_/\(pV M (ps M h n)).more<=9
   simp only[pV,hm,if_false]
   have h0:(leap M (ps M h n).i (ps M h n).perturb).1<=M:=NX (FU _ (N3 _))
   have:=rM h0
   exact⟨h0,by lia,c,by lia⟩
theorem Sj(M:Nat)(h:Int)(n:Nat):J M h n<=M:=by
 have:=CV M h n
 unfold J;lia
theorem uW(M:Nat)(h:Int)(n:Nat):∀ r,r<=(ps M h n).more->ps M h (n+r)={ ps M h n with j:=(ps M h n).j+r,more:=(ps M h n).more-r }
 |0,_=>rfl
 |r+1,hr=>by
  show pV M (ps M h (n+r))=_
  rw[uW M h n r (by exact ot ‹_›)]
  unfold pV
  rw[if_pos (show(ps M h n).more-r>0 by lia)]
  simp only[Probe.mk.injEq,true_and,and_true]
  walk_at "s1"
def lp(M:Nat)(h:Int):Nat->Nat × Nat
 |0=>(bits h % (M+1),bits h)
 |k+1=>leap M (lp M h k).1 (lp M h k).2
def i7(M:Nat)(h:Int):Nat->Nat
 |0=>0
 |k+1=>i7 M h k+(runEnd M (lp M h k).1-(lp M h k).1)+1
theorem Cj(M:Nat)(h:Int):∀ k,(lp M h k).1<=M
 |0=>NX (FU _ (N3 _))
 |k+1=>NX (FU _ (N3 _))
theorem vZ(M:Nat)(h:Int):∀ k,i7 M h k<=10*k
 |0=>ck _
 |k+1=>by
  have:=vZ M h k
  have:=rM (Cj M h k)
  show i7 M h k+_+1<=_;lia
theorem tX(M:Nat)(h:Int):∀ k,ps M h (i7 M h k)={ j:=(lp M h k).1,more:=runEnd M (lp M h k).1-(lp M h k).1,i:=(lp M h k).1,perturb:=(lp M h k).2,dummy:=none }
 |0=>rfl
 |k+1=>by
  have ih:=tX M h k
  have e:=uW M h (i7 M h k) (runEnd M (lp M h k).1-(lp M h k).1) (by rw[ih];exact ck _)
  show pV M (ps M h (i7 M h k+(runEnd M (lp M h k).1-(lp M h k).1)))=_
  rw[e,ih]
  unfold pV
  rw[if_neg (by simp)]
  rfl
theorem zZ(M:Nat)(h:Int):∀ k,(lp M h k).2=bits h / 32 ^ k
 |0=>by simp[lp]
 |k+1=>by
  show(lp M h k).2 / 32=_
  rw[zZ M h k,Nat.div_div_eq_div_mul,yn]
theorem Bf(h:Int):bits h<2 ^ 64:=by
 unfold bits
 have h1:=D6 h (show(2 ^ 64:Int)≠0 by decide)
 have h2:=FX h (show(0:Int)<2 ^ 64 by decide)
 lia
theorem uR(M:Nat)(h:Int):∀ k,(lp M h (13+k)).1 % (M+1)=fk k (lp M h 13).1 % (M+1)
 |0=>rfl
 |k+1=>by
  have e:(lp M h (13+k)).2=0:=by
   rw[zZ]
   refine Nat.div_eq_of_lt (kN (Bf h) ?_)
   exact gS (by decide:2 ^ 64<=32 ^ 13) (Nat.pow_le_pow_right (by decide) (by exact Qp _ _))
  show(leap M (lp M h (13+k)).1 (lp M h (13+k)).2).1 % (M+1)=_
  unfold leap
  rw[e]
  show((lp M h (13+k)).1*5+1+0 / 32) % (M+1) % (M+1)=(5*fk k (lp M h 13).1+1) % (M+1)
  rw[Nat.mod_mod,Nat.zero_div,Nat.add_zero,Nat.add_mod,Nat.mul_mod,uR M h k,<- Nat.mul_mod,<- Nat.add_mod,N0]
theorem cover(hM:M+1=2 ^ m)(h:Int)(he:e<=M):∃ k,k<=M+13/\(lp M h k).1=e:=by
 obtain⟨k,hk,q⟩:=Eg m (lp M h 13).1 e
 rw[<- hM] at hk q
 refine⟨13+k,by lia,?_⟩
 have:=uR M h k
 rw[q] at this
 rwa[Nat.mod_eq_of_lt (BU (Cj M h _)),Nat.mod_eq_of_lt (BU he)] at this
theorem Gh(M:Nat)(h:Int)(k:Nat):J M h (i7 M h k)=(lp M h k).1:=by unfold J;rw[tX]
theorem uo(hM:M+1=2 ^ m)(h:Int)(iX:Nat->Bool)(he:e<=M)(hf:iX e=false):∃ n,n<=10*(M+13)/\iX (J M h n)=false/\∀ k<n,iX (J M h k)=true:=by
 obtain⟨k,hk,q⟩:=cover hM h he
 have hb:=vZ M h k
 have hB:iX (J M h (i7 M h k))=false:=by rw[Gh,q];exact hf
 generalize i7 M h k=b at hb hB
 have go:∀ b,iX (J M h b)=false->∃ n,n<=b/\iX (J M h n)=false/\∀ k<n,iX (J M h k)=true:=by
  intro b
  induction b using Nat.strongRecOn with
  |ind b ih =>
   intro hB
   by_cases c:∃ k,k<b/\iX (J M h k)=false
   ·obtain⟨k,h1,h2⟩:=c
    obtain⟨n,a1,a2,a3⟩:=ih k h1 h2
    exact⟨n,by lia,a2,a3⟩
   ·refine⟨b,ck _,hB,fun k hk=>?_⟩
    cases z:iX (J M h k) with
    |true=>rfl
    |false=>exact absurd ⟨k,hk,z⟩ c
 obtain⟨n,a1,a2,a3⟩:=go b hB
 exact⟨n,by lia,a2,a3⟩
def Up(xs:Array Nat):Prop:=∀ i j:Nat,i<j->j<xs.size->xs.getD i 0<xs.getD j 0
theorem tW{xs:Array Nat}{i d d':Nat}(h:i<xs.size):xs.getD i d=xs.getD i d':=by simp[Array.getD,h]
theorem nJ{xs:Array Nat}(U:Up xs)(j:Nat):∀ (fuel lo hi:Nat),hi-lo<=fuel->lo<=hi->hi<=xs.size->(∀ i<lo,xs.getD i 0<j)->(∀ i,hi<=i->i<xs.size->j<=xs.getD i 0) ->
  below.go xs j fuel lo hi<=xs.size/\(∀ i<below.go xs j fuel lo hi,xs.getD i 0<j)/\(∀ i,below.go xs j fuel lo hi<=i->i<xs.size->j<=xs.getD i 0)
 |0,lo,hi,hf,h1,h2,h3,h4=>by
  obtain rfl:lo=hi:=by lia
  exact⟨h2,h3,h4⟩
 |fuel+1,lo,hi,hf,h1,h2,h3,h4=>by
  unfold below.go
  by_cases c:lo<hi
  ·rw[if_pos c]
   dsimp only
   have hm:(lo+hi) / 2<xs.size:=by lia
   by_cases d:xs.getD ((lo+hi) / 2) j<j
   ·rw[if_pos d]
    rw[tW (d':=0) hm] at d
    refine nJ U j fuel _ _ (by lia) (by lia) h2 (fun i ki=>?_) h4
    by_cases e:i=(lo+hi) / 2
    ·rw[e];exact d
    ·exact Qr (U i _ (by lia) hm) d
   ·rw[if_neg d]
    rw[tW (d':=0) hm] at d
    refine nJ U j fuel _ _ (by lia) (by lia) (by exact ot ‹_›) h3 fun i ki hs=>?_
    by_cases e:i=(lo+hi) / 2
    ·rw[e];exact FL ‹_›
    ·have:=U ((lo+hi) / 2) i (by lia) hs;lia
  ·rw[if_neg c]
   obtain rfl:lo=hi:=by lia
   exact⟨h2,h3,h4⟩
theorem aY(U:Up xs)(j:Nat):below xs j<=xs.size/\(∀ i<below xs j,xs.getD i 0<j)/\(∀ i,below xs j<=i->i<xs.size->j<=xs.getD i 0) :=
 nJ U j xs.size 0 xs.size (by lia) (by lia) (ck _) (fun i h=>absurd h (DZ i)) fun i h1 h2=>by lia
theorem below_at(U:Up xs)(h:i<xs.size):below xs (xs.getD i 0)=i:=by
 obtain⟨a,b,c⟩:=aY U (xs.getD i 0)
 by_cases h1:below xs (xs.getD i 0)<i
 ·have:=c _ (ck _) (by lia)
  have:=U _ i h1 h
  lia
 ·by_cases h2:i<below xs (xs.getD i 0)
  ·have:=b i h2;lia
  ·lia
theorem uF(U:Up xs)(h:i<xs.size):below xs (xs.getD i 0+1)=i+1:=by
 obtain⟨a,b,c⟩:=aY U (xs.getD i 0+1)
 by_cases h1:below xs (xs.getD i 0+1)<i+1
 ·have:=c i (by lia) h;lia
 ·by_cases h2:i+1<below xs (xs.getD i 0+1)
  ·have:=b (i+1) h2
   have:=U i (i+1) (by lia) (by lia);lia
  ·lia
def taken(xs:Array Nat)(j:Nat):Bool:=xs[below xs j]? == some j
theorem wH{xs:Array Nat}{i j:Nat}(h:xs[i]? = some j):i<xs.size/\xs.getD i 0=j:=by
 obtain⟨h1,h2⟩:=N6.mp h
 exact⟨h1,by simp[Array.getD,h1,h2]⟩
theorem xg{xs:Array Nat}{i:Nat}(h:i<xs.size):xs[i]? = some (xs.getD i 0):=by simp[Array.getD,h]
theorem eQ{xs:Array Nat}(U:Up xs){j:Nat}:taken xs j=true↔∃ i,i<xs.size/\xs.getD i 0=j:=by
 unfold taken
 rw[beq_iff_eq]
 constructor
 ·intro h;exact⟨_,wH h⟩
 ·rintro⟨i,h,rfl⟩
  rw[below_at U h]
  exact xg h
theorem je{xs:Array Nat}(U:Up xs){j:Nat}(h:taken xs j=true):below xs j<xs.size/\xs.getD (below xs j) 0=j:=by
 unfold taken at h
 rw[beq_iff_eq] at h
 exact wH h
theorem cu(xs:Array α)(x:α)(h:p<=xs.size):(insertAt xs p x).size=xs.size+1:=by
 unfold insertAt
 simp
 lia
theorem Oq(xs:Array α)(x:α)(h:p<=xs.size)(i:Nat):(insertAt xs p x)[i]? = if i<p then xs[i]? else if i=p then some x else xs[i-1]? := by
 unfold insertAt
 have hs:((xs.extract 0 p).push x).size=p+1:=by simp;lia
 by_cases h1:i<p
 ·rw[if_pos h1,Array.getElem?_append_left (by lia),Array.getElem?_push,if_neg (by simp;lia),Array.getElem?_extract]
  rw[if_pos (by lia)];simp
 ·rw[if_neg h1]
  by_cases h2:i=p
  ·rw[if_pos h2,Array.getElem?_append_left (by lia),Array.getElem?_push,if_pos (by simp;lia)]
  ·rw[if_neg h2,Array.getElem?_append_right (by lia),hs,Array.getElem?_extract]
   by_cases h3:i-(p+1)<min xs.size xs.size-p
   ·rw[if_pos h3]
    congr 1;lia
   ·rw[if_neg h3,FV (by lia)]
theorem cQ(h:p<=xs.size)(i:Nat):(insertAt xs p x).getD i 0=if i<p then xs.getD i 0 else if i=p then x else xs.getD (i-1) 0:=by
 have e:∀ (ys:Array Nat) (k:Nat),ys.getD k 0=ys[k]?.getD 0:=fun ys k=>by
  simp[B4]
 rw[e,Oq xs x h]
 split
 ·rw[e]
 ·split
  ·rfl
  ·rw[e]
theorem z6(U:Up xs)(hj:taken xs j=false):Up (insertAt xs (below xs j) j):=by
 obtain⟨a,b,c⟩:=aY U j
 have ne:∀ i,i<xs.size->xs.getD i 0≠j:=fun i hi e=>by
  have:=(eQ U (j:=j)).mpr ⟨i,hi,e⟩
  rw[hj] at this;cases this
 intro i k hik hk
 rw[cu xs j a] at hk
 rw[cQ a,cQ a]
 by_cases h1:k<below xs j
 ·rw[if_pos (by lia),if_pos h1];exact U i k hik (by lia)
 ·rw[if_neg h1]
  by_cases h2:k=below xs j
  ·rw[if_pos h2,if_pos (by lia)];exact b i (by lia)
  ·rw[if_neg h2]
   by_cases h3:i<below xs j
   ·rw[if_pos h3];exact U i (k-1) (by lia) (by lia)
   ·rw[if_neg h3]
    by_cases h4:i=below xs j
    ·rw[if_pos h4]
     have:=c (k-1) (by lia) (by lia)
     have:=ne (k-1) (by lia)
     lia
    ·rw[if_neg h4];exact U (i-1) (k-1) (by lia) (by lia)
theorem vA(U:Up xs)(hj:taken xs j=false):taken (insertAt xs (below xs j) j) k=(decide (k=j) || taken xs k):=by
 have a:=(aY U j).1
 have U':=z6 U hj
 apply yv.mpr
 rw[eQ U',Bool.or_eq_true,decide_eq_true_eq,eQ U]
 rw[cu xs j a]
 constructor
 ·rintro⟨i,hi,e⟩
  rw[cQ a] at e
  by_cases h1:i<below xs j
  ·rw[if_pos h1] at e;exact .inr ⟨i,by lia,e⟩
  ·rw[if_neg h1] at e
   by_cases h2:i=below xs j
   ·rw[if_pos h2] at e;exact .inl e.symm
   ·rw[if_neg h2] at e;exact .inr ⟨i-1,by lia,e⟩
 ·rintro(rfl|⟨i,hi,e⟩)
  ·exact⟨below xs k,by lia,by rw[cQ a,if_neg (by lia),if_pos rfl]⟩
  ·by_cases h1:i<below xs j
   ·exact⟨i,by lia,by rw[cQ a,if_pos h1];exact e⟩
   ·exact⟨i+1,by lia,by rw[cQ a,if_neg (by lia),if_neg (by lia)];exact e⟩
def Reach(M:Nat)(place:Array Nat)(h:Int)(j:Nat):Prop:=∃ n,n<=10*(M+13)/\J M h n=j/\∀ k<n,taken place (J M h k)=true
structure TI{α:Type}(t:SetTable)(es:Array (Int × α)):Prop where
 pw:∃ m,t.mask+1=2 ^ m/\3<=m
 sz:t.place.size=es.size
 up:Up t.place
 le:∀ i,i<t.place.size->t.place.getD i 0<=t.mask
 dm:t.dummies = #[]
 few:es.size*5<t.mask*3
 path:∀ i h x,es[i]? = some (h,x)->Reach t.mask t.place h (t.place.getD i 0)
section
variable {α:Type}{t:SetTable}{es:Array (Int × α)}
theorem TI.slot(T:TI t es)(j:Nat):t.slot j=if taken t.place j then .live (below t.place j) else .empty:=by
 unfold SetTable.slot taken
 dsimp only
 split
 ·rfl
 ·have:has t.dummies j=false:=by rw[T.dm];rfl
  rw[this];rfl
theorem TI.fits(T:TI t es):t.fits es.size=true:=by
 have:=T.few
 simp only[SetTable.fits,fill,T.dm,T.sz,kQ,beq_iff_eq,decide_eq_true_eq,true_and]
 simp;lia
theorem TI.odd(T:TI t es):t.gaveWay=false:=by
 obtain⟨m,h,h3⟩:=T.pw
 unfold SetTable.gaveWay
 rw[beq_eq_false_iff_ne]
 have:2 ^ m=2*2 ^ (m-1):=by
  rw[show m=(m-1)+1 by lia,yn];simp;lia
 lia
theorem TI.free(T:TI t es):∃ e,e<=t.mask/\taken t.place e=false:=by
 have hf:=T.few
 have hs:=T.sz
 by_cases c:∃ e,e<=t.mask/\taken t.place e=false
 ·exact c
 ·exfalso
  have all:∀ e,e<=t.mask->taken t.place e=true:=fun e he=>by
   cases z:taken t.place e with
   |true=>rfl
   |false=>exact absurd ⟨e,he,z⟩ c
  -- slot e stands at place at most e
  have go:∀ e,e<=t.mask->e<=below t.place e:=by
   intro e
   induction e with
   |zero=>intro _;exact gV _
   |succ e ih =>
    intro he
    have h1:=je T.up (all e (by exact ot ‹_›))
    have h2:=je T.up (all (e+1) he)
    have:=ih (by exact ot ‹_›)
    obtain⟨_,b,c⟩:=aY T.up (e+1)
    by_cases z:below t.place e<below t.place (e+1)
    ·walk_at "s1"
    ·have:=c (below t.place e) (by exact FL ‹_›) h1.1
     lia
  have:=go t.mask (ck _)
  have:=(je T.up (all t.mask (ck _))).1
  lia
theorem TI.put(T:TI t es)(hj:j<=t.mask)(hn:taken t.place j=false)(hr:Reach t.mask t.place h j)(ht:t'.mask=t.mask)(hp:t'.place=insertAt t.place (below t.place j) j)(hd:t'.dummies = #[])
  (hf:(es.size+1)*5<t.mask*3):TI t' (insertAt es (below t.place j) (h,x)):=by
 have a:=(aY T.up j).1
 have a':below t.place j<=es.size:=by rw[<- T.sz];exact a
 refine⟨by rw[ht];exact T.pw,by rw[hp,cu _ _ a,cu _ _ a',T.sz],by rw[hp];exact z6 T.up hn,fun i hi=>?_,hd,by rw[cu _ _ a',ht];exact hf,fun i g y e=>?_⟩
 ·rw[hp,cu _ _ a] at hi
  rw[hp,cQ a,ht]
  split
  ·exact T.le i (by lia)
  ·split
   ·exact hj
   ·exact T.le (i-1) (by lia)
 ·have mono:∀ {g:Int} {k:Nat},Reach t.mask t.place g k->Reach t'.mask t'.place g k:=fun {g k} ⟨n,h1,h2,h3⟩=>⟨n,by rw[ht];exact h1,by rw[ht];exact h2,fun q hq=>by
   rw[hp,ht,vA T.up hn,h3 q hq,Bool.or_true]⟩
  rw[Oq es _ a'] at e
  rw[hp,cQ a,<- hp]
  by_cases h1:i<below t.place j
  ·rw[if_pos h1] at e ⊢
   exact mono (T.path i g y e)
  ·rw[if_neg h1] at e ⊢
   by_cases h2:i=below t.place j
   ·rw[if_pos h2] at e ⊢
    cases e
    exact mono hr
   ·rw[if_neg h2] at e ⊢
    exact mono (T.path (i-1) g y e)
end
theorem cF[DecidableEq α]:∀ {l m:List α},l.Nodup->(∀ x∈l,x∈m)->l.length<=m.length
 |[],_,_,_=>gV _
 |x :: l,m,nd,h=>by
  rw[ja] at nd
  have hx:=h x bX
  have:=cF (l:=l) (m:=m.erase x) nd.2 fun y hy=>(List.mem_erase_of_ne (fun e=>nd.1 (by rw[<- e];exact hy))).mpr (h y (b5 _ hy))
  rw[List.length_erase_of_mem hx] at this
  have:0<m.length:=List.length_pos_of_mem hx
  simp only[tI];lia
def iX(owner:Array (Option Nat))(j:Nat):Bool:=(owner.getD j (some 0)).isSome
theorem pW(h:Int)(owner:Array (Option Nat)):∀ (fuel k:Nat),(∀ q<i7 M h k,iX owner (J M h q)=true)->(∃ K,k<=K/\K<k+fuel/\K<=M+13/\iX owner (lp M h K).1=false) ->
  ∃ j n,layClean.free M owner fuel (lp M h k).1 (lp M h k).2=some j/\J M h n=j/\n<=10*(M+13)/\iX owner j=false/\∀ q<n,iX owner (J M h q)=true
 |0,k,_,⟨K,h1,h2,_⟩=>by lia
 |fuel+1,k,hq,⟨K,h1,h2,h3,h4⟩=>by
  have Sn:∀ r,r<=runEnd M (lp M h k).1-(lp M h k).1->J M h (i7 M h k+r)=(lp M h k).1+r:=fun r hr=>by
   unfold J
   rw[uW M h (i7 M h k) r (by rw[tX];exact hr),tX]
  have hle:=rM (Cj M h k)
  have e:∀ r,(owner.getD ((lp M h k).1+r) (some 0)).isNone = !iX owner ((lp M h k).1+r):=fun r=>by
   unfold iX;cases owner.getD ((lp M h k).1+r) (some 0)<;>rfl
  unfold layClean.free
  cases hf:(List.range (runEnd M (lp M h k).1+1-(lp M h k).1)).find? fun r=>(owner.getD ((lp M h k).1+r) (some 0)).isNone with
  |some r =>
   obtain⟨a1,a2,a3⟩:=List.find?_range_eq_some.mp hf
   have a2:r<runEnd M (lp M h k).1+1-(lp M h k).1:=by simpa using a2
   rw[e] at a1
   have a1:iX owner ((lp M h k).1+r)=false:=by simpa using a1
   have occs:∀ q<i7 M h k+r,iX owner (J M h q)=true:=fun q Pz=>by
    by_cases z:q<i7 M h k
    ·exact hq q z
    ·have:=a3 (q-i7 M h k) (by lia)
     rw[e] at this
     have hj:=Sn (q-i7 M h k) (by lia)
     rw[show i7 M h k+(q-i7 M h k)=q by lia] at hj
     rw[hj]
     simpa using this
   refine⟨_,i7 M h k+r,rfl,Sn r (by lia),?_,a1,occs⟩
   have hb:=vZ M h K
   by_cases z:i7 M h k+r<=i7 M h K
   ·lia
   ·have:=occs (i7 M h K) (by lia)
    rw[Gh,h4] at this;cases this
  |none =>
   have hn:=List.find?_eq_none.mp hf
   have WZ:∀ r,r<=runEnd M (lp M h k).1-(lp M h k).1->iX owner ((lp M h k).1+r)=true:=fun r hr=>by
    have:=hn r (by simp;lia)
    rw[e] at this
    simpa using this
   dsimp only
   have hK:K≠k:=fun z=>by
    subst z
    have:=WZ 0 (gV _)
    rw[Nat.add_zero,h4] at this;cases this
   refine pW h owner fuel (k+1) (fun q Pz=>?_) ⟨K,by lia,by lia,h3,h4⟩
   by_cases z:q<i7 M h k
   ·exact hq q z
   ·have Pz:q<i7 M h k+(runEnd M (lp M h k).1-(lp M h k).1)+1:=Pz
    have hj:=Sn (q-i7 M h k) (by lia)
    rw[show i7 M h k+(q-i7 M h k)=q by lia] at hj
    rw[hj]
    exact WZ _ (by lia)
structure OI(M:Nat)(hs:List Int)(owner:Array (Option Nat)):Prop where
 sz:owner.size=M+1
 lt:∀ j v:Nat,owner[j]? = some (some v)->v<hs.length
 inj:∀ j j' v:Nat,owner[j]? = some (some v)->owner[j']? = some (some v)->j=j'
 all:∀ v:Nat,v<hs.length->∃ j:Nat,owner[j]? = some (some v)
 path:∀ j v:Nat,owner[j]? = some (some v)->∃ n,n<=10*(M+13)/\J M (hs.getD v 0) n=j/\∀ q<n,iX owner (J M (hs.getD v 0) q)=true
theorem qT(h:j<owner.size):iX owner j=true↔∃ v,owner[j]? = some (some v):=by
 unfold iX
 rw[wm h]
 simp only[Array.getD,h,dite_true,Option.some.injEq]
 cases hh:owner[j] with
 |none =>
  have:owner.getInternal j h=none:=hh
  rw[this];simp
 |some v =>
  have:owner.getInternal j h=some v:=hh
  rw[this];simp
theorem OI.free(O:OI M hs owner)(hl:hs.length<=M):∃ e,e<=M/\iX owner e=false:=by
 by_cases c:∃ e,e<=M/\iX owner e=false
 ·exact c
 ·exfalso
  have all:∀ e,e<=M->∃ v,owner[e]? = some (some v):=fun e he=>by
   refine(qT (by rw[O.sz];lia)).mp ?_
   cases z:iX owner e with
   |true=>rfl
   |false=>exact absurd ⟨e,he,z⟩ c
  have nd:((List.range (M+1)).map fun j=>(owner.getD j none).getD 0).Nodup:=by
   rw[ND,ly]
   refine List.Pairwise.imp_of_mem ?_ (ND.mp List.nodup_range)
   intro a b ha hb fS z
   obtain⟨va,ea⟩:=all a (by have:=sD.mp ha;lia)
   obtain⟨vb,eb⟩:=all b (by have:=sD.mp hb;lia)
   rw[B4,B4,ea,eb] at z
   have z:va=vb:=z
   subst z
   exact fS (O.inj _ _ _ ea eb)
  have:=cF (m:=List.range hs.length) nd fun x hx=>by
   obtain⟨j,hj,rfl⟩:=b9.mp hx
   obtain⟨v,e⟩:=all j (by have:=sD.mp hj;lia)
   rw[B4,e]
   exact sD.mpr (O.lt _ _ e)
  simp at this
  lia
theorem OI.lay(hM:M+1=2 ^ m)(O:OI M hs owner)(hl:hs.length<=M)(h:Int) :
  ∃ j,layClean.free M owner (turns M) (bits h % (M+1)) (bits h)=some j/\OI M (hs++[h]) (owner.setIfInBounds j (some hs.length)):=by
 obtain⟨e,he,hf⟩:=O.free hl
 obtain⟨K,hK,hKe⟩:=cover hM h he
 obtain⟨j,n,e1,e2,e3,e4,e5⟩:=pW h owner (turns M) 0 (fun q hq=>absurd hq (DZ q)) ⟨K,gV _,by unfold turns;lia,hK,by rw[hKe];exact hf⟩
 refine⟨j,e1,?_⟩
 have hj:j<owner.size:=by rw[O.sz,<- e2];exact BU (Sj M h n)
 have get:∀ i,(owner.setIfInBounds j (some hs.length))[i]? = if j=i then some (some hs.length) else owner[i]? := fun i=>by
  rw[Array.getElem?_setIfInBounds]
  by_cases z:j=i
  ·subst z;simp[hj]
  ·simp[z]
 have oc:∀ i,iX owner i=true->iX (owner.setIfInBounds j (some hs.length)) i=true:=fun i hi=>by
  unfold iX at hi ⊢
  rw[B4] at hi ⊢
  rw[get]
  split
  ·rfl
  ·exact hi
 have fS:∀ v,owner[j]?≠some (some v):=fun v z=>by
  have:=(qT hj).mpr ⟨v,z⟩
  rw[e4] at this;cases this
 refine⟨by rw[Array.size_setIfInBounds];exact O.sz,fun i v z=>?_,fun i i' v z z'=>?_,fun v hv=>?_,fun i v z=>?_⟩
 ·rw[get] at z
  split at z
  ·cases z;simp
  ·have:=O.lt i v z;simp;lia
 ·rw[get] at z z'
  split at z
  ·cases z
   split at z'
   ·lia
   ·exact absurd (O.lt _ _ z') (B3 _)
  ·split at z'
   ·cases z'
    exact absurd (O.lt _ _ z) (B3 _)
   ·exact O.inj i i' v z z'
 ·simp at hv
  by_cases c:v=hs.length
  ·exact⟨j,by rw[get,if_pos rfl,c]⟩
  ·obtain⟨i,hi⟩:=O.all v (by lia)
   refine⟨i,?_⟩
   rw[get,if_neg (fun z=>fS v (by rw[z];exact hi))]
   exact hi
 ·rw[get] at z
  split at z
  ·rename_i Sq
   cases z
   refine⟨n,e3,?_,fun q hq=>oc _ ?_⟩
   ·rw[JY,BM (ck _)]
    simp[e2,Sq]
   ·have:=e5 q hq
    rw[JY,BM (ck _)]
    simpa using this
  ·have hv:=O.lt i v z
   obtain⟨n',a1,a2,a3⟩:=O.path i v z
   have eg:(hs++[h]).getD v 0=hs.getD v 0:=by
    rw[JY,JY,FE hv]
   rw[eg]
   exact⟨n',a1,a2,fun q hq=>oc _ (a3 q hq)⟩
theorem OI.nil(M:Nat):OI M [] (Array.replicate (M+1) none):=by
 have no:∀ (j v:Nat),¬ (Array.replicate (M+1) (none:Option Nat))[j]? = some (some v):=fun j v z=>by
  rw[Array.getElem?_replicate] at z
  split at z<;>cases z
 exact⟨by simp,fun j v z=>absurd z (no j v),fun j j' v z _=>absurd z (no j v),fun v hv=>absurd hv (DZ v),fun j v z=>absurd z (no j v)⟩
theorem Dj(hM:M+1=2 ^ m)(hs:Array Int)(hl:hs.size<=M):∃ owner,layClean M hs=some owner/\OI M hs.toList owner:=by
 have go:∀ (l pre:List Int) (owner:Array (Option Nat)),OI M pre owner->pre.length+l.length<=M->∃ W0,l.foldl (fun acc h=>do
   let (owner,k) ← acc
   let j ← layClean.free M owner (turns M) (bits h % (M+1)) (bits h)
   pure (owner.setIfInBounds j (some k),k+1)) (some (owner,pre.length))=some (W0,pre.length+l.length)/\OI M (pre++l) W0:=by
  intro l
  induction l with
  |nil=>intro pre owner O _;exact⟨owner,rfl,by rw[lI];exact O⟩
  |cons h l ih =>
   intro pre owner O hz
   rw[tI] at hz
   obtain⟨j,e,O'⟩:=O.lay hM (by lia) h
   obtain⟨o2,e2,O2⟩:=ih (pre++[h]) _ O' (by simp;lia)
   refine⟨o2,?_,by rw[NM] at O2;exact O2⟩
   rw[List.foldl_cons]
   have:(do
    let (owner,k) ← (some (owner,pre.length):Option (Array (Option Nat) × Nat))
    let j ← layClean.free M owner (turns M) (bits h % (M+1)) (bits h)
    pure (owner.setIfInBounds j (some k),k+1))=some (owner.setIfInBounds j (some pre.length),(pre++[h]).length):=by
    simp[e]
   rw[this,e2]
   simp;lia
 obtain⟨o,e,O⟩:=go hs.toList [] _ (OI.nil M) (by simpa using hl)
 refine⟨o,?_,by simpa using O⟩
 unfold layClean
 rw[<- Array.foldl_toList]
 have e':=e
 simp only[List.length_nil] at e'
 rw[e']
 rfl
theorem iy:∀ (fuel a:Nat),3<=a->n<2 ^ (a+fuel)->∃ b,3<=b/\sizeAbove.go n fuel (2 ^ a)=2 ^ b/\n<2 ^ b/\(2 ^ b<=2*n\/b=a)
 |0,a,ha,h=>⟨a,ha,rfl,by simpa using h,.inr rfl⟩
 |fuel+1,a,ha,h=>by
  unfold sizeAbove.go
  by_cases c:2 ^ a<=n
  ·rw[if_pos c]
   obtain⟨b,h1,h2,h3,h4⟩:=iy fuel (a+1) (by lia) (by rw[show a+1+fuel=a+(fuel+1) by lia];exact h)
   refine⟨b,h1,by rw[yn] at h2;exact h2,h3,?_⟩
   rcases h4 with h4|h4
   ·exact .inl h4
   ·left
    rw[h4,yn];lia
  ·rw[if_neg c]
   exact⟨a,ha,rfl,by lia,.inr rfl⟩
theorem kY(h:n<2 ^ 60):∃ b,3<=b/\sizeAbove n=2 ^ b/\n<2 ^ b/\(2 ^ b<=2*n\/b=3) :=
 iy 64 3 (ck _) (Qr h (by decide))
section
variable {α:Type}
def bu(M:Nat)(owner:Array (Option Nat)):List (Nat × Nat):=(List.range (M+1)).filterMap fun j=>(owner.getD j none).map (j,·)
theorem dC:p∈bu M owner↔p.1<M+1/\owner[p.1]? = some (some p.2):=by
 unfold bu
 rw[Qi]
 constructor
 ·rintro⟨j,hj,e⟩
  rw[B4] at e
  cases h:owner[j]? with
  |none=>rw[h] at e;cases e
  |some o =>
   rw[h] at e
   cases o with
   |none=>cases e
   |some v =>
    cases e
    exact⟨sD.mp hj,h⟩
 ·rintro⟨h1,h2⟩
  exact⟨p.1,sD.mpr h1,by rw[B4,h2];rfl⟩
theorem rC(M:Nat)(owner:Array (Option Nat)):((bu M owner).map (·.1)).Pairwise (· < ·):=by
 unfold bu
 rw[ly,List.pairwise_filterMap]
 refine List.Pairwise.imp ?_ List.pairwise_lt_range
 intro a b E5 p hp q hq
 cases h1:owner.getD a none with
 |none=>rw[h1] at hp;cases hp
 |some x =>
  cases h2:owner.getD b none with
  |none=>rw[h2] at hq;cases hq
  |some y =>
   rw[h1] at hp;rw[h2] at hq
   cases hp;cases hq
   exact E5
theorem sG{l:List Nat}(h:l.Pairwise (· < ·)):Up l.toArray:=fun i j kH hj=>by
 have hj:j<l.length:=by simpa using hj
 have:=DL.mp h i j (by walk_at "s1") hj kH
 have e:∀ k (hk:k<l.length),l.toArray.getD k 0=l[k]:=fun k hk=>by simp[Array.getD,hk]
 rw[e i (by walk_at "s1"),e j hj]
 exact this
theorem sY{β:Type}{f:α->Option β}:∀ {l:List α},(∀ x∈l,(f x).isSome=true)->(l.filterMap f).length=l.length/\∀ i:Nat,(l.filterMap f)[i]? = (l[i]?).bind f
 |[],_=>⟨rfl,fun i=>by simp⟩
 |x :: l,h=>by
  obtain⟨a,b⟩:=sY (f:=f) (l:=l) fun y hy=>h y (b5 _ hy)
  have hx:=h x bX
  cases e:f x with
  |none=>rw[e] at hx;cases hx
  |some y =>
   rw[yk,e]
   refine⟨by simp[a],fun i=>?_⟩
   cases i with
   |zero=>simp[e]
   |succ i=>simpa using b i
theorem rO(es:Array (Int × α)):(List.range es.size).filterMap (fun i=>es[i]?)=es.toList:=by
 apply DM
 intro i
 rw[(sY (l:=List.range es.size) fun x hx=>by
  have:=sD.mp hx
  simp[this]).2 i]
 by_cases h:i<es.size
 ·rw[List.getElem?_range h,sF];rfl
 ·rw[sA (by simpa using h),sA (by simpa using h)];rfl
theorem BR{M m finger moves:Nat}{led plain:Bool}(hM:M+1=2 ^ m)(hm:3<=m){es:Array (Int × α)}(hf:es.size*5<M*3) :
  ∃ t order,laid M finger moves led plain (es.map (·.1))=some (t,order)/\t.plain=plain/\t.led=led/\t.mask=M/\TI t (order.filterMap fun i=>es[i]?)/\(order.filterMap fun i=>es[i]?).size=es.size/\(order.filterMap fun i=>es[i]?).toList.Perm es.toList/\order.toList.Perm (List.range es.size):=by
 obtain⟨owner,e,O⟩:=Dj hM (es.map (·.1)) (by rw[Array.size_map];lia)
 have hn:(es.map (·.1)).toList.length=es.size:=by simp
 refine⟨{ mask:=M,place:=((bu M owner).map (·.1)).toArray,dummies:=#[],finger,led,moves,plain },((bu M owner).map (·.2)).toArray,?_,rfl,rfl,rfl,?_⟩
 ·unfold laid
  rw[e];rfl
 have W3:∀ p∈bu M owner,p.2<es.size:=fun p hp=>by
  have:=O.lt _ _ (dC.mp hp).2
  lia
 have nd:((bu M owner).map (·.2)).Nodup:=by
  rw[ND,ly]
  have:=rC M owner
  rw[ly] at this
  refine List.Pairwise.imp_of_mem ?_ this
  intro p q hp hq dE z
  have:=O.inj _ _ _ (dC.mp hp).2 (by rw[z];exact(dC.mp hq).2)
  lia
 have pm:((bu M owner).map (·.2)).Perm (List.range es.size):=by
  refine(List.perm_ext_iff_of_nodup nd List.nodup_range).mpr fun v=>⟨fun hv=>?_,fun hv=>?_⟩
  ·obtain⟨p,hp,rfl⟩:=b9.mp hv
   exact sD.mpr (W3 p hp)
  ·obtain⟨j,hj⟩:=O.all v (by rw[hn];exact sD.mp hv)
   have W4:=(N6.mp hj).1
   rw[O.sz] at W4
   exact b9.mpr ⟨(j,v),dC.mpr ⟨W4,hj⟩,rfl⟩
 have hlen:(bu M owner).length=es.size:=by
  have:=pm.length_eq
  simpa using this
 have A5:(((bu M owner).map (·.2)).toArray.filterMap fun i=>es[i]?).toList=(bu M owner).filterMap fun p=>es[p.2]? := by
  rw[Array.toList_filterMap,Qj];rfl
 obtain⟨f1,f2⟩:=sY (l:=bu M owner) (f:=fun p=>es[p.2]?) fun p hp=>by simp[W3 p hp]
 have de':∀ i:Nat,(((bu M owner).map (·.2)).toArray.filterMap fun i=>es[i]?)[i]? = ((bu M owner)[i]?).bind fun p=>es[p.2]? := fun i=>by
  rw[<- sF,A5];exact f2 i
 have hsz:(((bu M owner).map (·.2)).toArray.filterMap fun i=>es[i]?).size=es.size:=by
  rw[<- yy,A5,f1,hlen]
 have ft:∀ i:Nat,∀ p,(bu M owner)[i]? = some p->((bu M owner).map (·.1)).toArray.getD i 0=p.1:=fun i p hp=>by
  rw[B4]
  simp[hp]
 have tk:∀ j,iX owner j=true->j<=M->taken ((bu M owner).map (·.1)).toArray j=true:=fun j hj hM'=>by
  obtain⟨v,hv⟩:=(qT (by rw[O.sz];exact BU ‹_›)).mp hj
  obtain⟨i,hi⟩:=Ki.mp (dC.mpr (show((j,v):Nat × Nat).1<M+1/\owner[((j,v):Nat × Nat).1]? = some (some ((j,v):Nat × Nat).2) from⟨by show j<M+1;exact BU ‹_›,hv⟩))
  exact(eQ (sG (rC M owner))).mpr ⟨i,by
   have:=(iN.mp hi).1
   simpa using this,ft i _ hi⟩
 refine⟨?_,hsz,?_,by simpa using pm⟩
 ·refine⟨⟨m,hM,hm⟩,?_,sG (rC M owner),fun i hi=>?_,rfl,by rw[hsz];exact hf,fun i h x hx=>?_⟩
  ·rw[hsz];simp[hlen]
  ·have hi:i<(bu M owner).length:=by simpa using hi
   have e1:=oq hi
   show((bu M owner).map (·.1)).toArray.getD i 0<=M
   rw[ft i _ e1]
   have:=(dC.mp (ll e1)).1
   lia
  ·rw[de'] at hx
   cases hp:(bu M owner)[i]? with
   |none=>rw[hp] at hx;cases hx
   |some p =>
    rw[hp] at hx
    have hx:es[p.2]? = some (h,x):=hx
    have Sr:=dC.mp (ll hp)
    obtain⟨n,a1,a2,a3⟩:=O.path _ _ Sr.2
    have hh:(es.map (·.1)).toList.getD p.2 0=h:=by
     rw[JY,sF,Array.getElem?_map,hx];rfl
    rw[hh] at a2 a3
    refine⟨n,a1,?_,fun q hq=>tk _ (a3 q hq) (Sj M h q)⟩
    show J M h n=((bu M owner).map (·.1)).toArray.getD i 0
    rw[ft i _ hp];exact a2
 ·rw[A5]
  have:=pm.filterMap fun i=>es[i]?
  rw[rO,Qj] at this
  exact this
theorem xm{t:SetTable}{es:Array (Int × α)}(hn:es.size<=10000) :
  ∃ t' order,t.relaid (es.map (·.1)) (grown es.size)=some (t',order)/\t'.plain=t.plain/\t'.led=t.led/\sizeAbove (grown es.size)<=16777216/\(es.size<=1000->t'.mask<=8191)/\TI t' (order.filterMap fun i=>es[i]?)/\(order.filterMap fun i=>es[i]?).size=es.size/\(order.filterMap fun i=>es[i]?).toList.Perm es.toList/\order.toList.Perm (List.range es.size):=by
 have hg:grown es.size=es.size*4:=by unfold grown;rw[if_neg (by lia)]
 obtain⟨b,h3,e,dE,hle⟩:=kY (n:=es.size*4) (by lia)
 have h8:8<=2 ^ b:=Nat.pow_le_pow_right (n:=2) (by decide) h3
 unfold relaid
 rw[hg,e]
 obtain⟨t',order,q1,q2,q3,qm,q4⟩:=BR (M:=2 ^ b-1) (m:=b) (finger:=t.finger) (moves:=t.movedTo (2 ^ b-1)) (led:=t.led) (plain:=t.plain) (by lia) h3 (es:=es) (by lia)
 refine⟨t',order,q1,q2,q3,?_,fun hz=>?_,q4⟩
 ·rcases hle with hle|rfl
  ·lia
  ·decide
 ·rw[qm]
  rcases hle with hle|rfl
  ·lia
  ·decide
end
section
variable {α:Type}{t:SetTable}{es:Array (Int × α)}
theorem rP(T:TI t es)(hashAt:Nat->Int)(h:Int):∀ (fuel n:Nat),(∃ N,n<=N/\N<n+fuel/\taken t.place (J t.mask h N)=false) ->
  ∃ n',n<=n'/\n'<n+fuel/\(∀ q,n<=q->q<n'->taken t.place (J t.mask h q)=true/\hashAt (below t.place (J t.mask h q))≠h) /\
   ((taken t.place (J t.mask h n')=false/\probe.go t hashAt h fuel (ps t.mask h n)=some (.empty (J t.mask h n') none)) \/
    (taken t.place (J t.mask h n')=true/\hashAt (below t.place (J t.mask h n'))=h/\probe.go t hashAt h fuel (ps t.mask h n)=some (.candidate (J t.mask h n') (below t.place (J t.mask h n')) (ps t.mask h (n'+1)))))
 |0,n,⟨N,h1,h2,_⟩=>by lia
 |fuel+1,n,⟨N,h1,h2,h3⟩=>by
  unfold probe.go
  have hs:=T.slot (J t.mask h n)
  have hd:=(CV t.mask h n).2.2.1
  by_cases c:taken t.place (J t.mask h n)=true
  ·rw[if_pos c] at hs
   have hs:t.slot (ps t.mask h n).j=.live (below t.place (J t.mask h n)):=hs
   rw[hs]
   dsimp only
   by_cases e:hashAt (below t.place (J t.mask h n))=h
   ·rw[if_pos (by simpa using e)]
    exact⟨n,ck _,by lia,fun q a b=>by lia,.inr ⟨c,e,rfl⟩⟩
   ·rw[if_neg (by simpa using e)]
    have hN:N≠n:=fun z=>by rw[z,c] at h3;cases h3
    obtain⟨n',a1,a2,a3,a4⟩:=rP T hashAt h fuel (n+1) ⟨N,by lia,by lia,h3⟩
    refine⟨n',by exact ot ‹_›,by lia,fun q b1 b2=>?_,a4⟩
    by_cases z:q=n
    ·subst z;exact⟨c,e⟩
    ·exact a3 q (by lia) b2
  ·have c:taken t.place (J t.mask h n)=false:=by simpa using c
   rw[if_neg (by rw[c];exact iq)] at hs
   have hs:t.slot (ps t.mask h n).j=.empty:=hs
   rw[hs]
   dsimp only
   rw[hd]
   exact⟨n,ck _,by lia,fun q a b=>by lia,.inl ⟨c,rfl⟩⟩
end
section
variable {prog:Program}{w:World}{K:Type}[DecidableEq K]{knd:KeyKind prog w K}
abbrev aM(knd:KeyKind prog w K)(k:List K):Int:=tupleKeyHash knd k
def zq(knd:KeyKind prog w K)(p:List K × Addr):Int × Value:=(aM knd p.1,.ref p.2)
structure A6(knd:KeyKind prog w K)(h:Heap)(a:Addr)(ks:List (List K × Addr)):Prop where
 ob:∃ o es ep t,h.get? a=some o/\o.ExactSet/\o.data=.set es ep t/\TI t es/\t.mask<=8191/\t.led=(!w.params.followText "set-order")/\es.toList=ks.map (zq knd)
 nd:(ks.map (·.1)).Nodup
 is:∀ p∈ks,IsTupleKey knd h p.1 p.2
variable {A:Around}{E:Value->Shared->Prop}{s:Shared}
theorem jm(hk:IsTupleKey knd s.heap k a)(h:Q false s):wpAny (model prog w) A (ofAClassStatement 8 (.ref a)) Q E s:=by
 have hT:=hk.typeIs
 obtain⟨o,items,n,ho,_,hd,hi⟩:=hk
 unfold ofAClassStatement
 refine ag (wpAny_typeOf hT ?_)
 dsimp only
 refine ag ?_
 refine aI ?_
 simp only[N4,kP,if_false]
 refine ag (wpAny_seqItems ho hd ?_)
 dsimp only
 refine ag ?_
 rw[<- Array.forIn_toList]
 refine wpAny_forIn_list _ (fun rest r s'=>r.1=none/\s'=s/\∀ v∈rest,carriedByValue v=true) _ ?_ ?_ _ _ ⟨rfl,rfl,hi.byValue⟩
 ·rintro v rest r s' ⟨hr,rfl,nK⟩
  have hv:=nK v bX
  have e:ofAClassStatement 7 v=pure false:=by
   cases v with
   |ref a=>cases hv
   |_=>rfl
  rw[e]
  refine ag (aI ?_)
  simp only[kP,if_false]
  exact aI ⟨rfl,rfl,fun u A7=>nK u (b5 _ A7)⟩
 ·rintro⟨r1,r2⟩ s' ⟨hr,rfl,_⟩
  simp only at hr
  subst hr
  exact aI h
theorem h_(hk:IsTupleKey knd s.heap k a)(xa:∀ k v,knd.is k v=true->v.scannable=true)(h:∀ b,Q b s):wpAny (model prog w) A (hashByValue 8 (.ref a)) Q E s:=by
 have hT:=hk.typeIs
 obtain⟨o,items,n,ho,_,hd,hi⟩:=hk
 have df':∀ v∈items.toList,v.scannable=true:=by
  clear ho hd
  generalize items.toList=l at hi
  induction hi with
  |nil=>intro v hv;cases hv
  |cons h1 _ ih =>
   intro v hv
   rcases df.mp hv with rfl|hv
   ·exact xa _ _ h1
   ·exact ih v hv
 unfold hashByValue
 refine ag (wpAny_specialOf hT F.slot_tuple_hash.lookup ?_)
 dsimp only
 refine ag (wpAny_seqItems ho hd ?_)
 dsimp only[Option.getD]
 refine ag ?_
 rw[<- Array.forIn_toList]
 refine wpAny_forIn_list _ (fun rest r s'=>s'=s/\∀ v∈rest,v.scannable=true) _ ?_ ?_ _ _ ⟨rfl,df'⟩
 ·rintro v rest r s' ⟨rfl,nK⟩
  rw[hashByValue_scannable 7 (nK v bX)]
  refine ag (aI ?_)
  split
  ·exact aI (aI (h _))
  ·exact aI ⟨rfl,fun u A7=>nK u (b5 _ A7)⟩
 ·rintro⟨r1,r2⟩ s' ⟨rfl,_⟩
  cases r1 with
  |none=>exact aI (h true)
  |some b=>exact aI (h b)
end
local macro_rules | `(tactic| walk_at $s:str) => do
 let x:=s.getString
 if x.startsWith "PV" then `(tactic| exact $(Lean.mkIdent (.str (.str (.num (.str (.str (.str .anonymous "_private") "PySem") "SetOps") 0) "PySem") (x.drop 2).toString)))
 else Lean.Macro.throwUnsupported
abbrev vP:Array (Int × Value)->Nat->Int:=by walk_at "PVstoredHashAt"
abbrev Ca:Array (Int × Value)->Option (SetTable × Array Nat)->Sem (Array (Int × Value) × SetTable):=by walk_at "PVreordered"
abbrev mK:Array (Int × Value)->SetTable->Bool:=by walk_at "PVdrawn"
abbrev Hv:Array (Int × Value)->SetTable->Sem Unit:=by walk_at "PVmustBeLedForItsPlaces"
def qZ:Array (Int × Value)->Nat->Int:=vP
theorem oX(es:Array (Int × Value))(i:Nat):qZ es i=(es[i]?.map (·.1)).getD 0:=rfl
section
variable {prog:Program}{w:World}{K:Type}[DecidableEq K]{knd:KeyKind prog w K}{A:Around}{E:Value->Shared->Prop}{s:Shared}
theorem uz(hk:IsTupleKey knd s.heap k a)(hy:∀ y∈ys,∃ k' b,y=.ref b/\IsTupleKey knd s.heap k' b)(h:Q false s):wpAny (model prog w) A (searchCouldBeSeen (.ref a) ys) Q E s:=by
 unfold searchCouldBeSeen
 refine ag ?_
 refine wpAny_forIn_list _ (fun rest r s'=>r.1=none/\s'=s/\∀ y∈rest,∃ k' b,y=.ref b/\IsTupleKey knd s.heap k' b) _ ?_ ?_ _ _ ⟨rfl,rfl,hy⟩
 ·rintro y rest r s' ⟨hr,rfl,nK⟩
  obtain⟨k',b,rfl,hb⟩:=nK y bX
  have go:∀ (P:Prop),P->P:=fun _ p=>p
  dsimp only
  split
  ·exact aI ⟨rfl,rfl,fun u A7=>nK u (b5 _ A7)⟩
  ·refine ag (wpAny_eqIsQuiet_tuple hk ?_)
   simp only[N4,kP,if_false]
   refine ag (wpAny_eqIsQuiet_tuple hb ?_)
   simp only[N4,kP,if_false]
   refine ag (jm hk ?_)
   simp only[kP,if_false]
   refine ag (jm hb ?_)
   simp only[kP,if_false]
   exact aI ⟨rfl,rfl,fun u A7=>nK u (b5 _ A7)⟩
 ·rintro⟨r1,r2⟩ s' ⟨hr,rfl,_⟩
  simp only at hr
  subst hr
  exact aI h
theorem Jb{K G:Prop}(pk:K)(h:K->G):G:=h pk
theorem pK{a x:Addr}{k:List K}{ks:List (List K × Addr)}{o:Obj}{es:Array (Int × Value)}{ep:Nat}{t:SetTable}(hu:A.units<cLine)(ho:s.heap.get? a=some o)(hd:o.data=.set es ep t)(T:TI t es)(he:es.toList=ks.map (zq knd))
  (qa:∀ p∈ks,IsTupleKey knd s.heap p.1 p.2) (hx:IsTupleKey knd s.heap k x) {Q:SetFound->Shared->Prop} (W5:k∈ks.map (·.1)->Q (.there none) s)
  (nf:Nat) (hnf:nf<=10*(t.mask+13)) (CD:taken t.place (J t.mask (aM knd k) nf)=false) (W6:∀ q<nf,taken t.place (J t.mask (aM knd k) q)=true)
  (tS:k∉ks.map (·.1)->Q (.free (J t.mask (aM knd k) nf) false) s) :
  ∀ (fuel n:Nat) (stand:Option Probe),stand.getD (t.probeStart (aM knd k))=ps t.mask (aM knd k) n->n<=nf->nf<n+fuel ->
   (∀ q<n,∀ p,ks[below t.place (J t.mask (aM knd k) q)]? = some p->p.1≠k)->wpAny (model prog w) A (setSearchFrom a (.ref x) (aM knd k) true fuel stand) Q E s
 |0,n,stand,_,h1,h2,_=>by lia
 |fuel+1,n,stand,jS,h1,h2,hq=>by
  have PB:∀ i:Nat,es[i]? = (ks[i]?).map (zq knd):=fun i=>by rw[<- sF,he,ny]
  unfold setSearchFrom
  refine ag (wpAny_setState_of ho hd T.fits ?_)
  dsimp only
  rw[if_neg (by rw[T.odd];exact iq)]
  obtain⟨n',a1,a2,a3,a4⟩:=rP T (qZ es) (aM knd k) (10*turns t.mask) n ⟨nf,h1,by unfold turns;lia,CD⟩
  have QH:n'<=nf:=by
   by_cases z:n'<=nf
   ·exact z
   ·have:=(a3 nf h1 (by exact Nat.lt_of_not_le ‹_›)).1
    rw[CD] at this;cases this
  rcases a4 with⟨c1,c2⟩|⟨c1,c2,c3⟩
  ·have c2:t.probe (qZ es) (aM knd k) (stand.getD (t.probeStart (aM knd k)))=some (.empty (J t.mask (aM knd k) n') none):=by rw[jS];exact c2
   have e:n'=nf:=by
    by_cases z:n'<nf
    ·have:=W6 n' z
     rw[c1] at this;cases this
    ·lia
   have c2:t.probe (vP es) (aM knd k) (stand.getD (t.probeStart (aM knd k)))=some (.empty (J t.mask (aM knd k) n') none):=c2
   rw[c2]
   dsimp only
   rw[e]
   refine aI (tS fun hm=>?_)
   obtain⟨p,hp,rfl⟩:=b9.mp hm
   obtain⟨i,hi⟩:=Ki.mp hp
   have ei:es[i]? = some (aM knd p.1,.ref p.2):=by rw[PB,hi];rfl
   have W7:i<t.place.size:=by rw[T.sz];exact(N6.mp ei).1
   obtain⟨ni,b1,b2,b3⟩:=T.path i _ _ ei
   have bt:below t.place (J t.mask (aM knd p.1) ni)=i:=by rw[b2];exact below_at T.up W7
   have tk:taken t.place (J t.mask (aM knd p.1) ni)=true:=by rw[b2];exact(eQ T.up).mpr ⟨i,W7,rfl⟩
   have dE:ni<nf:=by
    by_cases z:nf<ni
    ·have:=b3 nf z
     rw[CD] at this;cases this
    ·have:ni≠nf:=fun z=>by rw[z,CD] at tk;cases tk
     lia
   by_cases z:ni<n
   ·exact hq ni z p (by rw[bt];exact hi) rfl
   ·refine(a3 ni (by exact FL ‹_›) (by lia)).2 ?_
    rw[bt,oX,ei];rfl
  ·have c3:t.probe (vP es) (aM knd k) (stand.getD (t.probeStart (aM knd k)))=some (.candidate (J t.mask (aM knd k) n') (below t.place (J t.mask (aM knd k) n')) (ps t.mask (aM knd k) (n'+1))):=by rw[jS];exact c3
   rw[c3]
   dsimp only
   have tk:=je T.up c1
   have PC:t.slot (J t.mask (aM knd k) n')=.live (below t.place (J t.mask (aM knd k) n')):=by rw[T.slot,if_pos c1]
   generalize hi:below t.place (J t.mask (aM knd k) n')=i at tk c2 PC ⊢
   have W8:i<es.size:=by rw[<- T.sz];exact tk.1
   obtain⟨p,hp⟩:∃ p,ks[i]? = some p:=by
    have:i<ks.length:=by
     have:=congrArg List.length he
     simp at this;lia
    exact⟨_,oq this⟩
   have ei:es[i]? = some (aM knd p.1,.ref p.2):=by rw[PB,hp];rfl
   have W9:=ll hp
   have fS:n'≠nf:=fun z=>by rw[z,CD] at c1;cases c1
   have again:¬ p.1=k->wpAny (model prog w) A (setSearchFrom a (.ref x) (aM knd k) true fuel (some (ps t.mask (aM knd k) (n'+1)))) Q E s:=fun hpk =>
    pK hu ho hd T he qa hx W5 nf hnf CD W6 tS fuel (n'+1) (some (ps t.mask (aM knd k) (n'+1))) rfl (by lia) (by lia) fun q Pz p' eI=>by
     by_cases z:q<n
     ·exact hq q z p' eI
     ·by_cases z2:q=n'
      ·subst z2
       rw[hi,hp] at eI
       cases eI
       exact hpk
      ·intro e'
       have:=(a3 q (by exact FL ‹_›) (by lia)).2
       refine this ?_
       rw[oX,PB,eI]
       show aM knd p'.1=_
       rw[e']
   have av:p.1=k->k∈ks.map (·.1):=fun e=>e ▸ b9.mpr ⟨p,W9,rfl⟩
   have seen:∀ y∈List.map (fun x=>x.snd) (Array.filter (fun x=>x.fst == aM knd k) es).toList,∃ k' b,y=.ref b/\IsTupleKey knd s.heap k' b:=fun y hy=>by
    obtain⟨e',O4,rfl⟩:=b9.mp hy
    rw[Array.toList_filter] at O4
    have:=(z3.mp O4).1
    rw[he] at this
    obtain⟨p',eI,rfl⟩:=b9.mp this
    exact⟨p'.1,p'.2,rfl,qa p' eI⟩
   refine Jb ?pk (K:=?K) fun key=>?main
   case main =>
    split
    ·refine ag (uz hx seen ?_)
     rw[if_neg iq]
     exact key
    ·exact key
   rw[ei]
   dsimp only
   refine ag (wpAny_holding (wpAny_eqBool_tuple hu (qa p W9) hx ?_))
   refine ag (wpAny_setState_of ho hd T.fits ?_)
   dsimp only
   by_cases e:p.1=k
   ·rw[if_pos (by simp[e])]
    exact aI (W5 (av e))
   ·rw[if_neg (by simp[e])]
    have RL:t.sameMemory t.moves t.mask=some true:=by unfold sameMemory;rw[if_pos (by simp)]
    rw[RL]
    dsimp only
    rw[if_pos rfl,PC]
    dsimp only
    rw[ei]
    dsimp only
    refine ag (m:=isSame (.ref p.2) (.ref p.2)) ?_
    unfold isSame
    dsimp only
    rw[if_pos (by simp)]
    refine aI (ag (aI ?_))
    rw[if_pos rfl]
    dsimp only
    rw[if_neg (by simp[e])]
    exact again e
end
theorem iI:∀ {l l2:List β},l.Perm l2->∀ {m:List α},l2=m.map f->∃ m':List α,l=m'.map f/\m'.Perm m:=by
 intro l l2 p
 induction p with
 |nil=>intro m e;exact⟨m,by rw[<- e],.refl _⟩
 |cons x _ ih =>
  intro m e
  cases m with
  |nil=>cases e
  |cons y m =>
   simp only[fo,List.cons.injEq] at e
   obtain⟨m',e1,p1⟩:=ih e.2
   exact⟨y :: m',by rw[fo,<- e1,e.1],p1.cons _⟩
 |swap x y l =>
  intro m e
  match m,e with
  |a :: b :: m,e =>
   simp only[fo,List.cons.injEq] at e
   exact⟨b :: a :: m,by simp[e.1,e.2.1,e.2.2],.swap ..⟩
 |trans _ _ ih1 R1 =>
  intro m e
  obtain⟨m',e1,p1⟩:=R1 e
  obtain⟨m2,e2,p2⟩:=ih1 e1
  exact⟨m2,e2,p2.trans p1⟩
theorem uG(xs:Array α)(p:Nat)(x:α):(insertAt xs p x).toList=xs.toList.take p++x :: xs.toList.drop p:=by
 unfold insertAt
 simp
 rw[List.take_of_length_le (by simp)]
theorem pN(hz:(order.filterMap fun i=>es[i]?).size=es.size)
  (h:Q (order.filterMap fun i=>es[i]?,t) s):wpAny (model prog w) A (Ca es (some (t,order))) Q E s:=by
 show wpAny _ _ (if ((order.filterMap fun i=>es[i]?).size != es.size)=true then (do unsupported "internal:set-table-lost-an-element";pure (order.filterMap fun i=>es[i]?,t)) else pure (order.filterMap fun i=>es[i]?,t)) _ _ _
 rw[if_neg (by simp[hz])]
 exact aI h
section
variable {prog:Program}{w:World}{K:Type}[DecidableEq K]{knd:KeyKind prog w K}{A:Around}{E:Value->Shared->Prop}{s:Shared}
theorem IsTupleKey.eh(hk:IsTupleKey knd h k a)(e:∀ o,h.get? a=some o->h'.get? a=some o):IsTupleKey knd h' k a:=by
 obtain⟨o,items,n,ho,r⟩:=hk
 exact⟨o,items,n,e o ho,r⟩
theorem A6.ne(S:A6 knd h a ks)(hx:IsTupleKey knd h k x):x≠a:=by
 obtain⟨⟨o,es,ep,t,ho,hex,_⟩,_,_⟩:=S
 obtain⟨o',items,n,mz,hc,_⟩:=hx
 intro z
 subst z
 rw[ho] at mz
 cases mz
 rw[hex.1] at hc
 exact absurd hc (by decide)
theorem Aa(S:A6 knd s.heap a ks)(hx:IsTupleKey knd s.heap k x)(hz:ks.length<1000)(hu:A.units<cLine)(xa:∀ k v,knd.is k v=true->v.scannable=true)
  (h:∀ (b:Bool) (h':Heap) (fm:List (List K × Addr)),Heap.SameBut a s.heap h'->A6 knd h' a fm->(k∈ks.map (·.1)/\fm=ks\/k∉ks.map (·.1)/\fm.Perm ((k,x) :: ks))->Q b { s with heap:=h' }) :
  wpAny (model prog w) A (setAddHashed a (.ref x) (aM knd k)) Q E s:=by
 obtain⟨⟨o,es,ep,t,ho,hex,hd,T,hM,hL,he⟩,nd,is⟩:=id S
 have hlen:es.size=ks.length:=by
  have:=congrArg List.length he
  simpa using this
 obtain⟨m,hm,_⟩:=T.pw
 obtain⟨e0,he0,hf0⟩:=T.free
 obtain⟨nf,n1,n2,n3⟩:=uo hm (aM knd k) (taken t.place) he0 hf0
 unfold setAddHashed setAddHashedIn
 refine wpAny_holding (ag (wpAny_setState_of ho hd T.fits ?_))
 dsimp only
 have hbs:byScan (.ref x) es=false:=by simp[byScan,Value.scannable]
 rw[hbs]
 simp only[kP,if_false]
 refine ag ?_
 unfold setSearch
 refine pK hu ho hd T he is hx (fun av=>?_) nf n1 n2 n3 (fun Ss=>?_) 100000 0 none rfl (gV _) (by lia) fun q hq=>absurd hq (DZ q)
 ·dsimp only
  refine aI ?_
  have e:s={ s with heap:=s.heap }:=by cases s;rfl
  rw[e]
  exact h _ _ ks (Heap.SameBut.refl a s.heap) S (.inl ⟨av,rfl⟩)
 ·dsimp only
  generalize hj:J t.mask (aM knd k) nf=j at n2 ⊢
  have hjm:j<=t.mask:=by rw[<- hj];exact Sj ..
  have hre:Reach t.mask t.place (aM knd k) j:=⟨nf,n1,hj,n3⟩
  refine ag (wpAny_setState_of ho hd T.fits ?_)
  dsimp only
  have dr':t.put j=({ t with place:=insertAt t.place (below t.place j) j,dummies:=#[] },below t.place j):=by
   unfold SetTable.put
   have:has t.dummies j=false:=by rw[T.dm];rfl
   simp only[this,kP,if_false]
   rw[T.dm]
  rw[dr']
  dsimp only
  have av:(insertAt es (below t.place j) (aM knd k,.ref x)).toList=(ks.take (below t.place j)++(k,x) :: ks.drop (below t.place j)).map (zq knd):=by
   rw[uG,he,sC,fo,List.map_take,List.map_drop];rfl
  have IA:(ks.take (below t.place j)++(k,x) :: ks.drop (below t.place j)).Perm ((k,x) :: ks):=by
   refine List.perm_middle.trans ?_
   rw[List.take_append_drop]
  have IB:below t.place j<=es.size:=by rw[<- T.sz];exact(aY T.up j).1
  have CH:(insertAt es (below t.place j) (aM knd k,Value.ref x)).size=es.size+1:=cu _ _ IB
  have hxa:=S.ne hx
  have W_:∀ h',Heap.SameBut a s.heap h'->∀ fm:List (List K × Addr),fm.Perm ((k,x) :: ks)->∀ p∈fm,IsTupleKey knd h' p.1 p.2:=fun h' sb fm pm p hp=>by
   have:IsTupleKey knd s.heap p.1 p.2:=by
    rcases df.mp (pm.mem_iff.mp hp) with rfl|hp
    ·exact hx
    ·exact is p hp
   exact IsTupleKey.eh this fun o' mz=>sb.extBut _ _ (S.ne this) mz
  have Xa:∀ fm:List (List K × Addr),fm.Perm ((k,x) :: ks)->(fm.map (·.1)).Nodup:=fun fm pm=>by
   rw[(pm.map _).nodup_iff,fo,ja]
   exact⟨Ss,nd⟩
  -- behind the flag
  have main:∀ pl:Bool,wpAny (model prog w) A (do
    storeSet a (insertAt es (below t.place j) (aM knd k,.ref x)) { t with place:=insertAt t.place (below t.place j) j,dummies:=#[],plain:=pl }
    if (!false && ({ t with place:=insertAt t.place (below t.place j) j,dummies:=#[],plain:=pl }:SetTable).tooFull)=true then do
      setRelay a (grown (es.size+1))
      pure true
     else pure true) Q E s:=fun pl=>by
   generalize M6:({ t with place:=insertAt t.place (below t.place j) j,dummies:=#[],plain:=pl }:SetTable)=t'
   have tm:t'.mask=t.mask:=by rw[<- M6]
   have tp:t'.place=insertAt t.place (below t.place j) j:=by rw[<- M6]
   have td:t'.dummies = #[]:=by rw[<- M6]
   have Xb:t'.fill=es.size+1:=by
    unfold SetTable.fill
    rw[tp,td,cu _ _ (aY T.up j).1,T.sz];simp
   refine ag (wpAny_storeSet_of ho hd ?_ (by rw[CH,sizeLine_eq];lia))
   have zh:(s.heap.update a (Obj.putSet (insertAt es (below t.place j) (aM knd k,.ref x)) t')).get? a=some { o with data:=.set (insertAt es (below t.place j) (aM knd k,.ref x)) (ep+1) t' }:=by
    have:=FI (Obj.putSet (insertAt es (below t.place j) (aM knd k,.ref x)) t') ho (by rw[putSet_of _ _ hd];rfl)
    rw[putSet_of _ _ hd] at this;exact this
   have x3:=Heap.SameBut.update s.heap a (Obj.putSet (insertAt es (below t.place j) (aM knd k,.ref x)) t')
   by_cases c:t'.tooFull=true
   ·rw[if_pos (by rw[c];rfl)]
    have WD:t'.fits (insertAt es (below t.place j) (aM knd k,Value.ref x)).size=true:=by
     have:=T.few
     simp only[SetTable.fits,Xb,kQ,beq_iff_eq,decide_eq_true_eq]
     rw[tp,cu _ _ (aY T.up j).1,CH,T.sz,tm]
     exact⟨rfl,by lia⟩
    obtain⟨t2,order,r1,r2,r3,r4,r5,r6,r7,r8,_⟩:=xm (t:=t') (es:=insertAt es (below t.place j) (aM knd k,Value.ref x)) (by lia)
    rw[CH] at r1 r4
    unfold setRelay
    refine ag (ag (wpAny_setState_of zh rfl WD ?_))
    dsimp only
    rw[if_neg (by rw[sizeLine_eq];lia)]
    refine ag ?_
    rw[r1]
    obtain⟨fm,ek,pk⟩:=iI r8 av
    refine pN r7 ?_
    dsimp only
    refine wpAny_storeSet_of zh rfl ?_ (by rw[r7,CH,sizeLine_eq];lia)
    refine aI ?_
    have IC:=x3.trans (Heap.SameBut.update _ a (Obj.putSet (order.filterMap fun i=>(insertAt es (below t.place j) (aM knd k,Value.ref x))[i]?) t2))
    have oS:=FI (Obj.putSet (order.filterMap fun i=>(insertAt es (below t.place j) (aM knd k,Value.ref x))[i]?) t2) zh (by rw[putSet_of _ _ rfl];rfl)
    rw[putSet_of _ _ rfl] at oS
    exact h true _ fm IC ⟨⟨_,_,_,_,oS,hex,rfl,r6,r5 (by lia),by rw[r3,<- M6];exact hL,ek⟩,Xa fm (pk.trans IA),W_ _ IC fm (pk.trans IA)⟩ (.inr ⟨Ss,pk.trans IA⟩)
   ·rw[if_neg (by simpa using c)]
    refine aI ?_
    have w9:(es.size+1)*5<t.mask*3:=by
     unfold SetTable.tooFull at c
     rw[Xb,tm] at c
     simpa using c
    exact h true _ _ x3 ⟨⟨_,_,_,_,zh,hex,rfl,T.put hjm n2 hre tm tp td w9,by rw[tm];exact hM,by rw[<- M6];exact hL,av⟩,Xa _ IA,W_ _ x3 _ IA⟩ (.inr ⟨Ss,IA⟩)
  split
  ·refine ag (h_ hx xa fun b=>?_)
   cases b with
   |true=>exact main t.plain
   |false=>exact main false
  ·exact ag (aI (main t.plain))
end
end TS
namespace TS
open PySem PySem.SetTable PyProof.Rows
section
variable {prog:Program}{w:World}{A:Around}{R:Result->Shared->Prop}{I:Addr}{fp wr:List Addr}{n:Nat}{P:Nat->Value->Prop}{St:Nat->Heap->Prop}
theorem yN(W:Walks prog w A.in1 I fp wr n P St)(S:Addr)(E6:S∉fp)(SI:Nat->Heap->Prop)(keep:∀ i h h',SI i h->(∀ b o,b∉wr->h.get? b=some o->h'.get? b=some o)->SI i h')
  (step:∀ (i:Nat) (v:Value) (s':Shared) (E':Value->Shared->Prop) (Q:Bool->Shared->Prop),P i v->SI i s'.heap->(∀ b h' tk,Heap.SameBut S s'.heap h'->SI (i+1) h'->Q b { s' with heap:=h',toks:=tk })->wpAny (model prog w) A.in1 (setAdd S v) Q E' s') :
  ∀ (k i:Nat) (s:Shared),n-i=k->i<=n->St i s.heap->SI i s.heap ->
   (∀ h' tk,SI n h'->(∀ b o,b∉wr->b≠S->s.heap.get? b=some o->h'.get? b=some o)->R (.ok (.ret .none)) { s with heap:=h',toks:=tk }) ->
   codeAny (model prog w) A (.builtin "set.update.loop" ⟨[.ref S,.ref I],[]⟩) R s:=by
 have hSw:S∉wr:=fun h=>E6 (W.sub _ h)
 intro k
 induction k with
 |zero =>
  intro i s hk hi jS hS hR
  have av:i=n:=by lia
  subst av
  refine codeAny_builtin F.entry_set_update_loop ?_
  rw[Around.under_plainId F.plain_set_update_loop _]
  show wpAny _ A.in1 (pyNext (.ref I) >>= _) _ _ s
  refine ag (W.done s _ _ jS fun h' tk gp=>?_)
  show wpAny _ A.in1 (ret Value.none) _ _ _
  exact aI (hR h' tk (keep _ _ _ hS gp) fun b o hb _ e=>gp b o hb e)
 |succ k ih =>
  intro i s hk hi jS hS hR
  have dE:i<n:=by lia
  refine codeAny_builtin F.entry_set_update_loop ?_
  rw[Around.under_plainId F.plain_set_update_loop _]
  show wpAny _ A.in1 (pyNext (.ref I) >>= _) _ _ s
  refine ag (W.item i s _ _ dE jS fun v h' tk hP ds' gp=>?_)
  show wpAny _ A.in1 (holding [v] (setAdd S v) >>= _) _ _ _
  refine ag (wpAny_holding (step i v _ _ _ hP (keep _ _ _ hS gp) fun b h2 tk2 sb hS2=>?_))
  refine aI ⟨plainId_quiet F.plain_set_update_loop _,ih (i+1) _ (by lia) dE (W.frame _ _ _ ds' fun b hb o e=>?_) hS2 fun h3 tk3 hS3 IE=>?_⟩
  ·exact sb.extBut b o (fun z=>E6 (by rw[<- z];exact hb)) e
  ·exact hR h3 tk3 hS3 fun b o hb M7 e=>IE b o hb M7 (sb.extBut b o M7 (gp b o hb e))
end
section
variable {prog:Program}{w:World}{A:Around}{E:Value->Shared->Prop}{s:Shared}
theorem wU(a:Value)
  (h:Q₁ (.ref s.heap.objs.size) { s with heap:=s.heap.push { cls:=.type "set",dict:=none,data:=.set #[] 0 (.fresh 0 0 (!w.params.followText "set-order")) } }) :
  codeAny (model prog w) A (.call (.builtin "set.__new__") ⟨[.type "set",a],[]⟩) (wants Q₁ E) s:=by
 refine codeAny_of_tree ?_
 show wpAny _ A.in1 (do checkBuiltinCall "set.__new__" ⟨[.type "set",a],[]⟩;again (.builtin "set.__new__" ⟨[.type "set",a],[]⟩)) _ _ s
 refine ag (wpAny_of_eq (F.newCall_set_1 a) (aI ⟨plainId_quiet F.plain_set_new _,codeAny_builtin F.entry_set_new ?_⟩))
 rw[Around.under_plainId F.plain_set_new _]
 unfold Builtin.«set.__new__» Builtin.Frozenset.newClass
 have Sv:=sub_set_self
 obtain⟨hp,g,d,tk,os⟩:=s
 dsimp only
 wp_walk
 refine wpAny_askSetting (aI ?_)
 dsimp only
 simp only[newObj]
 refine ag (wpAny_alloc (aI ?_))
 exact aI h
theorem iG(hh:A.handled=none)(hl:s.heap.IsList l items)(SI:Nat->Heap->Prop)
  (h0:∀ h,h.get? s.heap.objs.size=some { cls:=.type "set",dict:=none,data:=.set #[] 0 (.fresh 0 0 (!w.params.followText "set-order")) }->(∀ b o,s.heap.get? b=some o->h.get? b=some o)->SI 0 h)
  (keep:∀ i h h',SI i h->(∀ b o,b<=s.heap.objs.size->h.get? b=some o->h'.get? b=some o)->SI i h')
  (step:∀ (i:Nat) (v:Value) (s':Shared) (E':Value->Shared->Prop) (Q:Bool->Shared->Prop),items[i]? = some v->SI i s'.heap->(∀ b h' tk,Heap.SameBut s.heap.objs.size s'.heap h'->SI (i+1) h'->Q b { s' with heap:=h',toks:=tk }) ->
   wpAny (model prog w) A.in1.in1.in1 (setAdd s.heap.objs.size v) Q E' s')
  (h:∀ (h':Heap) (tk:Nat),SI items.size h'->(∀ b o,b<s.heap.objs.size->s.heap.get? b=some o->h'.get? b=some o)->Q (.ref s.heap.objs.size) { s with heap:=h',toks:=tk }) :
  wpAny (model prog w) A (call (.type "set") [.ref l]) Q E s:=by
 obtain⟨c,tl,hE'⟩:=F.called_set.mro
 have hF':=F.called_set.made
 have Sv:=F.called_set.sub
 refine wpAny_call (codeAny_of_tree ?_)
 show wpAny _ _ (callAny (.type "set") _) _ _ _
 refine aI ⟨Code.quiet_builtin _ (by decide +kernel),codeAny_builtin F.entry_type_call ?_⟩
 rw[Around.under_plain (weight_type_call_type "set" [.ref l] []) rfl]
 have h1:=F.called_set.notType
 have h2:=F.called_set.canCreate
 have hct:=F.typeCall_set_1 (.ref l)
 repeat (any_goals (first|assumption|wp_step))
 refine codeAny_mono (wU (.ref l) (E:=E) (Q₁:=fun obj eL=>obj=.ref s.heap.objs.size/\eL={ s with heap:=s.heap.push { cls:=.type "set",dict:=none,data:=.set #[] 0 (.fresh 0 0 (!w.params.followText "set-order")) } }) ⟨rfl,rfl⟩) fun r eL hr=>?_
 cases r with
 |error e=>exact hr
 |ok fl =>
  cases fl with
  |ret obj =>
   obtain⟨rfl,rfl⟩:=hr
   generalize hH':(!w.params.followText "set-order")=led at h0 ⊢
   have hS:(s.heap.push { cls:=.type "set",dict:=none,data:=.set #[] 0 (.fresh 0 0 led) }).get? s.heap.objs.size=some { cls:=.type "set",dict:=none,data:=.set #[] 0 (.fresh 0 0 led) }:=jv _ rfl
   have hT:Shared.TypeIs { s with heap:=s.heap.push { cls:=.type "set",dict:=none,data:=.set #[] 0 (.fresh 0 0 led) } } (.ref s.heap.objs.size) "set" := ⟨_,hS,rfl⟩
   have hli:=F.called_set.init.lookup
   have hbi:=F.called_set.init.bind (.ref s.heap.objs.size)
   repeat (any_goals (first|assumption|wp_step))
   refine codeAny_mono (codeAny_call_builtin (R:=wants (fun r D9=>r=.none/\∃ h' tk,D9={ s with heap:=h',toks:=tk }/\SI items.size h' /\
     (∀ b o,b<s.heap.objs.size->s.heap.get? b=some o->h'.get? b=some o)) E) F.called_set.init.plain F.entry_set_init (check_set_init_1 hT ?_)) fun dw' D9 Sw=>?_
   ·obtain⟨ol,Sy,hG,nl,Xc⟩:=hl
    obtain⟨hK',dx',hL',dy'⟩:=ol
    simp only at hG Xc
    subst hG;subst Xc
    have dz':(s.heap.push { cls:=.type "set",dict:=none,data:=.set #[] 0 (.fresh 0 0 led) }).get? l=some { cls:=.type "list",dict:=dx',data:=.seq items nl,slots:=dy' }:=eW _ Sy
    have hN':=F.sub_list_set
    have hO':=F.sub_list_frozenset
    have fS:(Value.type "list" == Value.type "dict")=false:=by decide
    have Xd:(s.heap.push { cls:=.type "set",dict:=none,data:=.set #[] 0 (.fresh 0 0 led) }).IsList l items:=⟨_,dz',rfl,nl,rfl⟩
    unfold Builtin.«set.__init__» noKeywords Builtin.Frozenset.updateFrom
    generalize hPI:pyIter=PI
    wp_walk
    subst hPI
    refine wpAny_pyIter_list Xd ?_
    refine ag (wpAny_runValue ?_)
    have Xe:l<s.heap.objs.size:=dy Sy
    have hh3:A.in1.in1.in1.handled=none:=by simp[hh]
    have hsz:(s.heap.push { cls:=.type "set",dict:=none,data:=.set #[] 0 (.fresh 0 0 led) }).objs.size=s.heap.objs.size+1:=Heap.size_push ..
    have dC':l≠(s.heap.push { cls:=.type "set",dict:=none,data:=.set #[] 0 (.fresh 0 0 led) }).objs.size:=by
     rw[hsz];exact eM (vt Xe)
    have E6:s.heap.objs.size∉[(s.heap.push { cls:=.type "set",dict:=none,data:=.set #[] 0 (.fresh 0 0 led) }).objs.size,l]:=by
     rw[hsz];simp only[df,nv,zS,or_false,not_or]
     exact⟨eM (Nat.lt_succ_self _),FR Xe⟩
    refine yN (Walks.list hh3 _ l dC' items) s.heap.objs.size E6 SI (fun i h h' hi hk=>keep i h h' hi fun b o hb e=>hk b o ?_ e) (fun i v s' E' Q' hP hi hq=>step i v s' E' Q' hP hi hq) (items.size-0) 0 _ (by lia) (gV _)
     ⟨⟨_,jv _ rfl,rfl,rfl⟩,(Xd.push _)⟩ ?hS0 ?hR
    ·rw[hsz]
     simp only[df,zS,or_false]
     exact eM (BU hb)
    case hS0 =>
     exact h0 _ (eW _ hS) fun b o e=>eW _ (eW _ e)
    case hR =>
     intro h' A8 M8 gp
     show wpAny _ _ _ _ _ _
     refine aI ?_
     show wpAny _ _ (ret Value.none) _ _ _
     refine aI ⟨rfl,h',A8,rfl,M8,fun b o hb e=>?_⟩
     refine gp b o ?_ (eM hb) (eW _ (eW _ e))
     rw[hsz]
     simp only[df,zS,or_false]
     exact eM (vt hb)
   ·cases dw' with
    |error e=>exact Sw
    |ok dE' =>
     cases dE' with
     |ret r =>
      obtain⟨rfl,h',tk,rfl,M8,gp⟩:=Sw
      repeat (any_goals (first|assumption|wp_step))
      exact h _ _ M8 gp
     |_=>exact Sw.elim
  |_=>exact hr.elim
end
theorem pq:Manifest.owners.lookup (String.ofList ['r','o','t','a','r','e','t','i','_','t','e','s'].reverse)=some Manifest.sig_set_iterator:=by kernel_rfl
theorem bA:Slot "set_iterator" "__next__" "set_iterator.__next__" :=
 .of (owner := "set_iterator") (n := "__next__") (by rw[typeLookup_type,builtinLookup_eq_fast];kernel_rfl) (by decide +kernel) (by decide +kernel) (by decide +kernel)
  (by first|exact .inl (by decide +kernel)|exact .inr (by decide +kernel)) (by rw[isSubtype_type];kernel_rfl)
theorem lH:entryFor table "set_iterator.__next__" = some Builtin.«set_iterator.__next__» := entryFor_of_tree (by kernel_rfl)
theorem nj (a:Value):argsOk "set_iterator.__next__" ⟨[a],[]⟩:=by
 unfold argsOk;rw[signature?_of (id := "set_iterator.__next__") (n:=['_','_','t','x','e','n','_','_']) (o:=['r','o','t','a','r','e','t','i','_','t','e','s']) (by kernel_rfl) pq];kernel_rfl
theorem gn:Slot "set_iterator" "__iter__" "set_iterator.__iter__" :=
 .of (owner := "set_iterator") (n := "__iter__") (by rw[typeLookup_type,builtinLookup_eq_fast];kernel_rfl) (by decide +kernel) (by decide +kernel) (by decide +kernel)
  (by first|exact .inl (by decide +kernel)|exact .inr (by decide +kernel)) (by rw[isSubtype_type];kernel_rfl)
theorem lG:entryFor table "set.__iter__" = some Builtin.«frozenset.__iter__» :=
 entryFor_alias (id' := "frozenset.__iter__") (by kernel_rfl) rfl (by decide +kernel) (by kernel_rfl)
theorem iu:∀ (l:List α) (i:Nat) (h:i<l.length),(l[i] :: l.eraseIdx i).Perm l
 |x :: l,0,_=>.refl _
 |x :: l,i+1,h=>by
  have ih:=iu l i (by simpa using h)
  exact(List.Perm.swap _ _ _).trans (ih.cons x)
theorem wJ(next:Nat->Nat):∀ (fuel k:Nat) (left:List α) (out:Array α),left.length=fuel->(pickOrder.go next fuel k left out).toList.Perm (out.toList++left)
 |0,k,left,out,h=>by
  have:left=[]:=NF.mp h
  subst this
  unfold pickOrder.go
  rw[lI]
 |fuel+1,k,left,out,h=>by
  unfold pickOrder.go
  have dE:next k % left.length<left.length:=FU _ (by lia)
  rw[oq dE]
  dsimp only
  refine(wJ next fuel (k+1) _ _ (by rw[List.length_eraseIdx];split<;>lia)).trans ?_
  rw[Array.toList_push,NM]
  refine List.Perm.append_left _ ?_
  exact iu _ _ dE
theorem jX(next:Nat->Nat)(xs:Array α):(pickOrder next xs).toList.Perm xs.toList:=by
 unfold pickOrder
 have:=wJ next xs.size 0 xs.toList #[] (by simp)
 simpa using this
section
variable {prog:Program}{w:World}{A:Around}{E:Value->Shared->Prop}{s:Shared}
theorem oE(hn:n≠0)(h:∀ i d,i<n->Q i { s with drawn:=d }):wpAny M A (choose src n) Q E s:=fun Γ p _=>⟨hn,h _ _ (FU _ (Nat.pos_of_ne_zero hn))⟩
theorem Dg(n:Nat):∀ (xs:List α) (s:Shared) (Q:List α->Shared->Prop),xs.length=n->(∀ ys d,ys.Perm xs->Q ys { s with drawn:=d })->wpAny (model prog w) A (drawOrder n xs) Q E s:=by
 induction n with
 |zero =>
  intro xs s Q h q
  have:xs=[]:=NF.mp h
  subst this
  unfold drawOrder
  exact aI (q [] s.drawn (.refl _))
 |succ n ih =>
  intro xs s Q h q
  cases xs with
  |nil=>cases h
  |cons x xs =>
   unfold drawOrder
   refine ag (oE (by simp) fun i d hi=>?_)
   rw[oq hi]
   dsimp only
   refine ag (ih _ _ _ (by rw[List.length_eraseIdx,if_pos hi];simp at h ⊢;lia) fun ys d' py=>?_)
   refine aI ?_
   exact q _ d' ((py.cons _).trans (iu _ _ hi))
def qc(h:Heap)(I:Addr)(first:Value)(i:Nat)(a:Addr)(n ep:Nat):Prop :=
 h.get? I=some { cls:=.type "set_iterator",dict:=none,data:=.fields #[first,.int i 0,.ref a,.int n 0,.int ep 0],slots:=#[] }
def zi(h:Heap)(a:Addr)(es:Array (Int × Value))(ep:Nat)(t:SetTable):Prop:=∃ o,h.get? a=some o/\o.data=.set es ep t
variable {a I:Addr}{es:Array (Int × Value)}{ep:Nat}{t:SetTable}{first:Value}{i n:Nat}
theorem qc.typeIs (h:qc s.heap I first i a n ep):s.TypeIs (.ref I) "set_iterator" := ⟨_,h,rfl⟩
theorem wj(hit:qc s.heap I first i a n ep)
  (h:wpAny (model prog w) A.in1 (Builtin.«set_iterator.__next__» ⟨[.ref I],[]⟩) (fun fin s'=>∃ v,fin=.done (.ret v)/\Q (some v) s') (fun e s'=>wpAny (model prog w) A (isInstance e (.type "StopIteration")) (fun b Ct=>b=true/\Q none Ct) E s') s) :
  wpAny (model prog w) A (pyNext (.ref I)) Q E s:=by
 unfold pyNext
 refine ag (wpAny_attempt (wpAny_callSpecial?_slot (name:=Str.ofString "__next__") hit.typeIs bA
  (wpAny_call_entry bA hit.typeIs lH ?_ (nj _))))
 refine oI h (fun fin s' ⟨v,e,q⟩=>⟨v,e,aI q⟩) fun e s' q=>?_
 refine ag (oI q (fun b Ct cy=>?_) fun _ _ x=>x)
 obtain⟨e,q⟩:=cy
 subst e
 rw[if_pos rfl]
 exact aI q
theorem vf{P:Fin->Shared->Prop}{Q:Option Value->Shared->Prop}(hh:A.handled=none)(hQ:∀ h',(∀ b o,s.heap.get? b=some o->h'.get? b=some o)->Q none { s with heap:=h' }) :
  wpAny (model prog w) A.in1 (newExc (.type "StopIteration") [] >>= fun e=>raiseNew e) P (fun e s'=>wpAny (model prog w) A (isInstance e (.type "StopIteration")) (fun b Ct=>b=true/\Q none Ct) E s') s:=by
 refine ag ?_
 simp only[newExc,newTuple]
 refine ag (wpAny_newObj_type ?_ (by size_fits))
 refine ag (m:=firstArgMember _ _) (wpAny_of_eq (a:=Value.none) (by first|rfl|(simp only[firstArgMember];rfl)) ?_)
 refine wpAny_newObj_type ?_ (by size_fits)
 simp only[raiseNew]
 refine ag (wpAny_handled ?_)
 rw[show A.in1.handled=none from hh]
 refine ag (aI (wpAny_throw ?_))
 refine wpAny_isInstance (T := "StopIteration") (b:=true) ⟨_,jv _ rfl,rfl⟩ isSubtype_stop ⟨rfl,?_⟩
 exact hQ _ fun b o e=>eW _ (eW _ e)
theorem gQ{Q:Option Value->Shared->Prop}{slot:Nat}{r:Option (Value × Nat)}(hh:A.handled=none)(fS:a≠I)(hit:qc s.heap I (.int slot 0) i a es.size ep)(E7:zi s.heap a es ep t)(hf:t.fits es.size=true)
  (hr:∀ (A':Around) (E':Value->Shared->Prop) (Q':Option (Value × Nat)->Shared->Prop),Q' r s->wpAny (model prog w) A' (setNext a slot i ep) Q' E' s)
  (h1:∀ x nx h',r=some (x,nx)->qc h' I (.int nx 0) (i+1) a es.size ep->Heap.SameBut I s.heap h'->Q (some x) { s with heap:=h' })
  (h2:∀ h',r=none->(∀ b o,b≠I->s.heap.get? b=some o->h'.get? b=some o)->Q none { s with heap:=h' }) :
  wpAny (model prog w) A (pyNext (.ref I)) Q E s:=by
 obtain⟨o,ho,hd⟩:=E7
 refine wj hit ?_
 unfold Builtin.«set_iterator.__next__»
 refine ag (m:=slotArgs "__next__" 0 ⟨[.ref I],[]⟩) (wpAny_of_eq (a:=(.ref I,[])) rfl ?_)
 dsimp only
 refine ag (wpAny_fieldsOf hit rfl ?_)
 dsimp only
 refine ag (wpAny_setEntries_of ho hd hf ?_)
 rw[if_neg (by simp)]
 simp only[FY]
 refine ag (hr _ _ _ ?_)
 cases r with
 |some p =>
  obtain⟨x,nx⟩:=p
  dsimp only
  refine ag (wpAny_setField_rec hit (by simp) fun g1 e1 x3=>?_)
  refine ag (wpAny_setField_rec (s:={ s with heap:=g1 }) e1 (by simp) fun g2 e2 IC=>?_)
  exact aI ⟨x,rfl,h1 x nx g2 rfl (by unfold qc;simpa[rawInt] using e2) (x3.trans IC)⟩
 |none =>
  dsimp only
  refine ag (wpAny_setField_rec hit (by simp) fun g1 e1 x3=>?_)
  exact vf (s:={ s with heap:=g1 }) hh fun h' k=>h2 h' rfl fun b o hb e=>k b o (x3.extBut b o hb e)
theorem lL{Q:Option Value->Shared->Prop}{T:Addr}{ix:List Nat}{oT:Obj}{kT:Nat}(hh:A.handled=none)(hit:qc s.heap I (.ref T) i a es.size ep)(E7:zi s.heap a es ep t)(hf:t.fits es.size=true)
  (hT:s.heap.get? T=some oT) (hTd:oT.data=.seq (ix.map fun(k:Nat)=>Value.int k 0).toArray kT)
  (h1:∀ k e h',ix[i]? = some k->es[k]? = some e->qc h' I (.ref T) (i+1) a es.size ep->Heap.SameBut I s.heap h'->Q (some e.2) { s with heap:=h' }) (wc:∀ k∈ix,k<es.size)
  (h2:∀ h',ix[i]? = none->(∀ b o,b≠I->s.heap.get? b=some o->h'.get? b=some o)->Q none { s with heap:=h' }) :
  wpAny (model prog w) A (pyNext (.ref I)) Q E s:=by
 obtain⟨o,ho,hd⟩:=E7
 refine wj hit ?_
 unfold Builtin.«set_iterator.__next__»
 refine ag (m:=slotArgs "__next__" 0 ⟨[.ref I],[]⟩) (wpAny_of_eq (a:=(.ref I,[])) rfl ?_)
 dsimp only
 refine ag (wpAny_fieldsOf hit rfl ?_)
 dsimp only
 refine ag (wpAny_setEntries_of ho hd hf ?_)
 rw[if_neg (by simp)]
 refine ag (wpAny_seqItems hT hTd ?_)
 dsimp only
 simp only[FY,List.getElem?_toArray,ny]
 cases hk:ix[i]? with
 |some k =>
  dsimp only[Option.map]
  have PD:=wc k (ll hk)
  refine ag ?_
  unfold setNextDrawn
  refine ag (wpAny_setState_of ho hd hf ?_)
  dsimp only
  simp only[FY]
  rw[if_neg (by simp),wm PD]
  refine aI ?_
  refine ag (wpAny_setField_rec hit (by simp) fun g1 e1 x3=>?_)
  exact aI ⟨_,rfl,h1 k es[k] g1 hk (wm PD) (by unfold qc;simpa[rawInt] using e1) x3⟩
 |none =>
  dsimp only[Option.map]
  refine ag (wpAny_setField_rec hit (by simp) fun g1 e1 x3=>?_)
  refine ag (wpAny_setField_rec (s:={ s with heap:=g1 }) e1 (by simp) fun g2 e2 IC=>?_)
  exact vf (s:={ s with heap:=g2 }) hh fun h' k=>h2 h' hk fun b o hb e=>k b o ((x3.trans IC).extBut b o hb e)
theorem oh (a:Value):argsOk "set_iterator.__iter__" ⟨[a],[]⟩:=by
 unfold argsOk;rw[signature?_of (id := "set_iterator.__iter__") (n:=['_','_','r','e','t','i','_','_']) (o:=['r','o','t','a','r','e','t','i','_','t','e','s']) (by kernel_rfl) pq];kernel_rfl
theorem lA:entryFor table "set_iterator.__iter__" = some Builtin.«dict_keyiterator.__iter__» :=
 entryFor_alias (id' := "dict_keyiterator.__iter__") (by kernel_rfl) rfl (by decide +kernel) (by kernel_rfl)
theorem jw(hit:qc s.heap I first i a n ep)(h:Q (.ref I) s):wpAny (model prog w) A (pyIter (.ref I)) Q E s:=by
 refine wpAny_pyIter_slot hit.typeIs gn (wpAny_call_entry gn hit.typeIs lA ?_ (oh _))
 show wpAny _ _ (ret (.ref I)) _ _ s
 exact aI ⟨_,rfl, "set_iterator",_,hit.typeIs,bA.lookup,h⟩
theorem oV {slot:Nat} {Q:Option (Value × Nat)->Shared->Prop} (hb:w.params.followText "set-order" = true) (E7:zi s.heap a es ep t) (hf:t.fits es.size=true)
  (h:Q (((pickOrder (w.params.setOrder a ep) es)[i]?).map fun e=>(e.2,slot)) s):wpAny (model prog w) A (setNext a slot i ep) Q E s:=by
 obtain⟨o,ho,hd⟩:=E7
 unfold setNext
 refine ag (wpAny_setState_of ho hd hf ?_)
 dsimp only
 unfold setsByText
 refine ag (ag (wpAny_askSetting (aI ?_)))
 dsimp only
 rw[if_pos (by exact hb),if_neg (by simp)]
 refine ag ?_
 unfold setWalk
 refine ag (wpAny_setState_of ho hd hf ?_)
 dsimp only
 unfold setsByText
 refine ag (ag (wpAny_askSetting (aI ?_)))
 dsimp only
 rw[if_pos (by exact hb)]
 refine ag (wpAny_askSetting (aI ?_))
 exact aI h
theorem lK {slot:Nat} {Q:Option (Value × Nat)->Shared->Prop} (hb:w.params.followText "set-order" = false) (hl:t.led=true) (IG:(!t.plain && decide (es.size>1))=false) (E7:zi s.heap a es ep t) (hf:t.fits es.size=true)
  (h:Q (match es[below t.place slot]?,t.place[below t.place slot]? with
  |some (_,x),some j=>some (x,j+1)
  |_,_=>none) s):wpAny (model prog w) A (setNext a slot i ep) Q E s:=by
 obtain⟨o,ho,hd⟩:=E7
 unfold setNext
 refine ag (wpAny_setState_of ho hd hf ?_)
 dsimp only
 unfold setsByText
 refine ag (ag (wpAny_askSetting (aI ?_)))
 dsimp only
 rw[if_neg (by rw[show(model prog w).w.params.followText "set-order" = false from hb];exact iq)]
 have e0:mK es t=(!t.plain && decide (es.size>1)):=rfl
 unfold mK at e0
 rw[e0,IG,if_neg iq]
 refine ag (m:=Hv es t) ?_
 show wpAny _ _ (if (!t.led && !es.isEmpty)=true then unsupported "set:maker-not-led" else pure ()) _ _ s
 rw[if_neg (by rw[hl];simp)]
 exact aI (aI h)
def PV(ys:List (Int × Value))(i:Nat)(v:Value):Prop:=∃ e,ys[i]? = some e/\v=e.2
theorem qc.keep(x:qc h I first i a n ep)(e:∀ o,h.get? I=some o->h'.get? I=some o):qc h' I first i a n ep:=e _ x
theorem zi.keep(x:zi h a es ep t)(e:∀ o,h.get? a=some o->h'.get? a=some o):zi h' a es ep t:=let ⟨o,ho,r⟩:=x;⟨o,e _ ho,r⟩
theorem xO (hh:A.handled=none) (fS:a≠I) (hb:w.params.followText "set-order" = true) (hf:t.fits es.size=true) :
  Walks prog w A I [I,a] [I] es.size (PV (pickOrder (w.params.setOrder a ep) es).toList) (fun i h=>(∃ slot:Nat,qc h I (.int slot 0) i a es.size ep)/\zi h a es ep t) where
 sub:=fun b hb=>by simp at hb;simp[hb]
 frame:=fun _ _ _ ⟨⟨sl,x⟩,y⟩ hk=>⟨⟨sl,x.keep fun o e=>hk I (by simp) o e⟩,y.keep fun o e=>hk a (by simp) o e⟩
 item:=fun i s Q E hi ⟨⟨sl,x⟩,y⟩ hQ=>by
  have hlen:(pickOrder (w.params.setOrder a ep) es).size=es.size:=by
   have:=(jX (w.params.setOrder a ep) es).length_eq
   simpa using this
  refine gQ hh fS x y hf (r:=((pickOrder (w.params.setOrder a ep) es)[i]?).map fun e=>(e.2,sl)) (fun A' E' Q' q=>oV hb y hf q) (fun v nx h' e x' sb=>?_) fun h' e k=>?_
  ·rw[wm (by lia)] at e
   cases e
   exact hQ _ h' s.toks ⟨_,by rw[sF];exact wm (by lia),rfl⟩ ⟨⟨_,x'⟩,y.keep fun o e=>sb.extBut _ _ fS e⟩ fun b o hb e=>sb.extBut b o (fun h=>hb (by simp[h])) e
  ·rw[wm (by lia)] at e
   cases e
 done:=fun s Q E ⟨⟨sl,x⟩,y⟩ hQ=>by
  have hlen:(pickOrder (w.params.setOrder a ep) es).size=es.size:=by
   have:=(jX (w.params.setOrder a ep) es).length_eq
   simpa using this
  refine gQ hh fS x y hf (r:=((pickOrder (w.params.setOrder a ep) es)[es.size]?).map fun e=>(e.2,sl)) (fun A' E' Q' q=>oV hb y hf q) (fun v nx h' e x' sb=>?_) fun h' e k=>?_
  ·rw[FV (by lia)] at e
   cases e
  ·exact hQ h' s.toks fun b o hb e=>k b o (fun h=>hb (by simp[h])) e
 self:=fun _ _ _ _ ⟨⟨sl,x⟩,y⟩ hQ=>jw x hQ
def slotAt(t:SetTable):Nat->Nat
 |0=>0
 |i+1=>t.place.getD i 0+1
theorem iw(U:Up t.place)(h:i<=t.place.size):below t.place (slotAt t i)=i:=by
 cases i with
 |zero =>
  obtain⟨_,b,_⟩:=aY U 0
  by_cases z:below t.place 0=0
  ·exact z
  ·exact absurd (b 0 (Nat.pos_of_ne_zero z)) (DZ _)
 |succ i=>exact uF U (by lia)
theorem ur (hh:A.handled=none) (fS:a≠I) (hb:w.params.followText "set-order" = false) (hl:t.led=true) (IG:(!t.plain && decide (es.size>1))=false) (U:Up t.place) (hz:t.place.size=es.size) (hf:t.fits es.size=true) :
  Walks prog w A I [I,a] [I] es.size (PV es.toList) (fun i h=>qc h I (.int (slotAt t i:Nat) 0) i a es.size ep/\zi h a es ep t) where
 sub:=fun b hb=>by simp at hb;simp[hb]
 frame:=fun _ _ _ ⟨x,y⟩ hk=>⟨x.keep fun o e=>hk I (by simp) o e,y.keep fun o e=>hk a (by simp) o e⟩
 item:=fun i s Q E hi ⟨x,y⟩ hQ=>by
  have IB:=iw (t:=t) U (i:=i) (by lia)
  have e1:es[below t.place (slotAt t i)]? = some es[i]:=by rw[IB];exact wm hi
  have e2:t.place[below t.place (slotAt t i)]? = some (t.place.getD i 0):=by rw[IB];exact xg (by lia)
  refine gQ hh fS x y hf (r:=some (es[i].2,t.place.getD i 0+1)) (fun A' E' Q' q=>lK hb hl IG y hf (by rw[e1,e2];exact q)) (fun v nx h' e x' sb=>?_) fun h' e k=>nomatch e
  cases e
  exact hQ _ h' s.toks ⟨_,by rw[sF];exact wm hi,rfl⟩ ⟨x',y.keep fun o e=>sb.extBut _ _ fS e⟩ fun b o hb e=>sb.extBut b o (fun h=>hb (by simp[h])) e
 done:=fun s Q E ⟨x,y⟩ hQ=>by
  have IB:=iw (t:=t) U (i:=es.size) (by lia)
  have e1:es[below t.place (slotAt t es.size)]? = none:=by rw[IB];exact FV (ck _)
  refine gQ hh fS x y hf (r:=none) (fun A' E' Q' q=>lK hb hl IG y hf (by rw[e1];exact q)) (fun v nx h' e x' sb=>nomatch e) fun h' e k=>?_
  exact hQ h' s.toks fun b o hb e=>k b o (fun h=>hb (by simp[h])) e
 self:=fun _ _ _ _ ⟨x,y⟩ hQ=>jw x hQ
theorem uP{T:Addr}{ix:List Nat}{kT:Nat}(hh:A.handled=none)(fS:a≠I)(hTI:T≠I)(hf:t.fits es.size=true)(hp:ix.Perm (List.range es.size)) :
  Walks prog w A I [I,a,T] [I] es.size (PV (ix.filterMap fun k=>es[k]?)) (fun i h=>qc h I (.ref T) i a es.size ep/\zi h a es ep t/\∃ o,h.get? T=some o/\o.data=.seq (ix.map fun(k:Nat)=>Value.int k 0).toArray kT):=by
 have hlen:ix.length=es.size:=by simpa using hp.length_eq
 have wc:∀ k∈ix,k<es.size:=fun k hk=>sD.mp (hp.mem_iff.mp hk)
 obtain⟨f1,f2⟩:=sY (l:=ix) (f:=fun k=>es[k]?) fun k hk=>by simp[wc k hk]
 exact {
  sub:=fun b hb=>by simp at hb;simp[hb]
  frame:=fun _ _ _ ⟨x,y,o,z,zd⟩ hk=>⟨x.keep fun o e=>hk I (by simp) o e,y.keep fun o e=>hk a (by simp) o e,o,hk T (by simp) o z,zd⟩
  item:=fun i s Q E hi ⟨x,y,o,z,zd⟩ hQ=>by
   refine lL hh x y hf z zd (fun k e h' e1 e2 x' sb=>?_) wc fun h' e k=>?_
   ·refine hQ _ h' s.toks ⟨e,by rw[f2,e1];exact e2,rfl⟩ ⟨x',y.keep fun o e=>sb.extBut _ _ fS e,o,sb.extBut _ _ hTI z,zd⟩ fun b o hb e=>sb.extBut b o (fun h=>hb (by simp[h])) e
   ·rw[oq (by lia)] at e;cases e
  done:=fun s Q E ⟨x,y,o,z,zd⟩ hQ=>by
   refine lL hh x y hf z zd (fun k e h' e1 e2 x' sb=>?_) wc fun h' e k=>?_
   ·rw[sA (by lia)] at e1;cases e1
   ·exact hQ h' s.toks fun b o hb e=>k b o (fun h=>hb (by simp[h])) e
  self:=fun _ _ _ _ ⟨x,_⟩ hQ=>jw x hQ }
end
section
variable {prog:Program}{w:World}{A:Around}{E:Value->Shared->Prop}{s:Shared}{a:Addr}{o:Obj}{es:Array (Int × Value)}{ep:Nat}{t:SetTable}
theorem zc {Q:Value->Shared->Prop} (hh:A.handled=none) (ho:s.heap.get? a=some o) (hex:o.ExactSet) (hd:o.data=.set es ep t) (hf:t.fits es.size=true) (U:Up t.place) (hz:t.place.size=es.size) (hl:t.led=(!w.params.followText "set-order")) (hn:es.size<=sizeLine)
  (h:∀ (I:Addr) (h2:Heap) d (fp:List Addr) (St:Nat->Heap->Prop) (ys:List (Int × Value)),(∀ b o,s.heap.get? b=some o->h2.get? b=some o)->s.heap.objs.size<=I->(∀ b∈fp,b=a\/s.heap.objs.size<=b)->ys.Perm es.toList ->
   Walks prog w A I fp [I] es.size (PV ys) St->St 0 h2->Q (.ref I) { s with heap:=h2,drawn:=d }):wpAny (model prog w) A (pyIter (.ref a)) Q E s:=by
 have hT:s.TypeIs (.ref a) "set" := ⟨o,ho,hex.1⟩
 have dE:a<s.heap.objs.size:=dy ho
 refine wpAny_pyIter_slot hT F.slot_set_iter (wpAny_call_entry F.slot_set_iter hT lG ?_ (F.args_set_iter_1 _))
 unfold Builtin.«frozenset.__iter__»
 refine ag (m:=Builtin.Frozenset.slot0 "__iter__" ⟨[.ref a],[]⟩) (wpAny_of_eq (a:=a) rfl ?_)
 refine ag ?_
 unfold Builtin.Frozenset.sizeOf
 refine ag (wpAny_setEntries_of ho hd hf (aI ?_))
 refine ag ?_
 unfold setDrawn
 refine ag (wpAny_setState_of ho hd hf ?_)
 dsimp only
 unfold setsByText
 refine ag (ag (wpAny_askSetting (aI ?_)))
 refine aI ?_
 have e0:mK es t=(!t.plain && decide (es.size>1)):=rfl
 unfold mK at e0
 rw[e0]
 show wpAny _ _ (if (!w.params.followText "set-order" && (!t.plain && decide (es.size>1)))=true then _ else _) _ _ s
 cases hb:w.params.followText "set-order" with
 |true =>
  rw[if_neg (by simp)]
  refine ag (aI ?_)
  refine ag (wpAny_setEpoch_of ho hd hf ?_)
  refine ag (wpAny_newObj_type ?_)
  refine aI ⟨_,rfl, "set_iterator",_,⟨_,jv _ rfl,rfl⟩,bA.lookup,?_⟩
  have mz:(s.heap.push { cls:=.type "set_iterator",data:=.fields #[rawInt 0,rawInt 0,.ref a,rawInt es.size,rawInt ep] }).get? a=some o:=eW _ ho
  exact h s.heap.objs.size _ s.drawn _ _ _ (fun b o e=>eW _ e) (ck _) (fun b hb=>by
   rcases df.mp hb with rfl|hb
   ·exact .inr (ck _)
   ·exact .inl (nv.mp hb)) (jX _ _) (xO (ep:=ep) hh (eM dE) hb hf) ⟨⟨0,jv _ rfl⟩,o,mz,hd⟩
 |false =>
  cases IG:(!t.plain && decide (es.size>1)) with
  |false =>
   rw[if_neg (by simp)]
   refine ag (aI ?_)
   refine ag (wpAny_setEpoch_of ho hd hf ?_)
   refine ag (wpAny_newObj_type ?_)
   refine aI ⟨_,rfl, "set_iterator",_,⟨_,jv _ rfl,rfl⟩,bA.lookup,?_⟩
   have mz:(s.heap.push { cls:=.type "set_iterator",data:=.fields #[rawInt 0,rawInt 0,.ref a,rawInt es.size,rawInt ep] }).get? a=some o:=eW _ ho
   exact h s.heap.objs.size _ s.drawn _ _ _ (fun b o e=>eW _ e) (ck _) (fun b hb=>by
    rcases df.mp hb with rfl|hb
    ·exact .inr (ck _)
    ·exact .inl (nv.mp hb)) (.refl _) (ur (ep:=ep) hh (eM dE) hb (by rw[hl,hb];rfl) IG U hz hf) ⟨jv _ rfl,o,mz,hd⟩
  |true =>
   rw[if_pos (by simp)]
   refine ag (Dg es.size (List.range es.size) s _ (by simp) fun ix d hp=>?_)
   refine ag (wpAny_newObj_type ?_ ?hzz)
   case hzz =>
    have:=hp.length_eq
    rw[Ql] at this
    show(ix.map fun(i:Nat)=>rawInt i).toArray.size<=sizeLine
    rw[hX,bT,this];exact hn
   have zh:(s.heap.push { cls:=.type "tuple",data:=.seq (ix.map fun(i:Nat)=>rawInt i).toArray }).get? a=some o:=eW _ ho
   refine ag (wpAny_setEpoch_of zh hd hf ?_)
   refine ag (wpAny_newObj_type ?_)
   refine aI ⟨_,rfl, "set_iterator",_,⟨_,jv _ rfl,rfl⟩,bA.lookup,?_⟩
   have PF:(s.heap.push { cls:=.type "tuple",data:=.seq (ix.map fun(i:Nat)=>rawInt i).toArray }).objs.size=s.heap.objs.size+1:=Heap.size_push ..
   refine h (s.heap.push { cls:=.type "tuple",data:=.seq (ix.map fun(i:Nat)=>rawInt i).toArray }).objs.size _ d [(s.heap.push { cls:=.type "tuple",data:=.seq (ix.map fun(i:Nat)=>rawInt i).toArray }).objs.size,a,s.heap.objs.size] _ (ix.filterMap fun k=>es[k]?) (fun b o e=>eW _ (eW _ e)) (by rw[PF];exact D4 _) (fun b hb=>?_) ?_
    (uP (ep:=ep) (kT:=0) (T:=s.heap.objs.size) (ix:=ix) (t:=t) hh (by rw[PF];exact eM (vt dE)) (by rw[PF];exact eM (Nat.lt_succ_self _)) hf hp) ⟨jv _ rfl,⟨o,eW _ zh,hd⟩,_,eW _ (jv _ rfl),rfl⟩
   ·rcases df.mp hb with rfl|hb
    ·exact .inr (by rw[PF];exact D4 _)
    ·rcases df.mp hb with rfl|hb
     ·exact .inl rfl
     ·rw[nv.mp hb];exact .inr (ck _)
   ·have:=hp.filterMap fun k=>es[k]?
    rw[rO] at this
    exact this
theorem yP {Q:Bool->Shared->Prop} (hT:s.TypeIs (.ref a) "set") (h:Q false s):wpAny (model prog w) A (Builtin.List.listLengthHint (.ref a)) Q E s:=by
 unfold Builtin.List.listLengthHint
 refine ag (wpAny_specialOf hT PySem.F.slot_set_len.lookup ?_)
 generalize CY:("set.__len__" : String)=id0
 wp_delta
 rw[show splitId id0=some ("set", "__len__") from by subst CY;decide +kernel]
 subst CY
 refine ag (wpAny_isInstance (T := "set") (b:=true) hT (by rw[isSubtype_type];kernel_rfl) ?_)
 refine wpAny_ite_split (fun E5=>absurd E5 (by decide)) (fun _=>?_)
 refine wpAny_ite_split (fun _=>?_) (fun E5=>absurd (by decide +kernel) E5)
 refine ag (wpAny_typeOf hT ?_)
 exact aI h
theorem CW {R:Result->Shared->Prop} (hh:A.handled=none) (ho:s.heap.get? a=some o) (hex:o.ExactSet) (hd:o.data=.set es ep t) (hf:t.fits es.size=true) (U:Up t.place) (hz:t.place.size=es.size) (hl:t.led=(!w.params.followText "set-order")) (hn:es.size<=sizeLine)
  (S:Addr) (Xf:S≠a) (res:Value) (c₀:Nat) (hS:s.heap.get? S=some { cls:=.type "list",data:=.seq #[] c₀ })
  (hR:∀ h' tk d xo c' ys,(∀ b o,b≠S->s.heap.get? b=some o->h'.get? b=some o)->h'.get? S=some { cls:=.type "list",dict:=none,data:=.seq xo c',slots:=#[] }->ys.Perm es.toList->ItemsOf (PV ys) xo es.size->R (.ok (.ret res)) { s with heap:=h',toks:=tk,drawn:=d }) :
  wpAny (model prog w) A.in1 (Builtin.List.listExtendWith (.ref S) (.ref a) res)
   (fun fin s'=>match fin with|.done f=>R (.ok f) s'|.again c'=>c'.quiet=true/\codeAny (model prog w) A c' R s') (fun e s'=>R (.error e) s') s:=by
 have hT:s.TypeIs (.ref a) "set" := ⟨o,ho,hex.1⟩
 have hSl:=dy hS
 unfold Builtin.List.listExtendWith
 refine ag (wpAny_typeOf hT ?_)
 have h1:Builtin.List.listSameRef (.ref S) (.ref a)=false:=by simp[Builtin.List.listSameRef,Xf]
 simp only[h1,show(Value.type "set" == Value.type "list")=false by decide,show(Value.type "set" == Value.type "tuple")=false by decide,Bool.or_false,kP,if_false]
 refine ag (zc (A:=A.in1) hh ho hex hd hf U hz hl hn fun I h2 d fp St ys kp hI hfp hp W st=>?_)
 have E6:S∉fp:=fun hm=>by
  rcases hfp S hm with z|z
  ·exact Xf z
  ·exact absurd hSl (Nat.not_lt.mpr z)
 have key:∀ (h:Heap) (c₁ tk:Nat),St 0 h->(∀ b o,b≠S->s.heap.get? b=some o->h.get? b=some o) ->
   h.get? S=some { cls:=.type "list",data:=.seq #[] c₁ }->codeAny (model prog w) A (.builtin "list.extend.loop" ⟨[.ref S,.ref I,res],[]⟩) R { s with heap:=h,toks:=tk,drawn:=d }:=by
  intro h c₁ tk jS hk M9
  refine codeAny_extend_loopS W.toS hn S E6 res es.size 0 _ #[] c₁ rfl (gV _) jS M9 (ItemsOf.nil _) fun s' xo c' hm M8 CF=>?_
  rw[Moved.eq_with hm]
  refine hR s'.heap s'.toks d xo c' ys (fun b o hb e=>hm.heap b o (fun MH=>?_) (hk b o hb e)) M8 hp CF
  rcases df.mp MH with e'|MH
  ·exact hb e'
  ·exact absurd (dy e) (by rw[nv.mp MH];exact Nat.not_lt.mpr hI)
 have M9:h2.get? S=some { cls:=.type "list",data:=.seq #[] c₀ }:=kp _ _ hS
 refine ag (wpAny_holding (yP (s:={ s with heap:=h2,drawn:=d }) ⟨o,kp _ _ ho,hex.1⟩ ?_))
 refine wpAny_ite_split (fun _=>?_) (fun _=>aI ⟨plainId_quiet PySem.F.plain_extend_loop _,key _ c₀ _ st (fun b o _ e=>kp b o e) M9⟩)
 refine ag (wpAny_rule ?_)
 refine ag ?_
 show wpAny _ _ (updateSeq S (·.push .none) >>= fun _=>updateSeq S (·.pop)) _ _ _
 refine ag (wpAny_updateSeq M9 rfl ?_)
 have Xg:=FI (Obj.mapSeq (·.push Value.none)) M9 rfl
 refine wpAny_updateSeq (hz:=by seq_fits) Xg rfl ?_
 have dL':=FI (Obj.mapSeq (·.pop)) Xg rfl
 refine aI ⟨plainId_quiet PySem.F.plain_extend_loop _,key _ _ _ ?_ (fun b o hb e=>?_) dL'⟩
 ·refine W.frame 0 _ _ st fun b hb o e=>?_
  have M7:b≠S:=fun h=>E6 (h ▸ hb)
  exact(KP _ _ (Ne.symm M7)).trans ((KP _ _ (Ne.symm M7)).trans e)
 ·exact(KP _ _ (Ne.symm hb)).trans ((KP _ _ (Ne.symm hb)).trans (kp _ _ e))
theorem uw{ys:List (Int × Value)}{acc:Array Value}{n:Nat}(h:ItemsOf (PV ys) acc n)(hn:ys.length=n):acc.toList=ys.map (·.2):=by
 apply DM
 intro i
 rw[ny]
 by_cases hi:i<n
 ·have ki:i<acc.size:=by rw[h.1];exact hi
  have e1:acc[i]? = some acc[i]:=wm ki
  obtain⟨e,he,hv⟩:=h.2 i acc[i] e1
  rw[sF,e1,he,hv];rfl
 ·rw[sA (by rw[yy,h.1];exact FL ‹_›),sA (by lia)];rfl
theorem iU {R:Result->Shared->Prop} (hh:A.handled=none) (ho:s.heap.get? a=some o) (hex:o.ExactSet) (hd:o.data=.set es ep t) (hf:t.fits es.size=true) (U:Up t.place) (hz:t.place.size=es.size) (hl:t.led=(!w.params.followText "set-order")) (hn:es.size<=sizeLine)
  (hR:∀ h' tk d xo c' ys,(∀ b o,s.heap.get? b=some o->h'.get? b=some o)->h'.get? s.heap.objs.size=some { cls:=.type "list",dict:=none,data:=.seq xo c',slots:=#[] }->ys.Perm es.toList->ItemsOf (PV ys) xo es.size->R (.ok (.ret (.ref s.heap.objs.size))) { s with heap:=h',toks:=tk,drawn:=d }) :
  codeAny (model prog w) A (.builtin "proto.collect" ⟨[.ref a],[]⟩) R s:=by
 have dE:a<s.heap.objs.size:=dy ho
 have hS:(s.heap.push { cls:=.type "list",data:=.seq ([]:List Value).toArray }).get? s.heap.objs.size=some { cls:=.type "list",data:=.seq ([]:List Value).toArray }:=jv _ rfl
 refine codeAny_builtin F.entry_proto_collect ?_
 rw[Around.under_plainId F.plain_proto_collect _]
 show wpAny _ A.in1 (newList [] >>= fun l=>again (.builtin "list.__iadd__" ⟨[l,.ref a],[]⟩)) _ _ s
 refine ag (wpAny_newObj_type ?_)
 refine aI ⟨plainId_quiet F.plain_list_iadd _,codeAny_builtin F.entry_list_iadd ?_⟩
 rw[Around.under_plainId F.plain_list_iadd _]
 show wpAny _ A.in1 (Builtin.List.listExtendWith (.ref s.heap.objs.size) (.ref a) (.ref s.heap.objs.size)) _ _ _
 exact CW (R:=R) (s:={ s with heap:=s.heap.push { cls:=.type "list",data:=.seq ([]:List Value).toArray } }) hh (eW _ ho) hex hd hf U hz hl hn s.heap.objs.size (FR dE) _ 0 hS fun h' tk d xo c' ys kp eo hp ia =>
  hR h' tk d xo c' ys (fun b o e=>kp b o (eM (dy e)) (eW _ e)) eo hp ia
theorem jO {Q:List Value->Shared->Prop} (hh:A.handled=none) (ho:s.heap.get? a=some o) (hex:o.ExactSet) (hd:o.data=.set es ep t) (hf:t.fits es.size=true) (U:Up t.place) (hz:t.place.size=es.size) (hl:t.led=(!w.params.followText "set-order")) (hn:es.size<=sizeLine)
  (hQ:∀ h' tk d vs,(∀ b o,s.heap.get? b=some o->h'.get? b=some o)->s.heap.objs.size<=h'.objs.size->vs.Perm (es.toList.map (·.2))->Q vs { s with heap:=h',toks:=tk,drawn:=d }):wpAny (model prog w) A (collect (.ref a)) Q E s:=by
 unfold collect
 refine ag (wpAny_runValue (iU hh ho hex hd hf U hz hl hn fun h' tk d acc c ys kp eo hp ia=>?_))
 show wpAny _ A (load s.heap.objs.size >>= _) _ _ { s with heap:=h',toks:=tk,drawn:=d }
 refine ag (wpAny_load eo ?_)
 refine aI (hQ h' tk d _ kp (ot (dy eo)) ?_)
 rw[uw ia (by rw[hp.length_eq];simp)]
 exact hp.map _
end
end TS
namespace sP
open PySem PyProof.Rows
section
variable {prog:Program}{w:World}{A:Around}{E:Value->Shared->Prop}{s:Shared}{κ:SortKind}{r:Value->Int}{P:Value->Prop}
theorem jR{v:Value}{R:List Value->Prop}{Q:Value->Shared->Prop}
  (RV:∀ (A':Around) (E':Value->Shared->Prop) (Q':List Value->Shared->Prop),A'.handled=A.handled->(∀ vs h1 tk d,R vs->(∀ b o,s.heap.get? b=some o->h1.get? b=some o)->s.heap.objs.size<=h1.objs.size->Q' vs { s with heap:=h1,toks:=tk,drawn:=d })->wpAny (model prog w) A' (collect v) Q' E' s)
  (hsz:∀ vs,R vs->vs.length<=63) (hP:∀ vs,R vs->∀ v∈vs,P v)
  (hk:∀ vs,R vs->2<=vs.length->∀ (A':Around) (E':Value->Shared->Prop) (s':Shared),(∀ b o,s.heap.get? b=some o->s'.heap.get? b=some o)->∀ (Q:SortKind->Shared->Prop),Q κ s'->wpAny (model prog w) A' (keyKind' vs.toArray) Q E' s')
  (C:∀ (s':Shared),(∀ b o,s.heap.get? b=some o->s'.heap.get? b=some o)->pe prog w A.in1.in1 s' κ r P)
  (h:∀ (vs:List Value) (h':Heap) (a:Addr) (out:List Value) (n tk:Nat) d,R vs->out.Perm vs->(out.Pairwise fun x y=>r x<=r y)->(∀ b o,s.heap.get? b=some o->h'.get? b=some o)->s.heap.objs.size<=a->h'.get? a=some (seqObj "list" out.toArray n)->Q (.ref a) { s with heap:=h',toks:=tk,drawn:=d }) :
  wpAny (model prog w) A (call (.builtin "sorted") [v]) Q E s:=by
 refine Calls.call_function_entry kind_sorted plain_sorted entry_sorted (args_sorted1 _) ?_
 unfold Builtin.«sorted»
 refine ag (m:=checkCount "sorted" 1 1 _) (aI ?_)
 refine ag (RV _ _ _ rfl fun vs h1 tk d hR kp hz=>?_)
 have kD:=hsz vs hR
 have CH:vs.length<=sizeLine:=gS kD (by rw[sizeLine_eq];decide)
 refine ag (wpAny_newList ?_ (by simpa using CH))
 have vx:(h1.push (seqObj "list" vs.toArray 0)).get? h1.objs.size=some (seqObj "list" vs.toArray 0):=jv _ rfl
 have old:∀ b o,s.heap.get? b=some o->(cI (h1.push (seqObj "list" vs.toArray 0)) h1.objs.size vs).get? b=some o:=fun b o e=>by
  have dE:b<h1.objs.size:=dy (kp b o e)
  rw[fX (eM dE) (by rw[size_push'];exact vt dE)]
  exact eW _ (kp b o e)
 show wpAny _ _ _ _ _ { s with heap:=h1.push (seqObj "list" vs.toArray 0),toks:=tk,drawn:=d }
 refine ag (wpAny_holding (wpAny_call_entry slot_list_sort ⟨_,vx,rfl⟩ entry_list_sort (dZ (r:=r) (s:={ s with heap:=h1.push (seqObj "list" vs.toArray 0),toks:=tk,drawn:=d }) vx kD (hP vs hR)
  (fun h2=>hk vs hR h2 _ _ _ old) (fun h2=>C _ old) fun out a1 a2=>⟨_,rfl,?_⟩) (args_list_sort _)))
 obtain⟨n,e⟩:=sortedHeap_at (out:=out) vx
 refine aI ⟨_,rfl,h vs _ h1.objs.size out.toList n tk d hR a1 a2 (fun b o e=>?_) hz (by rw[N7];exact e)⟩
 have dE:b<h1.objs.size:=dy (kp b o e)
 rw[sortedHeap_old (eM dE) (by rw[size_push'];exact vt dE)]
 exact eW _ (kp b o e)
end
end sP
namespace TS
open PySem PySem.SetTable PyProof.Rows
section
variable {prog:Program}{w:World}{K:Type}[DecidableEq K]{knd:KeyKind prog w K}{A:Around}{E:Value->Shared->Prop}{s:Shared}
theorem rH{α:Type}(led:Bool):TI (α:=α) (SetTable.fresh 0 0 led) #[] :=
 ⟨⟨3,rfl,ck _⟩,rfl,fun i j h hj=>absurd hj (DZ _),fun i hi=>absurd hi (DZ _),rfl,(by show 0*5<7*3;decide),fun i h x e=>by simp at e⟩
theorem pO{l:Addr}{items:Array Value}{xs:List (List K × Addr)}{Q:Value->Shared->Prop}(hh:A.handled=none)(hu:A.units+8<cLine)(hl:s.heap.IsList l items)(hi:items.toList=xs.map fun p=>Value.ref p.2)
  (qa:∀ p∈xs,IsTupleKey knd s.heap p.1 p.2) (hz:xs.length<=63) (xa:∀ k v,knd.is k v=true->v.scannable=true)
  (h:∀ h' tk ks,A6 knd h' s.heap.objs.size ks->(∀ k,k∈ks.map (·.1)↔k∈xs.map (·.1))->(∀ p∈ks,p∈xs)->(∀ b o,s.heap.get? b=some o->h'.get? b=some o)->Q (.ref s.heap.objs.size) { s with heap:=h',toks:=tk }) :
  wpAny (model prog w) A (call (.type "set") [.ref l]) Q E s:=by
 have lt:∀ p∈xs,p.2<s.heap.objs.size:=fun p hp=>by
  obtain⟨o,_,_,ho,_⟩:=qa p hp
  exact dy ho
 refine iG hh hl (fun i h=>∃ ks,A6 knd h s.heap.objs.size ks/\(∀ k,k∈ks.map (·.1)↔k∈(xs.take i).map (·.1))/\(∀ p∈ks,p∈xs)/\ks.length<=i/\∀ p∈xs,IsTupleKey knd h p.1 p.2) (fun h e k=>?_) (fun i h h' ⟨ks,S,m1,m2,m3,m4⟩ k=>?_) (fun i v s' E' Q' hv ⟨ks,S,m1,m2,m3,m4⟩ q=>?_) fun h' tk ⟨ks,S,m1,m2,m3,m4⟩ k=>?_
 ·exact⟨[],⟨⟨_,#[],0,_,e,⟨rfl,rfl,rfl⟩,rfl,rH _,(by show 7<=8191;decide),rfl,rfl⟩,lP,fun p hp=>nomatch hp⟩,fun k=>by simp,(fun p hp=>nomatch hp),ck _,fun p hp=>IsTupleKey.eh (qa p hp) fun o ho=>k _ _ ho⟩
 ·obtain⟨⟨o,es,ep,t,ho,r⟩,nd,is⟩:=S
  exact⟨ks,⟨⟨o,es,ep,t,k _ _ (ck _) ho,r⟩,nd,fun p hp=>IsTupleKey.eh (is p hp) fun o ho=>k _ _ (ot (lt p (m2 p hp))) ho⟩,m1,m2,m3,fun p hp=>IsTupleKey.eh (m4 p hp) fun o ho=>k _ _ (ot (lt p hp)) ho⟩
 ·have x5:items.toList[i]? = some v:=by rw[sF];exact hv
  rw[hi,ny] at x5
  cases ex:xs[i]? with
  |none=>rw[ex] at x5;cases x5
  |some p =>
   rw[ex] at x5
   cases x5
   have hp:=ll ex
   have W8:i<xs.length:=(iN.mp ex).1
   have Sz:(xs.take (i+1)).map (·.1)=(xs.take i).map (·.1)++[p.1]:=by
    rw[DS,ex,sC];rfl
   unfold setAdd
   refine wpAny_holding (ag (wpAny_pyHash_tuple (by show A.units+3<cLine;lia) (m4 p hp) ?_))
   refine Aa (s:={ s' with toks:=s'.toks+(p.1.length+1) }) S (m4 p hp) (by lia) (by show A.units+3<cLine;lia) xa fun b h' fm sb S' c=>?_
   refine q b h' _ sb ⟨fm,S',fun k=>?_,fun p' eI=>?_,?_,fun p' eI=>IsTupleKey.eh (m4 p' eI) fun o ho=>sb.extBut _ _ (eM (lt p' eI)) ho⟩
   ·rw[Sz,dS,nv,<- m1]
    rcases c with⟨c1,rfl⟩|⟨c1,c2⟩
    ·exact⟨.inl,fun z=>z.elim id fun e=>e ▸ c1⟩
    ·rw[(c2.map _).mem_iff,fo,df]
     exact⟨fun z=>z.symm,fun z=>z.symm⟩
   ·rcases c with⟨c1,rfl⟩|⟨c1,c2⟩
    ·exact m2 p' eI
    ·rcases df.mp (c2.mem_iff.mp eI) with rfl|z
     ·exact hp
     ·exact m2 p' z
   ·rcases c with⟨c1,rfl⟩|⟨c1,c2⟩
    ·lia
    ·rw[c2.length_eq];simp;lia
 ·have e:items.size=xs.length:=by
   have:=congrArg List.length hi
   simpa using this
  rw[e,z0] at m1
  exact h h' tk ks S m1 m2 fun b o ho=>k b o (dy ho) ho
end
end TS
namespace L2
open PySem PySem.Spec PyProof.Rows
section
variable {X:Cx}{pins:List (Addr × Obj)}{σ:St}{H:Hp}{s:Shared}
theorem Inv.drawn{d}(I:Inv X pins σ H s):Inv X pins σ H { s with drawn:=d }:=⟨I.ok,I.os,I.bare,I.base,I.loc,I.cell,I.free,I.ox,I.pin,I.aE,I.len⟩
theorem tM{prog:Program}{w:World}:∀ (k:Key) (v:Value),(i6 prog w).is k v=true->v.scannable=true:=fun k v h=>by
 rcases wq h with⟨i,t,rfl,rfl⟩|⟨x,t,rfl,rfl⟩<;>rfl
def gm(K:PySem.W.Frag):V->Hp->VK->Prop:=fun x H Q=>match x with
 |.ref p=>∃ ys ks b0 sh,eB K H p ys/\ys.length<=63/\bB H ys ks/\(∀ k∈ks,gE k=b0 :: sh) /\
   ∀ zs ms l,bB H zs ms->ms.Nodup->(∀ k,k∈ms↔k∈ks)->(ms.Pairwise fun a b=>fi b a=false)->H l=none->Q (.ref l) (upd H l (.lst zs))
 |_=>False
theorem bB.pairs{H:Hp}{ys:List V}{ks:List (List Key)}{vs:List Value}(h:bB H ys ks)(hv:Vals ys vs):∃ xs:List (List Key × Addr),vs=xs.map (fun p=>Value.ref p.2)/\xs.map (·.1)=ks/\∀ p∈xs,H p.2=some (.tup (p.1.map kV)):=by
 induction ys generalizing ks vs with
 |nil=>exact⟨[],Paired.n0 hv,(show ks=[] from Paired.n0 h).symm,fun p hp=>nomatch hp⟩
 |cons y ys ih =>
  obtain⟨k,ks,rfl,⟨b,rfl,g⟩,t⟩:=Paired.c h
  obtain⟨v,vs,rfl,rfl,rs⟩:=Paired.c hv
  obtain⟨xs,e1,e2,e3⟩:=ih t rs
  refine⟨(k,b) :: xs,by rw[e1];rfl,by rw[<- e2];rfl,fun p hp=>?_⟩
  rcases df.mp hp with rfl|hp
  ·exact g
  ·exact e3 p hp
end
section
variable {X:Cx}{e:Expr}{te:TE}{p p2 pos rX:Pos}
theorem ql (hc:X.calm=true) (hu:X.A.units+64<cLine) (hg:Gl X "sorted") (hm:X.mg "sorted" = none) (E8:Gl X "set") (n5:X.mg "set" = none) (he:PE X e te)
  (hv:bootBuiltins "sorted" = some (.builtin "sorted")) (SD:bootBuiltins "set" = some (.type "set"))
  (nS:starEach [e] X.env=(false,eval e X.env) :: starEach [] X.env:=by rfl)
  (hs:starEach [.Call (.Name "set" p2) [e] [] rX] X.env=(false,eval (.Call (.Name "set" p2) [e] [] rX) X.env) :: starEach [] X.env:=by rfl) :
  PE X (.Call (.Name "sorted" p) [.Call (.Name "set" p2) [e] [] rX] [] pos) (QR (gm X.K) te):=by
 intro pins s σ H Q I h
 refine wpAny_Call_Name_kw (AF I hg hm hv ?_ (by decide) (by decide))
 refine PyProof.Rows.callWith_builtin1 ?_ hs rfl
 rw[hs]
 refine Calls.spliced_cons ?_
 refine wpAny_Call_Name_kw (AF I E8 n5 SD ?_ (by decide) (by decide))
 refine PyProof.Rows.callWith_type1 ?_ nS rfl
 rw[nS]
 refine Calls.spliced_cons (cc (he pins s σ H _ I h) fun u s1 cf=>L2.fq cf fun x H1 I1 r1 q1=>Calls.spliced_nil ?_)
 have q1:gm X.K x H1 Q:=q1
 obtain⟨a,rfl⟩:∃ a,x=.ref a:=by
  unfold gm at q1
  split at q1
  ·exact⟨_,rfl⟩
  ·exact q1.elim
 obtain⟨ys,ks,b0,sh,hl,E9,ht,rh,q⟩:=q1
 cases r1
 obtain⟨vs,rv,pl,hz⟩:=I1.list hl
 obtain⟨xs,ex,ek,hx⟩:=ht.pairs rv
 have M_:X.A.handled=none:=I1.ok.hd hc
 have hlen:xs.length=ys.length:=by rw[rv.length,ex,bT]
 have qa:∀ p∈xs,IsTupleKey (i6 X.prog X.w) s1.heap p.1 p.2:=fun p hp=>by
  obtain⟨us,ru,o,e1,c1,n1,d1⟩:=I1.tup (hx p hp)
  exact⟨o,us.toArray,n1,e1,c1,d1,by simpa using OJ ru⟩
 refine TS.pO (knd:=i6 X.prog X.w) M_ (by lia) pl.isList (by simpa using ex) qa (by lia) tM fun h2 tk fm S m1 m2 kp=>?_
 refine Calls.spliced_nil ?_
 obtain⟨⟨o,es,ep,t,ho,hex,hd,T,hM,hL,A5⟩,nd,is⟩:=S
 have SF:es.toList.map (·.2)=fm.map fun p=>Value.ref p.2:=by rw[A5,js];rfl
 have dM':fm.length<=63:=by
  have:=TS.cF nd (m:=ks) fun k hk=>by rw[<- ek];exact(m1 k).mp hk
  rw[bT] at this
  have:ks.length=xs.length:=by rw[<- ek,bT]
  lia
 have SG:es.size=fm.length:=by
  have:=congrArg List.length A5
  simpa using this
 have SJ:∀ p∈fm,p.1∈ks:=fun p hp=>by rw[<- ek];exact b9.mpr ⟨p,m2 p hp,rfl⟩
 have mem:∀ eS:List Value,eS.Perm (fm.map fun p=>Value.ref p.2)->∀ v∈eS,∃ b k,v=.ref b/\H1 b=some (.tup (k.map kV))/\k∈ks:=fun eS pv v hv=>by
  obtain⟨p,hp,rfl⟩:=b9.mp (pv.mem_iff.mp hv)
  exact⟨p.2,p.1,rfl,hx p (m2 p hp),SJ p hp⟩
 have Nb:s1.heap.objs.size<=h2.objs.size:=ot (dy ho)
 refine sP.jR (s:={ s1 with heap:=h2,toks:=tk }) (κ:=tuples' true) (R:=fun eS=>eS.Perm (fm.map fun p=>Value.ref p.2)) (r:=fun v=>xl ks (il H1 v)) (P:=fun v=>∃ b k,v=.ref b/\H1 b=some (.tup (k.map kV))/\gE k=b0 :: sh/\k∈ks)
  (fun A' E' Q' hA hQ=>TS.jO (s:={ s1 with heap:=h2,toks:=tk }) (hA.trans M_) ho hex hd T.fits T.up T.sz hL (by rw[SG,sizeLine_eq];lia) fun h' A8 d eS sf A9 pv=>hQ eS h' A8 d (by rw[<- SF];exact pv) sf A9)
  (fun eS pv=>by rw[pv.length_eq,bT];lia) (fun eS pv v hv=>?_) (fun eS pv h2' A' E' s' sf Q' q'=>?_) (fun s' sf=>n8 I1 fun b o e=>sf b o (kp b o e)) fun eS h' a' out n A8 d pv pm pw sf ha eo=>?_
 ·obtain⟨b,k,e1,e2,e3⟩:=mem eS pv v hv
  exact⟨b,k,e1,e2,rh k e3,e3⟩
 ·obtain⟨zs,z1,z2⟩:=bB.of (H:=H1) (ks:=ks) eS (mem eS pv)
  obtain⟨fs,f1,f2,f3⟩:=kat_tups I1 (s':=s') (fun b o e=>sf b o (kp b o e)) z1 z2 fun k hk=>by
   obtain⟨v,hv,rfl⟩:=b9.mp hk
   obtain⟨b,k,rfl,e2,e3⟩:=mem eS pv v hv
   rw[bf e2];exact rh k e3
  cases b0 with
  |true =>
   refine PySem.W.kat_kind (T:=.type "int") f1 (by lia) (fun f hf=>?_) (by decide) q'
   obtain⟨i,t,rfl⟩:=(f3 f hf).1 rfl
   exact .now
  |false =>
   refine PySem.W.kat_kind (T:=.type "str") f1 (by lia) (fun f hf=>?_) (by decide) q'
   obtain⟨i,t,rfl⟩:=(f3 f hf).2 rfl
   exact .now
 ·have x6:=pm.trans pv
  obtain⟨zs,z1,z2⟩:=bB.of (H:=H1) (ks:=ks) out fun v hv=>mem _ x6 v hv
  have zl:=z2.length
  have ol:=x6.length_eq
  rw[bT] at ol
  have SK:(fm.map fun p=>Value.ref p.2).map (il H1)=fm.map (·.1):=by
   rw[js]
   exact Kk fun p hp=>bf (hx p (m2 p hp))
  have ER:(out.map (il H1)).Perm (fm.map (·.1)):=by rw[<- SK];exact x6.map _
  refine⟨.ref a',_,(I1.laid (a:=a') (t':=A8) (fun b o e=>sf b o (kp b o e)) (gS Nb ha) (show eP X.prog X.w _ h' _ (.lst zs) from⟨by rw[sizeLine_eq];lia,out,n,z2,eo⟩)).drawn,rfl,
   q zs _ _ z1 (ER.nodup_iff.mpr nd) (fun k=>by rw[ER.mem_iff,m1,ek]) ?_ (I1.aE.fresh (gS Nb ha))⟩
  rw[ly]
  refine pw.imp_of_mem fun {x y} mx my hle=>?_
  obtain⟨b,k,rfl,hb,kk⟩:=mem _ x6 x mx
  obtain⟨c,m,rfl,vE,km⟩:=mem _ x6 y my
  rw[bf hb,bf vE] at *
  have:=lO (L:=ks) ((rh m km).trans (rh k kk).symm) km
  rw[<- this]
  exact decide_eq_false (by lia)
end
end L2
namespace TS
open PySem PySem.SetTable PyProof.Rows
end TS
namespace L2
open PySem PySem.Spec PyProof.Rows
end L2
namespace L2.Q
open PySem PySem.Spec PyProof.Rows
section
variable {X:Cx}{K:PySem.W.Frag}{e:Expr}{te:WE}{p p2 pos rX:Pos}
theorem Am:bootBuiltins "set" = some (.type "set"):=by decide +kernel
def eN:W1:=fun _ x Q=>match x with
 |.list xs=>∃ (ks:List (List Key)) (sh:List Bool),xs=ks.map mn/\ks.length<=63/\(∀ k∈ks,gE k=false :: sh)/\∀ ms:List (List Key),ms.Nodup->(∀ k,k∈ms↔k∈ks)->(ms.Pairwise fun a b=>fi b a=false)->Q (.ow true) (.list (ms.map mn))
 |_=>False
theorem qz:Pb K (gm K) eN:=by
 intro Hs H m x v As Qd Qv w rx h f
 have r1:=rx.rep w
 cases r1 with
 |list z s q =>
  obtain⟨ks,sh,rfl,hz,hs,h⟩:=h
  obtain⟨ta,ok⟩:=qX q
  have hl:=q.length
  rw[bT] at hl
  refine⟨_,ks,false,sh,s,by lia,ta,hs,fun zs ms l tz nd mm pw M3=>?_⟩
  have rr:=i_ (K:=K) tz fun k hk=>ok k ((mm k).mp hk)
  have:ms.length<=ks.length:=TS.cF nd fun k hk=>(mm k).mp hk
  exact f.lst w (by rw[bT,sizeLine_eq];lia) rr (eV ms) (h ms nd mm pw) l M3
 |_=>exact h.elim
theorem uf (hu:X.A.units+64<cLine) (hg:Gl X "sorted") (hm:X.mg "sorted" = none) (E8:Gl X "set") (n5:X.mg "set" = none) (he:QE X K e te) (hc:X.calm=true:=by rfl) (hK:X.K=K:=by rfl)
  (nS:starEach [e] X.env=(false,eval e X.env) :: starEach [] X.env:=by rfl)
  (hs:starEach [.Call (.Name "set" p2) [e] [] rX] X.env=(false,eval (.Call (.Name "set" p2) [e] [] rX) X.env) :: starEach [] X.env:=by rfl) :
  QE X K (.Call (.Name "sorted" p) [.Call (.Name "set" p2) [e] [] rX] [] pos) (kE eN te):=by
 subst hK
 refine PE.imp (ql hc hu hg hm E8 n5 he dN Am nS hs) fun σ H Qv cy=>?_
 obtain⟨Hs,ρ,ae,Q,sr,h,fin⟩:=cy
 exact⟨Hs,ρ,ae,_,sr,h,fun v H1 aC m x As g1 r1 f1 q1=>qz aC H1 m x v As Q Qv g1.wf r1 q1 (Fin.after fin g1)⟩
end
end L2.Q
namespace L2.Q.R
open PySem PySem.Spec PyProof.Rows L2.Q
section
variable {Q:Md->L2.Q.D->Prop}{m:Md}{xs:List L2.Q.D}
theorem Ed:eN m (.list xs) Q = ∃ (ks:List (List Key)) (sh:List Bool),xs=ks.map mn/\ks.length<=63/\(∀ k∈ks,gE k=false :: sh)/\∀ ms:List (List Key),ms.Nodup->(∀ k,k∈ms↔k∈ks)->(ms.Pairwise fun a b=>fi b a=false)->Q (.ow true) (.list (ms.map mn)):=rfl
end
end L2.Q.R
namespace L2
open PySem PySem.Spec PyProof.Rows
end L2
namespace L2.Q
open PySem PySem.Spec PyProof.Rows
end L2.Q
namespace L2.Q.R
open PySem PySem.Spec PyProof.Rows L2.Q
end L2.Q.R
namespace L2.Q
open PySem PySem.Spec PyProof.Rows PySem.W
abbrev Xh:List Value:=[.type "ValueError",.type "Exception",.type "BaseException",.type "object"]
structure n4(K:PySem.W.Frag)(C:Addr):Prop where
 ex:excIn K C Xh "ValueError.__new__" = true
 gx:findIn K (.ref C) "__getattr__" = some none
 ga:findIn K (.ref C) "__getattribute__" = some (some (.builtin "BaseException.__getattribute__"))
 cl:findIn K (.ref C) "__class__" = some (some (.builtin "object.__class__"))
 ob:mroIn K C (.type "object")=some true
theorem n4.obj{K:PySem.W.Frag}(x:n4 K C)(X:K.In h):∃ bm N nm q bs hdct sn sub ab col dd k0 k1 k2 k3 k5 mN,
  h.get? C=some (excClassObj nm q C N bs bm hdct sn sub ab col dd k0 k1 k2 k3 k5 "ValueError.__new__")/\h.Ns N mN/\mN "__init__" = none/\OwnTail h Xh bm:=by
 have q:=x.ex
 unfold excIn at q
 split at q
 ·rename_i dd cd sl ho
  split at q
  ·rename_i C' bm k0 k1 k2 k3 n k5 hm hs
   simp only[kQ,beq_iff_eq,Bool.not_eq_true'] at q
   obtain⟨⟨⟨⟨⟨e1,e2⟩,Xi⟩,ht⟩,aE⟩,Bi⟩:=q
   cases e1;cases e2
   cases cd
   dsimp only at hm Xi aE Bi
   cases hm;cases Xi
   have PC:sl = #[k0,k1,k2,k3,some (.builtin "ValueError.__new__"),k5]:=by
    cases sl
    dsimp only at hs
    rw[hs]
   cases PC
   exact⟨bm,_,_,_,_,_,_,_,_,_,dd,k0,k1,k2,k3,k5,_,X _ _ ho,.of_isNs (isNs_of_in X aE),nsMap_none_of_in X aE Bi,tail_of_in X ht⟩
  ·cases q
 ·cases q
section
variable {prog:Program}{w:World}{A:Around}{E:Value->Shared->Prop}{h:Heap}{g:Array GenState}{d:Drawn}{t:Nat}{os:OsState}{a C:Addr}{o:Obj}{K:PySem.W.Frag}
theorem yR{R:Result->Shared->Prop}(x:n4 K C)(X:K.In h)(hx:h.get? a=some o)(hc:o.cls=.ref C)(hq:R (.ok (.ret (.ref C))) ⟨h,g,d,t,os⟩) :
  codeAny (model prog w) A (.call (.builtin "getset_descriptor.__get__") ⟨[.builtin "object.__class__",.ref a,.ref C],[]⟩) R ⟨h,g,d,t,os⟩:=by
 obtain⟨bm,N,nm,q,bs,hdct,sn,sub,ab,col,dd,k0,k1,k2,k3,k5,mN,hC,hN,Bi,T⟩:=x.obj X
 have Xj:(⟨h,g,d,t,os⟩:Shared).TypeIs (.builtin "object.__class__") "getset_descriptor" := F.typeOf_object_class
 have Nc:(Value.ref C :: bm).contains (.type (".".intercalate ("object.__class__".cutAt '.').dropLast))=true:=by
  rw[F.owner_object_class,Qk,T.hasType (X := "object") (b:=true) rfl];rfl
 refine codeAny_call_builtin F.slot_gs_get.plain F.entry_gs_get (F.slot_gs_get.check _ _ _ _ _ _ _ _ Xj (F.args_gs_get _ _ _) ?_)
 repeat (any_goals (first|assumption|(with_reducible refine wpAny_loadPart_at hx ?_;rw[hc])|(with_reducible refine wpAny_isSubtype_exc hC ?_;rw[Nc])|wp_step))
 refine⟨Code.quiet_builtin _ (by decide +kernel),codeAny_builtin F.entry_object_class ?_⟩
 repeat (any_goals (first|assumption|(with_reducible refine wpAny_loadPart_at hx ?_;rw[hc])|wp_step))
theorem ue(x:n4 K C)(X:K.In h)(hx:h.get? a=some o)(hc:o.cls=.ref C)(hq:Q (.done (.ret (.ref C))) ⟨h,g,d,t,os⟩) :
  wpAny (model prog w) A (Builtin.«object.__getattribute__» ⟨[.ref a,.str "__class__" tk],[]⟩) Q E ⟨h,g,d,t,os⟩:=by
 have Xj:(⟨h,g,d,t,os⟩:Shared).TypeIs (.builtin "object.__class__") "getset_descriptor" := F.typeOf_object_class
 have f5:=F.typeOf_object_class
 have f6:=F.slot_gs_get.lookup
 have f7:=F.slot_gs_set.lookup
 have Lk:=looks_findIn (M:=model prog w) X x.cl
 repeat (any_goals (first|assumption|(with_reducible refine wpAny_loadPart_at hx ?_;rw[hc])|with_reducible refine Lk.at ?_|wp_step))
 refine yR x X hx hc ?_
 repeat (any_goals (first|assumption|wp_step))
theorem BL(x:n4 K C)(X:K.In h)(hx:h.get? a=some o)(hc:o.cls=.ref C)(hq:Q (.ref C) ⟨h,g,d,t,os⟩) :
  wpAny (model prog w) A (getAttrBy (.ref a) (.str "__class__" tk) false) Q E ⟨h,g,d,t,os⟩:=by
 have f3:=F.attr_ValueError.ga.bind (.ref a)
 have Fc:(Value.builtin "BaseException.__getattribute__" == Value.builtin "object.__getattribute__")=false:=by decide +kernel
 have RN:(onTheHeap (Value.ref C) && Value.builtin "BaseException.__getattribute__" == Value.builtin "object.__getattribute__")=false:=by rw[Fc];rfl
 have Lk:=looks_findIn (M:=model prog w) X x.ga
 have Lg:=looks_findIn (M:=model prog w) X x.gx
 repeat (any_goals (first|assumption|(with_reducible refine wpAny_loadPart_at hx ?_;rw[hc])|with_reducible refine Lk.at ?_|with_reducible refine Lg.at ?_|wp_step))
 obtain⟨bm,N,nm,q,bs,hdct,sn,sub,ab,col,dd,k0,k1,k2,k3,k5,mN,hC,hN,Bi,T⟩:=x.obj X
 have hk:builtinKind "BaseException.__getattribute__" = some .slot:=by decide +kernel
 have hsplit:splitId "BaseException.__getattribute__" = some ("BaseException", "__getattribute__"):=by decide +kernel
 have Nc:(Value.ref C :: bm).contains (.type "BaseException")=true:=by rw[Qk,T.hasType (X := "BaseException") (b:=true) rfl];rfl
 have chk:∀ {Q':Unit->Shared->Prop} {E':Value->Shared->Prop} {A':Around},Q' () ⟨h,g,d,t,os⟩->wpAny (model prog w) A' (checkBuiltinCall "BaseException.__getattribute__" ⟨[.ref a,.str "__class__" tk],[]⟩) Q' E' ⟨h,g,d,t,os⟩:=fun {Q' E' A'} x8=>by
  have ha:=F.args_bexc_ga (.ref a) (.str "__class__" tk)
  simp only[checkBuiltinCall,hk,hsplit]
  refine ag ?_
  unfold isInstance
  repeat (first|(with_reducible refine wpAny_loadPart_at hx ?_;rw[hc])|(with_reducible refine wpAny_isSubtype_exc hC ?_;rw[Nc])|wp_step)
  exact x8
 refine codeAny_call_builtin F.attr_ValueError.ga.plain F.entry_bexc_ga (chk (ue x X hx hc ?_))
 repeat (any_goals (first|assumption|wp_step))
theorem xj (x:n4 K C) (X:K.In h) (hx:h.get? a=some o) (hc:o.cls=.ref C) (hq:Q (some (.ref C)) ⟨h,g,d,t+1,os⟩):wpAny (model prog w) A (getAttr? (.ref a) "__class__") Q E ⟨h,g,d,t,os⟩:=by
 unfold getAttr? getAttrBy?
 repeat (any_goals (first|assumption|with_reducible apply BL x X hx hc|wp_step))
end
def Xk(a C:Addr)(h:Heap):Prop:=∃ o,h.get? a=some o/\o.cls=.ref C
theorem n4.dP'{K:PySem.W.Frag}(x:n4 K C)(X:K.In h):Looks M h (isType (.ref C)) true:=by
 obtain⟨bm,N,nm,q,bs,hdct,sn,sub,ab,col,dd,k0,k1,k2,k3,k5,mN,hC,hN,Bi,T⟩:=x.obj X
 intro A' Q' E' s' k q
 unfold isType loadHead
 exact ag (wpAny_loadPart (k _ _ hC) (aI q))
theorem zr{K:PySem.W.Frag}(x:n4 K C):KitX K (.ref a) (.ref C) (Xk a C) where
 ty:=fun M h X p=>by
  obtain⟨o,h1,h2⟩:=p
  exact h2 ▸ (Looks.ld h1).andThen .now
 it:=fun M h X p=>x.dP' X
 ne:=fun h tp dd its n sl X htp=>by
  obtain⟨bm,N,nm,q,bs,hdct,sn,sub,ab,col,dd,k0,k1,k2,k3,k5,mN,hC,hN,Bi,T⟩:=x.obj X
  refine Bool.eq_false_iff.mpr fun q=>?_
  have e:C=tp:=Value.ref.inj (beq_iff_eq.mp q)
  subst e
  have z:=congrArg (fun o=>o.map (·.data)) (hC.symm.trans htp)
  cases z
 ca:=fun {prog w A E Q s} X p k=>by
  obtain⟨h,g,d,t,os⟩:=s
  obtain⟨o,h1,h2⟩:=p
  exact xj x X h1 h2 k
theorem qO{K:PySem.W.Frag}{a C R:Addr}{os:OsState}(x:n4 K C)(r:n4 K R)(sub:mroIn K C (.ref R)=some true)(X:K.In h)(p:Xk a C h)
  (hq:Q true ⟨h,g,d,t,os⟩):wpAny M A (excMatches (.ref a) (.ref R)) Q E ⟨h,g,d,t,os⟩:=by
 obtain⟨bm,N,nm,q,bs,hdct,sn,hQ',ab,col,dd,k0,k1,k2,k3,k5,mN,hC,hN,Bi,T⟩:=r.obj X
 obtain⟨oe,he,QF⟩:=p
 have Nc:(Value.ref R :: bm).contains (.type "BaseException")=true:=by rw[Qk,T.hasType (X := "BaseException") (b:=true) rfl];rfl
 have f:=tc_notTuple
 have Lk:=looks_mroIn (M:=M) X sub
 unfold excMatches
 repeat (first|(with_reducible refine wpAny_loadPart_at he ?_;rw[QF])|with_reducible refine wpAny_loadPart_at hC ?_|(with_reducible refine wpAny_isSubtype_exc hC ?_;rw[Nc])|with_reducible refine Lk.at ?_|wp_step)
 exact hq
theorem FunFrames.rebase{h base B:Heap}:∀ {l:List PySem.Env},h.FunFrames base l->(∀ b∈fh l,B.get? b=none)->h.FunFrames B l
 |[],_,_=>trivial
 |env :: rest,⟨hk,⟨L,o,hf,hn,ho,hd⟩,hr⟩,hB=>⟨hk,⟨L,o,hf,hB L (by unfold fh;rw[yk,hf];exact bX),ho,hd⟩,
   FunFrames.rebase hr fun b hb=>hB b (by unfold fh;rw[yk,hf];exact b5 _ hb)⟩
theorem eP.there{P:Program}(x:eP P w H h a o):∃ u,h.get? a=some u:=by
 cases o with
 |lst xs=>obtain⟨_,_,_,_,e⟩:=x;exact⟨_,e⟩
 |tup xs=>obtain⟨_,_,_,_,e,_⟩:=x;exact⟨_,e⟩
 |dK kvs=>obtain⟨_,_,_,_,o,_,_,e,_⟩:=x;exact⟨_,e⟩
 |dT kvs=>obtain⟨_,_,_,_,o,_,_,e,_⟩:=x;exact⟨_,e⟩
 |set S n=>obtain⟨o,_,_,_,e,_⟩:=x;exact⟨_,e⟩
 |ins C dx fs=>obtain⟨_,_,_,e,_⟩:=x;exact⟨_,e⟩
 |own y=>exact x
 |xd fs=>obtain⟨_,⟨_,_,_,e,_⟩,_⟩:=x;exact⟨_,e⟩
 |N8 lo hi=>obtain⟨_,_,_,e⟩:=x;exact⟨_,e⟩
 |mw ob u=>obtain⟨e,_⟩:=x;exact⟨_,e⟩
 |B5 ps=>exact⟨_,(show h.get? a=some _ from x)⟩
 |met f y=>exact⟨_,(show h.get? a=some _ from x)⟩
 |ext φ=>obtain⟨_,e,_⟩:=x;exact e
def ya(B:Heap)(fs:List Addr)(H':Hp)(h₀ h:Heap):Prop:=∀ b o,h.get? b=some o->(H' b≠none\/h₀.get? b≠none)->b∉fs->B.get? b=some o
def mP(P:Program)(w:World)(mg:Str->Option Value)(rn:List Str):AG:=fun outer H s E e s' =>
 ∃ a n C a0 H' B,e=.ref a/\(n∈rn/\mg n=some (.ref C))/\s'.os=s.os/\AllBare s'.gens/\Un (fh outer) [] H H' s.heap s'.heap/\fR P w H' s'.heap /\
  Heap.FlyingW B outer a (.ref C) a0 s'.heap/\ya B (fh outer) H' s.heap s'.heap/\(∀ b∈fh outer,H' b=none)/\E (.ref C) none H'
structure dD(fs:List Addr)(H':Hp)(h₀ h h':Heap):Prop where
 keep:∀ b o,h.get? b=some o->(H' b≠none\/h₀.get? b≠none)->b∉fs->h'.get? b=some o
 slot:∀ b o,h.get? b=some o->b∈fs->∃ sl,h'.get? b=some { o with slots:=sl }
theorem dD.of{B:Heap}(c:ya B (fh l) H' h₀ h)(st:B.StaysIn h')(up:h.UpToSlots h')(ff:h.FunFrames base l):dD (fh l) H' h₀ h h' :=
 ⟨fun b o e k n=>st b o (c b o e k n),fun b o e m=>by
  obtain⟨_,o',e',d⟩:=ff.mem m
  rw[e] at e';cases e'
  exact up b o e d⟩
theorem dD.trans(a:dD fs H' h₀ h h1)(b:dD fs H' h₀ h1 h2):dD fs H' h₀ h h2 :=
 ⟨fun x o e k n=>b.keep x o (a.keep x o e k n) k n,fun x o e m=>by
  obtain⟨_,e1⟩:=a.slot x o e m
  obtain⟨sl,e2⟩:=b.slot x _ e1 m
  exact⟨sl,e2⟩⟩
theorem dD.un(m:dD fs H' h₀ h h')(u:Un fs [] H H' h₀ h):Un fs [] H H' h₀ h' where
 keep:=fun b o e n nb nx=>m.keep b o (u.keep b o e n nb nx) (.inr (by rw[e];exact fun z=>nomatch z)) nb
 slot:=fun b o e n hb nx=>by
  obtain⟨_,e1⟩:=u.slot b o e n hb nx
  obtain⟨sl,e2⟩:=m.slot b _ e1 hb
  exact⟨sl,e2⟩
 free:=u.free
 there:=fun b o e nx=>by
  obtain⟨o',e1⟩:=u.there b o e nx
  by_cases hb:b∈fs
  ·obtain⟨sl,e2⟩:=m.slot b o' e1 hb
   exact⟨_,e2⟩
  ·exact⟨o',m.keep b o' e1 (.inr (by rw[e];exact fun z=>nomatch z)) hb⟩
 iO:=u.iO
 sL:=u.sL
 tN:=u.tN
theorem dD.aE{P:Program}(m:dD fs H' h₀ h h')(f:∀ b∈fs,H' b=none)(x:fR P w H' h):fR P w H' h':=fun a o e =>
 (x a o e).eh (fun b u hb q=>by
  have hH:H' b≠none:=by
   rcases hb with z|z
   ·rw[z,e];exact fun z=>nomatch z
   ·rw[z];exact fun z=>nomatch z
  exact m.keep b u q (.inl hH) fun z=>hH (f b z)) (fun _ q=>q) fun _ _ q=>q
section
variable {X:Cx}{pins:List (Addr × Obj)}{σ:St}{H H':Hp}{s:Shared}{e:Value}
theorem ya.up{B h h':Heap}(jS:X.stack=X.env :: X.outer)(hf:X.env.frame=some X.env.locals)(hex:X.ex=[])(I:Inv X pins σ H s)(un:Un (fh X.stack) [] H H' s.heap h)(c:ya B (fh X.stack) H' s.heap h)(m:dD (fh X.stack) H' s.heap h h')(fr:∀ b∈fh X.stack,H' b=none)(aE:fR X.prog X.w H' h) :
  Un X.fs [] X.wt H' X.eR.heap h'/\ya B X.fs H' X.eR.heap h':=by
 have hs:∀ b,b∈fh X.stack↔b=X.env.locals\/b∈X.fs:=fun b=>by
  rw[jS];unfold fh;rw[yk,hf];exact df
 have Lv:∀ b o,X.eR.heap.get? b=some o->b≠X.env.locals:=fun b o e=>eM (kN (dy e) I.ok.above)
 have IH:∀ b:Addr,b∉X.ex:=fun b z=>by rw[hex] at z;exact nomatch z
 have m':=m.un un
 have th:∀ b o,X.eR.heap.get? b=some o->∃ o',s.heap.get? b=some o':=fun b o e=>I.base.there b o e (IH b)
 refine⟨⟨fun b o e n nb nx=>?_,fun b o e n hb nx=>?_,fun b o e n nx=>?_,fun b o e nx=>?_,fun b xs e=>un.iO b xs (I.base.iO b xs e),fun b ob u e=>un.sL b ob u (I.base.sL b ob u e),fun b ps e=>?_⟩,fun b o e k nb=>?_⟩
 ·exact m'.keep b o (I.base.keep b o e n nb (IH b)) (I.base.free b o e n (IH b)) (fun z=>((hs b).mp z).elim (Lv b o e) nb) (by simp)
 ·obtain⟨_,e1⟩:=I.base.slot b o e n hb (IH b)
  obtain⟨sl,e2⟩:=m'.slot b _ e1 (I.base.free b o e n (IH b)) ((hs b).mpr (.inr hb)) (by simp)
  exact⟨sl,e2⟩
 ·obtain⟨o',e1⟩:=th b o e
  exact un.free b o' e1 (I.base.free b o e n (IH b)) (by simp)
 ·obtain⟨o',e1⟩:=th b o e
  exact m'.there b o' e1 (by simp)
 ·obtain⟨m1,e1⟩:=I.base.tN b ps e
  obtain⟨m2,e2⟩:=un.tN b _ e1
  exact⟨m1++m2,by rw[e2,Array.append_assoc]⟩
 ·have key:∀ o',h.get? b=some o'->(H' b≠none\/s.heap.get? b≠none)->b∉fh X.stack->B.get? b=some o:=fun o' e' k' n'=>by
   have:=m.keep b o' e' k' n'
   rw[e] at this;cases this
   exact c b o e' k' n'
  rcases k with k|k
  ·have nf:b∉fh X.stack:=fun z=>k (fr b z)
   cases q:H' b with
   |none=>exact absurd q k
   |some u =>
    obtain⟨o',e'⟩:=eP.there (aE b u q)
    exact key o' e' (.inl k) nf
  ·cases q:X.eR.heap.get? b with
   |none=>exact absurd q k
   |some o0 =>
    obtain⟨o1,e1⟩:=th b o0 q
    obtain⟨o2,e2⟩:=un.there b o1 e1 (by simp)
    exact key o2 e2 (.inr (by rw[e1];exact fun z=>nomatch z)) fun z=>((hs b).mp z).elim (Lv b o0 q) nb
end
section
variable {P:Program}{w:World}{K:PySem.W.Frag}{mg:Str->Option Value}{base:Heap}{N:List Str}{qual:Str}{scope:Scope}{f:Addr}{cd:Value}{A:Around}{outer:List PySem.Env}{eR:Shared}{wt:Hp}{E:XK}{rn:List Str}
theorem vH(hf:env.frame=some L)(h:b∈fh l):b∈fh (env :: l):=by
 unfold fh;rw[yk,hf];exact b5 _ h
theorem Bq:Passes (mP P w mg rn) (qE (mP P w mg rn) P w K mg base N qual scope f cd A outer eR wt E) E:=by
 intro pins σ H s e s' I hx
 obtain⟨a,n,C,a0,H',B,he,hn,os,bare,un,aE,Dp,cov,fr,hE⟩:=hx
 subst he
 refine wpAny_leaves_onW I.ok.frames rfl Dp fun h' Xl up=>?_
 have mv:=dD.of cov Xl.1 up Dp.2.2.1
 obtain⟨u1,c1⟩:=ya.up (X:=qE (mP P w mg rn) P w K mg base N qual scope f cd A outer eR wt E) rfl rfl rfl I un cov mv fr aE
 exact⟨a,n,C,a0,H',B,rfl,hn,os.trans I.os,bare,u1,mv.aE fr aE,Xl,c1,fun b hb=>fr b (vH rfl hb),hE⟩
def qL(X:Cx)(rn:List Str)(E:XK):Prop:=∀ (pins:List (Addr × Obj)) (σ:St) (H:Hp) (s:Shared) (h':Heap) (e:Addr) (n:Str) (C:Addr) (vs:List Value),Inv X pins σ H s->Heap.MadeExcOf s.heap h' e (.ref C) vs ->
 n∈rn->X.mg n=some (.ref C)->E (.ref C) none H->X.xe (.ref e) { s with heap:=h' }
theorem Ei:qL (qE (mP P w mg rn) P w K mg base N qual scope f cd A outer eR wt E) rn E:=by
 intro pins σ H s h' e n C vs I hx hn hm hE
 have st:=I.stack
 have ff:s.heap.FunFrames (hideAll s.heap (fh (envOfC qual scope eR.heap.objs.size f cd :: outer))) (envOfC qual scope eR.heap.objs.size f cd :: outer):=FunFrames.rebase st fun b hb=>hideAll_none _ hb
 refine wpAny_leaves_madeW (h:=s.heap) I.ok.frames rfl (fun b o q=>of_hideAll _ q) ff hx fun SM t Dp tup hnt up=>?_
 have ff':h'.FunFrames (hideAll s.heap (fh (envOfC qual scope eR.heap.objs.size f cd :: outer))) (envOfC qual scope eR.heap.objs.size f cd :: outer):=ff.of_keeps fun b o q _=>⟨o,hx.keeps b o q,rfl⟩
 have aE:fR P w H h':=I.aE.kept hx.keeps
 have fr:∀ b∈fh (envOfC qual scope eR.heap.objs.size f cd :: outer),H b=none:=I.Qz
 have cov:ya (hideAll s.heap (fh (envOfC qual scope eR.heap.objs.size f cd :: outer))) (fh (envOfC qual scope eR.heap.objs.size f cd :: outer)) H s.heap h':=fun b o q k nb=>by
  have ho:∃ o1,s.heap.get? b=some o1:=by
   rcases k with k|k
   ·cases z:H b with
    |none=>exact absurd z k
    |some u=>exact eP.there (I.aE b u z)
   ·exact Option.ne_none_iff_exists'.mp k
  obtain⟨o1,e1⟩:=ho
  have e2:=hx.keeps b o1 e1
  rw[q] at e2;cases e2
  exact hideAll_get _ e1 nb
 have mv:dD (fh (envOfC qual scope eR.heap.objs.size f cd :: outer)) H s.heap h' SM:=dD.of cov Dp.1 up ff'
 obtain⟨u1,c1⟩:=ya.up (X:=qE (mP P w mg rn) P w K mg base N qual scope f cd A outer eR wt E) rfl rfl rfl I (Un.kept hx.keeps) cov mv fr aE
 exact⟨e,n,C,_,H,_,rfl,⟨hn,hm⟩,I.os,I.bare,u1,mv.aE fr aE,Dp,c1,fun b hb=>fr b (vH rfl hb),hE⟩
theorem HS{X:Cx}:Passes (mP P w mg rn) X E0:=by
 intro _ _ _ _ _ _ _ hx
 obtain⟨_,_,_,_,_,_,_,_,_,_,_,_,_,_,_,h⟩:=hx
 exact h.elim
def LX(rn:List Str)(mg:Str->Option Value)(E:XK):Str->Hp->Prop:=fun n H'=>n∈rn->∀ C,mg n=some (.ref C)->E (.ref C) none H'
def dG(K:PySem.W.Frag)(rn:List Str)(mg:Str->Option Value)(sp:hV):Sp:=fun vs H Qv E=>∃ ds Qd,aS K H ds vs/\sp ds Qd /\
 (∀ v H' ah m d As,ay H ah->Wf ah H'->RM K ah H' m d v As->As.Nodup->(∀ a∈As,ah a=none)->Qd m d->Qv v H') /\
 ∀ n H',ay H H'->Qd (.ow false) (.str n)->LX rn mg E n H'
theorem tZ(h:dG K rn mg sp vs H Qv E)(hp:∀ ds Q,sp ds Q->t { nx:=fun _=>Q .sh .non,rt:=Q } (aJ N.length ds)) :
  xA K (LX rn mg E) t { nx:=fun _ H'=>Qv .non H',rt:=Qv } (start N vs) H:=by
 obtain⟨ds,Qd,rs,hs,fin,fx⟩:=h
 have hl:=rs.length
 refine⟨H,aJ N.length ds,[],{ nx:=fun _=>Qd .sh .non,rt:=Qd },⟨?_,⟨ay.refl _,fun _ _ e=>e⟩,lP,fun a h=>nomatch h⟩,hp ds Qd hs,?_,?_,?_,?_,fx⟩
 ·unfold aJ start
  rw[hl]
  exact SR.start rs
 ·exact fun bp H' ah bG bS s sr q=>fin .non H' ah .sh .non [] s sr.wf ⟨rfl,.non⟩ lP (fun a h=>nomatch h) q
 ·exact fun bp H' ah bG bS s sr q=>q.elim
 ·exact fun bp H' ah bG bS s sr q=>q.elim
 ·exact fun v H' ah m d As s w r nd own q=>fin v H' ah m d As s w r nd own q
theorem SN.ok{st:Stmt}{ps:List Str}(F:g9 K x qual st f fd)(S:kC N ps (cw st))(len:∀ ds Q,sp ds Q->ds.length=ps.length)
  (AH:∀ (cK:Value) (A:Around) (outer:List PySem.Env) (s:Shared) (H:Hp) (E:XK),kc k (A.deeper (envOfC qual (cw st) s.heap.objs.size f cK))->pz (qE (mP P w mg rn) P w K mg base N qual (cw st) f cK A outer s H E) K (LX rn mg E) (ib st) t)
  (hp:∀ ds Q,sp ds Q->t { nx:=fun _=>Q .sh .non,rt:=Q } (aJ N.length ds)):g7 P w K mg base (mP P w mg rn) (k+1) f fd ps (dG K rn mg sp):=by
 obtain⟨oc,od,kV,doc,pm,an,cK,ct,EA,rfl,lk,oy⟩:=F.ex
 exact Vz lk oy S (fun vs H Q E ⟨ds,Qd,rs,hs,_⟩=>by rw[<- rs.length];exact len ds Qd hs) fun A outer s H vs Q E hr y8=>⟨_,AH cK A outer s H E hr,tZ y8 hp⟩
structure ti(P:Program)(w:World)(K:PySem.W.Frag)(mg:Str->Option Value)(base:Heap)(rn:List Str)(k:Nat)(x:Str)(ps:List Str)(sp:hV):Prop where
 ex:∃ (g:Addr) (fd:FuncData),mg x=some (.ref g)/\PySem.W.keepIn K (.ref g)=true/\Binds K fd ps []/\g7 P w K mg base (mP P w mg rn) k g fd ps (dG K rn mg sp)
theorem g9.SQ{st:Stmt}{ps:List Str}(F:g9 K x qual st f fd)(hm:mg x=some (.ref f))(ok:g7 P w K mg base (mP P w mg rn) k f fd ps (dG K rn mg sp))
  (h:∀ (kV doc pm:Value) (an:Option Addr) (cK ct:Value) (us:List Value),us.length=ps.length->bindArgs (PySem.W.fnOf x qual (kf st) (ib st) (cw st) .none kV doc pm an cK ct) ⟨us,[]⟩=pure (ps.zip us)):ti P w K mg base rn k x ps sp:=⟨f,fd,hm,F.kp,F.binds h,ok⟩
end
def Xm(K:PySem.W.Frag)(mg:Str->Option Value)(n:Str):Prop:=∃ C,mg n=some (.ref C)/\n4 K C
def mr(m:Md)(d:D)(Y:Str->Prop)(N:Prop):Prop:=match m,d with
 |.ow false,.str n=>Y n
 |_,_=>N
theorem xP{K:PySem.W.Frag}(r:RM K Hs H m d v As)(h:mr m d Y N):N:=by
 unfold mr at h
 split at h
 ·obtain⟨r,ne⟩:=r
  cases r
  exact absurd rfl ne
 ·exact h
section
variable {X:Cx}{K:PySem.W.Frag}{rn:List Str}{E:XK}{e:Expr}{es:List Expr}{te:WE}{t:WA}{pos:Pos}
def vC(n:Str)(te:WE):WS:=fun E ρ=>te ρ fun _ _=>E.rt (.ow false) (.str n)
theorem zU (hc:X.calm=true) (ok:qL X rn E) (hn:x∈rn) (hm:X.mg x=some (.ref C)) (xc:n4 X.K C) (ha:PA X [e] ta) (hg:Gl X x) (gy:(x == ("__debug__" : Str))=false)
  (he:starEach [e] X.env=[(false,eval e X.env)]):PS X (.Raise (some (.Call (.Name x np) [e] [] dz)) none pos) (fun D σ H=>ta σ H fun vs H1=>vs.length<=sizeLine/\E (.ref C) none H1):=by
 intro pins s σ H D I h
 obtain⟨bm,N,nm,q,bs,hdct,sn,sub,ab,col,dd,k0,k1,k2,k3,k5,mN,hC,hN,Bi,T⟩:=xc.obj I.mod.B6
 refine wpAny_Raise_call_subT (C:=C) (nm:=nm) (q:=q) (N:=N) (bs:=bs) (bm:=bm) (hdct:=hdct) (sn:=sn) (sub:=sub) (ab:=ab) (col:=col) (dd:=dd) (k0:=k0) (k1:=k1) (k2:=k2) (k3:=k3) (k5:=k5)
  F.excBase_ValueError (mN:=mN) (T.hasType F.excBase_ValueError.hasBase) (I.ok.hd hc) (by rw[he];rfl) Bi (Oc I hg hm ⟨rfl,?_⟩ gy)
 have h2:=ha dz pins s σ H _ I h
 rw[he] at h2 ⊢
 exact Calls.evalArgs_plain (cc h2 fun vs s1 ⟨xs,H1,I1,r,hl,q⟩=>⟨rfl,by rw[<- r.length];exact hl,I1.bk _ _ hC,hN.keeps I1.bk,T.keeps I1.bk,fun h' e' hx=>ok pins σ H1 s1 h' e' x C vs I1 hx hn hm q⟩)
theorem zb (hc:X.calm=true) (ok:qL X rn E) (xc:Xm K X.mg x) (hn:x∈rn) (he:QE X K e te) (hg:Gl X x:=by rfl) (gy:(x == ("__debug__" : Str))=false:=by decide) (hK:X.K=K:=by rfl)
  (hs:starEach [e] X.env=[(false,eval e X.env)]:=by rfl):QS X K (LX rn X.mg E) (.Raise (some (.Call (.Name x np) [e] [] dz)) none pos) (vC x te):=by
 subst hK
 obtain⟨C,hm,xc⟩:=xc
 refine PS.imp (zU hc ok hn hm xc (nI he qB hs) hg gy hs) fun D σ H hx=>dW hx fun Hs ρ ae E' sr h k1 k2 k3 k4 kx=>?_
 exact⟨Hs,ρ,ae,_,sr,h,fun v H1 aC m d As g1 r1 f1 q1=>⟨(by decide:1<=sizeLine),kx x H1 (g1.sh.trans g1.wf.sub) q1 hn C hm⟩⟩
section
variable {k:Nat}{x:Str}{ps:List Str}{sp:hV}{p dz:Pos}
theorem mL (C:ti X.prog X.w X.K X.mg X.base rn k x ps sp) (hr:kc k X.A) (hx:Passes (mP X.prog X.w X.mg rn) X E) (ha:PA X (e :: es) ta) (hg:Gl X x) (gy:(x == ("__debug__" : Str))=false) (he:starEach (e :: es) X.env=(false,eval e X.env) :: starEach es X.env)
  (ft:(backTo pos (starEach es X.env)).any (·.1)=false):PE X (.Call (.Name x p) (e :: es) [] pos) (LS (dG X.K rn X.mg sp) [] E ta):=by
 obtain⟨g,fd,hm,hk,hb,F⟩:=C.ex
 exact Vs F hr hg hm hk hb .nil hx ha gy he ft
theorem fC{σ:St}{H:Hp}{Qv:VK}{Hs:Hp}{ρ:Env}{ae:List Addr}{Y:Str->Prop}{Q:Md->D->Prop}(sr:dr K Hs ρ σ H ae)(h:t ρ fun ps=>sp (ps.map (·.2)) fun m d=>mr m d Y (bE (m,d) (f:=fun p=>Q (pE p.1 p.2) p.2) ⟨⟩))
  (f:∀ v H' ah m d As,eJ Hs H ah H'->RM K ah H' m d v As->cg ah H As->Q m d->Qv v H') (fx:∀ n H',ay Hs H'->Y n->LX rn X.mg E n H'):LS (dG K rn X.mg sp) [] E (RZ K t) σ H Qv:=by
 refine⟨Hs,ρ,ae,_,sr,h,fun vs H1 aC ps As g1 r1 f1 q1=>?_⟩
 refine⟨_,_,by rw[lI];exact r1.reps g1.wf,q1,fun v H' ah m d As s w r nd own q=>?_,fun n H' s q=>fx n H' (g1.sh.trans (g1.wf.sub.trans s)) q⟩
 obtain⟨fz,r',fr⟩:=nF g1.wf s w r nd own
 exact Fin.after f g1 v H' _ (pE m d) d fz (dU g1.wf s w) r' fr (xP r q)
def fM(sp:hV)(t:WA):WE:=fun ρ Q=>t ρ fun ps=>sp (ps.map (·.2)) fun m d=>mr m d (fun _=>False) (bE (m,d) (f:=fun p=>Q (pE p.1 p.2) p.2) ⟨⟩)
def rQ(sp:hV)(t:WA):WS:=fun E ρ=>t ρ fun ps=>sp (ps.map (·.2)) fun m d=>mr m d (fun n=>E.rt (.ow false) (.str n)) (bE (m,d) (f:=fun _=>E.nx ρ) ⟨⟩)
def Bd(sp:hV)(t:WA):WS:=fun E ρ=>t ρ fun ps=>sp (ps.map (·.2)) fun m d=>mr m d (fun n=>E.rt (.ow false) (.str n)) (bE (m,d) (f:=fun p=>E.rt (pE p.1 p.2) p.2) ⟨⟩)
def Dy(i:Nat)(sp:hV)(t:WA):WS:=fun E ρ=>t ρ fun ps=>sp (ps.map (·.2)) fun m d=>mr m d (fun n=>E.rt (.ow false) (.str n)) (bE (m,d) (f:=fun p=>match asg (pE p.1 p.2) p.2 with
 |some sl=>E.nx (ρ.set i (some sl))
 |none=>False) ⟨⟩)
variable (C:ti X.prog X.w X.K X.mg X.base rn k x ps sp)(hr:kc k X.A)
include C hr
theorem iJ (ha:QA X K (e :: es) t) (hK:X.K=K:=by rfl) (hg:Gl X x:=by rfl) (gy:(x == ("__debug__" : Str))=false:=by decide) (he:starEach (e :: es) X.env=(false,eval e X.env) :: starEach es X.env:=by rfl)
  (ft:(backTo pos (starEach es X.env)).any (·.1)=false:=by rfl):QE X K (.Call (.Name x p) (e :: es) [] pos) (fM sp t):=by
 subst hK
 exact PE.imp (mL C hr HS ha hg gy he ft) fun σ H Qv h=>iE h fun Hs ρ ae Q sr h f=>fC sr h f fun n H' _ z=>z.elim
variable (hx:Passes (mP X.prog X.w X.mg rn) X E)
include hx
theorem tR (ha:QA X K (e :: es) t) (hs:swapsWith (.Call (.Name x p) (e :: es) [] dz) none pos.line X.env=pure false:=by rfl) (hK:X.K=K:=by rfl) (hg:Gl X x:=by rfl) (gy:(x == ("__debug__" : Str))=false:=by decide) (he:starEach (e :: es) X.env=(false,eval e X.env) :: starEach es X.env:=by rfl)
  (ft:(backTo dz (starEach es X.env)).any (·.1)=false:=by rfl):QS X K (LX rn X.mg E) (.Expr (.Call (.Name x p) (e :: es) [] dz) pos) (rQ sp t):=by
 subst hK
 exact PS.imp (LG (mL C hr hx ha hg gy he ft) hs) fun D σ H hx=>dW hx fun Hs ρ ae E' sr h k1 k2 k3 k4 kx=>fC (Q:=fun _ _=>E'.nx ρ) sr h (fun v H1 aC m d As g1 r1 f1 q1=>k1 σ H1 aC ρ ae g1.sh (sr.grow g1) q1) kx
theorem Bp (ha:QA X K (e :: es) t) (hK:X.K=K:=by rfl) (hg:Gl X x:=by rfl) (gy:(x == ("__debug__" : Str))=false:=by decide) (he:starEach (e :: es) X.env=(false,eval e X.env) :: starEach es X.env:=by rfl)
  (ft:(backTo dz (starEach es X.env)).any (·.1)=false:=by rfl):QS X K (LX rn X.mg E) (.Return (some (.Call (.Name x p) (e :: es) [] dz)) pos) (Bd sp t):=by
 subst hK
 exact PS.imp (Oe (mL C hr hx ha hg gy he ft)) fun D σ H hx=>dW hx fun Hs ρ ae E' sr h k1 k2 k3 k4 kx=>fC (Q:=E'.rt) sr h (fun v H1 aC m d As g1 r1 f1 q1=>k4 v H1 aC m d As g1.sh g1.wf r1 f1.1 (fun a ha=>(f1.2 a ha).1) q1) kx
theorem Du(hN:X.N.Nodup)(hi:X.N[i]? = some y)(hy:Loc X.env.scope y)(ha:QA X K (e :: es) t)(hs:swapsWith (.Call (.Name x p) (e :: es) [] dz) (some (.Name y pos')) pos.line X.env=pure false:=by rfl)
  (hf:X.fn y=true\/X.env.scope.names.lookup y=some .local:=by first|exact .inl rfl|exact .inr rfl|assumption) (hK:X.K=K:=by rfl) (hg:Gl X x:=by rfl) (gy:(x == ("__debug__" : Str))=false:=by decide) (he:starEach (e :: es) X.env=(false,eval e X.env) :: starEach es X.env:=by rfl)
  (ft:(backTo dz (starEach es X.env)).any (·.1)=false:=by rfl):QS X K (LX rn X.mg E) (.Assign [.Name y pos'] (.Call (.Name x p) (e :: es) [] dz) pos) (Dy i sp t):=by
 subst hK
 refine PS.imp (Og hN hi hy (mL C hr hx ha hg gy he ft) hs hf) fun D σ H hx=>dW hx fun Hs ρ ae E' sr h k1 k2 k3 k4 kx=>fC (Q:=fun m d=>match asg m d with
  |some sl=>E'.nx (ρ.set i (some sl))
  |none=>False) sr h (fun v H1 aC m d As g1 r1 f1 q1=>?_) kx
 cases e:asg m d with
 |none=>rw[e] at q1;exact q1.elim
 |some sl =>
  rw[e] at q1
  obtain⟨bS,s'⟩:=(sr.grow g1).set i r1 f1.1 (fun a ha=>⟨(f1.2 a ha).1,fun m=>(sr.sr.own a m).ne (f1.2 a ha).2⟩) e
  exact k1 _ H1 aC _ bS g1.sh s' q1
end
def wd(j:Nat)(a:Addr)(b:Bool):WE:=fun ρ Q=>ρ[j]? = some (some (.xc a))/\Q .sh (.bl b)
theorem lu (hm:X.mg "isinstance" = none) (hp:(a,oe)∈X.pn) (hG:oe.cls=.ref C) (xc:n4 X.K C) (hk:kitOne X.K (.ref C) c=some b) (he:PE X e (y0 j)) (ht:PE X e2 (tC vc)) (hvc:∀ u,RelV vc u->u=c)
  (hg:Gl X "isinstance" := by rfl) (hs:starEach (e :: [e2]) X.env=(false,eval e X.env) :: starEach [e2] X.env:=by rfl) (nS:starEach (e2 :: []) X.env=(false,eval e2 X.env) :: starEach [] X.env:=by rfl) (ft:(backTo pos (starEach [e2] X.env)).any (·.1)=false:=by rfl) :
  QE X K (.Call (.Name "isinstance" p) [e,e2] [] pos) (wd j a b):=by
 have hc:kb X (.builtin "isinstance") (fun xs H Q=>xs=[.ref a,vc]/\Q (.bl b) H):=by
  intro pins s σ H xs us Q I r h
  obtain⟨rfl,q⟩:=h
  obtain⟨u,v,rfl,ru,rv⟩:=Vals.two r
  obtain rfl:u=Value.ref a:=ru
  obtain rfl:=hvc v rv
  obtain⟨ho,_⟩:=I.pin (a,oe) (i9 _ hp)
  exact kia_one (zr xc) I.kB ⟨oe,ho,hG⟩ hk (fun z=>nomatch z) fun tk=>⟨.bl b,H,I.tok tk,rfl,q⟩
 refine PE.imp (Ou hc hg hm gJ (nI he (nI ht qB nS) hs) (by decide) (by decide) hs ft) fun σ H Qv hx=>iE hx fun Hs ρ ae Q sr h f=>?_
 obtain⟨ea,q⟩:=h
 obtain⟨v,e1,r⟩:=sr.sr.get ea
 have r:v=V.ref a:=r
 subst r
 exact⟨_,e1,rfl,Fin.sh f sr.wf (.bl _) q⟩
end
abbrev gW(X:Cx)(pn:List (Addr × Obj))(xe:Value->Shared->Prop):Cx:={ X with pn:=pn,xe:=xe }
abbrev Bn(X:Cx)(pn:List (Addr × Obj))(a:Addr):Cx:={ X with A:=X.A.mark (some (.ref a)),calm:=false,pn:=pn,xe:=fun _ _=>False }
abbrev CP(X:Cx)(H:Hp)(s:Shared)(p:Addr × Obj):Prop:=s.heap.get? p.1=some p.2/\H p.1=none/\p.1≠X.env.locals/\p.1∉X.fs/\∀ v,p.2.data≠.cell v
section
variable {X:Cx}{pins nE pn:List (Addr × Obj)}{σ:St}{H:Hp}{s:Shared}{xe:Value->Shared->Prop}{a:Addr}
theorem Inv.gW(I:Inv X pins σ H s)(h:∀ p∈pn++nE,CP X H s p):Inv (gW X pn xe) nE σ H s :=
 ⟨⟨I.ok.mod,I.ok.kind,I.ok.glob,I.ok.blt,I.ok.above,I.ok.inj,I.ok.has,I.ok.yA,I.ok.hd,I.ok.frames,I.ok.AA,I.ok.AB,I.ok.bs,I.ok.tP,I.ok.yB,I.ok.yT,I.ok.oP,I.ok.wx⟩,I.os,I.bare,I.base,I.loc,I.cell,I.free,I.ox,h,I.aE,I.len⟩
theorem Inv.lY(I:Inv (L2.Q.gW X pn xe) nE σ H s)(h:∀ p∈X.pn++pins,p∈pn++nE):Inv X pins σ H s :=
 ⟨⟨I.ok.mod,I.ok.kind,I.ok.glob,I.ok.blt,I.ok.above,I.ok.inj,I.ok.has,I.ok.yA,I.ok.hd,I.ok.frames,I.ok.AA,I.ok.AB,I.ok.bs,I.ok.tP,I.ok.yB,I.ok.yT,I.ok.oP,I.ok.wx⟩,I.os,I.bare,I.base,I.loc,I.cell,I.free,I.ox,fun p hp=>I.pin p (h p hp),I.aE,I.len⟩
theorem Inv.Bn(I:Inv (L2.Q.gW X pn xe) nE σ H s)(h:∀ p∈pn2++dU',CP X H s p):Inv (L2.Q.Bn X pn2 a) dU' σ H s :=
 ⟨⟨I.ok.mod,I.ok.kind,I.ok.glob,I.ok.blt,I.ok.above,I.ok.inj,I.ok.has,I.ok.yA,(fun z=>nomatch z),I.ok.frames,I.ok.AA,I.ok.AB,I.ok.bs,I.ok.tP,I.ok.yB,I.ok.yT,I.ok.oP,I.ok.wx⟩,I.os,I.bare,I.base,I.loc,I.cell,I.free,I.ox,h,I.aE,I.len⟩
theorem Inv.Hl(I:Inv (L2.Q.gW X pn xe) pins σ H s):Inv (L2.Q.gW X pn xe2) pins σ H s :=
 ⟨⟨I.ok.mod,I.ok.kind,I.ok.glob,I.ok.blt,I.ok.above,I.ok.inj,I.ok.has,I.ok.yA,I.ok.hd,I.ok.frames,I.ok.AA,I.ok.AB,I.ok.bs,I.ok.tP,I.ok.yB,I.ok.yT,I.ok.oP,I.ok.wx⟩,I.os,I.bare,I.base,I.loc,I.cell,I.free,I.ox,I.pin,I.aE,I.len⟩
theorem Inv.Cm(I:Inv (L2.Q.Bn X pn a) nE σ H s)(hd:X.calm=true->X.A.handled=none)(h:∀ p∈X.pn++pins,p∈pn++nE):Inv X pins σ H s :=
 ⟨⟨I.ok.mod,I.ok.kind,I.ok.glob,I.ok.blt,I.ok.above,I.ok.inj,I.ok.has,I.ok.yA,hd,I.ok.frames,I.ok.AA,I.ok.AB,I.ok.bs,I.ok.tP,I.ok.yB,I.ok.yT,I.ok.oP,I.ok.wx⟩,I.os,I.bare,I.base,I.loc,I.cell,I.free,I.ox,fun p hp=>I.pin p (h p hp),I.aE,I.len⟩
theorem SP.lY{D:Ends}(h:SP (L2.Q.gW X pn xe) nE D f s)(hp:∀ p∈X.pn++pins,p∈pn++nE):SP X pins D f s:=by
 cases f with
 |next=>obtain⟨bp,H',I,q⟩:=h;exact⟨bp,H',Inv.lY I hp,q⟩
 |brk=>obtain⟨bp,H',I,q⟩:=h;exact⟨bp,H',Inv.lY I hp,q⟩
 |cont=>obtain⟨bp,H',I,q⟩:=h;exact⟨bp,H',Inv.lY I hp,q⟩
 |ret u=>obtain⟨v,bp,H',I,r,q⟩:=h;exact⟨v,bp,H',Inv.lY I hp,r,q⟩
theorem Inv.forget(I:Inv X pins σ H s)(hn:h'.Ns X.env.locals m)(hs:Heap.SameBut X.env.locals s.heap h'):Inv X pins (List.replicate X.N.length none) H { s with heap:=h',toks:=t }:=by
 have ne:∀ b o,X.eR.heap.get? b=some o->b≠X.env.locals:=fun b o e=>eM (kN (dy e) I.ok.above)
 refine⟨I.ok,I.os,I.bare,⟨fun b o e n hb hx=>(hs.2 b (ne b o e)).trans (I.base.keep b o e n hb hx),fun b o e n hb hx=>?_,I.base.free,fun b o e hx=>?_,I.base.iO,I.base.sL,I.base.tN⟩,⟨m,hn,fun i x v e1 e2=>?_⟩,fun x c e=>?_,I.free,I.ox,fun p hp=>?_,fun b o e=>?_,Qg⟩
 ·obtain⟨sl,e1⟩:=I.base.slot b o e n hb hx
  exact⟨sl,(hs.2 b (ne b o e)).trans e1⟩
 ·obtain⟨o',e1⟩:=I.base.there b o e hx
  exact⟨o',(hs.2 b (ne b o e)).trans e1⟩
 ·rw[Qc] at e2
  split at e2<;>cases e2
 ·obtain⟨v,z⟩:=I.cell x c e
  exact⟨v,z.sameBut hs (I.B7 x c e)⟩
 ·obtain⟨e,n,nl,nf,d⟩:=I.pin p hp
  exact⟨(hs.2 p.1 nl).trans e,n,nl,nf,d⟩
 ·refine(I.aE b o e).eh (fun c u hc q=>(hs.2 c ?_).trans q) (fun _ q=>q) fun _ _ q=>q
  intro z
  rcases hc with w|w
  ·rw[<- w,z,I.free] at e;cases e
  ·rw[z,I.free] at w;cases w
end
theorem SR.Xn{K:PySem.W.Frag}:∀ σ:St,SR K Hs H (List.replicate σ.length none) σ []
 |[]=>.nil
 |_ :: σ=>.non (SR.Xn σ)
theorem SR.exc{K:PySem.W.Frag}:∀ (σ:St) (j:Nat),SR K Hs H ((List.replicate σ.length none).set j (some (.xc a))) (σ.set j (some (.ref a))) []
 |[],_=>.nil
 |_ :: σ,0=>.xc (SR.Xn σ)
 |_ :: σ,j+1=>.non (SR.exc σ j)
theorem ya.next{P:Program}{B:Heap}(c:ya B fs H' h₀ h)(m:dD fs H' h₀ h h')(aE:fR P w H' h)(th:∀ b o,h₀.get? b=some o->∃ o',h.get? b=some o'):ya B fs H' h₀ h':=fun b o e k nb=>by
 have ho:∃ o',h.get? b=some o':=by
  rcases k with k|k
  ·cases z:H' b with
   |none=>exact absurd z k
   |some u=>exact eP.there (aE b u z)
  ·obtain⟨o0,e0⟩:=Option.ne_none_iff_exists'.mp k
   exact th b o0 e0
 obtain⟨o',e'⟩:=ho
 have e2:=m.keep b o' e' k nb
 rw[e] at e2;cases e2
 exact c b o e' k nb
def SV(body:WS)(ρh:Addr->Env)(hd:Addr->Str->WS):WS:=fun E ρ =>
 body { E with rt:=fun m d=>mr m d (fun n=>∀ a,hd a n { nx:=fun _=>False,rt:=E.rt } (ρh a)) (E.rt m d) } ρ
structure Ew(K:PySem.W.Frag)(mg:Str->Option Value)(rn:List Str)(R:Str):Prop where
 ex:∃ r,mg R=some (.ref r)/\n4 K r/\∀ n C,n∈rn->mg n=some (.ref C)->n4 K C/\mroIn K C (.ref r)=some true
theorem Fw{X:Cx}{K:PySem.W.Frag}{R:Str}
  (xr:Ew X.K X.mg rn R) (hN:X.N.Nodup) (hj:X.N[j]? = some en) (hl:X.env.scope.names.lookup en=some .local) (jS:X.stack=X.env :: X.outer) (hf:X.env.frame=some X.env.locals)
  (hρ:∀ a,ρh a=(List.replicate X.N.length none).set j (some (.xc a)))
  (hb:∀ pn xe E1,Passes (mP X.prog X.w X.mg rn) (gW X pn xe) E1->pz (gW X pn xe) K (LX rn X.mg E1) body wb)
  (hh:∀ pn a oe n C,n∈rn->X.mg n=some (.ref C)->n4 X.K C->(a,oe)∈pn->oe.cls=.ref C->pz (Bn X pn a) K L (dW' :: suite) (hd a n)) (hg:Gl X R:=by rfl) (gy:(R == ("__debug__" : Str))=false:=by decide) :
  QS X K L (.Try body [.ExceptHandler (some (.Name R np)) (some en) (dW' :: suite) WY] [] [] pos) (SV wb ρh hd):=by
 intro pins s σ H D I hx
 obtain⟨Hs,ρ,ae,E,sr,h,k1,k2,k3,k4,kx⟩:=hx
 obtain⟨r,hm,xr,sub⟩:=xr.ex
 have sp0:∀ p∈X.pn++pins,p∈(X.pn++pins)++[]:=fun p hp=>by rw[lI];exact hp
 have AH:=hb (X.pn++pins) (fun e s'=>∃ nE bp H1 s1,Inv (gW X (X.pn++pins) X.xe) nE bp H1 s1/\mP X.prog X.w X.mg rn X.stack H1 s1 (fun c _ H'=>∃ n C,c=.ref C/\n∈rn/\X.mg n=some (.ref C)/\ay Hs H'/\∀ a,hd a n { nx:=fun _=>False,rt:=E.rt } (ρh a)) e s') _
  (fun nE bp H1 s1 e s' I1 c=>⟨nE,bp,H1,s1,Inv.Hl I1,c⟩)
  [] s σ H D (Inv.gW I fun p hp=>I.pin p (by rw[lI] at hp;exact hp)) ⟨Hs,ρ,ae,_,sr,h,k1,k2,k3,fun v H' ah m d As s2 w2 r2 nd own q=>k4 v H' ah m d As s2 w2 r2 nd own (xP r2 q),fun n H' s2 q hn C hC=>⟨n,C,rfl,hn,hC,s2,q⟩⟩
 refine wpAny_Try_except (oI AH (fun f s1 hs=>?_) fun e s' hx=>?_)
 ·have hs:=SP.lY hs sp0
  cases f with
  |next =>
   obtain⟨bp,H',I',q⟩:=hs
   exact U_ pins s1 bp H' D I' q
  |brk=>exact hs
  |cont=>exact hs
  |ret u=>exact hs
 ·obtain⟨nE,bp,H1,s1,I1,a,n',C,a0,H',B,rfl,QH,os,bare,un,aE,Dp,cov,fr,n,C2,eC,hn,n5,sm,hq⟩:=hx
  cases eC
  obtain⟨xc,Sv⟩:=sub n C hn n5
  obtain⟨SW,g',d',t',Q8⟩:=s'
  obtain rfl:Q8=s1.os:=os
  have dY':Heap.FlyingW B (X.env :: X.outer) a (.ref C) a0 SW:=jS ▸ Dp
  have th:∀ b o,s1.heap.get? b=some o->∃ o',SW.get? b=some o':=fun b o e=>un.there b o e (by simp)
  refine wpAny_looks_onW (jS ▸ I.ok.frames) hf dY' fun h4 held up4=>wpAny_landsW held fun h5 PH up5=>?_
  have SX:dD (fh X.stack) H' s1.heap SW h5:=dD.of cov PH.1 (up4.trans up5) Dp.2.2.1
  have Xo:=cov.next SX aE th
  have SY:=SX.un un
  have S0:=SX.aE fr aE
  have I5:Inv (gW X (X.pn++pins) X.xe) nE bp H' ⟨h5,g',d',t',s1.os⟩:=I1.call (h':=h5) (g':=g') (d':=d') (t':=t') (ch:=[]) SY S0 bare (fun b z=>absurd z (by simp))
  refine wpAny_handleBy_cons (codeAny_handlers_test ?_) (by intro q;cases q)
  refine Oc (X:=Bn X (X.pn++pins) a) (pins:=nE) (Inv.Bn I5 fun p hp=>I5.pin p hp) hg hm ?_ gy
  refine qO xc xr Sv I5.kB PH.there (codeAny_handlers_suite_as ?_)
  refine lands_againW PH fun h6 PJ up6=>?_
  have ff5:h5.FunFrames B X.stack:=jS ▸ PH.2.2.1
  have S1:dD (fh X.stack) H' s1.heap h5 h6:=dD.of Xo PJ.1 up6 ff5
  have un6:=S1.un SY
  have ee':=S1.aE fr S0
  have I6:Inv (gW X (X.pn++pins) X.xe) nE bp H' ⟨h6,g',d',t',s1.os⟩:=I1.call (h':=h6) (g':=g') (d':=d') (t':=t') (ch:=[]) un6 ee' bare (fun b z=>absurd z (by simp))
  obtain⟨oe,vs,he,hG,Nf,_⟩:=PJ.first
  have nf:a∉fh X.stack:=fun z=>by
   have ff6:h6.FunFrames B X.stack:=jS ▸ PJ.2.2.1
   obtain⟨_,o,e1,d1⟩:=ff6.mem z
   rw[he] at e1;cases e1
   exact d1 vs Nf
  have na:H' a=none:=by
   cases z:H' a with
   |none=>rfl
   |some u =>
    have:=(Xo.next S1 S0 fun b o e=>SY.there b o e (by simp)) a oe he (.inl (by rw[z];exact fun z=>nomatch z)) nf
    rw[PJ.2.1] at this;cases this
  have frm:∀ b,b∈fh X.stack↔b=X.env.locals\/b∈X.fs:=fun b=>by
   rw[jS];unfold fh;rw[yk,hf];exact df
  have pa:CP X H' ⟨h6,g',d',t',s1.os⟩ (a,oe):=⟨he,na,fun z=>nf ((frm a).mpr (.inl z)),fun z=>nf ((frm a).mpr (.inr z)),fun v z=>by rw[Nf] at z;cases z⟩
  have I6h:Inv (Bn X ((a,oe) :: (X.pn++pins)) a) [] bp H' ⟨h6,g',d',t',s1.os⟩:=Inv.Bn I6 fun p hp=>by
   rw[lI] at hp
   rcases df.mp hp with z|z
   ·rw[z];exact pa
   ·exact I6.pin p (i9 _ z)
  refine QD (X:=Bn X ((a,oe) :: (X.pn++pins)) a) (v:=.ref a) I6h hN hj (.inl hl) rfl (fun s7 I7 _=>?_) (.inr hl)
  refine oI (hh ((a,oe) :: (X.pn++pins)) a oe n C hn n5 xc bX hG [] s7 (bp.set j (some (.ref a))) H' { nx:=fun _ _=>False,rt:=D.rt } I7
   ⟨H',ρh a,[],_,⟨by rw[hρ a,<- (show bp.length=X.N.length from I1.len)];exact SR.exc bp j,⟨ay.refl _,fun _ _ e=>e⟩,lP,fun a h=>nomatch h⟩,hq a,fun _ _ _ _ _ _ _ z=>z,fun _ _ _ _ _ _ _ z=>z,fun _ _ _ _ _ _ _ z=>z,
    fun v H2 ax m d As s2=>k4 v H2 ax m d As (sm.trans s2),fun n H2 s2=>kx n H2 (sm.trans s2)⟩) (fun f s8 hs=>?_) fun _ _ z=>z.elim
  cases f with
  |next=>obtain⟨_,_,_,z⟩:=hs;exact z.elim
  |brk=>obtain⟨_,_,_,z⟩:=hs;exact z.elim
  |cont=>obtain⟨_,_,_,z⟩:=hs;exact z.elim
  |ret u =>
   obtain⟨v,σ8,H8,I8,rv,q⟩:=hs
   have I9:Inv X pins σ8 H8 s8:=Inv.Cm I8 I.ok.hd fun p hp=>by rw[lI];exact b5 _ hp
   obtain⟨m,hn8,_⟩:=id I9.loc
   exact wpAny_nameGoes hl hn8 (by rw[I9.ok.kind];rfl) fun h9 m9 hn9 sb=>⟨v,_,H8,Inv.forget I9 hn9 sb,rv,q⟩
end L2.Q
namespace L2.Q
open PySem PySem.Spec PyProof.Rows
theorem mC:bootBuiltins "ValueError" = some (.type "ValueError"):=by decide +kernel
end L2.Q
namespace L2.Q.R
open PySem PySem.Spec PyProof.Rows L2.Q
section
variable {E:pY}{ρ:Env}{Q:Md->L2.Q.D->Prop}{te:WE}{tar:WA}{i j:Nat}{a:Addr}{b:Bool}{sp:hV}{n:Str}{d:L2.Q.D}{Y:Str->Prop}{N:Prop}{t:WS}{ρh:Addr->Env}{hd:Addr->Str->WS}
theorem Ir:vC n te E ρ=te ρ fun _ _=>E.rt (.ow false) (.str n):=rfl
theorem G5:fM sp tar ρ Q=tar ρ fun ps=>sp (ps.map (·.2)) fun m d=>mr m d (fun _=>False) (bE (m,d) (f:=fun p=>Q (pE p.1 p.2) p.2) ⟨⟩):=rfl
theorem G9:rQ sp tar E ρ=tar ρ fun ps=>sp (ps.map (·.2)) fun m d=>mr m d (fun n=>E.rt (.ow false) (.str n)) (bE (m,d) (f:=fun _=>E.nx ρ) ⟨⟩):=rfl
theorem Jz:Bd sp tar E ρ=tar ρ fun ps=>sp (ps.map (·.2)) fun m d=>mr m d (fun n=>E.rt (.ow false) (.str n)) (bE (m,d) (f:=fun p=>E.rt (pE p.1 p.2) p.2) ⟨⟩):=rfl
theorem J1:Dy i sp tar E ρ=tar ρ fun ps=>sp (ps.map (·.2)) fun m d=>mr m d (fun n=>E.rt (.ow false) (.str n)) (bE (m,d) (f:=fun p=>bE (asg (pE p.1 p.2) p.2) (f:=fun o=>put o fun sl=>E.nx (ρ.set i (some sl))) ⟨⟩) ⟨⟩):=rfl
theorem KQ:SV t ρh hd E ρ=t { E with rt:=fun m d=>mr m d (fun n=>∀ a,hd a n { nx:=fun _=>False,rt:=E.rt } (ρh a)) (E.rt m d) } ρ:=rfl
theorem KZ:wd j a b ρ Q=(ρ[j]? = some (some (.xc a))/\Q .sh (.bl b)):=rfl
theorem Lp:mr (.ow false) (.str n) Y N=Y n:=rfl
theorem Ju:mr .sh d Y N=N:=rfl
theorem Kl:mr .bo d Y N=N:=rfl
theorem J9:mr (.ow true) d Y N=N:=rfl
theorem Kz:mr (.ow b) (.list xs) Y N=N:=by cases b<;>rfl
theorem LK:mr (.ow b) (.tup xs) Y N=N:=by cases b<;>rfl
theorem Ku:mr (.ow b) (.dK xs) Y N=N:=by cases b<;>rfl
theorem Lh:mr (.ow b) (.dT xs) Y N=N:=by cases b<;>rfl
end
end L2.Q.R
namespace L2
open PySem PySem.Spec PyProof.Rows Builtin Builtin.Str Builtin.Int
section
variable {prog:Program}{w:World}{A:Around}{E:Value->Shared->Prop}{s:Shared}{x:Str}{n:Int}{t u:Tok}
theorem jM(aE:MulOk x n)(h:∀ t' k,Q (.str (Txt.mul x n) t') { s with toks:=k }):wpAny (model prog w) A (binaryOp .Mult (.str x t) (.int n u)) Q E s:=by
 refine P.mul_str aE.1 aE.2.1 aE.2.2 ?_
 unfold Txt.mul at h
 by_cases h1:n<1
 ·rw[if_pos h1];have h':=h s.toks (s.toks+1);rw[if_pos h1] at h';exact⟨by decide,h'⟩
 ·rw[if_neg h1];refine post_val_or_made (fun hc=>fits_reps (aE.2.2 h1 (by simpa using hc))) fun t' k=>?_
  have h':=h t' k;rw[if_neg h1] at h';exact h'
end
def Gx:R2:=fun x y H Q=>Fv y x H Q
theorem DR{X:Cx}:cS X (binaryOp .Mult) Gx:=by
 intro pins s σ H y x u v Q I ry rx h
 unfold Gx Fv at h
 split at h
 ·rename_i n z
  obtain⟨⟨h1,h2,h3⟩,q⟩:=h
  obtain⟨t,rfl⟩:=rx
  obtain⟨t',rfl⟩:=ry
  refine jM ⟨?_,fun _ _=>?_,fun _ _=>?_⟩ fun t' k=>⟨.str (oi n z),H,I.tok _,⟨_,by rw[Br h1]⟩,q⟩
  ·have a1:¬ n < -(2 ^ 63:Int):=by lia
   have a2:¬ n >= 2 ^ 63:=by lia
   rw[decide_eq_false a1,decide_eq_false a2];rfl
  ·have:(2 ^ 63-1:Int) / 100<=(2 ^ 63-1) / n:=by
    apply Int.le_ediv_of_mul_le (by lia)
    have:(2 ^ 63-1:Int) / 100*n<=(2 ^ 63-1:Int) / 100*100:=Int.mul_le_mul_of_nonneg_left h2 (by decide)
    lia
   have e:(2 ^ 63-1:Int) / 100=92233720368547758:=by decide
   lia
  ·have:z.length*n.toNat<=100*100:=B1 h3 (by lia)
   have hs:=sizeLine_eq
   simp only[tooLong,decide_eq_false_iff_not]
   generalize z.length*n.toNat=m at this ⊢
   lia
 ·exact h.elim
end L2
namespace L2.Q
open PySem PySem.Spec PyProof.Rows
section
variable {X:Cx}{K:PySem.W.Frag}{a:Expr}{ta:WE}
def Ng(t:WE):WE:=fun ρ Q=>t ρ fun m d=>iM m/\Q .sh d
theorem S2(h:QE X K a ta):QE X K a (Ng ta):=by
 refine PE.imp h fun σ H Qv hx=>iE hx fun Hs ρ ae Q sr h fin=>?_
 refine⟨Hs,ρ,ae,_,sr,h,fun v H1 aC m d As g1 r1 f1 q1=>?_⟩
 obtain⟨nb,q⟩:=q1
 cases m with
 |sh=>exact fin v H1 aC .sh d As g1 r1 f1 q
 |bo=>exact nb.elim
 |ow fl =>
  obtain⟨r,ne⟩:=r1
  have hn:∀ a∈As,aC a=none:=fun a h=>(f1.2 a h).1
  have s:=gO (H:=H1) hn
  refine fin v H1 (tf aC H1 As) .sh d [] ⟨g1.all,g1.sh.trans s,uZ g1.wf r.own,fun c hc=>?_⟩ ⟨rfl,r.rep s fun c hc=>by unfold tf;rw[if_pos hc]⟩ ⟨lP,fun _ h=>uk h⟩ q
  unfold tf at hc
  split at hc
  ·rename_i m
   exact .inr (f1.2 c m).2
  ·exact g1.new c hc
def Bz(ys:List D)(x:D):Bool:=ys.any fun z=>gu z x
def PK(neg:Bool):W2:=fun _ x _ y Q=>∃ ys,(y=.list ys\/y=.tup ys)/\cq 12 x=true/\cq 12 y=true/\Q .sh (.bl (if neg then !Bz ys x else Bz ys x))
def S3(K:PySem.W.Frag)(neg:Bool):R2:=fun x y H Q=>∃ d e xs,L2.Rep K H d x/\L2.Rep K H e y/\(e=.list xs\/e=.tuple xs)/\d.canLay0=true/\PyData.canLayAll0 xs=true/\d.depth<=60/\Q (.bl (if neg then !(xs.any fun z=>PyData.eqv z d) else xs.any fun z=>PyData.eqv z d)) H
theorem wV(hu:X.A.units+64<cLine):cS X (compareOp .NotIn) (S3 X.K true):=by
 intro pins s σ H x y v u Q I rx ry h
 obtain⟨d,e,xs,h1,h2,h3,h4,h5,h6,q⟩:=h
 obtain⟨as,r1⟩:=h1.reads I rx
 obtain⟨bs,r2⟩:=h2.reads I ry
 rcases h3 with rfl|rfl
 ·exact PySem.SeqAt.notIn_list_reads r2 r1 h5 h4 (by lia) ⟨.bl _,H,I,rfl,q⟩
 ·exact PySem.SeqAt.notIn_tuple_reads r2 r1 h5 h4 (by lia) ⟨.bl _,H,I,rfl,q⟩
theorem Bv(hu:X.A.units+64<cLine)(hK:X.K=K:=by rfl):cS X (compareOp .NotIn) (S3 K true):=by subst hK;exact wV hu
theorem By(ys:List D)(x:D):((kX ys).any fun z=>PyData.eqv z x.py)=Bz ys x:=by
 induction ys with
 |nil=>rfl
 |cons y ys ih =>
  rw[kX,An,ih]
  rfl
theorem Ep:kr K (S3 K neg) (PK neg):=by
 intro Hs H m x v As n y u Bs Qd Qv w rx ry h f
 obtain⟨ys,hy,o1,o2,q⟩:=h
 have l1:=iK 12 x o1
 have l2:=iK 12 y o2
 refine⟨x.py,y.py,kX ys,(rx.rep w).l2 o1,(ry.rep w).l2 o2,?_,l1.1,?_,by lia,?_⟩
 ·rcases hy with rfl|rfl
  ·exact .inl rfl
  ·exact .inr rfl
 ·rcases hy with rfl|rfl
  ·exact l2.1
  ·exact l2.1
 ·rw[By]
  exact f.sh w (.bl _) q
def Fh(o:Option (Option Sl))(k:List D->Prop):Prop:=match o with
 |some (some (.ow true (.list xs)))=>k xs
 |_=>False
def intD(y:D)(k:Int->Prop):Prop:=match y with
 |.int i=>k i
 |_=>False
def Nh(d:D):Md:=bif d.flat then .sh else .ow true
end
end L2.Q
namespace L2.Q.R
open PySem PySem.Spec PyProof.Rows L2.Q
section
variable {ρ:Env}{te:WE}{m m':Md}{x:L2.Q.D}{ys:List L2.Q.D}{Q:Md->L2.Q.D->Prop}
theorem Jf:Fh (some (some (.ow true (.list ys)))) k=k ys:=rfl
theorem J8:intD (.int i) k=k i:=rfl
theorem el':Ng te ρ Q=te ρ fun m d=>iM m/\Q .sh d:=rfl
theorem Kg:PK neg m x m' (.list ys) Q=(cq 12 x=true/\cq 12 (.list ys)=true/\Q .sh (.bl (if neg then !Bz ys x else Bz ys x))):=by
 apply propext
 exact⟨fun⟨zs,h,a,b,c⟩=>by rcases h with h|h<;>cases h;exact⟨a,b,c⟩,fun⟨a,b,c⟩=>⟨ys,.inl rfl,a,b,c⟩⟩
theorem JX:PK neg m x m' (.tup ys) Q=(cq 12 x=true/\cq 12 (.tup ys)=true/\Q .sh (.bl (if neg then !Bz ys x else Bz ys x))):=by
 apply propext
 exact⟨fun⟨zs,h,a,b,c⟩=>by rcases h with h|h<;>cases h;exact⟨a,b,c⟩,fun⟨a,b,c⟩=>⟨ys,.inr rfl,a,b,c⟩⟩
end
end L2.Q.R
namespace L2
open PySem PySem.Spec PyProof.Rows
section
variable {prog:Program}{w:World}{A:Around}{E:Value->Shared->Prop}{s:Shared}
theorem Di{κ:Type}[DecidableEq κ]{kd:HeapKind prog w κ}{d b:Addr}{xs:List (κ × Addr × Value)}{k:κ}{r:Value}{Q:Value->Shared->Prop}(hu:kd.room A)(hk:kd.is s.heap k b)(hm:s.heap.DictOfH kd d xs)(hz:xs.length<=sizeLine)
  (h1:∀ p,atKey xs k=some p->Q p.2 { s with toks:=s.toks+kd.draws k })
  (h2:atKey xs k=none->∀ h',h'.DictOfH kd d (storedH xs k b r)->Heap.SameBut d s.heap h'->Q r { s with heap:=h',toks:=s.toks+kd.draws k }):wpAny (model prog w) A (dictSetDefault d (.ref b) r) Q E s:=by
 obtain⟨o,es,ep,ho,hc,hd,he,qa,hn⟩:=hm
 unfold dictSetDefault
 try with_reducible refine wpAny_holding ?_
 refine ag (kd.pyHash hu hk (ag (wpAny_dictFind_heap (s:={ s with toks:=s.toks+kd.draws k }) hu hk ho hd he qa hn (fun no=>?_) fun j p hj=>?_)))
 ·have nk:=atKey_none_of_get no
  refine ag (wpAny_rule (ag (wpAny_updateDictKeys (hz:=by have e:=size_of_entries he;lia) (s:={ s with toks:=s.toks+kd.draws k }) ho hd (aI (h2 nk _ ?_ (Heap.SameBut.update ..))))))
  rw[storedH_new nk]
  refine⟨_,_,ep+1,FI _ ho (Obj.isFreed_of_dict (Obj.data_mapDictKeys hd _)),hc.mapDictKeys _,Obj.data_mapDictKeys hd _,by simp[he,entryOfKey],fun x hx=>?_,?_⟩
  ·rcases dS.mp hx with q|q
   ·exact kd.keeps (qa x q) ho hd (Heap.SameBut.update ..)
   ·obtain rfl:=nv.mp q
    exact kd.keeps hk ho hd (Heap.SameBut.update ..)
  ·rw[sC]
   refine ip.mpr ⟨hn,by simp,fun x hx y hy e=>?_⟩
   obtain rfl:y=k:=by simpa using hy
   exact not_mem_keys_of_get no (e ▸ hx)
 ·refine ag (wpAny_dictEntries (s:={ s with toks:=s.toks+kd.draws k }) ho hd ?_)
  rw[entry_at he j,hj]
  exact ag (wpAny_rule (aI (h1 _ (atKey_of_get hn hj))))
theorem zT{κ:Type}[DecidableEq κ](kd:HeapKind prog w κ)(d b:Addr)(hd:(d == sysModules)=false)(r:Value) :
  MeetsIn prog w (Builtin.«dict.setdefault» ⟨[.ref d,.ref b,r],[]⟩) (fun A R s=>kd.room A.in1/\∃ k xs,kd.is s.heap k b/\s.heap.DictOfH kd d xs/\xs.length<=sizeLine /\
   (∀ p,atKey xs k=some p->R (.ok (.ret p.2)) { s with toks:=s.toks+kd.draws k }) /\
   (atKey xs k=none->∀ h',h'.DictOfH kd d (storedH xs k b r)->Heap.SameBut d s.heap h'->R (.ok (.ret r)) { s with heap:=h',toks:=s.toks+kd.draws k })) :=
 .of_wp fun A R s cy=>by
  obtain⟨hu,k,xs,hk,hm,hz,h1,h2⟩:=cy
  unfold Builtin.«dict.setdefault» Builtin.Dict.keyAndDefault
  refine ag (ag (wpAny_notOrdered_dict hm.typeIs ?_))
  refine(show wpAny _ _ (pure (d,Value.ref b,some r)) _ _ s from aI ?_)
  refine(show wpAny _ _ (if (d == sysModules)=true then _ else (dictSetDefault d (Value.ref b) r >>= _)) _ _ s from ?_)
  rw[if_neg (by rw[hd];decide)]
  exact ag (Di hu hk hm hz (fun p q=>aI ⟨p.2,rfl,h1 p q⟩) fun q h' a c=>aI ⟨r,rfl,h2 q h' a c⟩)
end
section
variable {X:Cx}{pins:List (Addr × Obj)}{σ:St}{H:Hp}{s:Shared}{a b:Addr}{A:Around}{E:Value->Shared->Prop}
theorem zM(hu:A.units+1<cLine)(I:Inv X pins σ H s)(e:H a=some (.dT kvs))(eb:H b=some (.tup (k.map kV)))(hl:kvs.length<sizeLine)(rv:RelV v r)
  (h1:∀ v' w' s',fI kvs k=some v'->Inv X pins σ H s'->RelV v' w'->Q w' s') (h2:fI kvs k=none->∀ s',Inv X pins σ (upd H a (.dT (putK kvs k v))) s'->Q r s') :
  wpAny (model X.prog X.w) A (call (.builtin "dict.setdefault") [.ref a,.ref b,r]) Q E s:=by
 obtain⟨z,hd,xs,rel,dd⟩:=VS I.aE e
 have hz:xs.length<=sizeLine:=by rw[<- Paired.length rel];exact z
 have hp:(putK kvs k v).length<=sizeLine:=by have:=OG kvs k v;lia
 have vl:=rel.val k
 refine call_meetsIn PySem.F.slot_dict_setdefault dd.typeIs PySem.F.entry_dict_setdefault (PySem.F.args_dict_setdefault_3 _ _ _) (zT (tupleKind (i6 X.prog X.w)) a b hd r) ⟨tupleKind_room_in1 hu,k,xs,ED I.aE eb,dd,hz,fun p eI=>?_,fun hn h' AR hs=>?_⟩
 ·rw[eI] at vl
  cases ev:fI kvs k with
  |none=>rw[ev] at vl;exact(vl:False).elim
  |some v'=>rw[ev] at vl;exact h1 v' _ _ ev (I.tok _) vl
 ·have ev:fI kvs k=none:=by
   rw[hn] at vl
   cases ev:fI kvs k with
   |none=>rfl
   |some v'=>rw[ev] at vl;exact(vl:False).elim
  refine h2 ev _ ?_
  obtain⟨q,es,ep,hq,g2,g3,g4,_,g5⟩:=AR
  refine OL I (by rw[e];exact True.intro) hs ⟨q,hq⟩ ⟨hp,hd,_,(rel.put k eb rv).keeps fun c ys ec=>?_,q,es,ep,hq,g2,g3,g4,g5⟩
  rw[dP (UW ec e fun z=>nomatch z)]
  exact ec
end
def tSd(td ty tx:TE):TE:=fun σ H Q=>td σ H fun x H1=>∃ a,x=.ref a/\OQ H1 a/\ty σ H1 fun y H2=>tx σ H2 fun z H3=>∃ kvs k b,H3 a=some (.dT kvs)/\y=.ref b/\H3 b=some (.tup (k.map kV))/\kvs.length<sizeLine /\
 (∀ v,fI kvs k=some v->Q v H3)/\(fI kvs k=none->Q z (upd H3 a (.dT (putK kvs k z))))
theorem Il {X:Cx} (hu:X.A.units+1<cLine) (ho:PE X o td) (he:PE X e ty) (hf:PE X f tx) (m:M2 X o "setdefault" apos e f dz):PE X (.Call (.Attribute o "setdefault" apos) [e,f] [] dz) (tSd td ty tx):=by
 intro pins s σ H Q I h
 refine wpAny_Call_method m.base m.few m.line PySem.F.plainAttrs_dict PySem.F.slot_dict_setdefault PySem.F.type_dict_setdefault (cc (ho pins s σ H _ I h) fun u s1 cy=>?_)
 obtain⟨x,H1,I1,rx,a,ex,d,q1⟩:=cy
 subst ex
 cases (show u=Value.ref a from rx)
 have td:=V0 I1 d
 refine⟨td.1,td.2.1,?_⟩
 rw[m.trees]
 refine Calls.callWith_builtin rfl (Calls.evalArgs_plain (Calls.spliced_cons (cc (he pins s1 σ H1 _ I1 q1) fun iv s2 cf=>L2.fq cf fun y H2 I2 ry q2=>Calls.spliced_cons (cc (hf pins s2 σ H2 _ I2 q2) fun fv s3 ⟨z,H3,I3,rz,kvs,k,b,e1,e2,e3,hl,q3,q4⟩=>Calls.spliced_nil ?_))))
 subst e2
 cases (show iv=Value.ref b from ry)
 exact zM hu I3 e1 e3 hl rz (fun v' w' s' ev I' r'=>⟨v',H3,I',r',q3 v' ev⟩) fun ev s' I'=>⟨z,_,I',rz,q4 ev⟩
end L2
namespace L2.Q
open PySem PySem.Spec PyProof.Rows
section
variable {X:Cx}{K:PySem.W.Frag}{a b c:Expr}{ta tb tc:WE}{pos apos dz:Pos}
def PL(x:D)(f:List (Key × D)->Prop)(g:List (List Key × D)->Prop):Prop:=match x with
 |.dK kvs=>f kvs
 |.dT kvs=>g kvs
 |_=>False
def Ni(y:D)(k:List D->Prop):Prop:=match y with
 |.tup ys=>k ys
 |_=>False
def Dx(o:Option D)(m n:Md)(z:D)(Q:Md->D->Prop):Prop:=match o with
 |some d=>Q (lh m d) d
 |none=>Q n z
def PN(ta tb tc:WE):WE:=fun ρ Q=>ta ρ fun m x=>PL x (fun kvs=>tb ρ fun _ y=>tc ρ fun n z=>∃ k,y.key1=some k/\Dx (cE kvs k) m n z Q)
 (fun kvs=>tb ρ fun _ y=>tc ρ fun n z=>Ni y fun ys=>∃ ks,dq ys=some ks/\Dx (cE kvs ks) m n z Q)
theorem yg(hx:ml K (PN ta tb tc) σ H Qv):V1 (ml K ta) (ml K tb) (ml K tc) σ H Qv:=iE hx fun Hs ρ ae Q sr h fin=>by
 refine⟨Hs,ρ,ae,_,sr,h,fun v H1 aC m x As g1 r1 f1 q1=>?_⟩
 have got:∀ {o:Option V} {d? : Option D} {H2 H3 ax dQ:Hp} {w:V} {n:Md} {z:D} {Cs:List Addr},eJ aC H1 ax H2->eJ ax H2 dQ H3->RM K dQ H3 n z w Cs->cg dQ H2 Cs->(match d? with
   |some d=>∃ v,o=some v/\Rep K H3 d v/\(m=.sh->Rep K dQ d v)
   |none=>o=none)->Dx d? m n z Q->Qv (o.getD w) H3:=by
  intro o d? H2 H3 ax dQ w n z Cs g2 g3 r3 f3 l q
  cases d? with
  |none=>rw[show o=none from l];exact fin w H3 dQ n z Cs ((g1.trans g2).trans g3) r3 (f3.of (g1.trans g2).all) q
  |some d =>
   obtain⟨v',e,u1,u2⟩:=l
   rw[e]
   exact(Fin.after fin ((g1.trans g2).trans g3)).lh g3.wf u1 u2 q
 have core:∀ G:Hp,ay G H1->(∀ H3 dQ,eJ aC H1 dQ H3->∀ d v,Rep K G d v->Rep K H3 d v/\(m=.sh->Rep K dQ d v))->Rep K G x v->∃ a,v=.ref a/\OQ H1 a/\ml K tb σ H1 fun y H2=>ml K tc σ H2 fun z H3=>∃ o,kG H3 a y o/\Qv (o.getD z) H3:=by
  intro G sg up r
  cases r with
  |dK kk s q =>
   refine⟨_,rfl,.inl ⟨_,ay.rd sg s⟩,aC,ρ,ae,_,sr.grow g1,q1,fun u H2 ax n y Bs g2 r2 f2 q2=>⟨ax,ρ,ae,_,(sr.grow g1).grow g2,q2,fun w H3 dQ n3 z Cs g3 r3 f3 q3=>?_⟩⟩
   have ry:=(r2.grow g3).rep g3.wf
   obtain⟨k,hk,q4⟩:=q3
   have ev:=ry.key hk
   subst ev
   refine⟨_,kG.k' (ay.rd (g2.trans g3).all (ay.rd sg s)),got g2 g3 r3 f3 ?_ q4⟩
   have z:=zip_get (k:=k) q
   split
   ·rename_i d e
    rw[e] at z
    obtain⟨v',e',r'⟩:=z
    exact⟨v',e',up _ _ (g2.trans g3) _ _ r'⟩
   ·rename_i e
    rw[e] at z
    exact z
  |dT kk s q =>
   refine⟨_,rfl,.inr ⟨_,ay.rd sg s⟩,aC,ρ,ae,_,sr.grow g1,q1,fun u H2 ax n y Bs g2 r2 f2 q2=>⟨ax,ρ,ae,_,(sr.grow g1).grow g2,q2,fun w H3 dQ n3 z Cs g3 r3 f3 q3=>?_⟩⟩
   have ry:=(r2.grow g3).rep g3.wf
   cases ry with
   |tup t2 e2 p2 =>
    obtain⟨k,hk,q4⟩:=q3
    obtain⟨b',eb,e3⟩:=Rep.mn (.tup t2 e2 p2) hk
    cases eb
    refine⟨_,kG.t' (ay.rd (g2.trans g3).all (ay.rd sg s)) e3,got g2 g3 r3 f3 ?_ q4⟩
    have z:=zip_get (k:=k) q
    split
    ·rename_i d e
     rw[e] at z
     obtain⟨v',e',r'⟩:=z
     exact⟨v',e',up _ _ (g2.trans g3) _ _ r'⟩
    ·rename_i e
     rw[e] at z
     exact z
   |_=>exact q3.elim
  |_=>exact q1.elim
 rcases r1.here g1.wf with⟨hm,r⟩|⟨hm,r⟩
 ·exact core aC g1.wf.sub (fun H3 dQ g d v q=>⟨q.same (g1.wf.sub.trans g.all),fun _=>q.same g.sh⟩) r
 ·exact core H1 (ay.refl H1) (fun H3 dQ g d v q=>⟨q.same g.all,fun z=>absurd z hm⟩) r
theorem H_ (hu:X.A.units+64<cLine) (ha:QE X K a ta) (hb:QE X K b tb) (hc:QE X K c tc) (hm:M2 X a "get" apos b c dz:=by exact⟨rfl,rfl,rfl,rfl⟩):QE X K (.Call (.Attribute a "get" apos) [b,c] [] dz) (PN ta tb tc) :=
 PE.imp (bp' (by lia) ha hb hc hm) fun σ H Qv hx=>yg hx
def Nj(d x:D):D:=match d with
 |.list xs=>.list (xs++[x])
 |d=>d
def kL:List (List Key × D)->List Key->D->List (List Key × D)
 |[],k,x=>[(k,.list [x])]
 |p :: r,k,x=>if p.1=k then (p.1,Nj p.2 x) :: r else p :: kL r k x
def II(kvs:List (List Key × D))(k:List Key):List (List Key × D):=match cE kvs k with
 |some _=>kvs
 |none=>kvs++[(k,.list [])]
def Ab:Option D->Prop
 |none=>True
 |some (.list xs)=>xs.length<sizeLine
 |_=>False
def PQ(o:Option (Option Sl))(k:List (List Key × D)->Prop):Prop:=match o with
 |some (some (.ow true (.dT kvs)))=>k kvs
 |_=>False
def PR(i:Nat)(tk te:WE):WS:=fun E ρ=>PQ ρ[i]? fun kvs=>tk ρ fun _ y=>Ni y fun ys=>∃ ks,dq ys=some ks/\kvs.length<sizeLine/\Ab (cE kvs ks) /\
 te (ρ.set i (some (.ow true (.dT (II kvs ks))))) fun _ x=>x.flat=true/\E.nx (ρ.set i (some (.ow true (.dT (kL kvs ks x)))))
theorem bj[DecidableEq κ](p:κ × β)(r:List (κ × β))(k:κ):cE (p :: r) k=if p.1=k then some p.2 else cE r k:=by
 by_cases h:p.1=k<;>simp[cE,h]
theorem Gz:∀ {kvs:List (List Key × D)},cE kvs k=some d->∃ j,(kvs.map (·.2))[j]? = some d/\(∀ vs:List V,vs.length=kvs.length->fI ((kvs.map (·.1)).zip vs) k=vs[j]?) /\
  ∀ x,(kL kvs k x).map (·.1)=kvs.map (·.1)/\(kL kvs k x).map (·.2)=(kvs.map (·.2)).set j (Nj d x)
 |[],h=>by simp[cE] at h
 |p :: kvs,h=>by
  rw[bj] at h
  by_cases e:p.1=k
  ·rw[if_pos e] at h
   cases h
   refine⟨0,rfl,fun vs hl=>?_,fun x=>?_⟩
   ·cases vs with
    |nil=>cases hl
    |cons v vs=>exact ub (p:=(p.1,v)) e
   ·simp[kL,e]
  ·rw[if_neg e] at h
   obtain⟨j,h1,h2,h3⟩:=Gz h
   refine⟨j+1,by simpa using h1,fun vs hl=>?_,fun x=>?_⟩
   ·cases vs with
    |nil=>cases hl
    |cons v vs =>
     show fI ((p.1,v) :: (kvs.map (·.1)).zip vs) k=_
     rw[ui (p:=(p.1,v)) e,h2 vs (by simpa using hl)]
     rfl
   ·simp[kL,e,h3 x]
theorem qd:∀ {kvs:List (List Key × D)},cE kvs k=none->cE (kvs++[(k,d)]) k=some d
 |[],_=>by simp[cE]
 |p :: kvs,h=>by
  rw[bj] at h
  by_cases e:p.1=k
  ·rw[if_pos e] at h;cases h
  ·rw[if_neg e] at h
   rw[NP,bj,if_neg e,qd h]
theorem su:∀ {kvs:List (List Key × D)},cE kvs k=none->kL (kvs++[(k,.list [])]) k x=kL kvs k x
 |[],_=>by simp[kL,Nj]
 |p :: kvs,h=>by
  rw[bj] at h
  by_cases e:p.1=k
  ·rw[if_pos e] at h;cases h
  ·rw[if_neg e] at h
   rw[NP,kL,kL,if_neg e,if_neg e,su h]
theorem dr.place(sr:dr K Hs ρ σ H ae)(e:ρ[i]? = some (some (.ow fl d))):∃ v,σ[i]? = some (some v)/\Place K Hs H σ fl d v fun fl2 d2=>ρ.set i (some (.ow fl2 d2)):=by
 obtain⟨v,As,t,e2,ne,r,sb,g⟩:=SR.put i sr.sr e sr.oB
 refine⟨v,e2,As,r,ne,sb.nodup sr.oB,fun a h=>sr.own a (sb.subset h),fun ax H2 fl2 d2 fE s2 w2 n2 _ r2 ne2 kz o2 st=>?_⟩
 obtain⟨t2,x,y,z⟩:=g ax H2 fl2 d2 fE s2 r2 ne2 kz (fun a ha m=>(o2 a ha).2.elim id fun q=>absurd q (sr.sr.own a m).ne) fun a ha m=>st a (sr.sr.own a ha).ne m
 exact⟨t2,z,w2,x,fun a h=>(y a h).elim (fun q=>n2 a (sr.own a q) (sr.sr.own a q).ne) fun q=>(o2 a q).1⟩
theorem sH(sr:dr K Hs ρ σ H ae)(e1:ρ[i]? = some (some (.ow true (.dT kvs))))(hg:cE kvs ks=some (.list xs)) :
  ∃ a IJ c ws,σ[i]? = some (some (.ref a))/\H a=some (.dT IJ)/\fI IJ ks=some (.ref c)/\H c=some (.lst ws)/\ws.length=xs.length /\
   ∀ x y,x.flat=true->Rep K Hs x y->ws.length<sizeLine->∃ dv,dr K Hs (ρ.set i (some (.ow true (.dT (kL kvs ks x))))) σ (upd H c (.lst (ws++[y]))) dv:=by
 obtain⟨v,e2,pl⟩:=sr.place e1
 obtain⟨fz,r,ne,nd,own,k⟩:=pl.ex
 cases r with
 |sh hf _=>exact absurd rfl ne
 |@dT a0 vs _ A kk e rs =>
  obtain⟨na,nA⟩:=ja.mp nd
  obtain⟨j,ej,ev,es⟩:=Gz hg
  obtain⟨w,B,e3,r3,sb,g⟩:=rs.at ej nA
  have hl:vs.length=kvs.length:=by have:=rs.length;rw[bT] at this;exact this.symm
  cases r3 with
  |sh hf _=>exact absurd (hf rfl) (by simp[D.flat])
  |@list c ws _ B' hz ec DB =>
   have cA:c∈A:=sb.subset bX
   refine⟨a0,_,c,ws,e2,e,(ev vs hl).trans e3,ec,DB.length.symm,fun x y hx rx hw=>?_⟩
   have hca:a0≠c:=fun z=>na (z ▸ cA)
   obtain⟨nc,nB⟩:=ja.mp (sb.nodup nA)
   have r4:bI K Hs (upd H c (.lst (ws++[y]))) true (.list (xs++[x])) (.ref c) (c :: B'):=by
    have:=(DB.eh (H':=upd H c (.lst (ws++[y]))) (ay.refl _) fun b hb=>dP fun z=>nc (z ▸ hb)).append (aA.cons (As:=[]) (.sh (fun _=>hx) rx) .nil)
    rw[lI,lI] at this
    exact .list (by rw[kA];exact hw) gd this
   obtain⟨fE,n2,y2,_,r5⟩:=g Hs (upd H c (.lst (ws++[y]))) true _ _ (ay.refl _) id r4 (sb.nodup nA) (fun _ h _=>h) (fun b _ nb=>dP fun z=>nb (z ▸ bX))
   have Xp:∀ b∈fE,b∈A:=fun b hb=>(y2 b hb).elim (fun q=>q.1) fun q=>sb.subset q
   obtain⟨k1,k2⟩:=es x
   have kl:(kL kvs ks x).length=kvs.length:=by have:=congrArg List.length k1;simpa using this
   refine k Hs _ true (.dT (kL kvs ks x)) (a0 :: fE) (ay.refl _) (p_ sr.wf (own c (b5 _ cA)) fun _ z=>nomatch z) (fun _ h _=>h) id (.dT (vs:=vs) ⟨by rw[kl];exact kk.1,fun p hp=>?_⟩ (by rw[dP hca,k1];exact e) (by rw[k2];exact r5)) (by simp) (ja.mpr ⟨fun z=>na (Xp _ z),n2⟩) (fun b hb=>?_) fun b _ nb=>dP fun z=>nb (z ▸ b5 _ cA)
   ·have:p.1∈kvs.map (·.1):=k1 ▸ List.mem_map_of_mem hp
    obtain⟨p',eI,e'⟩:=b9.mp this
    rw[<- e'];exact kk.2 p' eI
   ·have zk:b∈a0 :: A:=(df.mp hb).elim (fun z=>z ▸ bX) fun z=>b5 _ (Xp b z)
    exact⟨own b zk,.inl zk⟩
theorem Ag{te:WE}{Hs H:Hp}{ρ:Env}{σ:St}{ae:List Addr}{i:Nat}{kvs:List (List Key × D)}{ks:List Key}{xs:List D}{a:Addr}{IJ:List (List Key × V)}{v':V}{R:Env->Prop}{G:Hp->Prop}(sr:dr K Hs ρ σ H ae)(e1:ρ[i]? = some (some (.ow true (.dT kvs))))(hg:cE kvs ks=some (.list xs))(hz:xs.length<sizeLine)
  (Xq:σ[i]? = some (some (.ref a))) (eH:H a=some (.dT IJ)) (ev:fI IJ ks=some v') (q:te ρ fun _ x=>x.flat=true/\R (ρ.set i (some (.ow true (.dT (kL kvs ks x)))))) (k1:∀ H' ah bG bS,ay Hs ah->dr K ah bG σ H' bS->R bG->G H') :
  Oz K "list" v' H/\Q7 (ml K te) Q6 σ H fun us H2=>VM v' us H2 fun _ H3=>G H3:=by
 obtain⟨a',Xr,c,ws,f1,f2,f3,f4,f5,f6⟩:=sH sr e1 hg
 have ea:a'=a:=by rw[f1] at Xq;cases Xq;rfl
 subst ea
 have ek:Xr=IJ:=by rw[f2] at eH;cases eH;rfl
 subst ek
 have e':v'=.ref c:=by rw[f3] at ev;cases ev;rfl
 subst e'
 refine⟨.inl ⟨rfl,_,.inl (.inl f4)⟩,Hs,ρ,ae,_,sr,q,fun y H2 ax m x Cs g2 r2 fr2 q2=>?_⟩
 obtain⟨hx,q2⟩:=q2
 obtain⟨b',kv2,c2,ws2,h1,h2,h3,h4,h5,h6⟩:=sH (sr.grow g2) e1 hg
 have ea:b'=a':=by rw[f1] at h1;cases h1;rfl
 subst ea
 have ek:kv2=Xr:=by rw[g2.all _ _ f2] at h2;cases h2;rfl
 subst ek
 have e':c2=c:=by rw[f3] at h3;cases h3;rfl
 subst e'
 obtain⟨dv,fP⟩:=h6 x y hx (r2.flat g2.wf hx) (by lia)
 exact⟨c2,ws2,y,rfl,rfl,h4,by lia,k1 _ ax _ dv g2.sh fP q2⟩
theorem set_own{α:Type}{ρ:List α}{i:Nat}{x:α}(h:ρ[i]? = some x):ρ.set i x=ρ:=by
 apply DM
 intro j
 rw[List.getElem?_set]
 split
 ·rename_i e
  subst e
  have:=(iN.mp h).1
  rw[if_pos this,h]
 ·rfl
theorem HF {L:Str->Hp->Prop} {i:Nat} {p1 p2 p3 p4 p5:Pos} (hu:X.A.units+64<cLine) (he:PE X a (y0 i)) (hb:QE X K b tb) (hc:QE X K c tc) (hK:X.K=K:=by rfl) (hm:M2 X a "setdefault" p1 b (.List [] p2) p3:=by exact⟨rfl,rfl,rfl,rfl⟩)
  (hs:swapsWith (.Call (.Attribute (.Call (.Attribute a "setdefault" p1) [b,.List [] p2] [] p3) "append" p4) [c] [] p5) none pos.line X.env=pure false:=by rfl)
  (ua:attributeBase (.Call (.Attribute a "setdefault" p1) [b,.List [] p2] [] p3) "append" X.env (eval (.Call (.Attribute a "setdefault" p1) [b,.List [] p2] [] p3) X.env)=eval (.Call (.Attribute a "setdefault" p1) [b,.List [] p2] [] p3) X.env:=by rfl)
  (w9:((backTo p5 (starEach [c] X.env)).all (fun x=>!x.1) && (backToKw p5 (keywordEach [] X.env)).all (fun x=>x.1.isSome)
   && decide ([c].length+([]:List Keyword).length+(if ([]:List Keyword).isEmpty then 0 else 1)<30))=true:=by rfl)
  (hline:(p4.endLine == p5.line)=true:=by rfl) (xS:starEach (c :: []) X.env=(false,eval c X.env) :: starEach [] X.env:=by rfl) (AO:(backTo p5 (starEach [] X.env)).any (·.1)=false:=by rfl) :
  QS X K L (.Expr (.Call (.Attribute (.Call (.Attribute a "setdefault" p1) [b,.List [] p2] [] p3) "append" p4) [c] [] p5) pos) (PR i tb tc):=by
 subst hK
 refine PS.imp (LG (L4 PySem.F.plainAttrs_list PySem.F.slot_list_append PySem.F.type_list_append OD (Il (by lia) he hb (gH (K:=X.K) aq) hm) (nI hc qB xS) ua w9 hline xS AO) hs) fun D σ H hx=>dg hx fun Hs ρ ae E sr h k1 k2 k3 k4=>?_
 unfold PR PQ at h
 split at h
 ·rename_i kvs e1
  obtain⟨v,e2,pl⟩:=sr.place e1
  obtain⟨fz,r,ne,nd,own,k⟩:=pl.ex
  have lv:∀ x∈fz,Hs x=none/\H x≠none:=fun x hx=>⟨own x hx,(r.own x hx).ne⟩
  cases r with
  |sh hf _=>exact absurd rfl ne
  |@dT a0 vs _ A kk e rs =>
   refine⟨_,e2,a0,rfl,.inr ⟨_,.inl e⟩,Hs,ρ,ae,_,sr,h,fun u H2 ax m y Bs g2 r2 f2 q2=>?_⟩
   refine⟨ax,ρ,ae,fun m d=>m=.ow true/\d=.list [],sr.grow g2,⟨gV _,rfl,rfl⟩,fun w H3 dQ n z Cs g3 r3 f3 q3=>?_⟩
   obtain⟨rfl,rfl⟩:=q3
   have ry:=(r2.grow g3).rep g3.wf
   cases ry with
   |tup t2 ey p2 =>
    obtain⟨ks,hk,hz,rh,q⟩:=q2
    obtain⟨b',eb,e3⟩:=Rep.mn (.tup t2 ey p2) hk
    cases eb
    have g:=g2.trans g3
    have hl:kvs.length=vs.length:=by have:=rs.length;rwa[bT] at this
    have srg:=sr.grow g
    have zg:=zip_get (k:=ks) (rs.reps (G:=H) sr.wf.sub fun _ _=>rfl)
    refine⟨_,ks,_,g.all _ _ e,rfl,e3,by rw[FH,bT,<- hl,D1];exact hz,fun v' ev=>?_,fun ev=>?_⟩
    ·cases hg:cE kvs ks with
     |none=>rw[hg] at zg;rw[zg] at ev;cases ev
     |some d =>
      rw[hg] at rh
      cases d with
      |list xs =>
       rw[show II kvs ks=kvs by unfold II;rw[hg],set_own e1] at q
       exact Ag (G:=fun H'=>D.nx σ H') srg e1 hg rh e2 (g.all _ _ e) ev q fun H' ah bG bS s1 s2 q'=>k1 σ H' ah bG bS (g.sh.trans s1) s2 q'
      |_=>exact rh.elim
    ·have hg:cE kvs ks=none:=by
      cases hg:cE kvs ks with
      |none=>rfl
      |some d=>rw[hg] at zg;obtain⟨v',z,_⟩:=zg;rw[z] at ev;cases ev
     rw[show II kvs ks=kvs++[(ks,.list [])] by unfold II;rw[hg]] at q
     obtain⟨r3,_⟩:=r3
     cases r3 with
     |sh hf _=>exact absurd (hf rfl) (by simp[Q.D.flat])
     |@list c ws _ B' hw ec DB =>
      cases DB
      obtain⟨na,nA⟩:=ja.mp nd
      have fc:=f3.2 c bX
      have PX:H c=none:=g2.all.free fc.2
      have cA:∀ b∈a0 :: A,b≠c:=fun b hb z=>by
       subst z
       rcases df.mp hb with rfl|hb
       ·rw[e] at PX;cases PX
       ·exact(rs.own _ hb).ne PX
      have ek:putK ((kvs.map (·.1)).zip vs) ks (V.ref c)=((kvs++[(ks,Q.D.list [])]).map (·.1)).zip (vs++[V.ref c]):=by
       have:=L5 ks ((kvs.map (·.1)).zip vs)
       rw[ev] at this
       unfold putK
       rw[this,if_neg (by decide),sC,List.zip_append (by rw[bT];exact hl)]
       rfl
      obtain⟨kl,ko⟩:=tD p2 hk
      have l1:=p2.length
      have S4:=rs.grow g.sh g.all
      have rs4:aA X.K dQ (upd H3 a0 (.dT (((kvs++[(ks,Q.D.list [])]).map (·.1)).zip (vs++[V.ref c])))) true ((kvs++[(ks,Q.D.list [])]).map (·.2)) (vs++[V.ref c]) (A++[c]):=by
       have q1:=S4.eh (H':=upd H3 a0 (.dT (((kvs++[(ks,Q.D.list [])]).map (·.1)).zip (vs++[V.ref c])))) (ay.refl _) fun b hb=>dP fun z=>na (z ▸ hb)
       have q2:=q1.append (aA.cons (bI.list (ds:=[]) (As:=[]) hw ((dP fun z=>cA a0 bX z.symm).trans ec) .nil) .nil)
       rw[show(kvs++[(ks,Q.D.list [])]).map (·.2)=kvs.map (·.2)++[Q.D.list []] by simp]
       exact q2
      obtain⟨dv,fP⟩:=k.node (fl2:=true) (d2:=.dT (kvs++[(ks,.list [])])) (C:=A++[c]) g lv (fun _ z=>by cases z) id
       (.dT ⟨by rw[kA];exact hz,fun p hp=>(dS.mp hp).elim (kk.2 p) fun z=>by
        obtain rfl:p=(ks,.list []):=by simpa using z
        exact⟨by show ks.length<=_;lia,ko⟩⟩ gd rs4)
       (ip.mpr ⟨nA,by simp,fun x hx y hy z=>cA x (b5 _ hx) (by rw[z];simpa using hy)⟩) (fun z=>(dS.mp z).elim na fun z=>cA a0 bX (by simpa using z))
       (fun x hx=>(dS.mp hx).imp id fun z=>by
        obtain rfl:x=c:=by simpa using z
        exact⟨fc.1,PX⟩)
      rw[ek]
      have hi:i<ρ.length:=(iN.mp e1).1
      refine Ag (G:=fun H'=>D.nx σ H') (R:=E.nx) (kvs:=kvs++[(ks,.list [])]) (xs:=[]) fP (by simp[hi]) (qd hg) (by rw[sizeLine_eq];decide) e2 gd (by rw[<- ek,aV',if_pos rfl]) ?_ fun H' ah bG bS s1 s2 q'=>k1 σ H' ah bG bS (g.sh.trans s1) s2 q'
      simp only[List.set_set,su hg]
      exact q
   |_=>exact q2.elim
 ·exact h.elim
end
end L2.Q
namespace L2
open PySem PySem.Spec PyProof.Rows
def Dv:R2:=fun x y H Q=>match x,y with
 |.str z,.int n=>(0<=n/\n<=100/\z.length<=100)/\Q (.str (oi n z)) H
 |_,_=>False
theorem DQ{X:Cx}:cS X (binaryOp .Mult) Dv:=by
 intro pins s σ H x y v u Q I rx ry h
 unfold Dv at h
 split at h
 ·rename_i z n
  obtain⟨⟨h1,h2,h3⟩,q⟩:=h
  by_cases hn:n<1
  ·obtain⟨t,rfl⟩:=rx
   obtain⟨t',rfl⟩:=ry
   have e:n=0:=by lia
   subst e
   refine jM ⟨by decide,fun z=>absurd hn z,fun z=>absurd hn z⟩ fun t' k=>⟨.str (oi 0 z),H,I.tok _,⟨t',by rw[show Txt.mul z 0=oi 0 z from by unfold Txt.mul oi;rw[if_pos hn];rfl]⟩,q⟩
  ·exact DR pins s σ H (.str z) (.int n) v u Q I rx ry ⟨⟨by lia,h2,h3⟩,q⟩
 ·exact h.elim
end L2
namespace L2.Q
open PySem PySem.Spec PyProof.Rows
section
variable {X:Cx}{K:PySem.W.Frag}{a b c:Expr}{ta tb:WE}{pos:Pos}
def y_:W2:=fun _ x _ y Q=>match x with
 |.str z=>match y with
  |.int n=>(0<=n/\n<=100/\z.length<=100)/\Q .sh (.str (oi n z))
  |_=>False
 |_=>False
theorem Cp:kr K Dv y_:=by
 intro Hs H m x v As n y u Bs Qd Qv w rx ry h f
 have r1:=rx.rep w
 have r2:=ry.rep w
 cases r1 with
 |str hz=>cases r2 with
  |int n =>
   obtain⟨hh,q⟩:=h
   refine⟨hh,f.sh w (.str ?_) q⟩
   rw[nG,sizeLine_eq]
   have:n.toNat*Str.length _<=100*100:=B1 (by lia) hh.2.2
   lia
  |_=>exact h.elim
 |_=>exact h.elim
theorem Fi(ha:QE X K a ta)(hb:QE X K b tb):QE X K (.BinOp a .Mult b pos) (aT y_ ta tb):=CL DQ Cp ha hb
def S5(tk tv:WE):WE:=fun ρ Q=>tk ρ fun _ x=>tv ρ fun m y=>m=.sh/\∃ k,x.key1=some k/\Q (.ow y.flat) (.dK [(k,y)])
theorem zF(he:QE X K a ta)(mG:QE X K b tb):QE X K (.Dict [some a] [b] pos) (S5 ta tb):=by
 refine PE.imp (bl' (bj' he mG bi') rfl rfl (by simp) (by simp)) fun σ H Qv hx=>iE hx fun Hs ρ ae Q sr h fin=>fun a ha=>?_
 have g0:eJ Hs H Hs (upd H a (.dK [])):=MJ sr.wf ha fun _ z=>nomatch z
 refine⟨Hs,ρ,ae,_,sr.grow g0,h,fun v H1 aC m x As g1 r1 f1 q1=>⟨aC,ρ,ae,_,(sr.grow g0).grow g1,q1,fun u H2 ax n y Bs g2 r2 f2 q2=>?_⟩⟩
 obtain⟨rfl,k,ek,q2⟩:=q2
 have rx:=(r1.grow g2).rep g2.wf
 have ex:=rx.key ek
 subst ex
 have gg:=(g0.trans g1).trans g2
 have e2:H2 a=some (.dK []):=g2.all _ _ (g1.all _ _ gd)
 have n2:ax a=none:=g2.kU (g1.kU (sr.wf.sub.free ha) (by rw[gd];exact fun z=>nomatch z)) (by rw[g1.all _ _ gd];exact fun z=>nomatch z)
 refine⟨e2,[(k,u)],rfl,by simp,?_⟩
 have g3:eJ Hs H ax (upd H2 a (.dK [(k,u)])):=⟨fun b o hb=>by rw[dP (vv hb ha)];exact gg.all b o hb,gg.sh,p_ gg.wf n2 (fun _ z=>nomatch z),gg.new⟩
 exact fin (.ref a) _ ax (.ow y.flat) (.dK [(k,y)]) [a] g3 ⟨.dK (vs:=[u]) (As:=[]) ⟨by rw[sizeLine_eq];simp,fun p hp=>by
  have:p=(k,y):=by simpa using hp
  subst this;exact mq rx ek⟩ gd (.cons (As:=[]) (.sh id r2.2) .nil),by simp⟩ ⟨by simp,fun b hb=>by
  obtain rfl:b=a:=by simpa using hb
  exact⟨n2,ha⟩⟩ q2
def S6(d:D)(k:List (Key × D)->Prop):Prop:=match d with
 |.dK kvs=>k kvs
 |_=>False
def wg(p:WP)(tk tv:WE):WS:=fun E ρ=>tv ρ fun m x=>p ρ fun fl d up=>tk ρ fun _ y=>m=.sh/\S6 d fun kvs=>∃ k,y.key1=some k/\kvs.length<sizeLine/\E.nx (up (fl && x.flat) (.dK (i5 kvs k x)))
theorem yc(hu:X.A.units+64<cLine)(ho:QP X K a p)(hi:QE X K b tk)(hv:QE X K c tv)(hs:swapsWith c (some (.Subscript a b pos')) pos.line X.env=pure false:=by rfl) :
  QS X K L (.Assign [.Subscript a b pos'] c pos) (wg p tk tv):=by
 refine PS.imp (VX (by lia) ho hi hv hs) fun D σ H hx=>dg hx fun Hs ρ ae E sr h k1 k2 k3 k4=>?_
 refine⟨Hs,ρ,ae,_,sr,h,fun v H1 aC m1 x As1 g1 r1 f1 q1=>⟨aC,ρ,ae,_,sr.grow g1,q1,fun u H2 ax fl d up g2 p2 q2=>⟨ax,ρ,ae,_,(sr.grow g1).grow g2,q2,fun y H3 dQ m3 yd HK g3 r3 f3 q3=>?_⟩⟩⟩
 obtain⟨rfl,q3⟩:=q3
 have rx:Rep K dQ x v:=(r1.2.same g2.sh).same g3.sh
 have ry:=r3.rep g3.wf
 obtain⟨fz,r,ne,nd,own,k⟩:=p2.ex
 have lv:∀ x∈fz,ax x=none/\H2 x≠none:=fun x hx=>⟨own x hx,(r.own x hx).ne⟩
 cases r with
 |sh hf _=>exact absurd rfl ne
 |@dK a0 vs kvs A kk e rs =>
  obtain⟨key,hk,hz,q⟩:=q3
  have ey:=ry.key hk
  subst ey
  obtain⟨na,nA⟩:=ja.mp nd
  have hf:(fl && x.flat)=true->fl=true:=fun z=>by simp at z;exact z.1
  have S4:=(rs.grow g3.sh g3.all).wk hf
  obtain⟨ws,Bs,sb,kR,ew⟩:=rG (k:=key) (bI.sh (fun z=>by simp at z;exact z.2) rx) S4
  have hl:kvs.length=vs.length:=by have:=rs.length;rwa[bT] at this
  refine⟨a0,_,rfl,AQ.k (g3.all _ _ e) (by rw[FH,bT,<- hl,D1];exact hz),?_⟩
  rw[ew]
  have nB:a0∉Bs:=fun z=>na (sb.subset z)
  obtain⟨dv,fP⟩:=k.node (fl2:=fl && x.flat) (d2:=.dK (i5 kvs key x)) g3 lv (fun _ z=>by cases z) hf (.dK ⟨gS (gB _ _ _) hz,fun p hp=>(iZ hp).elim (fun z=>by rw[z];exact mq ry hk) fun z=>by obtain⟨p',eI,e'⟩:=b9.mp z;rw[<- e'];exact kk.2 p' eI⟩ gd (kR.eh (ay.refl _) fun b hb=>dP fun z=>nB (by subst z;exact hb)))
   (sb.nodup nA) nB fun b hb=>.inl (sb.subset hb)
  exact k1 σ _ dQ _ dv ((g1.sh.trans g2.sh).trans g3.sh) fP q
 |_=>exact q3.elim
theorem SR.take(i:Nat)(s:SR K Hs H ρ σ ae):ρ[i]? = some (some (.ow fl d))->ae.Nodup ->
  ∃ (v:V) (As bS:List Addr),σ[i]? = some (some v)/\bI K Hs H fl d v As/\As.Sublist ae/\bS.Sublist ae/\(∀ a∈As,a∉bS)/\SR K Hs H (ρ.set i none) σ bS:=by
 induction s generalizing i with
 |nil=>intro e;simp at e
 |non q ih =>
  intro e n
  cases i with
  |zero=>simp at e
  |succ i =>
   obtain⟨v,As,t,o,a,b,c,d,f⟩:=ih i e n
   exact⟨v,As,t,o,a,b,c,d,.non f⟩
 |sh r q ih =>
  intro e n
  cases i with
  |zero=>simp at e
  |succ i =>
   obtain⟨v,As,t,o,a,b,c,d,f⟩:=ih i e n
   exact⟨v,As,t,o,a,b,c,d,.sh r f⟩
 |xc q ih =>
  intro e n
  cases i with
  |zero=>simp at e
  |succ i =>
   obtain⟨v,As,t,o,a,b,c,d,f⟩:=ih i e n
   exact⟨v,As,t,o,a,b,c,d,.xc f⟩
 |ow ne r q ih =>
  intro e n
  obtain⟨n1,n2,n3⟩:=ip.mp n
  cases i with
  |zero =>
   simp at e
   obtain⟨rfl,rfl⟩:=e
   exact⟨_,_,_,rfl,r,FG _ _,oo _ _,fun a h m=>n3 a h a m rfl,.non q⟩
  |succ i =>
   obtain⟨v,As,t,o,a,b,c,d,f⟩:=ih i e n2
   exact⟨v,As,_,o,a,b.trans (oo _ _),c.append_left _,mF n b d,.ow ne r f⟩
 |lk ne r q ih =>
  intro e n
  obtain⟨n1,n2,n3⟩:=ip.mp n
  cases i with
  |zero=>simp at e
  |succ i =>
   obtain⟨v,As,t,o,a,b,c,d,f⟩:=ih i e n2
   exact⟨v,As,_,o,a,b.trans (oo _ _),c.append_left _,mF n b d,.lk ne r f⟩
theorem zW(h:Fh o k):∃ xs,o=some (some (.ow true (.list xs)))/\k xs:=by
 unfold Fh at h
 split at h
 ·exact⟨_,rfl,h⟩
 ·exact h.elim
theorem Dn(kH:i≠j)(sr:dr K Hs ρ σ H ae)(ei:ρ[i]? = some (some (.ow true (.list hs))))(ej:ρ[j]? = some (some (.ow true (.list xs))))
  (fl:cv xs=true) (E9:hs.length<sizeLine) :
  ∃ a ws c vs dv,σ[i]? = some (some (.ref a))/\H a=some (.lst ws)/\ws.length<sizeLine/\σ[j]? = some (some (.ref c))/\upd H a (.lst (ws++[.ref c])) c=some (.lst vs)/\aS K Hs xs vs/\vs.length<=sizeLine /\
   dr K Hs ((ρ.set j none).set i (some (.ow true (.list (hs++[.list xs]))))) σ (upd H a (.lst (ws++[.ref c]))) dv:=by
 obtain⟨v,As,bS,e1,r,sb,st,dj,s1⟩:=SR.take j sr.sr ej sr.oB
 have ei':(ρ.set j none)[i]? = some (some (.ow true (.list hs))):=by rw[Kj (Ne.symm kH)];exact ei
 obtain⟨u,Ai,_,e2,ne,ri,si,g⟩:=SR.put i s1 ei' (st.nodup sr.oB)
 cases r with
 |sh hf _=>exact absurd (hf rfl) (by simp[D.flat])
 |@list c vs _ B hz ec rs =>
  cases ri with
  |sh _ _=>exact absurd rfl ne
  |@list a ws _ A hw ea ra =>
   have PY:c≠a:=fun z=>dj c bX (si.subset (z ▸ bX))
   have Sh:=si.nodup (st.nodup sr.oB)
   obtain⟨na,nA⟩:=ja.mp Sh
   have ndj:=sb.nodup sr.oB
   have dA:∀ x∈c :: B,x∉a :: A:=fun x hx m=>dj x hx (si.subset m)
   have nB:∀ x∈c :: B,x≠a:=fun x hx z=>dA x hx (z ▸ bX)
   have hl:=ra.length
   have r3:bI K Hs (upd H a (.lst (ws++[.ref c]))) true (.list (hs++[.list xs])) (.ref a) (a :: (A++((c :: B)++[]))):=by
    refine .list (by rw[kA,<- hl];exact E9) gd ((ra.eh (H':=upd H a (.lst (ws++[.ref c]))) (ay.refl _) fun b hb=>dP fun z=>na (by subst z;exact hb)).append (.cons (.list hz ((dP PY).trans ec) (rs.eh (ay.refl _) fun b hb=>dP (nB b (b5 _ hb)))) .nil))
   obtain⟨dv,n2,i2,s2⟩:=g Hs _ true _ _ (ay.refl _) r3 (by simp) (ja.mpr ⟨fun m=>(dS.mp m).elim na fun m=>nB a (by simpa using m) rfl,ip.mpr ⟨nA,by simpa using ndj,fun x hx y hy e=>dA y (by simpa using hy) (e ▸ b5 _ hx)⟩⟩)
    (fun b hb m=>by
     rcases df.mp hb with rfl|hb
     ·exact bX
     ·rcases dS.mp hb with hb|hb
      ·exact b5 _ hb
      ·exact absurd m (dj b (by simpa using hb)))
    (fun b _ nb=>dP fun z=>nb (z ▸ bX))
   have Ha:Hs a=none:=sr.own a (st.subset (si.subset bX))
   refine⟨a,ws,c,vs,dv,e2,ea,by lia,e1,(dP PY).trans ec,(rs.reps sr.wf.sub fun _ _=>rfl).eZ sr.wf.iO fl,hz,s2,p_ sr.wf Ha (fun _ z=>nomatch z),n2,fun b hb=>?_⟩
   rcases i2 b hb with m|m
   ·exact sr.own b (st.subset m)
   ·rcases df.mp m with rfl|m
    ·exact Ha
    ·rcases dS.mp m with m|m
     ·exact sr.own b (st.subset (si.subset (b5 _ m)))
     ·exact sr.own b (sb.subset (by simpa using m))
end
end L2.Q
namespace L2.Q.R
open PySem PySem.Spec PyProof.Rows L2.Q
section
variable {ρ:Env}{E:pY}{te tb tc tk tv:WE}{m m':Md}{x y:L2.Q.D}{ys:List L2.Q.D}{Q:Md->L2.Q.D->Prop}{p:WP}{i k:Nat}
theorem JQ{a:Int}{x:Str}:y_ m (.str x) m' (.int a) Q=((0<=a/\a<=100/\x.length<=100)/\Q .sh (.str (oi a x))):=rfl
theorem K5:S5 tk tv ρ Q=tk ρ fun _ x=>tv ρ fun m y=>m=.sh/\∃ k,x.key1=some k/\Q (.ow y.flat) (.dK [(k,y)]):=rfl
theorem Ij:wg p tk tv E ρ=tv ρ fun m x=>p ρ fun fl d up=>tk ρ fun _ y=>m=.sh/\bE d (f:=fun d=>S6 d fun kvs=>∃ k,y.key1=some k/\kvs.length<sizeLine/\E.nx (up (fl && x.flat) (.dK (i5 kvs k x)))) ⟨⟩:=rfl
theorem KY{kvs:List (Key × L2.Q.D)}{k:List (Key × L2.Q.D)->Prop}:S6 (.dK kvs) k=k kvs:=rfl
theorem Mr:PN te tb tc ρ Q=te ρ fun m x=>bE x (f:=fun x=>PL x (fun kvs=>tb ρ fun _ y=>tc ρ fun n z=>∃ k,y.key1=some k/\Dx (cE kvs k) m n z Q)
 (fun kvs=>tb ρ fun _ y=>tc ρ fun n z=>bE y (f:=fun y=>Ni y fun ys=>∃ ks,dq ys=some ks/\Dx (cE kvs ks) m n z Q) ⟨⟩)) ⟨⟩:=rfl
theorem KD:PL (.dK kvs) f g=f kvs:=rfl
theorem KC:PL (.dT kvs) f g=g kvs:=rfl
theorem K8{k:List L2.Q.D->Prop}:Ni (.tup ys) k=k ys:=rfl
theorem ew':PR i tk te E ρ=bE ρ[i]? (f:=fun o=>PQ o fun kvs=>tk ρ fun _ y=>bE y (f:=fun y=>Ni y fun ys=>∃ ks,dq ys=some ks/\kvs.length<sizeLine/\Ab (cE kvs ks) /\
 te (ρ.set i (some (.ow true (.dT (II kvs ks))))) fun _ x=>x.flat=true/\E.nx (ρ.set i (some (.ow true (.dT (kL kvs ks x)))))) ⟨⟩) ⟨⟩:=rfl
theorem Li{kvs:List (List Key × L2.Q.D)}{k:List (List Key × L2.Q.D)->Prop}:PQ (some (some (.ow true (.dT kvs)))) k=k kvs:=rfl
end
end L2.Q.R
namespace L2
open PySem PySem.Spec PyProof.Rows
end L2
namespace L2.Q
open PySem PySem.Spec PyProof.Rows
section
variable {X:Cx}{K:PySem.W.Frag}{L:Str->Hp->Prop}{e e2 e3:Expr}{p:WP}{te:WE}{apos dz pos:Pos}
def PZ(p:WP)(te:WE):WS:=fun E ρ=>p ρ fun fl d up=>match d with
 |.list xs=>te ρ fun m y=>m=.ow true/\match y with
  |.list ys=>cv ys=true/\xs.length+ys.length<=sizeLine/\E.nx (up fl (.list (xs++ys)))
  |_=>False
 |_=>False
theorem Ar (ho:QP X K e p) (he:QE X K e2 te) (hK:X.K=K:=by rfl) (hs:swapsWith (.Call (.Attribute e "extend" apos) [e2] [] dz) none pos.line X.env=pure false:=by rfl)
  (ua:attributeBase e "extend" X.env (eval e X.env)=eval e X.env:=by rfl)
  (w9:((backTo dz (starEach [e2] X.env)).all (fun x=>!x.1) && (backToKw dz (keywordEach [] X.env)).all (fun x=>x.1.isSome)
   && decide ([e2].length+([]:List Keyword).length+(if ([]:List Keyword).isEmpty then 0 else 1)<30))=true:=by rfl)
  (hline:(apos.endLine == dz.line)=true:=by rfl) (xS:starEach (e2 :: []) X.env=(false,eval e2 X.env) :: starEach [] X.env:=by rfl) (AO:(backTo dz (starEach [] X.env)).any (·.1)=false:=by rfl) :
  QS X K L (.Expr (.Call (.Attribute e "extend" apos) [e2] [] dz) pos) (PZ p te):=by
 subst hK
 refine PS.imp (LG (L4 PySem.F.plainAttrs_list PySem.F.slot_list_extend PySem.F.type_list_extend aQ' ho (nI he qB xS) ua w9 hline xS AO) hs) fun D σ H hx=>dg hx fun Hs ρ ae E sr h k1 k2 k3 k4=>?_
 refine⟨Hs,ρ,ae,_,sr,h,fun v H1 aC fl d up g1 p1 q1=>?_⟩
 cases d with
 |list xs =>
  obtain⟨a1,vs1,e1,s1⟩:=p1.WR g1.wf
  refine⟨by subst e1;exact .inl ⟨rfl,_,s1⟩,aC,ρ,ae,_,sr.grow g1,q1,fun y H2 ax m x As g2 r2 f2 q2=>?_⟩
  obtain⟨rfl,q2⟩:=q2
  obtain⟨a,vs,A,ea,e2,e21,rs,nd,hn,k⟩:=p1.put g2
  obtain⟨r,ne⟩:=r2
  cases r with
  |sh _ _=>exact absurd rfl ne
  |list hz e3 Pu =>
   obtain⟨fy,hl,q2⟩:=q2
   obtain⟨nA,M4⟩:=ja.mp nd
   have l1:=rs.length
   have l2:=Pu.length
   refine⟨a,_,vs,_,ea,rfl,e2,e3,by lia,?_⟩
   obtain⟨dv,fP⟩:=k fl (xs++_) (vs++_) (A++[]) id (rs.append (aS.owned ((Pu.reps g2.wf.sub fun _ _=>rfl).eZ g2.wf.iO fy) fy)) (by rw[kA];lia) (by simpa using M4) (by simpa using nA) (fun x hx=>.inl (by simpa using hx))
   exact k1 _ _ ax _ dv (g1.sh.trans g2.sh) fP q2
  |_=>exact q2.elim
 |_=>exact q1.elim
end
end L2.Q
namespace L2.Q.R
open PySem PySem.Spec PyProof.Rows L2.Q
section
variable {ρ:Env}{E:pY}{te:WE}{m:Md}{Q:Md->L2.Q.D->Prop}{p:WP}{xs ys:List L2.Q.D}{k:List L2.Q.D->Prop}
def S7(d:L2.Q.D)(k:List L2.Q.D->Prop):Prop:=match d with
 |.list xs=>k xs
 |_=>False
theorem Lj:S7 (.list xs) k=k xs:=rfl
theorem Ms:PZ p te E ρ=p ρ fun fl d up=>bE d (f:=fun d=>S7 d fun xs=>te ρ fun m y=>m=.ow true/\bE y (f:=fun y=>S7 y fun ys=>cv ys=true/\xs.length+ys.length<=sizeLine/\E.nx (up fl (.list (xs++ys)))) ⟨⟩) ⟨⟩:=rfl
theorem Jj:Dx (some d) m n z Q=Q (lh m d) d:=rfl
theorem JC:Dx none m n z Q=Q n z:=rfl
end
end L2.Q.R
namespace PySem.SeqAt
open AutoSeq1 (wpAny_loadPart')
open MeetsSeq MeetsSeq2 MeetsSeq3 SeqRoads2
def mS(A:Around)(s:Shared)(u v:Value)(b:Bool):Prop:=∀ (prog:Program) (w:World) (Q:Value->Shared->Prop) (E:Value->Shared->Prop),Q (.bool b) s->wpAny (model prog w) A (richCompare .Lt u v) Q E s
def tj(e f:Nat->Bool)(m n:Nat):Nat->Nat->Bool
 |0,_=>decide (m<n)
 |k+1,i=>if e i then tj e f m n k (i+1) else f i
theorem xx(l b:Addr)(items dn:Array Value)(n n2:Nat)(dd qS:Option Addr)(sl qV:Array (Option Value))(e f:Nat->Bool)(k:Nat) :
  ∀ i:Nat,min items.size dn.size-i=k->i<=min items.size dn.size->Meets (Builtin.«list.__eq__.loop» ⟨[.ref l,.ref b,rawInt i,rawInt 0],[]⟩)
   (fun A R s=>s.heap.get? l=some { cls:=.type "list",dict:=dd,data:=.seq items n,slots:=sl }/\s.heap.get? b=some { cls:=.type "list",dict:=qS,data:=.seq dn n2,slots:=qV } /\
    (∀ j (h1:j<items.size) (h2:j<dn.size),EqAt A.in1 s items[j] dn[j] (e j))/\(∀ j (h1:j<items.size) (h2:j<dn.size),e j=false->mS A.in1 s items[j] dn[j] (f j)) /\
    R (.ok (.ret (.bool (tj e f items.size dn.size k i)))) s):=by
 induction k with
 |zero =>
  intro i hk hle prog w A R s h
  obtain⟨hp,g,d,tk,os⟩:=s;obtain⟨hl,hb,he,hf,h⟩:=h
  wp_walk using wpAny_loadPart' hl,wpAny_loadPart' hb
  rcases (show items.size<=i\/dn.size<=i by lia) with z|z
  ·have Fm:items[((i:Nat):Int).toNat]? = none:=by simp;lia
   rw[Fm]
   wp_walk using wpAny_loadPart' hl,wpAny_loadPart' hb
   exact h
  ·have xh:dn[((i:Nat):Int).toNat]? = none:=by simp;lia
   rw[xh]
   cases items[((i:Nat):Int).toNat]?<;>wp_walk using wpAny_loadPart' hl,wpAny_loadPart' hb<;>exact h
 |succ k ih =>
  intro i hk hle prog w A R s h
  obtain⟨hp,g,d,tk,os⟩:=s;obtain⟨hl,hb,he,hf,h⟩:=h
  wp_walk using wpAny_loadPart' hl,wpAny_loadPart' hb
  have dE:i<items.size:=by lia
  have S8:i<dn.size:=by lia
  have Fm:items[((i:Nat):Int).toNat]? = some items[i]:=by simp[dE]
  have xh:dn[((i:Nat):Int).toNat]? = some dn[i]:=by simp[S8]
  have hc:((i:Int)+1)=((i+1:Nat):Int):=by push_cast;rfl
  rw[Fm,xh]
  refine ag (he i dE S8 prog w _ _ ?_)
  cases zk:e i with
  |true =>
   rw[tj,zk,if_pos rfl] at h
   wp_walk
   rw[hc]
   exact⟨plainId_quiet plain_eq_loop _,codeAny_builtin entry_eq_loop (by
    rw[Around.under_plainId plain_eq_loop _]
    exact ih (i+1) (by lia) (by lia) prog w A R _ ⟨hl,hb,he,hf,h⟩)⟩
  |false =>
   rw[tj,zk,if_neg iq] at h
   wp_walk using wpAny_loadPart' hl,wpAny_loadPart' hb
   rw[Fm,xh]
   refine ag (hf i dE S8 zk prog w _ _ ?_)
   wp_walk
   exact h
theorem xG(l b:Addr)(items dn:Array Value)(n n2:Nat)(dd qS:Option Addr)(sl qV:Array (Option Value))(e f:Nat->Bool) :
  Meets (Builtin.«list.__lt__» ⟨[.ref l,.ref b],[]⟩)
   (fun A R s=>s.heap.get? l=some { cls:=.type "list",dict:=dd,data:=.seq items n,slots:=sl }/\s.heap.get? b=some { cls:=.type "list",dict:=qS,data:=.seq dn n2,slots:=qV } /\
    (∀ j (h1:j<items.size) (h2:j<dn.size),EqAt A.in1 s items[j] dn[j] (e j))/\(∀ j (h1:j<items.size) (h2:j<dn.size),e j=false->mS A.in1 s items[j] dn[j] (f j)) /\
    R (.ok (.ret (.bool (tj e f items.size dn.size (min items.size dn.size) 0)))) s):=by
 intro prog w A R s h
 obtain⟨hp,g,d,tk,os⟩:=s;obtain⟨hl,hb,he,hf,h⟩:=h
 have f3:=AutoSeq1.sub_list_list
 wp_walk using wpAny_loadPart' hl,wpAny_loadPart' hb
 exact⟨plainId_quiet plain_eq_loop _,codeAny_builtin entry_eq_loop (by
  rw[Around.under_plainId plain_eq_loop _]
  exact xx l b items dn n n2 dd qS sl qV e f _ 0 (NZ _) (gV _) prog w A R _ ⟨hl,hb,he,hf,h⟩)⟩
theorem uc(l b:Addr)(items dn:Array Value)(n n2:Nat)(dd qS:Option Addr)(sl qV:Array (Option Value))(e f:Nat->Bool) :
  Meets (Builtin.«tuple.__lt__» ⟨[.ref l,.ref b],[]⟩)
   (fun A R s=>s.heap.get? l=some { cls:=.type "tuple",dict:=dd,data:=.seq items n,slots:=sl }/\s.heap.get? b=some { cls:=.type "tuple",dict:=qS,data:=.seq dn n2,slots:=qV } /\
    (∀ j (h1:j<items.size) (h2:j<dn.size),EqAt A.in1 s items[j] dn[j] (e j))/\(∀ j (h1:j<items.size) (h2:j<dn.size),e j=false->mS A.in1 s items[j] dn[j] (f j)) /\
    R (.ok (.ret (.bool (tj e f items.size dn.size (min items.size dn.size) 0)))) s) :=
 .of_wp fun prog w A R s h=>by
  obtain⟨hp,g,d,tk,os⟩:=s;obtain⟨hl,hb,he,hf,h⟩:=h
  have f2:=AutoSeq1.sub_tuple_tuple
  have hZ:(items.toList.zip dn.toList).length=min items.size dn.size:=by simp
  wp_walk using wpAny_loadPart' hl,wpAny_loadPart' hb,wpAny_forIn_list _ (fun rest b s'=>b.1=none/\s'=⟨hp,g,d,tk,os⟩/\∃ i,rest=(items.toList.zip dn.toList).drop i/\i<=min items.size dn.size /\
   R (.ok (.ret (.bool (tj e f items.size dn.size (min items.size dn.size-i) i)))) ⟨hp,g,d,tk,os⟩) _
  case turn =>
   rintro⟨y,x⟩ rest b s' ⟨zk,rfl,i,hz,hi,hR⟩
   have dE:i<(items.toList.zip dn.toList).length:=by
    rcases D3 i (items.toList.zip dn.toList).length with h'|h'
    ·exact h'
    ·rw[Qf h'] at hz;cases hz
   have hm:i<min items.size dn.size:=hZ ▸ dE
   have h1:i<items.size:=kN hm (Nat.min_le_left _ _)
   have h2:i<dn.size:=kN hm (Nat.min_le_right _ _)
   rw[BO dE] at hz
   injection hz with Xs ex'
   have hy:y=items[i]:=by have:=congrArg Prod.fst Xs;simpa using this
   have hx:x=dn[i]:=by have:=congrArg Prod.snd Xs;simpa using this
   subst hy hx
   rw[show min items.size dn.size-i=(min items.size dn.size-(i+1))+1 by lia,tj] at hR
   refine ag (he i h1 h2 prog w _ _ ?_)
   cases hy:e i with
   |true =>
    rw[hy,if_pos rfl] at hR
    wp_walk
    exact⟨rfl,rfl,i+1,ex',hm,hR⟩
   |false =>
    rw[hy,if_neg iq] at hR
    simp only[Bool.not_false,if_true]
    refine ag (wpAny_rule ?_)
    refine ag (hf i h1 h2 hy prog w _ _ ?_)
    wp_walk
    exact⟨_,rfl,hR⟩
  case fin =>
   rintro⟨b1,b2⟩ s' ⟨zk,rfl,i,hz,hi,hR⟩
   simp only at zk
   subst zk
   have RJ:min items.size dn.size<=i:=by
    rcases D3 i (items.toList.zip dn.toList).length with h'|h'
    ·rw[BO h'] at hz;cases hz
    ·exact hZ ▸ h'
   rw[show min items.size dn.size-i=0 by lia,tj] at hR
   wp_walk
   exact⟨_,rfl,by simpa[Builtin.Tuple.tupleCompareSizes] using hR⟩
  case h =>
   exact⟨rfl,rfl,0,rfl,gV _,h⟩
section
variable {A:Around}{s:Shared}
theorem mS.tuples(hl:s.heap.IsTuple l items)(hb:s.heap.IsTuple b dn)(hu:A.units<cLine)
  (he:∀ j (h1:j<items.size) (h2:j<dn.size),EqAt A.in1 s items[j] dn[j] (e j)) (hf:∀ j (h1:j<items.size) (h2:j<dn.size),e j=false->mS A.in1 s items[j] dn[j] (f j)) :
  mS A s (.ref l) (.ref b) (tj e f items.size dn.size (min items.size dn.size) 0):=fun prog w Q E h=>by
 obtain⟨⟨cls,dd,data,sl⟩,ho,hc,n,hd⟩:=id hl
 obtain⟨⟨Q_,qS,data2,qV⟩,oS,q0,n2,hd2⟩:=id hb
 simp only at hc hd q0 hd2
 subst hc hd q0 hd2
 exact richCompare_meets_room (op:=.Lt) ⟨_,ho,rfl⟩ ⟨_,oS,rfl⟩ F.slot_tuple_lt F.entry_tuple_lt (F.args_tuple_lt_2 _ _) (uc l b items dn n n2 dd qS sl qV e f)
  ⟨ho,oS,he,hf,show Value.bool _≠Value.notImplemented/\Q (.bool _) s from⟨(fun x=>nomatch x),h⟩⟩ hu
theorem mS.lists(hl:s.heap.IsList l items)(hb:s.heap.IsList b dn)(hu:A.units<cLine)
  (he:∀ j (h1:j<items.size) (h2:j<dn.size),EqAt A.in1 s items[j] dn[j] (e j)) (hf:∀ j (h1:j<items.size) (h2:j<dn.size),e j=false->mS A.in1 s items[j] dn[j] (f j)) :
  mS A s (.ref l) (.ref b) (tj e f items.size dn.size (min items.size dn.size) 0):=fun prog w Q E h=>by
 obtain⟨⟨cls,dd,data,sl⟩,ho,hc,n,hd⟩:=id hl
 obtain⟨⟨Q_,qS,data2,qV⟩,oS,q0,n2,hd2⟩:=id hb
 simp only at hc hd q0 hd2
 subst hc hd q0 hd2
 exact richCompare_meets_room (op:=.Lt) ⟨_,ho,rfl⟩ ⟨_,oS,rfl⟩ F.slot_list_lt F.entry_list_lt (F.args_list_lt_2 _ _) (xG l b items dn n n2 dd qS sl qV e f)
  ⟨ho,oS,he,hf,show Value.bool _≠Value.notImplemented/\Q (.bool _) s from⟨(fun x=>nomatch x),h⟩⟩ hu
theorem mS.int(a:Int)(t:Tok)(b:Int)(u:Tok):mS A s (.int a t) (.int b u) (decide (a<b)):=fun prog w Q E h=>(show wpAny _ _ (compareOp .Lt _ _) _ _ _ from PyProof.Rows.lt_int h)
theorem mS.str(a:Str)(t:Tok)(b:Str)(u:Tok):mS A s (.str a t) (.str b u) (decide (a.cps.toList<b.cps.toList)):=fun prog w Q E h=>(show wpAny _ _ (compareOp .Lt _ _) _ _ _ from PySem.P.lt_str h)
end
def ng(lt:PyData->PyData->Bool):List PyData->List PyData->Bool
 |[],ys=>!ys.isEmpty
 |_ :: _,[]=>false
 |x :: xs,y :: ys=>if PyData.eqv x y then ng lt xs ys else lt x y
def b4:Nat->PyData->PyData->Bool
 |_,.int i,.int j=>decide (i<j)
 |_,.str x,.str y=>decide (x.cps.toList<y.cps.toList)
 |n+1,.list xs,.list ys=>ng (b4 n) xs ys
 |n+1,.tuple xs,.tuple ys=>ng (b4 n) xs ys
 |_,_,_=>false
def oj:Nat->PyData->PyData->Prop
 |_,.int _,.int _=>True
 |_,.str _,.str _=>True
 |n+1,.list xs,.list ys=>∀ (j:Nat) (x y:PyData),xs[j]? = some x->ys[j]? = some y->PyData.eqv x y=false->oj n x y
 |n+1,.tuple xs,.tuple ys=>∀ (j:Nat) (x y:PyData),xs[j]? = some x->ys[j]? = some y->PyData.eqv x y=false->oj n x y
 |_,_,_=>False
def at2(g:PyData->PyData->Bool)(xs ys:List PyData)(j:Nat):Bool:=match xs[j]?,ys[j]? with
 |some x,some y=>g x y
 |_,_=>false
theorem lZ(hx:xs[j]? = some x)(hy:ys[j]? = some y):at2 g xs ys j=g x y:=by
 unfold at2
 rw[hx,hy]
theorem Af(lt:PyData->PyData->Bool)(xs ys:List PyData)(k:Nat):∀ i,min xs.length ys.length-i=k->i<=min xs.length ys.length->tj (at2 PyData.eqv xs ys) (at2 lt xs ys) xs.length ys.length k i=ng lt (xs.drop i) (ys.drop i):=by
 induction k with
 |zero =>
  intro i hk hi
  rw[tj]
  rcases D3 xs.length ys.length with z|z
  ·rw[decide_eq_true z,Qf (show xs.length<=i by lia),BO (show i<ys.length by lia)]
   rfl
  ·rw[decide_eq_false (by lia),Qf (show ys.length<=i by lia)]
   cases xs.drop i<;>rfl
 |succ k ih =>
  intro i hk hi
  have h1:i<xs.length:=by lia
  have h2:i<ys.length:=by lia
  rw[tj,lZ (oq h1) (oq h2),lZ (oq h1) (oq h2),ih (i+1) (by lia) (by lia),
   BO h1,BO h2,ng]
theorem cH:∀ {vs:List Value} {as:List Addr},ReadsAll h vs xs as->∀ (j:Nat) (v:Value),vs[j]? = some v->∃ x bs,xs[j]? = some x/\Reads h v x bs:=by
 induction xs with
 |nil =>
  intro vs as r j v hv
  cases r
  simp at hv
 |cons x xs ih =>
  intro vs as r j v hv
  cases r with
  |cons r rs =>
   cases j with
   |zero =>
    simp at hv
    subst hv
    exact⟨x,_,rfl,r⟩
   |succ j=>exact ih rs j v (by simpa using hv)
theorem iC{xs:List PyData}(h:PyData.canLayAll0 xs=true){j:Nat}{x:PyData}(hx:xs[j]? = some x):x.canLay0=true:=by
 induction xs generalizing j with
 |nil=>simp at hx
 |cons y xs ih =>
  have h:y.canLay0=true/\PyData.canLayAll0 xs=true:=by simpa[PyData.canLayAll0] using h
  cases j with
  |zero=>simp at hx;subst hx;exact h.1
  |succ j=>exact ih h.2 (by simpa using hx)
theorem mZ{xs:List PyData}{j:Nat}{x:PyData}(hx:xs[j]? = some x):x.depth<=PyData.depthAll xs:=by
 induction xs generalizing j with
 |nil=>simp at hx
 |cons y xs ih =>
  simp only[PyData.depthAll]
  cases j with
  |zero=>simp at hx;subst hx;lia
  |succ j=>have:=ih (j:=j) (by simpa using hx);lia
theorem yr(n:Nat):∀ (d e:PyData) (A:Around) (s:Shared) (a b:Value) (as bs:List Addr),Reads s.heap a d as->Reads s.heap b e bs->d.canLay0=true->e.canLay0=true->oj n d e->d.depth<=20->A.units+n+30<cLine->mS A s a b (b4 n d e):=by
 induction n with
 |zero =>
  intro d e A s a b as bs ra rb _ _ c _ _
  cases ra<;>cases rb<;>first|(rw[b4];exact mS.int _ _ _ _)|(rw[b4];exact mS.str _ _ _ _)|exact absurd c (by simp[oj])
 |succ n ih =>
  intro d e A s a b as bs ra rb la lb c dd hu
  cases ra with
  |int i t=>cases rb<;>first|(rw[b4];exact mS.int _ _ _ _)|exact absurd c (by simp[oj])
  |str x t=>cases rb<;>first|(rw[b4];exact mS.str _ _ _ _)|exact absurd c (by simp[oj])
  |@list l o vs m xs S9 h1 h2 h3 h4 =>
   cases rb with
   |@list l' o' eS m' ys Xt k1 k2 k3 k4 =>
    have n1:vs.size=xs.length:=by simpa using ReadsAll.length _ _ _ h4
    have n2:eS.size=ys.length:=by simpa using ReadsAll.length _ _ _ k4
    have Nk:∀ j (h1:j<vs.size),∃ x cs,xs[j]? = some x/\Reads s.heap vs[j] x cs:=fun j hj=>cH h4 j vs[j] (by simp[hj])
    have Nm:∀ j (h1:j<eS.size),∃ x cs,ys[j]? = some x/\Reads s.heap eS[j] x cs:=fun j hj=>cH k4 j eS[j] (by simp[hj])
    have dx:PyData.depthAll xs<20:=by simp only[PyData.depth] at dd;lia
    have:=mS.lists (A:=A) (s:=s) (e:=at2 PyData.eqv xs ys) (f:=at2 (b4 n) xs ys) ⟨_,h1,h2,_,h3⟩ ⟨_,k1,k2,_,k3⟩ (by lia) (fun j j1 j2=>by
     obtain⟨x,cs,ex,rx⟩:=Nk j j1
     obtain⟨y,S_,ey,ry⟩:=Nm j j2
     rw[lZ ex ey]
     have:=mZ ex
     exact eqAt_reads x y A.in1 s _ _ _ _ rx ry (iC la ex) (iC lb ey) (by show A.units+1+_<cLine;lia)) (fun j j1 j2 ne=>by
     obtain⟨x,cs,ex,rx⟩:=Nk j j1
     obtain⟨y,S_,ey,ry⟩:=Nm j j2
     rw[lZ ex ey] at ne ⊢
     have:=mZ ex
     exact ih x y A.in1 s _ _ _ _ rx ry (iC la ex) (iC lb ey) (c j x y ex ey ne) (by lia) (by show A.units+1+n+30<cLine;lia))
    rw[n1,n2,Af (b4 n) xs ys _ 0 (NZ _) (gV _)] at this
    exact this
   |_=>exact absurd c (by simp[oj])
  |@tuple l o vs m xs S9 h1 h2 h3 h4 =>
   cases rb with
   |@tuple l' o' eS m' ys Xt k1 k2 k3 k4 =>
    have n1:vs.size=xs.length:=by simpa using ReadsAll.length _ _ _ h4
    have n2:eS.size=ys.length:=by simpa using ReadsAll.length _ _ _ k4
    have Nk:∀ j (h1:j<vs.size),∃ x cs,xs[j]? = some x/\Reads s.heap vs[j] x cs:=fun j hj=>cH h4 j vs[j] (by simp[hj])
    have Nm:∀ j (h1:j<eS.size),∃ x cs,ys[j]? = some x/\Reads s.heap eS[j] x cs:=fun j hj=>cH k4 j eS[j] (by simp[hj])
    have dx:PyData.depthAll xs<20:=by simp only[PyData.depth] at dd;lia
    have:=mS.tuples (A:=A) (s:=s) (e:=at2 PyData.eqv xs ys) (f:=at2 (b4 n) xs ys) ⟨_,h1,h2,_,h3⟩ ⟨_,k1,k2,_,k3⟩ (by lia) (fun j j1 j2=>by
     obtain⟨x,cs,ex,rx⟩:=Nk j j1
     obtain⟨y,S_,ey,ry⟩:=Nm j j2
     rw[lZ ex ey]
     have:=mZ ex
     exact eqAt_reads x y A.in1 s _ _ _ _ rx ry (iC la ex) (iC lb ey) (by show A.units+1+_<cLine;lia)) (fun j j1 j2 ne=>by
     obtain⟨x,cs,ex,rx⟩:=Nk j j1
     obtain⟨y,S_,ey,ry⟩:=Nm j j2
     rw[lZ ex ey] at ne ⊢
     have:=mZ ex
     exact ih x y A.in1 s _ _ _ _ rx ry (iC la ex) (iC lb ey) (c j x y ex ey ne) (by lia) (by show A.units+1+n+30<cLine;lia))
    rw[n1,n2,Af (b4 n) xs ys _ 0 (NZ _) (gV _)] at this
    exact this
   |_=>exact absurd c (by simp[oj])
  |_=>cases rb<;>exact absurd c (by simp[oj])
end PySem.SeqAt
namespace L2
open PySem PySem.Spec PyProof.Rows PySem.SeqAt
structure i3(lt:PyData->PyData->Bool)(S:PyData->Prop):Prop where
 oC:∀ x,S x->lt x x=false
 tr:∀ x y z,S x->S y->S z->lt x y=true->lt y z=true->lt x z=true
 ae:∀ x y,S x->S y->lt x y=false->lt y x=false->x=y
 eqv:∀ x y,S x->S y->(PyData.eqv x y=true↔x=y)
theorem i3.int(n:Nat):i3 (b4 n) fun x=>∃ i,x=.int i where
 oC:=by rintro x ⟨i,rfl⟩;rw[b4];simp
 tr:=by rintro x y z ⟨i,rfl⟩ ⟨j,rfl⟩ ⟨k,rfl⟩;rw[b4,b4,b4];simp only[decide_eq_true_eq];lia
 ae:=by rintro x y ⟨i,rfl⟩ ⟨j,rfl⟩;rw[b4,b4];simp only[decide_eq_false_iff_not,PyData.int.injEq];lia
 eqv:=by rintro x y ⟨i,rfl⟩ ⟨j,rfl⟩;simp[PyData.eqv]
theorem i3.str(n:Nat):i3 (b4 n) fun x=>∃ s,x=.str s where
 oC:=by rintro x ⟨i,rfl⟩;rw[b4];exact vO i
 tr:=by rintro x y z ⟨i,rfl⟩ ⟨j,rfl⟩ ⟨k,rfl⟩;rw[b4,b4,b4];exact fun h g=>Ax (y:=j) h g
 ae:=by rintro x y ⟨i,rfl⟩ ⟨j,rfl⟩;rw[b4,b4];exact fun h g=>by rw[xK (x:=i) (y:=j) h g]
 eqv:=by rintro x y ⟨i,rfl⟩ ⟨j,rfl⟩;simp[PyData.eqv]
section
variable {lt:PyData->PyData->Bool}{S:PyData->Prop}
theorem yj(T:i3 lt S)(xs:List PyData)(h:∀ x∈xs,S x):ng lt xs xs=false:=by
 induction xs with
 |nil=>rfl
 |cons x xs ih =>
  rw[ng,if_pos ((T.eqv x x (h x bX) (h x bX)).mpr rfl)]
  exact ih fun y hy=>h y (b5 _ hy)
open Classical in
theorem cJ(T:i3 lt S)(hx:S x)(hy:S y):ng lt (x :: xs) (y :: ys)=if x=y then ng lt xs ys else lt x y:=by
 rw[ng]
 by_cases e:x=y
 ·rw[if_pos e,if_pos ((T.eqv x y hx hy).mpr e)]
 ·rw[if_neg e,if_neg fun z=>e ((T.eqv x y hx hy).mp z)]
theorem yt(T:i3 lt S)(xs:List PyData):∀ ys:List PyData,(∀ x∈xs,S x)->(∀ y∈ys,S y)->ng lt xs ys=false->ng lt ys xs=false->xs=ys:=by
 induction xs with
 |nil =>
  intro ys _ _ h _
  cases ys with
  |nil=>rfl
  |cons y ys=>cases h
 |cons x xs ih =>
  intro ys hx hy h1 h2
  cases ys with
  |nil=>cases h2
  |cons y ys =>
   have sx:=hx x bX
   have sy:=hy y bX
   rw[cJ T sx sy] at h1
   rw[cJ T sy sx] at h2
   by_cases e:x=y
   ·subst e
    rw[if_pos rfl] at h1 h2
    rw[ih ys (fun z hz=>hx z (b5 _ hz)) (fun z hz=>hy z (b5 _ hz)) h1 h2]
   ·rw[if_neg e] at h1
    rw[if_neg fun z=>e z.symm] at h2
    exact absurd (T.ae x y sx sy h1 h2) e
theorem Bk(T:i3 lt S)(xs:List PyData):∀ ys zs:List PyData,(∀ x∈xs,S x)->(∀ y∈ys,S y)->(∀ z∈zs,S z)->ng lt xs ys=true->ng lt ys zs=true->ng lt xs zs=true:=by
 induction xs with
 |nil =>
  intro ys zs _ _ _ h1 h2
  cases zs with
  |cons z zs=>rfl
  |nil =>
   cases ys with
   |nil=>cases h1
   |cons y ys=>cases h2
 |cons x xs ih =>
  intro ys zs hx hy hz h1 h2
  cases ys with
  |nil=>cases h1
  |cons y ys =>
   cases zs with
   |nil=>cases h2
   |cons z zs =>
    have sx:=hx x bX
    have sy:=hy y bX
    have sz:=hz z bX
    rw[cJ T sx sy] at h1
    rw[cJ T sy sz] at h2
    rw[cJ T sx sz]
    have tl:=ih ys zs (fun z hz=>hx z (b5 _ hz)) (fun z hz=>hy z (b5 _ hz)) fun w hw=>hz w (b5 _ hw)
    by_cases e1:x=y
    ·subst e1
     rw[if_pos rfl] at h1
     by_cases e2:x=z
     ·subst e2
      rw[if_pos rfl] at h2 ⊢
      exact tl h1 h2
     ·rw[if_neg e2] at h2 ⊢
      exact h2
    ·rw[if_neg e1] at h1
     by_cases e2:y=z
     ·subst e2
      rw[if_neg e1]
      exact h1
     ·rw[if_neg e2] at h2
      have t:=T.tr x y z sx sy sz h1 h2
      by_cases e3:x=z
      ·subst e3
       rw[T.oC x sx] at t
       cases t
      ·rw[if_neg e3];exact t
theorem uA(T:i3 lt S)(xs:List PyData):∀ ys:List PyData,(∀ x∈xs,S x)->(∀ y∈ys,S y)->(PyData.eqvAll xs ys=true↔xs=ys):=by
 induction xs with
 |nil=>intro ys _ _;cases ys<;>simp[PyData.eqvAll]
 |cons x xs ih =>
  intro ys hx hy
  cases ys with
  |nil=>simp[PyData.eqvAll]
  |cons y ys =>
   have h1:=T.eqv x y (hx x bX) (hy y bX)
   have h2:=ih ys (fun z hz=>hx z (b5 _ hz)) fun z hz=>hy z (b5 _ hz)
   simp only[PyData.eqvAll,kQ,List.cons.injEq]
   exact and_congr h1 h2
end
theorem i3.list{S:PyData->Prop}(T:i3 (b4 n) S):i3 (b4 (n+1)) fun x=>∃ xs,x=.list xs/\∀ y∈xs,S y where
 oC:=by rintro x ⟨xs,rfl,h⟩;rw[b4];exact yj T xs h
 tr:=by rintro x y z ⟨xs,rfl,h⟩ ⟨ys,rfl,h'⟩ ⟨zs,rfl,SM⟩;rw[b4,b4,b4];exact Bk T xs ys zs h h' SM
 ae:=by
  rintro x y ⟨xs,rfl,h⟩ ⟨ys,rfl,h'⟩
  rw[b4,b4]
  exact fun h1 h2=>by rw[yt T xs ys h h' h1 h2]
 eqv:=by
  rintro x y ⟨xs,rfl,h⟩ ⟨ys,rfl,h'⟩
  rw[PyData.list.injEq]
  exact uA T xs ys h h'
open Classical in
theorem cZ{S U:PyData->Prop}(T:i3 (b4 n) S)(T2:i3 (b4 n) U)(ha:S a)(hb:U b)(hc:S c)(hd:U d):ng (b4 n) [a,b] [c,d]=if a=c then b4 n b d else b4 n a c:=by
 rw[cJ T ha hc,cJ T2 hb hd]
 by_cases e:b=d
 ·subst e
  rw[if_pos rfl,show ng (b4 n) [] []=false from rfl,T2.oC b hb]
 ·rw[if_neg e]
theorem i3.pair{S U:PyData->Prop}(T:i3 (b4 n) S)(T2:i3 (b4 n) U):i3 (b4 (n+1)) fun x=>∃ a b,x=.tuple [a,b]/\S a/\U b where
 oC:=by rintro x ⟨a,b,rfl,ha,hb⟩;rw[b4,cZ T T2 ha hb ha hb,if_pos rfl];exact T2.oC b hb
 tr:=by
  rintro x y z ⟨a,b,rfl,ha,hb⟩ ⟨c,d,rfl,hc,hd⟩ ⟨e,f,rfl,he,hf⟩
  rw[b4,b4,b4,cZ T T2 ha hb hc hd,cZ T T2 hc hd he hf,cZ T T2 ha hb he hf]
  intro h1 h2
  by_cases e1:a=c
  ·subst e1
   rw[if_pos rfl] at h1
   by_cases e2:a=e
   ·subst e2
    rw[if_pos rfl] at h2 ⊢
    exact T2.tr b d f hb hd hf h1 h2
   ·rw[if_neg e2] at h2 ⊢
    exact h2
  ·rw[if_neg e1] at h1
   by_cases e2:c=e
   ·subst e2
    rw[if_neg e1];exact h1
   ·rw[if_neg e2] at h2
    have t:=T.tr a c e ha hc he h1 h2
    by_cases e3:a=e
    ·subst e3
     rw[T.oC a ha] at t;cases t
    ·rw[if_neg e3];exact t
 ae:=by
  rintro x y ⟨a,b,rfl,ha,hb⟩ ⟨c,d,rfl,hc,hd⟩
  rw[b4,b4,cZ T T2 ha hb hc hd,cZ T T2 hc hd ha hb]
  intro h1 h2
  by_cases e:a=c
  ·subst e
   rw[if_pos rfl] at h1 h2
   rw[T2.ae b d hb hd h1 h2]
  ·rw[if_neg e] at h1
   rw[if_neg fun z=>e z.symm] at h2
   exact absurd (T.ae a c ha hc h1 h2) e
 eqv:=by
  rintro x y ⟨a,b,rfl,ha,hb⟩ ⟨c,d,rfl,hc,hd⟩
  have h1:=T.eqv a c ha hc
  have h2:=T2.eqv b d hb hd
  simp only[PyData.eqv,PyData.eqvAll,kQ,N5,PyData.tuple.injEq,List.cons.injEq,and_true]
  exact and_congr h1 h2
section
variable {prog:Program}{w:World}{A:Around}{E:Value->Shared->Prop}{s:Shared}{Q:Bool->Shared->Prop}
theorem zN(xs:List PyData):∀ (ys:List PyData) (us vs:List Value) (as bs:List Addr) (i:Nat),ReadsAll s.heap us xs as->ReadsAll s.heap vs ys bs->PyData.canLayAll0 xs=true->PyData.canLayAll0 ys=true->PyData.depthAll xs<=20 ->
  (∀ (j:Nat) (x y:PyData),xs[j]? = some x->ys[j]? = some y->PyData.eqv x y=false->oj n x y)->(i=0->∀ x y,xs[0]? = some x->ys[0]? = some y->(∃ k,x=.int k)/\∃ k,y=.int k)->xs.length=ys.length->A.units+n+30<cLine->Q (ng (b4 n) xs ys) s ->
  PySem.W.KatLex prog w A true false Q (us.zip vs) i s:=by
 induction xs with
 |nil =>
  intro ys us vs as bs i ra rb _ _ _ _ _ hl _ q
  cases ys with
  |cons y ys=>cases hl
  |nil =>
   cases ra
   exact PySem.W.kat_nil q
 |cons x xs ih =>
  intro ys us vs as bs i ra rb la lb dp c hi hl hu q
  cases ys with
  |nil=>cases hl
  |cons y ys =>
   cases ra with
   |cons r rs =>
    cases rb with
    |cons r' DB =>
     have Ta:x.canLay0=true/\PyData.canLayAll0 xs=true:=by simpa[PyData.canLayAll0] using la
     have Tb:y.canLay0=true/\PyData.canLayAll0 ys=true:=by simpa[PyData.canLayAll0] using lb
     have Xu:x.depth<=20/\PyData.depthAll xs<=20:=by simp only[PyData.depthAll] at dp;lia
     rw[zI]
     rw[ng] at q
     refine PySem.W.kat_cons (eqAt_reads x y A s _ _ _ _ r r' Ta.1 Tb.1 (by lia) prog w _ _ (PySem.W.kat_go (fun h=>PySem.W.kat_yes ?_) (fun h=>PySem.W.kat_no ?_)))
     ·rw[if_pos h] at q
      exact ih ys _ _ _ _ (i+1) rs DB Ta.2 Tb.2 Xu.2 (fun j=>c (j+1)) (fun z=>by lia) (by simpa using hl) hu q
     ·rw[if_neg (by rw[h];exact iq)] at q
      by_cases h0:i=0
      ·obtain⟨⟨a,rfl⟩,⟨b,rfl⟩⟩:=hi h0 x y rfl rfl
       subst h0
       cases r
       cases r'
       rw[b4] at q
       exact oneLt_int q
      ·rw[show(true && i == 0)=false by simp[h0]]
       exact PySem.W.kat_one _ _ (yr n x y A s _ _ _ _ r r' Ta.1 Tb.1 (c 0 x y rfl rfl h) Xu.1 (by lia) prog w _ _ q)
structure Fn(n:Nat)(S:PyData->Prop):Prop where
 ae:i3 (b4 (n+1)) S
 tup:∀ x,S x->∃ i xs,x=.tuple (.int i :: xs)/\x.canLay0=true/\x.depth<=20
 len:∀ xs ys,S (.tuple xs)->S (.tuple ys)->xs.length=ys.length
 cm:∀ x y,S x->S y->oj (n+1) x y
open Classical in
def jo(h:Heap)(v:Value):PyData:=if z:∃ d as,Reads h v d as/\d.canLay0=true then z.choose else .none
theorem fG(r:Reads h v d as)(l:d.canLay0=true):jo h v=d:=by
 have z:∃ d as,Reads h v d as/\d.canLay0=true:=⟨d,as,r,l⟩
 unfold jo
 rw[dif_pos z]
 obtain⟨bs,r2,l2⟩:=z.choose_spec
 exact Reads.unique _ _ _ _ _ l2 r2 r
def Fs(n:Nat)(L:List PyData)(d:PyData):Int:=(L.countP fun e=>b4 n e d:Nat)
theorem z8{S:PyData->Prop}(T:i3 (b4 n) S)(hL:∀ d∈L,S d)(ha:a∈L)(hb:S b):decide (Fs n L a<Fs n L b)=b4 n a b:=by
 have sa:=hL a ha
 unfold Fs
 cases h:b4 n a b with
 |true =>
  have:=mH (fun j=>b4 n j a) (fun j=>b4 n j b) a (T.oC a sa) h L ha fun x hx z=>T.tr x a b (hL x hx) sa hb z h
  exact decide_eq_true (by lia)
 |false =>
  refine decide_eq_false ?_
  cases g:b4 n b a with
  |false =>
   rw[T.ae a b sa hb h g]
   lia
  |true =>
   have:=count_le (fun j=>b4 n j b) (fun j=>b4 n j a) L fun x hx z=>T.tr x b a (hL x hx) hb sa z g
   lia
theorem ym{S:PyData->Prop}(K:Fn n S)(kp:∀ b o,h0.get? b=some o->s.heap.get? b=some o)(hL:∀ d∈L,S d)(hu:A.units+n+31<cLine) :
  sP.pe prog w A s (tuples' true) (fun v=>Fs (n+1) L (jo h0 v)) (fun v=>∃ d as,d∈L/\Reads h0 v d as):=by
 rintro x y ⟨d,as,md,rd⟩ ⟨e,bs,me,re⟩ Q E q
 have sd:=hL d md
 have se:=hL e me
 obtain⟨i,xs,rfl,ld,dd⟩:=K.tup d sd
 obtain⟨j,ys,rfl,le,de⟩:=K.tup e se
 replace q:Q (decide (Fs (n+1) L (jo h0 x)<Fs (n+1) L (jo h0 y))) s:=q
 rw[fG rd ld,fG re le,z8 K.ae hL md se,b4] at q
 have rd':=PyProof.Rows.Reads.keeps kp rd
 have re':=PyProof.Rows.Reads.keeps kp re
 have cm:=K.cm _ _ sd se
 have hl:=K.len _ _ sd se
 cases rd' with
 |@tuple a o us m _ S9 h1 h2 h3 h4 =>
  cases re' with
  |@tuple b o' vs m' _ Xt k1 k2 k3 k4 =>
   have n1:us.size=(PyData.int i :: xs).length:=by simpa using ReadsAll.length _ _ _ h4
   have n2:vs.size=(PyData.int j :: ys).length:=by simpa using ReadsAll.length _ _ _ k4
   refine PySem.W.kat_lt h1 h3 k1 k3 ?_
   rw[show decide (us.size<vs.size)=false from decide_eq_false (by lia)]
   exact zN (n:=n) _ _ _ _ _ _ 0 h4 k4 ld le (by simp only[PyData.depth] at dd;lia) cm (fun _ x y hx hy=>by cases hx;cases hy;exact⟨⟨_,rfl⟩,_,rfl⟩) hl (by lia) q
end
section
variable {X:Cx}{pins:List (Addr × Obj)}{σ:St}{H:Hp}{s:Shared}
theorem vX(I:Inv X pins σ H s):∀ {ds:List PyData} {ys:List V} {vs:List Value},aS X.K H ds ys->Vals ys vs->∀ v∈vs,∃ d y as,d∈ds/\Rep X.K H d y/\RelV y v/\Reads s.heap v d as
 |_,_,_,.nil,.nil,v,hv=>nomatch hv
 |_,_,_,.cons r rs,.cons q qs,v,hv=>by
  rcases df.mp hv with rfl|hv
  ·obtain⟨as,z⟩:=r.reads I q
   exact⟨_,_,as,bX,r,q,z⟩
  ·obtain⟨d,y,as,a,b,c,z⟩:=vX I rs qs v hv
   exact⟨d,y,as,b5 _ a,b,c,z⟩
theorem tU{h0:Heap}{n:Nat}{S:PyData->Prop}(K:Fn n S):∀ (vs:List Value),(∀ v∈vs,∃ d as,S d/\Reads h0 v d as)->∃ fs:List Value,PySem.W.KatTups h0 vs fs/\fs.length=vs.length/\∀ f∈fs,∃ i t,f=Value.int i t
 |[],_=>⟨[],.nil,rfl,fun f hf=>nomatch hf⟩
 |v :: vs,h=>by
  obtain⟨fs,f1,f2,f3⟩:=tU K vs fun u hu=>h u (b5 _ hu)
  obtain⟨d,as,sd,r⟩:=h v bX
  obtain⟨i,xs,rfl,_,_⟩:=K.tup d sd
  cases r with
  |@tuple a o us m _ S9 h1 h2 h3 h4 =>
   obtain⟨us⟩:=us
   cases h4 with
   |cons r rs =>
    cases r with
    |int _ t =>
     exact⟨_ :: fs,.cons h1 h2 h3 rfl f1,by simp[f2],fun f hf=>by
      rcases df.mp hf with rfl|hf
      ·exact⟨_,_,rfl⟩
      ·exact f3 f hf⟩
def Fu:Value->V
 |.ref a=>.ref a
 |_=>.non
theorem xT{n:Nat}{S:PyData->Prop}(K:Fn n S){h0:Heap}{d:PyData}{y:V}{v:Value}{as:List Addr}(sd:S d)(q:RelV y v)(r:Reads h0 v d as):Fu v=y:=by
 obtain⟨i,xs,rfl,_,_⟩:=K.tup d sd
 cases r with
 |tuple h1 h2 h3 h4 =>
  cases y with
  |ref b=>cases (show Value.ref _=Value.ref b from q);rfl
  |_=>simp[RelV] at q
theorem rN{n:Nat}{S:PyData->Prop}(K:Fn n S)(I:Inv X pins σ H s):∀ {ds:List PyData} {ys:List V} {vs:List Value},aS X.K H ds ys->Vals ys vs->(∀ d∈ds,S d)->vs.map (fun v=>(jo s.heap v,Fu v))=ds.zip ys
 |_,_,_,.nil,.nil,_=>rfl
 |_,_,_,.cons r rs,.cons q qs,h=>by
  obtain⟨as,z⟩:=r.reads I q
  have sd:=h _ bX
  obtain⟨_,_,_,l,_⟩:=K.tup _ sd
  rw[fo,fG z l,xT K sd q z,rN K I rs qs fun d hd=>h d (b5 _ hd),zI]
def lU(K:PySem.W.Frag)(n:Nat)(S:PyData->Prop):List V->Hp->VK->Prop:=fun xs H Q=>match xs with
 |[.ref p]=>∃ ys ds,ys.length<=63/\eB K H p ys/\aS K H ds ys/\(∀ d∈ds,S d)/\∀ (ps:List (PyData × V)) l,ps.Perm (ds.zip ys)->(ps.Pairwise fun a b=>b4 (n+1) b.1 a.1=false)->H l=none->Q (.ref l) (upd H l (.lst (ps.map (·.2))))
 |_=>False
theorem uE {n:Nat} {S:PyData->Prop} (K:Fn n S) (hu:X.A.units+n+40<cLine):kb X (.builtin "sorted") (lU X.K n S):=by
 intro pins s σ H xs us Q I r h
 unfold lU at h
 split at h
 ·rename_i p
  obtain⟨ys,ds,kD,hl,hr,hS,q⟩:=h
  obtain⟨u,rfl,ru⟩:=Vals.one r
  cases ru
  obtain⟨vs,rv,pl,hz⟩:=I.list hl
  have lay:∀ d∈ds,d.canLay0=true:=fun d hd=>by obtain⟨_,_,_,l,_⟩:=K.tup d (hS d hd);exact l
  have mem:=vX I hr rv
  have hlen:=rv.length
  refine sP.pM (κ:=tuples' true) (r:=fun v=>Fs (n+1) ds (jo s.heap v)) (P:=fun v=>∃ d as,d∈ds/\Reads s.heap v d as) pl.isList (by lia) (fun v hv=>?_) (fun h2 A' E' s' kp Q' q'=>?_) (fun h2 s' kp=>ym K kp hS (by show X.A.units+1+1+n+31<cLine;lia)) fun h' out m pm pw kp eo=>?_
  ·obtain⟨d,y,as,a,b,c,z⟩:=mem v hv
   exact⟨d,as,a,z⟩
  ·obtain⟨fs,f1,f2,f3⟩:=tU (h0:=s'.heap) K vs fun v hv=>by
    obtain⟨d,y,as,a,b,c,z⟩:=mem v hv
    exact⟨d,as,hS d a,PyProof.Rows.Reads.keeps kp z⟩
   refine PySem.W.kat_kind (T:=.type "int") f1 (by lia) (fun f hf=>?_) (by decide) q'
   obtain⟨i,t,rfl⟩:=f3 f hf
   exact .now
  ·have back:∀ v∈out,∃ d y as,d∈ds/\Rep X.K H d y/\RelV y v/\Reads s.heap v d as:=fun v hv=>mem v (pm.mem_iff.mp hv)
   have rel:∀ l:List Value,(∀ v∈l,v∈out)->Vals (l.map Fu) l:=by
    intro l
    induction l with
    |nil=>exact fun _=>.nil
    |cons v l ih =>
     intro hm
     obtain⟨d,y,as,a,b,c,z⟩:=back v (hm v bX)
     exact .cons (by rw[xT K (hS d a) c z];exact c) (ih fun u hu=>hm u (b5 _ hu))
   have z2:=rel out fun _ h=>h
   have ol:=pm.length_eq
   have e2:(out.map fun v=>(jo s.heap v,Fu v)).map (·.2)=out.map Fu:=by rw[js];rfl
   have q':=q (out.map fun v=>(jo s.heap v,Fu v)) (s.heap.objs.size+1) (by rw[<- rN K I hr rv hS];exact pm.map _) ?_ (I.aE.fresh (D4 _))
   ·rw[e2] at q'
    exact⟨.ref (s.heap.objs.size+1),_,I.laid (a:=s.heap.objs.size+1) (t':=s.toks) kp (D4 _) (show eP X.prog X.w _ h' _ (.lst (out.map Fu)) from⟨by rw[bT];lia,out,m,z2,eo⟩),rfl,q'⟩
   rw[ly]
   refine pw.imp_of_mem fun {x y} mx my hle=>?_
   obtain⟨d,_,as,md,_,_,rd⟩:=back x mx
   obtain⟨e,_,bs,me,_,_,re⟩:=back y my
   rw[fG rd (lay d md),fG re (lay e me)] at *
   have:=z8 K.ae hS me (hS d md)
   rw[<- this]
   exact decide_eq_false (by lia)
 ·exact h.elim
end
end L2
namespace L2.Q
open PySem PySem.Spec PyProof.Rows PySem.SeqAt
section
variable {X:Cx}{K:PySem.W.Frag}{Hs H:Hp}
theorem ir(xs:List D):kX xs=xs.map D.py:=by
 induction xs with
 |nil=>rfl
 |cons x xs ih=>rw[kX,ih];rfl
theorem yp{xs:List D}:∀ {vs:List V},aS K H xs vs->∀ p∈xs.zip vs,Rep K H p.1 p.2:=by
 induction xs with
 |nil=>intro vs r p hp;simp at hp
 |cons x xs ih =>
  intro vs r p hp
  obtain⟨u,us,rfl,r1,rs⟩:=r.c
  rw[zI] at hp
  rcases df.mp hp with rfl|hp
  ·exact r1
  ·exact ih rs p hp
theorem uv(l:List (D × V))(h:∀ p∈l,Rep K H p.1 p.2):aS K H (l.map (·.1)) (l.map (·.2)):=by
 induction l with
 |nil=>exact .nil
 |cons p l ih=>exact .cons (h p bX) (ih fun q hq=>h q (b5 _ hq))
def zY(n:Nat)(S:PyData->Prop):W1:=fun m x Q=>match x with
 |.list xs=>m=.sh/\xs.length<=63/\(∀ d∈xs,cq 12 d=true/\S d.py)/\∀ ms:List D,ms.Perm xs->(ms.Pairwise fun a b=>b4 (n+1) b.py a.py=false)->Q (.ow false) (.list ms)
 |_=>False
theorem yK{n:Nat}{S:PyData->Prop}:A2 K (lU K n S) (zY n S):=by
 intro Hs H m x v As Qd Qv w rx h f
 have r1:=rx.rep w
 cases r1 with
 |@list _ _ P0 z s q =>
  obtain⟨rfl,kD,hS,h⟩:=h
  obtain⟨_,rx⟩:=rx
  cases rx with
  |@list _ eS _ z' s' q' =>
   have hl:=q'.length
   have ez:(kX P0).zip eS=(P0.zip eS).map fun p=>(p.1.py,p.2):=by
    rw[ir,List.zip_map_left]
    rfl
   refine⟨_,kX P0,by lia,ay.seq w.sub s',Rep.R0.2 (q'.same w.sub) 12 fun d hd=>(hS d hd).1,fun d hd=>?_,fun ps l hp hw hn=>?_⟩
   ·rw[ir] at hd
    obtain⟨e,he,rfl⟩:=b9.mp hd
    exact(hS e he).2
   ·obtain⟨m',rfl,pm⟩:=TS.iI hp ez
    have p1:(m'.map (·.1)).Perm P0:=by
     have:=pm.map (·.1)
     rwa[NQ (FT hl)] at this
    have rr:=uv (K:=K) (H:=Hs) m' fun p hp=>yp q' p (pm.mem_iff.mp hp)
    rw[show(m'.map fun p=>(p.1.py,p.2)).map (·.2)=m'.map (·.2) by rw[js];rfl]
    refine f.MK w (by rw[p1.length_eq];lia) rr (h _ p1 ?_) l hn
    rw[ly] at hw ⊢
    exact hw
 |_=>exact h.elim
theorem E_ {n:Nat} {S:PyData->Prop} (KS:Fn n S) (hu:X.A.units+n+40<cLine) (hK:X.K=K:=by rfl):kb X (.builtin "sorted") (lU K n S):=by subst hK;exact uE KS hu
end
end L2.Q
namespace L2
open PySem PySem.Spec PyProof.Rows PySem.SeqAt
section
variable {X:Cx}
def Cz(K:PySem.W.Frag):V->List V->Hp->VK->Prop:=fun x xs H Q=>∃ l ys ds y d,∃ j:Nat,x=.ref l/\xs=[y]/\eB K H l ys/\aS K H ds ys/\Rep K H d y/\(∀ e∈ds,e.canLay0=true/\e.depth<=20)/\d.canLay0=true /\
 (∃ e,ds[j]? = some e/\PyData.eqv e d=true)/\(∀ (m:Nat) e,m<j->ds[m]? = some e->PyData.eqv e d=false)/\Q (.int j) H
theorem yh (hu:X.A.units+64<cLine):Rf X "list.index" (Cz X.K):=by
 intro pins s σ H x vs v us Q I rx rv h
 obtain⟨l,ys,ds,y,d,j,rfl,rfl,hl,hr,hd,hS,ld,⟨e,ej,eq⟩,tS,q⟩:=h
 cases rx
 obtain⟨u,rfl,ru⟩:=Vals.one rv
 obtain⟨its,Xv,pl,hz⟩:=I.list hl
 obtain⟨as,rd⟩:=hd.reads I ru
 obtain⟨bs,ra⟩:=aS.reads I hr Xv
 have len:its.length=ds.length:=ReadsAll.length _ _ _ ra
 have at':∀ (m:Nat) (v:Value),its[m]? = some v->∃ e cs,ds[m]? = some e/\Reads s.heap v e cs/\jo s.heap v=e:=fun m v hv=>by
  obtain⟨e,cs,h1,h2⟩:=cH ra m v hv
  exact⟨e,cs,h1,h2,fG h2 (hS e (ll h1)).1⟩
 have jl:j<ds.length:=(iN.mp ej).1
 have Xw:j<its.toArray.size:=by rw[hX];lia
 have zs:sizeLine<2 ^ 62:=by rw[sizeLine_eq];decide
 have hlen:=Xv.length
 obtain⟨⟨cls,dd,data,sl⟩,ho,hc,n,Nf⟩:=id pl.isList
 simp only at hc Nf
 subst hc Nf
 refine call_meets F.slot_list_index ⟨_,ho,rfl⟩ F.entry_list_index (F.args_list_index_2 _ _) (list_indexAt l its.toArray n dd sl u (fun v=>PyData.eqv (jo s.heap v) d) j Xw (by lia) ?_ fun m hm h'=>?_) ⟨ho,fun v hv=>?_,⟨.int j,H,I.tok _,⟨_,rfl⟩,q⟩⟩
 ·obtain⟨e',cs,h1,_,h3⟩:=at' j its.toArray[j] (by simp at Xw ⊢)
  rw[h3]
  rw[ej] at h1
  cases h1
  exact eq
 ·obtain⟨e',cs,h1,_,h3⟩:=at' m its.toArray[m] (by simp at hm ⊢)
  rw[h3]
  exact tS m e' h' h1
 ·obtain⟨m,hm⟩:=Ki.mp (show v∈its by simpa using hv)
  obtain⟨e',cs,h1,h2,h3⟩:=at' m v hm
  rw[h3]
  have:=hS e' (ll h1)
  exact eqAt_reads e' d X.A.in1 s _ _ _ _ h2 rd this.1 ld (by show X.A.units+1+_<cLine;lia)
end
end L2
namespace L2.Q
open PySem PySem.Spec PyProof.Rows PySem.SeqAt
end L2.Q
namespace L2.Q.R
open PySem PySem.Spec PyProof.Rows L2.Q PySem.SeqAt
end L2.Q.R
namespace L2
open PySem PySem.Spec PyProof.Rows PySem.SeqAt
section
variable {X:Cx}
def Dr(K:PySem.W.Frag):R2:=fun x y H Q=>∃ l xs n,x=.ref l/\y=.int n/\eB K H l xs/\0<=n/\n<=1000/\xs.length<=1000/\∀ p,H p=none->Q (.ref p) (upd H p (.lst (List.replicate n.toNat xs).flatten))
theorem yf{xs:List V}{vs:List Value}(h:Vals xs vs)(k:Nat):Vals (List.replicate k xs).flatten (List.replicate k vs).flatten:=by
 induction k with
 |zero=>exact .nil
 |succ k ih=>rw[tF,tF,vk,vk];exact h.append ih
theorem sV{α:Type}(xs:List α)(k:Nat):(List.replicate k xs).flatten.length=xs.length*k:=by
 induction k with
 |zero=>rfl
 |succ k ih=>rw[tF,vk,kA,ih,Nat.mul_succ];lia
theorem Az:cS X (binaryOp .Mult) (Dr X.K):=by
 intro pins s σ H x y v u Q I rx ry h
 obtain⟨l,xs,n,rfl,rfl,hH,h0,h1,h2,q⟩:=h
 cases rx
 obtain⟨t,rfl⟩:=ry
 obtain⟨its,r,pl,z⟩:=I.list hH
 have hl:=r.length
 obtain⟨⟨cls,dd,data,sl⟩,ho,hc,k,hd⟩:=id pl.isList
 simp only at hc hd
 subst hc hd
 have hm:its.toArray.size*n.toNat<=1000*1000:=B1 (by rw[hX];lia) (by lia)
 have hsz:=sizeLine_eq
 refine wpAny_binaryOp_repeat_ref (T := "list") (U := "int") (by decide) ⟨_,ho,rfl⟩ (fun s'=>typeIs_int s' n t) noFill_list_mul PySem.F.fills_int_mul PySem.F.slot_int_rmul repeat_list PySem.F.slot_int_index.lookup
  (call_meets PySem.F.slot_int_rmul (typeIs_int s n t) PySem.F.entry_int_rmul (PySem.F.args_int_rmul_2 _ _) (lm_int_rmul_list_any n t l its.toArray k dd sl)
   ⟨ho,rfl,⟨_,ho,rfl⟩,call_meets PySem.F.slot_list_mul ⟨_,ho,rfl⟩ PySem.F.entry_list_mul (PySem.F.args_list_mul_2 _ _)
    (lm_list_mul_any l its.toArray k dd sl n t (by simp[Builtin.List.listFitsIndex];lia) (by lia) (by simp only[Builtin.List.listTooLong,decide_eq_true_eq];lia))
    ⟨ho,?_⟩⟩)
 rw[listMul_foldl_if]
 exact⟨.ref _,_,I.Rk (t':=s.toks) (yf r _) (by
  rw[sV]
  have:xs.length*n.toNat<=1000*1000:=B1 h2 (by lia)
  lia),rfl,q _ I.fresh⟩
end
theorem i3.sub{lt:PyData->PyData->Bool}{S U:PyData->Prop}(T:i3 lt S)(h:∀ x,U x->S x):i3 lt U :=
 ⟨fun x a=>T.oC x (h x a),fun x y z a b c=>T.tr x y z (h x a) (h y b) (h z c),fun x y a b=>T.ae x y (h x a) (h y b),fun x y a b=>T.eqv x y (h x a) (h y b)⟩
def lg(p:Str × Int):PyData:=.tuple [.str p.1,.int p.2]
def tq(x:PyData):Prop:=∃ (i:Int) (ps:List (Str × Int)),x=.tuple [.int i,.list (ps.map lg)]/\∀ p∈ps,PyData.strOk p.1=true
theorem Bx(p q:Str × Int):oj 1 (lg p) (lg q):=by
 unfold lg
 rw[oj]
 intro j x y hx hy _
 match j with
 |0=>cases hx;cases hy;rw[oj];trivial
 |1=>cases hx;cases hy;rw[oj];trivial
 |j+2=>simp at hx
theorem Df(ps:List (Str × Int))(h:∀ p∈ps,PyData.strOk p.1=true):PyData.canLayAll0 (ps.map lg)=true/\PyData.depthAll (ps.map lg)<=2:=by
 induction ps with
 |nil=>exact⟨rfl,by simp[PyData.depthAll]⟩
 |cons p ps ih =>
  have ih:=ih fun q hq=>h q (b5 _ hq)
  have hp:=h p bX
  rw[fo]
  constructor
  ·simp only[PyData.canLayAll0,kQ]
   refine⟨?_,ih.1⟩
   simp[lg,PyData.canLay0,PyData.canLayAll0,hp]
  ·have h2:=ih.2
   simp only[PyData.depthAll]
   have:(lg p).depth<=2:=by simp[lg,PyData.depth,PyData.depthAll]
   lia
theorem P1:Fn 2 tq where
 ae:=((i3.pair (i3.int 2) (i3.list (i3.pair (i3.str 0) (i3.int 0)))).sub) fun x ⟨i,ps,e,_⟩=>⟨_,_,e,⟨i,rfl⟩,_,rfl,fun y hy=>by
  obtain⟨p,_,rfl⟩:=b9.mp hy
  exact⟨_,_,rfl,⟨_,rfl⟩,_,rfl⟩⟩
 tup:=by
  rintro x ⟨i,ps,rfl,h⟩
  have:=Df ps h
  refine⟨i,_,rfl,?_,?_⟩
  ·simp[PyData.canLay0,PyData.canLayAll0,this.1]
  ·simp only[PyData.depth,PyData.depthAll];lia
 len:=by
  rintro xs ys ⟨i,ps,e,_⟩ ⟨j,qs,e2,_⟩
  cases e;cases e2;rfl
 cm:=by
  rintro x y ⟨i,ps,rfl,_⟩ ⟨j,qs,rfl,_⟩
  rw[oj]
  intro k x y hx hy _
  match k with
  |0=>cases hx;cases hy;rw[oj];trivial
  |1 =>
   cases hx;cases hy
   rw[oj]
   intro k x y hx hy _
   obtain⟨p,_,rfl⟩:=b9.mp (ll hx)
   obtain⟨q,_,rfl⟩:=b9.mp (ll hy)
   exact Bx p q
  |k+2=>simp at hx
end L2
namespace L2.Q
open PySem PySem.Spec PyProof.Rows PySem.SeqAt
section
variable {X:Cx}{K:PySem.W.Frag}{a b:Expr}{ta tb:WE}{pos:Pos}
def zm:W2:=fun _ x _ y Q=>match x with
 |.list xs=>match y with
  |.int n=>(0<=n/\n<=1000/\xs.length<=1000)/\cv xs=true/\Q (.ow true) (.list (List.replicate n.toNat xs).flatten)
  |_=>False
 |_=>False
theorem yI{H:Hp}{xs:List D}{vs:List V}(h:aS K H xs vs)(k:Nat):aS K H (List.replicate k xs).flatten (List.replicate k vs).flatten:=by
 induction k with
 |zero=>exact .nil
 |succ k ih=>rw[tF,tF,vk,vk];exact h.append ih
theorem vD{xs:List D}(h:cv xs=true)(k:Nat):cv (List.replicate k xs).flatten=true:=by
 induction k with
 |zero=>rfl
 |succ k ih=>rw[tF,vk,dY,h,ih];rfl
theorem Dw:kr K (Dr K) zm:=by
 intro Hs H m x v As n y u Bs Qd Qv w rx ry h f
 have r1:=rx.rep w
 have r2:=ry.rep w
 cases r1 with
 |list z s q=>cases r2 with
  |int n =>
   obtain⟨⟨h0,h1,h2⟩,fl,h⟩:=h
   have hl:=q.length
   refine⟨_,_,_,rfl,rfl,s,h0,h1,by lia,?_⟩
   refine f.lst w ?_ (yI q _) (vD fl _) h
   rw[sV,sizeLine_eq]
   have:List.length _*n.toNat<=1000*1000:=B1 h2 (by lia)
   exact gS this (by decide)
  |_=>exact h.elim
 |_=>exact h.elim
theorem Ig(hK:X.K=K:=by rfl):cS X (binaryOp .Mult) (Dr K):=by subst hK;exact Az
theorem Er(ha:QE X K a ta)(hb:QE X K b tb)(hK:X.K=K:=by rfl):QE X K (.BinOp a .Mult b pos) (aT zm ta tb):=CL (Ig hK) Dw ha hb
def rT(to te:WE):WE:=fun ρ Q=>to ρ fun _ x=>match x with
 |.list xs=>te ρ fun _ y=>cq 12 (.list xs)=true/\cq 12 y=true/\∃ j:Nat,(∃ z,xs[j]? = some z/\gu z y=true)/\(∀ (i:Nat) z,i<j->xs[i]? = some z->gu z y=false)/\Q .sh (.int j)
 |_=>False
theorem Cg{o e:Expr}{to te:WE}{apos dz:Pos}(hu:X.A.units+64<cLine)(ho:QE X K o to)(he:QE X K e te)(hK:X.K=K:=by rfl)
  (ua:attributeBase o "index" X.env (eval o X.env)=eval o X.env:=by rfl)
  (w9:((backTo dz (starEach [e] X.env)).all (fun x=>!x.1) && (backToKw dz (keywordEach [] X.env)).all (fun x=>x.1.isSome)
   && decide ([e].length+([]:List Keyword).length+(if ([]:List Keyword).isEmpty then 0 else 1)<30))=true:=by rfl)
  (hline:(apos.endLine == dz.line)=true:=by rfl) (xS:starEach (e :: []) X.env=(false,eval e X.env) :: starEach [] X.env:=by rfl) (AO:(backTo dz (starEach [] X.env)).any (·.1)=false:=by rfl) :
  QE X K (.Call (.Attribute o "index" apos) [e] [] dz) (rT to te):=by
 subst hK
 refine PE.imp (L4 PySem.F.plainAttrs_list PySem.F.slot_list_index PySem.F.type_list_index (yh hu) ho (nI he qB xS) ua w9 hline xS AO) fun σ H Qv hx=>iE hx fun Hs ρ ae Q sr h f=>?_
 refine⟨Hs,ρ,ae,_,sr,h,fun v H1 aC m x As g1 r1 f1 q1=>?_⟩
 have r:=r1.rep g1.wf
 cases r with
 |list hz s rs =>
  refine⟨.inl ⟨rfl,_,s⟩,aC,ρ,ae,_,sr.grow g1,q1,fun y H2 ax m2 x2 fE g2 r2 f2 q2=>?_⟩
  obtain⟨o1,o2,j,⟨z,ez,eq⟩,tS,q⟩:=q2
  have rr:=(r1.grow g2).rep g2.wf
  cases rr with
  |list A9 s' DB =>
   have l2:=iK 12 _ o2
   have Xx:∀ d∈_,cq 11 d=true:=Kx.mp (show List.all _ (cq 11)=true from o1)
   refine⟨_,_,_,_,_,j,rfl,rfl,s',Rep.R0.2 DB 11 Xx,(r2.rep g2.wf).l2 o2,fun e he=>?_,l2.1,⟨z.py,?_,eq⟩,fun m e hm he=>?_,Fin.sh (Fin.after f (g1.trans g2)) g2.wf (.int _) q⟩
   ·rw[ir] at he
    obtain⟨d,hd,rfl⟩:=b9.mp he
    have:=iK 11 d (Xx d hd)
    exact⟨this.1,by lia⟩
   ·rw[ir,ny,ez];rfl
   ·rw[ir,ny] at he
    obtain⟨d,hd,rfl⟩:=K0.mp he
    exact tS m d hm hd
 |_=>exact q1.elim
abbrev vp:W1:=zY 2 tq
theorem Em (hu:X.A.units+64<cLine) (hK:X.K=K:=by rfl):kb X (.builtin "sorted") (lU K 2 tq):=E_ P1 (by lia) hK
theorem yQ:A2 K (lU K 2 tq) vp:=yK
end
end L2.Q
namespace L2.Q.R
open PySem PySem.Spec PyProof.Rows L2.Q PySem.SeqAt
section
variable {Q:Md->L2.Q.D->Prop}{m m':Md}{x y:L2.Q.D}{xs:List L2.Q.D}{Xy te:WE}{ρ:Env}{a:Int}
theorem Jw:zm m (.list xs) m' (.int a) Q=((0<=a/\a<=1000/\xs.length<=1000)/\cv xs=true/\Q (.ow true) (.list (List.replicate a.toNat xs).flatten)):=rfl
theorem Ii:rT Xy te ρ Q=Xy ρ fun _ x=>bE x (f:=fun x=>rV x fun xs=>te ρ fun _ y=>cq 12 (.list xs)=true/\cq 12 y=true/\∃ j:Nat,(∃ z,xs[j]? = some z/\gu z y=true)/\(∀ (i:Nat) z,i<j->xs[i]? = some z->gu z y=false)/\Q .sh (.int j)) ⟨⟩:=by unfold rT bE rV;rfl
theorem HB:vp m (.list xs) Q=(m=.sh/\xs.length<=63/\(∀ d∈xs,cq 12 d=true/\tq d.py)/\∀ ms:List L2.Q.D,ms.Perm xs->(ms.Pairwise fun a b=>PySem.SeqAt.b4 3 b.py a.py=false)->Q (.ow false) (.list ms)):=rfl
end
end L2.Q.R
namespace L2
open PySem PySem.Spec PyProof.Rows
end L2
namespace L2.Q
open PySem PySem.Spec PyProof.Rows
section
variable {X:Cx}{K:PySem.W.Frag}{a b c e:Expr}{ta tb te:WE}{pos p2:Pos}
def P4(ta tb:WE):WE:=fun ρ Q=>ta ρ fun m x=>m=.ow true/\match x with
 |.list xs=>tb ρ fun _ y=>intD y fun k=>∃ d,L2.eT xs k=some d/\Q (Nh d) d
 |_=>False
theorem IW(ha:QE X K a ta)(hb:QE X K b tb)(hs:Ox b:=by exact fun _ _=>rfl)(hK:X.K=K:=by rfl):QE X K (.Subscript a b pos) (P4 ta tb):=by
 refine PE.imp (Rg (kIx hK) ha hb hs) fun σ H Qv hx=>iE hx fun Hs ρ ae Q sr h f=>?_
 refine⟨Hs,ρ,ae,_,sr,h,fun v H1 aC m x As g1 r1 f1 q1=>?_⟩
 obtain⟨rfl,q1⟩:=q1
 obtain⟨r1,ne⟩:=r1
 cases r1 with
 |sh _ r=>exact absurd rfl ne
 |@list a vs xs As z e rs =>
  refine⟨aC,ρ,ae,_,sr.grow g1,q1,fun u H2 ax m2 y Bs g2 r2 f2 q2=>?_⟩
  have ry:=r2.rep g2.wf
  cases ry with
  |int k =>
   obtain⟨d,e3,q⟩:=q2
   obtain⟨j,ej,ed⟩:=F_ e3
   have nd:As.Nodup:=(ja.mp f1.1).2
   obtain⟨w,B,ew,kR,sB,_⟩:=rs.at ed nd
   have r3:=kR.grow g2.sh g2.all
   refine .inl ⟨vs,w,.inl (.inl (g2.all _ _ e)),t_ (by rw[<- rs.length];exact ej) ew,?_⟩
   cases hf:d.flat with
   |true =>
    rw[Nh,hf] at q
    exact f w H2 ax .sh d [] (g1.trans g2) ⟨rfl,(r3.rep g2.wf.sub fun _ _=>rfl).eZ g2.wf.iO hf⟩ ⟨lP,fun _ h=>uk h⟩ q
   |false =>
    rw[Nh,hf] at q
    refine f w H2 ax (.ow true) d B (g1.trans g2) ⟨r3,r3.ne hf⟩ ⟨sB.nodup nd,fun c hc=>?_⟩ q
    have:=f1.2 c (b5 _ (sB.subset hc))
    exact⟨g2.kU this.1 (kR.own c hc).ne,this.2⟩
  |_=>exact q2.elim
 |_=>exact q1.elim
theorem SR.view{Hs H:Hp}(G:Hp)(s:ay Hs H){ρ:Env}{σ:St}{ae:List Addr}(r:SR K Hs H ρ σ ae):SR K H G (ρ.map (Option.map MV)) σ []:=by
 induction r with
 |nil=>exact .nil
 |non _ ih=>exact .non ih
 |sh r _ ih=>exact .sh (r.same s) ih
 |xc _ ih=>exact .xc ih
 |ow _ r _ ih=>exact .sh (r.rep s fun _ _=>rfl) ih
 |lk _ r _ ih=>exact .sh (r.rep s fun _ _=>rfl) ih
def P5(i j:Nat)(hs xs:List D)(ρ:Env):Env:=(ρ.set j none).set i (some (.ow true (.list (hs++[.list xs]))))
def Tc(i j:Nat)(hs xs:List D)(ρ:Env):Env:=((P5 i j hs xs ρ).map (Option.map MV)).set j (some (.sh (.list xs)))
def eA'(o:Option Sl)(k:Sl->Prop):Prop:=match o with
 |some s=>k s
 |none=>False
def wX(i j:Nat)(te:WE):WS:=fun E ρ=>Fh ρ[i]? fun hs=>Fh ρ[j]? fun xs=>cv xs=true/\hs.length<sizeLine /\
 te (Tc i j hs xs ρ) fun m d=>eA' (asg (pE m d) d) fun sl=>E.nx ((P5 i j hs xs ρ).set j (some sl))
theorem za{L:Str->Hp->Prop}{i j:Nat}{x:Str}{p1 p2 p3 pos':Pos}(hN:X.N.Nodup)(hj0:X.N[j]? = some x)(hx:Loc X.env.scope x)(hi:PE X a (y0 i))(hj:PE X b (y0 j))(he:QE X K e te)(fS:i≠j:=by decide)(hK:X.K=K:=by rfl)
  (s1:swapsWith (.Call (.Attribute a "append" p1) [b] [] p2) none pos.line X.env=pure false:=by rfl) (b1:attributeBase a "append" X.env (eval a X.env)=eval a X.env:=by rfl)
  (f1:((backTo p2 (starEach [b] X.env)).all (fun x=>!x.1) && (backToKw p2 (keywordEach [] X.env)).all (fun x=>x.1.isSome) && decide ([b].length+([]:List Keyword).length+(if ([]:List Keyword).isEmpty then 0 else 1)<30))=true:=by rfl)
  (l1:(p1.endLine == p2.line)=true:=by rfl) (t1:starEach (b :: []) X.env=(false,eval b X.env) :: starEach [] X.env:=by rfl) (q1:(backTo p2 (starEach [] X.env)).any (·.1)=false:=by rfl)
  (hs:swapsWith e (some (.Name x p3)) pos'.line X.env=pure false:=by rfl) (hf:X.fn x=true\/X.env.scope.names.lookup x=some .local:=by first|exact .inl rfl|exact .inr rfl|assumption) :
  pz X K L [.Expr (.Call (.Attribute a "append" p1) [b] [] p2) pos,.Assign [.Name x p3] e pos'] (wX i j te):=by
 subst hK
 refine mB.imp (Va (LG (L4 PySem.F.plainAttrs_list PySem.F.slot_list_append PySem.F.type_list_append OD hi (nI hj qB t1) b1 f1 l1 t1 q1) s1)
  (Vb (Og hN hj0 hx he hs hf))) fun D σ H hx=>dg hx fun Hs ρ ae E sr h k1 k2 k3 k4=>?_
 obtain⟨hs,ei,h⟩:=zW h
 obtain⟨xs,ej,fl,E9,h⟩:=zW h
 obtain⟨a,ws,c,vs,dv,u1,u2,u3,u4,u5,u6,u7,fP⟩:=Dn fS sr ei ej fl E9
 refine⟨_,u1,.inl ⟨rfl,_,.inl (.inl u2)⟩,_,u4,a,ws,_,rfl,rfl,u2,u3,?_⟩
 have rc:Rep X.K (upd H a (.lst (ws++[.ref c]))) (.list xs) (.ref c):=.list u7 (.inl (.inl u5)) (u6.same fP.wf.sub)
 have v0:=SR.view (upd H a (.lst (ws++[.ref c]))) fP.wf.sub fP.sr
 obtain⟨t,st,v1⟩:=v0.xf rc j
 have e0:σ.set j (some (.ref c))=σ:=by
  apply DM
  intro m
  by_cases hm:j=m
  ·subst hm;rw[Qe (by have:=(iN.mp u4).1;exact this),u4]
  ·rw[Kj hm]
 rw[e0] at v1
 have et:t=[]:=List.eq_nil_of_subset_nil st.subset
 subst et
 refine⟨upd H a (.lst (ws++[.ref c])),_,[],_,⟨v1,⟨ay.refl _,fun _ _ z=>z⟩,lP,fun _ h=>uk h⟩,h,fun v H1 aC m d As g1 r1 f1 q1=>?_⟩
 obtain⟨fz,r',fr⟩:=nF fP.wf g1.sh g1.wf r1 f1.1 fun a ha=>(f1.2 a ha).1
 have gb:=dU fP.wf g1.sh g1.wf
 cases ea:asg (pE m d) d with
 |none=>rw[ea] at q1;exact q1.elim
 |some sl =>
  rw[ea] at q1
  obtain⟨bS,s'⟩:=(fP.grow gb).set j r' fr.1 (fun a ha=>⟨(fr.2 a ha).1,fun m=>(fP.sr.own a m).ne (fr.2 a ha).2⟩) ea
  exact k1 _ H1 _ _ bS gb.sh s' q1
end
end L2.Q
namespace L2.Q.R
open PySem PySem.Spec PyProof.Rows L2.Q
section
variable {Q:Md->L2.Q.D->Prop}{m:Md}{x y:L2.Q.D}{xs:List L2.Q.D}{ta tb te:WE}{ρ:L2.Q.Env}{E:pY}{i j:Nat}
theorem Lr:P4 ta tb ρ Q=ta ρ fun m x=>m=.ow true/\bE x (f:=fun x=>rV x fun xs=>tb ρ fun _ y=>bE y (f:=fun y=>intD y fun k=>∃ d,L2.eT xs k=some d/\bE d (f:=fun d=>Q (Nh d) d) ⟨⟩) ⟨⟩) ⟨⟩:=by unfold P4 bE rV;rfl
theorem Iw:wX i j te E ρ=bE ρ[i]? (f:=fun o=>Fh o fun hs=>bE ρ[j]? (f:=fun o=>Fh o fun xs=>cv xs=true/\hs.length<sizeLine /\
 te (Tc i j hs xs ρ) fun m d=>bE (asg (pE m d) d) (f:=fun o=>put o fun sl=>E.nx ((P5 i j hs xs ρ).set j (some sl))) ⟨⟩) ⟨⟩) ⟨⟩:=rfl
end
end L2.Q.R
namespace TS
open PySem PySem.SetTable PyProof.Rows
section
variable {prog:Program}{w:World}{K:Type}[DecidableEq K]{knd:KeyKind prog w K}{A:Around}{E:Value->Shared->Prop}{s:Shared}
theorem mO{l:Addr}{items:Array Value}{xs:List (List K × Addr)}{Q:Value->Shared->Prop}(hh:A.handled=none)(hu:A.units+8<cLine)(hl:s.heap.IsList l items)(hi:items.toList=xs.map fun p=>Value.ref p.2)
  (qa:∀ p∈xs,IsTupleKey knd s.heap p.1 p.2) {U:List (List K)} (hU:U.length<=63) (hxU:∀ p∈xs,p.1∈U) (xa:∀ k v,knd.is k v=true->v.scannable=true)
  (h:∀ h' tk ks,A6 knd h' s.heap.objs.size ks->(∀ k,k∈ks.map (·.1)↔k∈xs.map (·.1))->(∀ p∈ks,p∈xs)->(∀ b o,s.heap.get? b=some o->h'.get? b=some o)->Q (.ref s.heap.objs.size) { s with heap:=h',toks:=tk }) :
  wpAny (model prog w) A (call (.type "set") [.ref l]) Q E s:=by
 have lt:∀ p∈xs,p.2<s.heap.objs.size:=fun p hp=>by
  obtain⟨o,_,_,ho,_⟩:=qa p hp
  exact dy ho
 have few:∀ {h:Heap} (ks:List (List K × Addr)),A6 knd h s.heap.objs.size ks->(∀ p∈ks,p∈xs)->ks.length<1000:=fun {h} ks S m=>by
  have:=TS.cF S.nd (m:=U) fun k hk=>by
   obtain⟨p,hp,rfl⟩:=b9.mp hk
   exact hxU p (m p hp)
  rw[bT] at this
  lia
 refine iG hh hl (fun i h=>∃ ks,A6 knd h s.heap.objs.size ks/\(∀ k,k∈ks.map (·.1)↔k∈(xs.take i).map (·.1))/\(∀ p∈ks,p∈xs)/\ks.length<=i/\∀ p∈xs,IsTupleKey knd h p.1 p.2) (fun h e k=>?_) (fun i h h' ⟨ks,S,m1,m2,m3,m4⟩ k=>?_) (fun i v s' E' Q' hv ⟨ks,S,m1,m2,m3,m4⟩ q=>?_) fun h' tk ⟨ks,S,m1,m2,m3,m4⟩ k=>?_
 ·exact⟨[],⟨⟨_,#[],0,_,e,⟨rfl,rfl,rfl⟩,rfl,rH _,(by show 7<=8191;decide),rfl,rfl⟩,lP,fun p hp=>nomatch hp⟩,fun k=>by simp,(fun p hp=>nomatch hp),ck _,fun p hp=>IsTupleKey.eh (qa p hp) fun o ho=>k _ _ ho⟩
 ·obtain⟨⟨o,es,ep,t,ho,r⟩,nd,is⟩:=S
  exact⟨ks,⟨⟨o,es,ep,t,k _ _ (ck _) ho,r⟩,nd,fun p hp=>IsTupleKey.eh (is p hp) fun o ho=>k _ _ (ot (lt p (m2 p hp))) ho⟩,m1,m2,m3,fun p hp=>IsTupleKey.eh (m4 p hp) fun o ho=>k _ _ (ot (lt p hp)) ho⟩
 ·have x5:items.toList[i]? = some v:=by rw[sF];exact hv
  rw[hi,ny] at x5
  cases ex:xs[i]? with
  |none=>rw[ex] at x5;cases x5
  |some p =>
   rw[ex] at x5
   cases x5
   have hp:=ll ex
   have W8:i<xs.length:=(iN.mp ex).1
   have Sz:(xs.take (i+1)).map (·.1)=(xs.take i).map (·.1)++[p.1]:=by
    rw[DS,ex,sC];rfl
   unfold setAdd
   refine wpAny_holding (ag (wpAny_pyHash_tuple (by show A.units+3<cLine;lia) (m4 p hp) ?_))
   refine Aa (s:={ s' with toks:=s'.toks+(p.1.length+1) }) S (m4 p hp) (few ks S m2) (by show A.units+3<cLine;lia) xa fun b h' fm sb S' c=>?_
   refine q b h' _ sb ⟨fm,S',fun k=>?_,fun p' eI=>?_,?_,fun p' eI=>IsTupleKey.eh (m4 p' eI) fun o ho=>sb.extBut _ _ (eM (lt p' eI)) ho⟩
   ·rw[Sz,dS,nv,<- m1]
    rcases c with⟨c1,rfl⟩|⟨c1,c2⟩
    ·exact⟨.inl,fun z=>z.elim id fun e=>e ▸ c1⟩
    ·rw[(c2.map _).mem_iff,fo,df]
     exact⟨fun z=>z.symm,fun z=>z.symm⟩
   ·rcases c with⟨c1,rfl⟩|⟨c1,c2⟩
    ·exact m2 p' eI
    ·rcases df.mp (c2.mem_iff.mp eI) with rfl|z
     ·exact hp
     ·exact m2 p' z
   ·rcases c with⟨c1,rfl⟩|⟨c1,c2⟩
    ·lia
    ·rw[c2.length_eq];simp;lia
 ·have e:items.size=xs.length:=by
   have:=congrArg List.length hi
   simpa using this
  rw[e,z0] at m1
  exact h h' tk ks S m1 m2 fun b o ho=>k b o (dy ho) ho
end
end TS
namespace L2
open PySem PySem.Spec PyProof.Rows
def gw(K:PySem.W.Frag):V->Hp->VK->Prop:=fun x H Q=>match x with
 |.ref p=>∃ ys ks b0 sh,eB K H p ys/\(∃ U:List (List Key),U.length<=63/\∀ k∈ks,k∈U)/\bB H ys ks/\(∀ k∈ks,gE k=b0 :: sh) /\
   ∀ zs ms l,bB H zs ms->ms.Nodup->(∀ k,k∈ms↔k∈ks)->(ms.Pairwise fun a b=>fi b a=false)->H l=none->Q (.ref l) (upd H l (.lst zs))
 |_=>False
section
variable {X:Cx}{e:Expr}{te:TE}{p p2 pos rX:Pos}
theorem qU (hc:X.calm=true) (hu:X.A.units+64<cLine) (hg:Gl X "sorted") (hm:X.mg "sorted" = none) (E8:Gl X "set") (n5:X.mg "set" = none) (he:PE X e te)
  (hv:bootBuiltins "sorted" = some (.builtin "sorted")) (SD:bootBuiltins "set" = some (.type "set"))
  (nS:starEach [e] X.env=(false,eval e X.env) :: starEach [] X.env:=by rfl)
  (hs:starEach [.Call (.Name "set" p2) [e] [] rX] X.env=(false,eval (.Call (.Name "set" p2) [e] [] rX) X.env) :: starEach [] X.env:=by rfl) :
  PE X (.Call (.Name "sorted" p) [.Call (.Name "set" p2) [e] [] rX] [] pos) (QR (gw X.K) te):=by
 intro pins s σ H Q I h
 refine wpAny_Call_Name_kw (AF I hg hm hv ?_ (by decide) (by decide))
 refine PyProof.Rows.callWith_builtin1 ?_ hs rfl
 rw[hs]
 refine Calls.spliced_cons ?_
 refine wpAny_Call_Name_kw (AF I E8 n5 SD ?_ (by decide) (by decide))
 refine PyProof.Rows.callWith_type1 ?_ nS rfl
 rw[nS]
 refine Calls.spliced_cons (cc (he pins s σ H _ I h) fun u s1 cf=>L2.fq cf fun x H1 I1 r1 q1=>Calls.spliced_nil ?_)
 have q1:gw X.K x H1 Q:=q1
 obtain⟨a,rfl⟩:∃ a,x=.ref a:=by
  unfold gw at q1
  split at q1
  ·exact⟨_,rfl⟩
  ·exact q1.elim
 obtain⟨ys,ks,b0,sh,hl,⟨U,hU,Nn⟩,ht,rh,q⟩:=q1
 cases r1
 obtain⟨vs,rv,pl,hz⟩:=I1.list hl
 obtain⟨xs,ex,ek,hx⟩:=ht.pairs rv
 have M_:X.A.handled=none:=I1.ok.hd hc
 have hlen:xs.length=ys.length:=by rw[rv.length,ex,bT]
 have qa:∀ p∈xs,IsTupleKey (i6 X.prog X.w) s1.heap p.1 p.2:=fun p hp=>by
  obtain⟨us,ru,o,e1,c1,n1,d1⟩:=I1.tup (hx p hp)
  exact⟨o,us.toArray,n1,e1,c1,d1,by simpa using OJ ru⟩
 refine TS.mO (knd:=i6 X.prog X.w) M_ (by lia) pl.isList (by simpa using ex) qa hU (fun p hp=>Nn _ (by rw[<- ek];exact b9.mpr ⟨p,hp,rfl⟩)) tM fun h2 tk fm S m1 m2 kp=>?_
 refine Calls.spliced_nil ?_
 obtain⟨⟨o,es,ep,t,ho,hex,hd,T,hM,hL,A5⟩,nd,is⟩:=S
 have SF:es.toList.map (·.2)=fm.map fun p=>Value.ref p.2:=by rw[A5,js];rfl
 have dM':fm.length<=63:=by
  have:=TS.cF nd (m:=U) fun k hk=>Nn k (by rw[<- ek];exact(m1 k).mp hk)
  rw[bT] at this
  lia
 have SG:es.size=fm.length:=by
  have:=congrArg List.length A5
  simpa using this
 have SJ:∀ p∈fm,p.1∈ks:=fun p hp=>by rw[<- ek];exact b9.mpr ⟨p,m2 p hp,rfl⟩
 have mem:∀ eS:List Value,eS.Perm (fm.map fun p=>Value.ref p.2)->∀ v∈eS,∃ b k,v=.ref b/\H1 b=some (.tup (k.map kV))/\k∈ks:=fun eS pv v hv=>by
  obtain⟨p,hp,rfl⟩:=b9.mp (pv.mem_iff.mp hv)
  exact⟨p.2,p.1,rfl,hx p (m2 p hp),SJ p hp⟩
 have Nb:s1.heap.objs.size<=h2.objs.size:=ot (dy ho)
 refine sP.jR (s:={ s1 with heap:=h2,toks:=tk }) (κ:=tuples' true) (R:=fun eS=>eS.Perm (fm.map fun p=>Value.ref p.2)) (r:=fun v=>xl ks (il H1 v)) (P:=fun v=>∃ b k,v=.ref b/\H1 b=some (.tup (k.map kV))/\gE k=b0 :: sh/\k∈ks)
  (fun A' E' Q' hA hQ=>TS.jO (s:={ s1 with heap:=h2,toks:=tk }) (hA.trans M_) ho hex hd T.fits T.up T.sz hL (by rw[SG,sizeLine_eq];lia) fun h' A8 d eS sf A9 pv=>hQ eS h' A8 d (by rw[<- SF];exact pv) sf A9)
  (fun eS pv=>by rw[pv.length_eq,bT];lia) (fun eS pv v hv=>?_) (fun eS pv h2' A' E' s' sf Q' q'=>?_) (fun s' sf=>n8 I1 fun b o e=>sf b o (kp b o e)) fun eS h' a' out n A8 d pv pm pw sf ha eo=>?_
 ·obtain⟨b,k,e1,e2,e3⟩:=mem eS pv v hv
  exact⟨b,k,e1,e2,rh k e3,e3⟩
 ·obtain⟨zs,z1,z2⟩:=bB.of (H:=H1) (ks:=ks) eS (mem eS pv)
  obtain⟨fs,f1,f2,f3⟩:=kat_tups I1 (s':=s') (fun b o e=>sf b o (kp b o e)) z1 z2 fun k hk=>by
   obtain⟨v,hv,rfl⟩:=b9.mp hk
   obtain⟨b,k,rfl,e2,e3⟩:=mem eS pv v hv
   rw[bf e2];exact rh k e3
  cases b0 with
  |true =>
   refine PySem.W.kat_kind (T:=.type "int") f1 (by lia) (fun f hf=>?_) (by decide) q'
   obtain⟨i,t,rfl⟩:=(f3 f hf).1 rfl
   exact .now
  |false =>
   refine PySem.W.kat_kind (T:=.type "str") f1 (by lia) (fun f hf=>?_) (by decide) q'
   obtain⟨i,t,rfl⟩:=(f3 f hf).2 rfl
   exact .now
 ·have x6:=pm.trans pv
  obtain⟨zs,z1,z2⟩:=bB.of (H:=H1) (ks:=ks) out fun v hv=>mem _ x6 v hv
  have zl:=z2.length
  have ol:=x6.length_eq
  rw[bT] at ol
  have SK:(fm.map fun p=>Value.ref p.2).map (il H1)=fm.map (·.1):=by
   rw[js]
   exact Kk fun p hp=>bf (hx p (m2 p hp))
  have ER:(out.map (il H1)).Perm (fm.map (·.1)):=by rw[<- SK];exact x6.map _
  refine⟨.ref a',_,(I1.laid (a:=a') (t':=A8) (fun b o e=>sf b o (kp b o e)) (gS Nb ha) (show eP X.prog X.w _ h' _ (.lst zs) from⟨by rw[sizeLine_eq];lia,out,n,z2,eo⟩)).drawn,rfl,
   q zs _ _ z1 (ER.nodup_iff.mpr nd) (fun k=>by rw[ER.mem_iff,m1,ek]) ?_ (I1.aE.fresh (gS Nb ha))⟩
  rw[ly]
  refine pw.imp_of_mem fun {x y} mx my hle=>?_
  obtain⟨b,k,rfl,hb,kk⟩:=mem _ x6 x mx
  obtain⟨c,m,rfl,vE,km⟩:=mem _ x6 y my
  rw[bf hb,bf vE] at *
  have:=lO (L:=ks) ((rh m km).trans (rh k kk).symm) km
  rw[<- this]
  exact decide_eq_false (by lia)
end
end L2
namespace L2.Q
open PySem PySem.Spec PyProof.Rows
section
variable {X:Cx}{K:PySem.W.Frag}{e:Expr}{te:WE}{p p2 pos rX:Pos}
def dX:W1:=fun _ x Q=>match x with
 |.list xs=>∃ (ks U:List (List Key)) (sh:List Bool),xs=ks.map mn/\U.length<=63/\(∀ k∈ks,k∈U)/\(∀ k∈ks,gE k=true :: sh)/\∀ ms:List (List Key),ms.Nodup->(∀ k,k∈ms↔k∈ks)->(ms.Pairwise fun a b=>fi b a=false)->Q (.ow true) (.list (ms.map mn))
 |_=>False
theorem qt:Pb K (gw K) dX:=by
 intro Hs H m x v As Qd Qv w rx h f
 have r1:=rx.rep w
 cases r1 with
 |list z s q =>
  obtain⟨ks,U,sh,rfl,hU,Nn,hs,h⟩:=h
  obtain⟨ta,ok⟩:=qX q
  refine⟨_,ks,true,sh,s,⟨U,hU,Nn⟩,ta,hs,fun zs ms l tz nd mm pw M3=>?_⟩
  have rr:=i_ (K:=K) tz fun k hk=>ok k ((mm k).mp hk)
  have:ms.length<=U.length:=TS.cF nd fun k hk=>Nn k ((mm k).mp hk)
  exact f.lst w (by rw[bT,sizeLine_eq];lia) rr (eV ms) (h ms nd mm pw) l M3
 |_=>exact h.elim
theorem uH (hu:X.A.units+64<cLine) (hg:Gl X "sorted") (hm:X.mg "sorted" = none) (E8:Gl X "set") (n5:X.mg "set" = none) (he:QE X K e te) (hc:X.calm=true:=by rfl) (hK:X.K=K:=by rfl)
  (nS:starEach [e] X.env=(false,eval e X.env) :: starEach [] X.env:=by rfl)
  (hs:starEach [.Call (.Name "set" p2) [e] [] rX] X.env=(false,eval (.Call (.Name "set" p2) [e] [] rX) X.env) :: starEach [] X.env:=by rfl) :
  QE X K (.Call (.Name "sorted" p) [.Call (.Name "set" p2) [e] [] rX] [] pos) (kE dX te):=by
 subst hK
 refine PE.imp (qU hc hu hg hm E8 n5 he dN Am nS hs) fun σ H Qv cy=>?_
 obtain⟨Hs,ρ,ae,Q,sr,h,fin⟩:=cy
 exact⟨Hs,ρ,ae,_,sr,h,fun v H1 aC m x As g1 r1 f1 q1=>qt aC H1 m x v As Q Qv g1.wf r1 q1 (Fin.after fin g1)⟩
end
end L2.Q
namespace L2.Q.R
open PySem PySem.Spec PyProof.Rows L2.Q
theorem Ec{m:Md}{xs:List L2.Q.D}{Q:Md->L2.Q.D->Prop}:dX m (.list xs) Q = ∃ (ks U:List (List Key)) (sh:List Bool),xs=ks.map mn/\U.length<=63/\(∀ k∈ks,k∈U)/\(∀ k∈ks,gE k=true :: sh)/\∀ ms:List (List Key),ms.Nodup->(∀ k,k∈ms↔k∈ks)->(ms.Pairwise fun a b=>fi b a=false)->Q (.ow true) (.list (ms.map mn)):=rfl
end L2.Q.R
namespace L2.Q
open PySem PySem.Spec PyProof.Rows
namespace R
theorem Jm:sT m (.bl i) m' (.bl j) Q=Q .sh (.bl (!decide (i=j))):=rfl
end R
end L2.Q
local macro_rules | `(tactic| walk_at "q") => do
 let nm (s:String):Lean.Ident:=Lean.mkIdent ((s.splitOn ".").foldl Lean.Name.mkStr .anonymous)
 let ds ← ("J2 K3 Ka Jv Hd J5 Mx KR HN GQ Jg Jr Jh Kf Jd Jp K4 JF Ji JV Ms Lj Jj JC JQ K5 Ij KY Mr KD KC K8 ew' Li K1 La J3 Jo Le KJ Kd Js Gg G_ GR Ib Ml J4 wB_ K9 K_ Mj cQ' Mi KH Hx Ik wC_ cS' cT' Io JM Ma Jk Jx Kr LC Lw Je IV G8 Hb Hz Hw HJ Hf Iu Ih Ke J0 Jl JL Kp JB JT Ls Lf Mf Kh JP Ld Ln Lq JR Ed Jw Ii HB Lr Iw Ec Jm Lx Kw Mh Mg Mm LR Lz K6 Kv Ks Mt JS Jq Jy Ko J7 Mv HD Hn Ja cU' G4 Kc Jc K7 Mp Ly JG Iz cW' GX Kq Hc Mu Mw JD Mz Im Jt JN Ht GZ G3 GK gN_ gT_ Km KN J_ JW JH Hk L_ Ie HW Hj Lb JK JZ Ir G5 G9 Jz J1 KQ KZ Lp Ju Kl J9 Kz LK Ku Lh Jf J8 el' Kg JX".splitOn " ").toArray.mapM fun s=>`(Lean.Parser.Tactic.simpLemma| ↓$(nm ("L2.Q.R." ++ s)):ident)
 let us ← ("L2.Q.P5 L2.Q.Tc L2.Q.Px L2.Q.Nh L2.Q.qF L2.Q.Bl L2.Q.xC L2.Q.EX L2.Q.CM L2.Q.pE L2.Q.Ip L2.Q.MX L2.Q.MT L2.Q.MV L2.Q.lN L2.Q.BJ L2.Q.asg L2.Q.lh L2.Q.aJ L2.Q.D.flat L2.Q.cv L2.Q.D.ty L2.Q.Ph L2.Q.D.key1 L2.Q.dq L2.Q.rY L2.Q.xJ List.length_map List.map_cons List.map_nil List.length_cons List.length_nil List.replicate_succ List.replicate_zero List.cons_append List.nil_append List.append_nil List.getElem?_cons_zero List.getElem?_cons_succ List.getElem?_nil List.set_cons_zero List.set_cons_succ List.all_cons List.all_nil Option.some.injEq Option.join_some Option.map_some Option.map_none Nat.reduceAdd Nat.reduceSub true_and and_true Bool.and_true Bool.true_and Bool.and_false Bool.false_and Bool.not_true Bool.not_false Bool.false_eq_true if_true if_false decide_true decide_false reduceIte cond_true cond_false PySem.sizeLine_eq L2.Q.cM' L2.Q.cN' L2.Q.cO' L2.Q.bW L2.Q.Ft L2.Q.empty_app Nat.zero_add exists_eq_left' Int.reduceLT Int.reduceLE Int.reducePow Int.reduceNeg Int.reduceToNat Int.reduceAdd Int.reduceMul Int.reduceSub Nat.reduceLeDiff Nat.reduceLT false_or or_false and_self L2.Mq".splitOn " ").toArray.mapM fun s=>`(Lean.Parser.Tactic.simpLemma| $(nm s):ident)
 let as:Lean.TSyntaxArray [`Lean.Parser.Tactic.simpStar,`Lean.Parser.Tactic.simpErase,`Lean.Parser.Tactic.simpLemma]:=(ds++us).map fun x=>⟨x.raw⟩
 `(tactic| simp -dsimp only [$as,*])
local macro_rules | `(tactic| walk_at "o") => `(tactic| repeat (refine And.intro (by first | omega | exact ⟨by omega, by omega⟩ | decide) ?_))
namespace L2.Q.Td
open PySem PySem.Spec PyProof.Rows
theorem small{n:Nat}(h:n<=10000):n<=sizeLine:=gS h (by decide)
theorem Fq{n:Nat}(h:n<=10000):n<sizeLine:=Yp h (by decide)
def isLet(c:Nat):Bool:=decide (97<=c/\c<=122)
abbrev abc:Str := "abcdefghijklmnopqrstuvwxyz"
theorem zE:sg abc=(List.range 26).map (97 + ·):=by decide +kernel
theorem Fp{i:Int}(h0:0<=i)(h1:i<26):∃ c,eT (sg abc) i=some c/\isLet c=true:=by
 refine⟨97+i.toNat,?_,?_⟩
 ·have:eT (sg abc) ((i.toNat:Nat):Int)=some (97+i.toNat):=LY (by
   rw[zE]
   have:i.toNat<26:=by lia
   simp[this])
  rwa[D5 h0] at this
 ·simp[isLet];lia
theorem vY(x:Int):∃ c,eT (sg abc) (x % 26)=some c/\isLet c=true:=Fp (D6 _ (by decide)) (FX _ (by decide))
def lets(x:Str):Prop:=∀ c∈sg x,isLet c=true
def Open(x:Str):Prop:=1<=x.length/\x.length<=6/\lets x
def zo (x:Str):Prop:=x = "*"\/Open x
theorem nM{x y:Str}(hx:lets x)(hy:lets y):lets (x++y):=fun c hc=>by
 rw[zX] at hc
 exact(dS.mp hc).elim (hx c) (hy c)
theorem jh{c:Nat}(h:isLet c=true):lets ⟨#[c]⟩:=fun d hd=>by
 have:d=c:=by simpa[sg] using hd
 rw[this];exact h
theorem yV{x:Str}(h:lets x)(lo hi:Option Int):lets (pd x lo hi):=fun c hc=>by
 unfold pd sg at hc
 rw[List.toList_toArray] at hc
 exact h c (Qh (NJ hc))
theorem aQ(c:Nat):(⟨#[c]⟩:Str).length=1:=rfl
theorem zo.ok{x:Str}(h:zo x):PyData.strOk x=true:=by
 rw[D_]
 rcases h with rfl|h
 ·have:sg "*" = [42]:=by decide +kernel
  intro c hc
  rw[this] at hc
  have:c=42:=by simpa using hc
  lia
 ·intro c hc
  have:=h.2.2 c hc
  simp[isLet] at this
  lia
abbrev aw:=Int × Str × Int
def fT(s:aw):List Key:=[.inl s.1,.inr s.2.1,.inl s.2.2]
def dc(s:aw):D:=.tup [.int s.1,.str s.2.1,.int s.2.2]
def mD(many:Int)(steps:List aw):D:=.tup [.int many,.list (steps.map dc)]
theorem eF:∀ (l:List aw),cv (l.map dc)=true
 |[]=>rfl
 |x :: l=>by simp[cv,eF l,dc,D.flat]
def IL(many:Int)(s:aw):Prop:=0<=s.1/\s.1<many/\zo s.2.1/\0<=s.2.2/\s.2.2<many
theorem Gr{many:Int}{s:aw}(n:Nat)(h:IL many s):cq (n+1) (dc s)=true:=by
 have:=h.2.2.1.ok
 simp[cq,dc,this]
theorem Cw{many:Int}{l:List aw}(n:Nat)(h:∀ s∈l,IL many s):cq (n+2) (.list (l.map dc))=true:=by
 simp only[cq,NW,Kx]
 intro s hs
 exact Gr n (h s hs)
theorem Xz{many:Int}{l:List aw}(n:Nat)(h:∀ s∈l,IL many s):cq (n+3) (mD many l)=true:=by
 have h2:=Cw n h
 show(cq (n+2) (.int many) && (cq (n+2) (.list (l.map dc)) && true))=true
 rw[h2]
 rfl
theorem xn:∀ (l:List aw),sQ (l.map dc)=true
 |[]=>rfl
 |x :: l=>by simp[sQ,xn l,dc,D.nb]
theorem eD'(many:Int)(l:List aw):(mD many l).nb=true:=by simp[mD,D.nb,sQ,xn]
theorem eq_self{x:D}(h:x.nb=true):gu x x=true:=(ju x x h h).mpr rfl
theorem nY{s t:aw}(h:fT s=fT t):s=t:=by
 obtain⟨a,b,c⟩:=s
 obtain⟨a',b',c'⟩:=t
 simp[fT] at h
 obtain⟨rfl,rfl,rfl⟩:=h
 rfl
def b4(s t:aw):Bool:=fi (fT s) (fT t)
theorem qu{P:aw->Prop}:∀ {ks:List (List Key)},(∀ k∈ks,∃ s,k=fT s/\P s)->∃ l:List aw,ks=l.map fT/\∀ s∈l,P s
 |[],_=>⟨[],rfl,fun s h=>nomatch h⟩
 |k :: ks,h=>by
  obtain⟨s,rfl,p⟩:=h k bX
  obtain⟨l,rfl,q⟩:=qu fun k hk=>h k (b5 _ hk)
  refine⟨s :: l,rfl,fun t ht=>?_⟩
  rcases df.mp ht with rfl|ht
  ·exact p
  ·exact q t ht
abbrev Kn:=List (List Key × D)
def zt(P:aw->Prop)(kvs:Kn):Prop:=(∀ p∈kvs,∃ s,p.1=fT s/\P s)/\(kvs.map (·.1)).Nodup
theorem wM{κ β:Type}[DecidableEq κ](kvs:List (κ × β))(k:κ)(v:β):(i5 kvs k v).map (·.1)=if k∈kvs.map (·.1) then kvs.map (·.1) else kvs.map (·.1)++[k]:=by
 unfold i5
 by_cases h:k∈kvs.map (·.1)
 ·have:(kvs.any fun kv=>decide (kv.1=k))=true:=by
   obtain⟨p,hp,e⟩:=b9.mp h
   exact KG.mpr ⟨p,hp,decide_eq_true e⟩
  rw[if_pos this,if_pos h,js]
  apply Kk
  intro p _
  show(if p.1=k then (p.1,v) else p).1=p.1
  split<;>rfl
 ·have:¬ (kvs.any fun kv=>decide (kv.1=k))=true:=by
   intro z
   obtain⟨p,hp,e⟩:=KG.mp z
   exact h (b9.mpr ⟨p,hp,of_decide_eq_true e⟩)
  rw[if_neg this,if_neg h,sC]
  rfl
theorem zt.put{P:aw->Prop}{kvs:Kn}{s:aw}{d:D}(h:zt P kvs)(hs:P s):zt P (i5 kvs (fT s) d):=by
 refine⟨fun p hp=>?_,?_⟩
 ·rcases iZ hp with e|e
  ·exact⟨s,e,hs⟩
  ·obtain⟨q,hq,e⟩:=b9.mp e
   rw[<- e]
   exact h.1 q hq
 ·rw[wM]
  split
  ·exact h.2
  ·rename_i hn
   exact ip.mpr ⟨h.2,by simp,fun a ha b hb e=>by
    have:b=fT s:=by simpa using hb
    subst this;subst e;exact hn ha⟩
theorem zt.nil{P:aw->Prop}:zt P []:=⟨(fun p hp=>nomatch hp),lP⟩
theorem zt.sorted{P:aw->Prop}{kvs:Kn}(h:zt P kvs)(kD:kvs.length<=63){Q:Md->D->Prop}(k:∀ steps:List aw,(steps.map fT).Perm (kvs.map (·.1))->(∀ s∈steps,P s)->steps.Pairwise (fun a b=>b4 a b=true)->steps.length=kvs.length->Q (.ow true) (.list (steps.map dc))) :
  rY (.ow true) (.list (kvs.map fun kv=>.tup (kv.1.map rS))) Q:=by
 refine⟨kvs.map (·.1),[false,true],by rw[js];rfl,by rw[bT];exact kD,fun k hk=>?_,fun ms pm pw=>?_⟩
 ·obtain⟨p,hp,rfl⟩:=b9.mp hk
  obtain⟨s,e,_⟩:=h.1 p hp
  rw[e];rfl
 ·obtain⟨l,rfl,hl⟩:=qu (P:=P) (ks:=ms) fun k hk=>by
   obtain⟨p,hp,e⟩:=b9.mp (pm.mem_iff.mp hk)
   rw[<- e]
   exact h.1 p hp
  have e:(l.map fT).map mn=l.map dc:=by rw[js];rfl
  rw[e]
  refine k l pm hl ?_ (by have:=pm.length_eq;simpa using this)
  have nd:(l.map fT).Nodup:=pm.nodup_iff.mpr h.2
  rw[ly] at pw
  have Np:l.Pairwise fun a b=>fT a≠fT b:=by
   rw[List.Nodup,ly] at nd
   exact nd
  refine(pw.and Np).imp fun {a b} ⟨h1,h2⟩=>?_
  unfold b4
  cases h3:fi (fT a) (fT b) with
  |true=>rfl
  |false=>exact absurd (jn (a:=fT a) (b:=fT b) rfl h3 h1) h2
theorem gC:∀ (l:List Int),cv (l.map D.int)=true
 |[]=>rfl
 |x :: l=>by simp[cv,gC l,D.flat]
theorem gh{n i:Nat}{lo:Int}{x:D}(h:(pQ lo n)[i]? = some x):i<n/\x=.int (lo+(i:Nat)):=by
 unfold pQ at h
 rw[ny] at h
 by_cases hi:i<n
 ·rw[List.getElem?_range hi] at h
  exact⟨hi,(Option.some.inj h).symm⟩
 ·rw[sA (by simpa using hi)] at h
  cases h
theorem iW(lo:Int)(n:Nat):(pQ lo n).length=n:=by simp[pQ]
theorem BX{names:List Str}{i:Int}(h0:0<=i)(h1:i<names.length):∃ n,n∈names/\eT (names.map D.str) i=some (.str n):=by
 have hn:i.toNat<names.length:=by lia
 refine⟨names[i.toNat],KL hn,?_⟩
 have:=LY (xs:=names.map D.str) (j:=i.toNat) (v:=.str names[i.toNat]) (by simp[hn])
 rwa[D5 h0] at this
theorem name_mod{names:List Str}(x:Int)(h:1<=names.length):∃ n,n∈names/\eT (names.map D.str) (x % (names.length:Int))=some (.str n) :=
 BX (D6 _ (by lia)) (FX _ (by lia))
theorem rW(l:List Int)(lo hi:Option Int):nX (l.map D.int) lo hi=(nX l lo hi).map D.int:=by
 unfold nX
 rw[bT,List.map_take,List.map_drop]
theorem bx{α:Type}[DecidableEq α]:∀ {l m:List α},l.Nodup->(∀ x∈l,x∈m)->l.length<=m.length
 |[],_,_,_=>gV _
 |x :: l,m,nd,h=>by
  obtain⟨hx,nd⟩:=ja.mp nd
  have hm:=h x bX
  have:=bx (l:=l) (m:=m.erase x) nd fun y hy=>(List.mem_erase_of_ne (fun e=>by subst e;exact hx hy)).mpr (h y (b5 _ hy))
  rw[List.length_erase_of_mem hm] at this
  have:=List.length_pos_of_mem hm
  simp only[tI]
  lia
def bQ(n:Nat):List Int:=(List.range n).map fun i=>((i:Nat):Int)
theorem gR(n:Nat):(bQ n).length=n:=by simp[bQ]
theorem aZ{n:Nat}{x:Int}:x∈bQ n↔0<=x/\x<n:=by
 unfold bQ
 rw[b9]
 constructor
 ·rintro⟨i,hi,rfl⟩
  have:=sD.mp hi
  lia
 ·intro ⟨h0,h1⟩
  exact⟨x.toNat,sD.mpr (by lia),by lia⟩
theorem yD{l:List Int}(h:l.Pairwise (· < ·)):l.Nodup:=h.imp fun h=>by lia
def eK(many:Int)(steps:List aw):Prop:=∀ s∈steps,IL many s
theorem jt{ks:List Int}{x:Int}:((Sum.inl x:Key)∈ks.map fun x=>(Sum.inl x:Key))↔x∈ks:=by
 rw[b9]
 exact⟨fun⟨y,hy,e⟩=>by cases e;exact hy,fun h=>⟨x,h,rfl⟩⟩
theorem qx{κ β:Type}[DecidableEq κ]{kvs:List (κ × β)}{k:κ}:(kvs.any fun kv=>decide (kv.1=k))=true↔k∈kvs.map (·.1):=by
 rw[KG,b9]
 exact⟨fun⟨p,hp,e⟩=>⟨p,hp,of_decide_eq_true e⟩,fun⟨p,hp,e⟩=>⟨p,hp,decide_eq_true e⟩⟩
theorem gk{κ β:Type}[DecidableEq κ]:∀ {kvs:List (κ × β)} {k:κ},(cE kvs k).isSome=true↔k∈kvs.map (·.1)
 |[],k=>by simp[cE]
 |p :: kvs,k=>by
  have ih:=gk (kvs:=kvs) (k:=k)
  rw[fo,df]
  by_cases h:p.1=k
  ·subst h;simp[cE]
  ·have:cE (p :: kvs) k=cE kvs k:=by simp[cE,h]
   rw[this,ih]
   exact⟨.inr,fun z=>z.elim (fun e=>absurd e.symm h) id⟩
inductive iL(l:List aw)(s:Int):Int->Prop
 |refl:iL l s s
 |step {t:aw}:iL l s t.1->t∈l->t.2.1 = "*"->iL l s t.2.2
structure IQ(l:List aw)(s:Int)(xs:List Int):Prop where
 up:xs.Pairwise (· < ·)
 mem:∀ x,x∈xs↔iL l s x
theorem iL.lt{many:Int}{l:List aw}(h:eK many l){s x:Int}(hs:0<=s/\s<many)(r:iL l s x):0<=x/\x<many:=by
 cases r with
 |refl=>exact hs
 |step r ht _=>exact(h _ ht).2.2.2
theorem CN {l:List aw} {s:Int} {ks:List Int} (z:s∈ks) (h:∀ t∈l,t.2.1 = "*"->t.1∈ks->t.2.2∈ks) {x:Int} (r:iL l s x):x∈ks:=by
 induction r with
 |refl=>exact z
 |step r ht e ih=>exact h _ ht e ih
theorem wQ{many:Int}{ks:List Int}(nd:ks.Nodup)(h:∀ x∈ks,0<=x/\x<many):ks.length<=many.toNat:=by
 have:=bx (m:=bQ many.toNat) nd fun x hx=>aZ.mpr (by have:=h x hx;lia)
 rwa[gR] at this
def cP(l:List aw)(s:Int)(d:Str):List Int:=(l.filter fun t=>decide (t.1=s) && decide (t.2.1=d)).map (·.2.2)
theorem tQ{l:List aw}{s:Int}{d:Str}{x:Int}:x∈cP l s d↔(s,d,x)∈l:=by
 unfold cP
 rw[b9]
 constructor
 ·rintro⟨⟨p,q,r⟩,ht,rfl⟩
  obtain⟨h1,e⟩:=z3.mp ht
  simp only[kQ,decide_eq_true_eq] at e
  rw[<- e.1,<- e.2]
  exact h1
 ·exact fun h=>⟨_,z3.mpr ⟨h,by simp⟩,rfl⟩
theorem zy(l:List aw)(s:Int)(d:Str):(cP l s d).length<=l.length:=by
 unfold cP
 rw[bT]
 exact List.length_filter_le _ _
def zv(l:List aw)(kvs:Kn):Prop:=∀ s d,cE kvs [.inl s,.inr d]=if cP l s d=[] then none else some (.list ((cP l s d).map .int))
theorem rK(k k':List Key)(x:D):∀ (kvs:Kn),cE (kL kvs k x) k'=if k'=k then some (match cE kvs k with
  |none=>.list [x]
  |some d=>Nj d x) else cE kvs k'
 |[]=>by
  rw[kL,bj]
  by_cases h:k'=k
  ·rw[if_pos h.symm,if_pos h];rfl
  ·rw[if_neg fun e=>h e.symm,if_neg h]
 |p :: r=>by
  rw[kL]
  by_cases e:p.1=k
  ·rw[if_pos e,bj]
   by_cases h:k'=k
   ·rw[if_pos h,h,bj p r k,if_pos e,if_pos e]
   ·rw[if_neg h,bj p r k',if_neg fun z=>h (z.symm.trans e),if_neg fun z=>h (z.symm.trans e)]
  ·rw[if_neg e,bj,rK k k' x r]
   by_cases h:k'=k
   ·rw[if_pos h,h,bj p r k,if_neg e,if_neg e,if_pos rfl]
   ·rw[if_neg h,bj p r k',if_neg h]
theorem wD(k:List Key)(x:D):∀ (kvs:Kn),(kL kvs k x).length<=kvs.length+1
 |[]=>by simp[kL]
 |p :: r=>by
  have:=wD k x r
  rw[kL]
  split<;>simp only[tI]<;>lia
theorem zv.nil:zv [] []:=fun s d=>rfl
theorem zv.put{l:List aw}{kvs:Kn}(h:zv l kvs)(p:Int)(n:Str)(r:Int):zv (l++[(p,n,r)]) (kL kvs [.inl p,.inr n] (.int r)):=by
 intro s d
 rw[rK]
 have ee:cP (l++[(p,n,r)]) s d=cP l s d++if p=s/\n=d then [r] else []:=by
  unfold cP
  rw[List.filter_append,sC]
  congr 1
  by_cases e:p=s/\n=d
  ·simp[e.1,e.2]
  ·rw[if_neg e,List.filter_cons_of_neg (by simpa using e)];rfl
 by_cases e:p=s/\n=d
 ·rw[if_pos e] at ee
  obtain⟨rfl,rfl⟩:=e
  rw[ee,if_pos rfl,h p n,if_neg (show ¬ cP l p n++[r]=[] by simp)]
  by_cases z:cP l p n=[]
  ·rw[if_pos z,z];rfl
  ·rw[if_neg z];simp[Nj]
 ·rw[if_neg e,lI] at ee
  rw[ee,if_neg fun z=>e ?_,h s d]
  simp only[List.cons.injEq,Sum.inl.injEq,Sum.inr.injEq,and_true] at z
  exact⟨z.1.symm,z.2.symm⟩
theorem zR{l:List aw}{kvs:Kn}(h:zv l kvs){s:Int}{d:Str}{Q:Md->D->Prop}(q:Q .sh (.list ((cP l s d).map .int))):Dx (cE kvs [.inl s,.inr d]) .sh .sh (.list []) Q:=by
 rw[h s d]
 by_cases z:cP l s d=[]
 ·rw[if_pos z];rw[z] at q;exact q
 ·rw[if_neg z];exact q
theorem Ae{steps:List aw}{i:Nat}{x:D}(h:(steps.map dc)[i]? = some x):∃ p d r,x=.tup [.int p,.str d,.int r]/\(p,d,r)∈steps/\steps.take (i+1)=steps.take i++[(p,d,r)]:=by
 rw[ny] at h
 cases e:steps[i]? with
 |none=>rw[e] at h;cases h
 |some s =>
  rw[e] at h
  cases h
  obtain⟨p,d,r⟩:=s
  exact⟨p,d,r,rfl,ll e,by rw[DS,e];rfl⟩
theorem int_at{l:List Int}{i:Nat}{x:D}(h:(l.map D.int)[i]? = some x):∃ c,x=.int c/\c∈l/\l.take (i+1)=l.take i++[c]:=by
 rw[ny] at h
 cases e:l[i]? with
 |none=>rw[e] at h;cases h
 |some s =>
  rw[e] at h
  cases h
  exact⟨s,rfl,ll e,by rw[DS,e];rfl⟩
theorem sort_keys{l:List aw}{s:Int}{ks:List Int}{kd:List (Key × D)}(ek:kd.map (·.1)=ks.map fun x=>(Sum.inl x:Key))(nk:ks.Nodup)(kD:ks.length<=63)(mk:∀ x,x∈ks↔iL l s x){Q:Md->D->Prop}(k:∀ xs,IQ l s xs->Q (.ow true) (.list (xs.map .int))):xJ .bo (.dK kd) Q:=by
 refine⟨true,by have:=congrArg List.length ek;simp only[bT] at this;lia,fun p hp=>?_,fun ms pm pw=>?_⟩
 ·have:p.1∈kd.map (·.1):=List.mem_map_of_mem hp
  rw[ek] at this
  obtain⟨x,_,e⟩:=b9.mp this
  rw[<- e];rfl
 ·rw[ek] at pm
  obtain⟨xs,rfl⟩:∃ xs:List Int,ms=xs.map fun x=>(Sum.inl x:Key):=by
   have hm:∀ k∈ms,∃ x:Int,k=Sum.inl x:=fun k hk=>by
    obtain⟨x,_,rfl⟩:=b9.mp (pm.mem_iff.mp hk)
    exact⟨x,rfl⟩
   clear pm pw
   induction ms with
   |nil=>exact⟨[],rfl⟩
   |cons k ms ih =>
    obtain⟨l,rfl⟩:=ih fun j hj=>hm j (b5 _ hj)
    obtain⟨x,rfl⟩:=hm k bX
    exact⟨x :: l,rfl⟩
  have e:(xs.map fun x=>(Sum.inl x:Key)).map rS=xs.map D.int:=by rw[js];rfl
  rw[e]
  have mem:∀ x,x∈xs↔x∈ks:=fun x=>by rw[<- jt (ks:=xs),<- jt (ks:=ks)];exact pm.mem_iff
  have nd:xs.Nodup:=by
   have:(xs.map fun x=>(Sum.inl x:Key)).Nodup:=pm.nodup_iff.mpr (by
    unfold List.Nodup at *
    rw[ly]
    exact nk.imp fun h e=>h (Sum.inl.inj e))
   unfold List.Nodup at *
   rw[ly] at this
   exact this.imp fun h e=>h (by rw[e])
  refine k xs ⟨?_,fun x=>(mem x).trans (mk x)⟩
  rw[ly] at pw
  refine(pw.and nd).imp fun {a b} ⟨h1,h2⟩=>?_
  have h1:¬ b<a:=by simpa[pj] using h1
  lia
theorem iL.trans{l:List aw}{a b c:Int}(h:iL l a b)(g:iL l b c):iL l a c:=by
 induction g with
 |refl=>exact h
 |step _ ht e ih=>exact .step ih ht e
def Es (l:List aw) (t:aw):Prop:=(t.2.1 = "*"/\iL l t.1 t.2.2)\/(t.2.1 ≠ "*"/\∃ a b,iL l t.1 a/\(a,t.2.1,b)∈l/\iL l b t.2.2)
structure nh(many:Int)(l out:List aw):Prop where
 up:out.Pairwise fun a b=>b4 a b=true
 mem:∀ t,t∈out↔(0<=t.1/\t.1<many)/\Es l t
theorem ye{l m:List aw}(hl:l.Pairwise fun a b=>b4 a b=true)(hm:m.Pairwise fun a b=>b4 a b=true)(h:∀ t,t∈l↔t∈m):l=m:=by
 have nd:∀ {l:List aw},l.Pairwise (fun a b=>b4 a b=true)->l.Nodup:=fun h=>h.imp fun {a b} z e=>by subst e;unfold b4 at z;rw[du] at z;cases z
 have pm:=(List.perm_ext_iff_of_nodup (nd hl) (nd hm)).mpr h
 refine pm.eq_of_pairwise (fun a b _ _ h1 h2=>?_) hl hm
 unfold b4 at h1 h2
 have:=lM h1 h2
 rw[du] at this
 cases this
theorem nh.uniq{many:Int}{l a b:List aw}(h:nh many l a)(g:nh many l b):a=b:=ye h.up g.up fun t=>(h.mem t).trans (g.mem t).symm
theorem Es.in{many:Int}{l:List aw}(av:eK many l){t:aw}(ht:0<=t.1/\t.1<many)(h:Es l t):IL many t:=by
 rcases h with⟨e,r⟩|⟨e,a,b,r1,m,r2⟩
 ·have:=r.lt av ht
  exact⟨ht.1,ht.2,by rw[e];exact .inl rfl,this.1,this.2⟩
 ·have ok:=av _ m
  have:=r2.lt av ok.2.2.2
  exact⟨ht.1,ht.2,ok.2.2.1,this.1,this.2⟩
theorem nh.in{many:Int}{l out:List aw}(h:nh many l out)(av:eK many l):eK many out:=fun t ht=>((h.mem t).mp ht).2.in av ((h.mem t).mp ht).1
def qf(names:List Str)(l:List aw):Prop:=∀ t∈l,t.2.1∈names
theorem Es.nm {names:List Str} {l:List aw} (h:qf names l) (hz:("*" : Str)∈names) {t:aw} (e:Es l t):t.2.1∈names:=by
 rcases e with⟨e,_⟩|⟨_,a,b,_,m,_⟩
 ·rw[e];exact hz
 ·exact h (a,t.2.1,b) m
abbrev Pr:=Str × Int
abbrev Ky:=Int × List Pr
def oD(p:Pr):List Key:=[.inr p.1,.inl p.2]
def lj(p:Pr):D:=.tup [.str p.1,.int p.2]
def gv(k:Ky):D:=.tup [.int k.1,.list (k.2.map lj)]
def zC(r:List Int):D:=.list (r.map .int)
def qh(a b:Ky):Bool:=PySem.SeqAt.b4 3 (gv a).py (gv b).py
def sj(k:Ky):Prop:=∀ p∈k.2,PyData.strOk p.1=true
theorem BW(k:Ky):(gv k).py=.tuple [.int k.1,.list (k.2.map L2.lg)]:=by
 show PyData.tuple [.int k.1,.list (kX (k.2.map lj))]=_
 rw[ir,js]
 rfl
theorem sj.tq{k:Ky}(h:sj k):L2.tq (gv k).py:=⟨k.1,k.2,BW k,h⟩
theorem jV(a:Ky)(h:sj a):qh a a=false:=L2.P1.ae.oC _ h.tq
theorem Al{a b c:Ky}(ha:sj a)(hb:sj b)(hc:sj c):qh a b=true->qh b c=true->qh a c=true:=L2.P1.ae.tr _ _ _ ha.tq hb.tq hc.tq
theorem DX{p q:Pr}(h:lj p=lj q):p=q:=by
 obtain⟨a,b⟩:=p
 obtain⟨c,d⟩:=q
 simp[lj] at h
 rw[h.1,h.2]
theorem CK{p q:Pr}(h:oD p=oD q):p=q:=by
 obtain⟨a,b⟩:=p
 obtain⟨c,d⟩:=q
 simp[oD] at h
 rw[h.1,h.2]
theorem map_inj{α β:Type}{f:α->β}(hf:∀ a b,f a=f b->a=b):∀ {l m:List α},l.map f=m.map f->l=m
 |[],[],_=>rfl
 |[],_ :: _,h=>by simp at h
 |_ :: _,[],h=>by simp at h
 |x :: l,y :: m,h=>by
  simp only[fo,List.cons.injEq] at h
  rw[hf _ _ h.1,map_inj hf h.2]
theorem wI{a b:Ky}(h:gv a=gv b):a=b:=by
 simp only[gv,D.tup.injEq,List.cons.injEq,D.int.injEq,D.list.injEq] at h
 exact Prod.ext h.1 (map_inj (fun _ _=>DX) h.2.1)
theorem zV:∀ l:List Pr,sQ (l.map lj)=true
 |[]=>rfl
 |x :: l=>by simp[sQ,zV l,lj,D.nb]
theorem El(k:Ky):(gv k).nb=true:=by simp[gv,D.nb,sQ,zV]
theorem uq(a b:Ky):gu (gv a) (gv b)=decide (a=b):=by
 rw[yv,ju _ _ (El a) (El b),decide_eq_true_iff]
 exact⟨wI,fun e=>by rw[e]⟩
theorem Cq{a b:Ky}(ha:sj a)(hb:sj b)(h1:qh a b=false)(h2:qh b a=false):a=b:=by
 have e:=L2.P1.ae.ae _ _ ha.tq hb.tq h1 h2
 have:gu (gv a) (gv b)=gu (gv a) (gv a):=by unfold gu;rw[e]
 rw[uq,uq] at this
 simpa using this
theorem Cy{a b:Ky}(h:a.1<b.1):qh a b=true:=by
 unfold qh
 rw[BW,BW,PySem.SeqAt.b4,PySem.SeqAt.ng]
 have:PyData.eqv (.int a.1) (.int b.1)=false:=by
  have:a.1≠b.1:=by lia
  simpa[PyData.eqv] using this
 rw[this,if_neg iq,PySem.SeqAt.b4]
 exact decide_eq_true h
theorem xZ{k:Ky}(h:sj k)(n:Nat):cq (n+3) (gv k)=true:=by
 have:∀ p∈k.2.map lj,cq (n+1) p=true:=fun d hd=>by
  obtain⟨p,hp,rfl⟩:=b9.mp hd
  simp[lj,cq,h p hp]
 simp only[gv,cq,z5,List.all_nil,N5,Bool.true_and,Kx]
 exact this
theorem z7{l:List Ky}(h:∀ k∈l,sj k)(n:Nat):cq (n+4) (.list (l.map gv))=true:=by
 simp only[cq,NW,Kx]
 exact fun k hk=>xZ (h k hk) n
theorem FN(l:List Ky)(k:Ky):Bz (l.map gv) (gv k)=decide (k∈l):=by
 unfold Bz
 rw[List.any_map,yv,KG,decide_eq_true_iff]
 constructor
 ·rintro⟨j,hj,e⟩
  have e:gu (gv j) (gv k)=true:=e
  rw[uq,decide_eq_true_iff] at e
  rwa[<- e]
 ·exact fun hk=>⟨k,hk,by show gu (gv k) (gv k)=true;rw[uq];exact decide_eq_true rfl⟩
theorem qY:∀ l:List Int,sQ (l.map D.int)=true
 |[]=>rfl
 |x :: l=>by simp[sQ,qY l,D.nb]
theorem HQ(a b:List Int):gu (.list (a.map .int)) (.list (b.map .int))=decide (a=b):=by
 rw[yv,ju _ _ (by simp[D.nb,qY]) (by simp[D.nb,qY]),decide_eq_true_iff]
 refine⟨fun h=>map_inj (f:=D.int) (fun _ _=>D.int.inj) (D.list.inj h),fun e=>by rw[e]⟩
theorem uV(l:List Int)(n:Nat):cq (n+1) (.list (l.map .int))=true:=by
 simp[cq,NW]
theorem Te{α β:Type}{f:β->α}{P:β->Prop}:∀ {ks:List α},(∀ k∈ks,∃ s,k=f s/\P s)->∃ l:List β,ks=l.map f/\∀ s∈l,P s
 |[],_=>⟨[],rfl,fun s h=>nomatch h⟩
 |k :: ks,h=>by
  obtain⟨s,rfl,p⟩:=h k bX
  obtain⟨l,rfl,q⟩:=Te fun k hk=>h k (b5 _ hk)
  refine⟨s :: l,rfl,fun t ht=>?_⟩
  rcases df.mp ht with rfl|ht
  ·exact p
  ·exact q t ht
theorem jb{α:Type}{lt:α->α->Prop}:∀ {l m:List α},(∀ a∈l,∀ b∈l,lt a b->lt b a->False)->l.Pairwise lt->m.Pairwise lt->(∀ x,x∈l↔x∈m)->l=m
 |[],[],_,_,_,_=>rfl
 |[],y :: m,_,_,_,h=>absurd ((h y).mpr bX) (by simp)
 |x :: l,[],_,_,_,h=>absurd ((h x).mp bX) (by simp)
 |x :: l,y :: m,as,hl,hm,h=>by
  obtain⟨a1,a2⟩:=List.pairwise_cons.mp hl
  obtain⟨b1,b2⟩:=List.pairwise_cons.mp hm
  have e:x=y:=by
   rcases df.mp ((h x).mp bX) with e|e
   ·exact e
   ·rcases df.mp ((h y).mpr bX) with e'|e'
    ·exact e'.symm
    ·exact(as x bX y (b5 _ e') (a1 y e') (b1 x e)).elim
  subst e
  have oC:¬ lt x x:=fun z=>as x bX x bX z z
  rw[jb (fun a ha b hb=>as a (b5 _ ha) b (b5 _ hb)) a2 b2 fun z=>⟨fun hz=>by
   rcases df.mp ((h z).mp (b5 _ hz)) with e|e
   ·subst e;exact absurd (a1 z hz) oC
   ·exact e,fun hz=>by
   rcases df.mp ((h z).mpr (b5 _ hz)) with e|e
   ·subst e;exact absurd (b1 z hz) oC
   ·exact e⟩]
def rk(b6:List Int)(s:Int):Int:=b6.getD s.toNat 0
structure DC(steps:List aw)(b6:List Int)(s:Int)(k:Ky):Prop where
 fst:k.1=rk b6 s
 up:k.2.Pairwise fun a b=>fi (oD a) (oD b)=true
 mem:∀ p,p∈k.2↔∃ t∈steps,t.1=s/\p=(t.2.1,rk b6 t.2.2)
theorem DC.uniq{steps:List aw}{b6:List Int}{s:Int}{k j:Ky}(a:DC steps b6 s k)(b:DC steps b6 s j):k=j:=by
 have h2:k.2=j.2:=jb (fun x _ y _ h1 h2=>by have:=lM h1 h2;rw[du] at this;cases this) a.up b.up fun p=>(a.mem p).trans (b.mem p).symm
 exact Prod.ext (a.fst.trans b.fst.symm) h2
theorem DC.ok{many:Int}{steps:List aw}{b6:List Int}{s:Int}{k:Ky}(a:DC steps b6 s k)(h:eK many steps):sj k:=fun p hp=>by
 obtain⟨t,ht,_,rfl⟩:=(a.mem p).mp hp
 exact(h t ht).2.2.1.ok
structure qk(many:Int)(steps:List aw)(b6 r:List Int)(ky:Int->Ky)(diff:List Ky):Prop where
 len:r.length=many.toNat
 key:∀ s,0<=s->s<many->DC steps b6 s (ky s)
 up:diff.Pairwise fun a b=>qh a b=true
 mem:∀ k,k∈diff↔∃ s,(0<=s/\s<many)/\k=ky s
 pos:∀ s,0<=s->s<many->0<=rk r s/\diff[(rk r s).toNat]? = some (ky s)
def RB(many:Int)(steps:List aw)(b6 r:List Int):Prop:=∃ ky diff,qk many steps b6 r ky diff
section
variable {many:Int}{steps:List aw}{b6 r r2:List Int}{ky XA:Int->Ky}{diff XB:List Ky}
theorem qk.ok(h:qk many steps b6 r ky diff)(av:eK many steps){k:Ky}(hk:k∈diff):sj k:=by
 obtain⟨s,hs,rfl⟩:=(h.mem k).mp hk
 exact(h.key s hs.1 hs.2).ok av
theorem qk.as(h:qk many steps b6 r ky diff)(av:eK many steps):∀ a∈diff,∀ b∈diff,qh a b=true->qh b a=true->False:=fun a ha b hb h1 h2=>by
 have:=Al (h.ok av ha) (h.ok av hb) (h.ok av ha) h1 h2
 rw[jV a (h.ok av ha)] at this
 cases this
theorem Fl{l m:List Int}(hl:l.length=many.toNat)(hm:m.length=many.toNat)(h:∀ s,0<=s->s<many->rk l s=rk m s):l=m:=by
 apply List.ext_getElem (by lia)
 intro i h1 h2
 have:=h (i:Nat) (by lia) (by lia)
 unfold rk at this
 simpa[List.getD,h1,h2] using this
theorem qk.inj(h:qk many steps b6 r ky diff)(av:eK many steps){i j:Nat}{k:Ky}(hi:diff[i]? = some k)(hj:diff[j]? = some k):i=j:=by
 obtain⟨Fm,xh⟩:=iN.mp hi
 obtain⟨HG,Nq⟩:=iN.mp hj
 have hk:k∈diff:=ll hi
 have oC:=jV k (h.ok av hk)
 have pw:=DL.mp h.up
 rcases Nat.lt_trichotomy i j with e|e|e
 ·have:=pw i j Fm HG e
  rw[xh,Nq,oC] at this;cases this
 ·exact e
 ·have:=pw j i HG Fm e
  rw[xh,Nq,oC] at this;cases this
theorem qk.same(h:qk many steps b6 r ky diff)(h2:qk many steps b6 r2 XA XB)(av:eK many steps):r=r2:=by
 have ek:∀ s,0<=s->s<many->ky s=XA s:=fun s a b=>(h.key s a b).uniq (h2.key s a b)
 have ed:diff=XB:=jb (h.as av) h.up h2.up fun k=>by
  rw[h.mem,h2.mem]
  exact⟨fun⟨s,a,e⟩=>⟨s,a,e.trans (ek s a.1 a.2)⟩,fun⟨s,a,e⟩=>⟨s,a,e.trans (ek s a.1 a.2).symm⟩⟩
 subst ed
 refine Fl h.len h2.len fun s a b=>?_
 have p1:=h.pos s a b
 have p2:=h2.pos s a b
 rw[<- ek s a b] at p2
 have:=h.inj av p1.2 p2.2
 lia
theorem RB.uniq(h:RB many steps b6 r)(h2:RB many steps b6 r2)(av:eK many steps):r=r2:=by
 obtain⟨_,_,h⟩:=h
 obtain⟨_,_,h2⟩:=h2
 exact h.same h2 av
theorem qk.v_(h:qk many steps b6 r ky diff){s t:Int}(hs:0<=s/\s<many)(ht:0<=t/\t<many)(e:rk r s=rk r t):ky s=ky t:=by
 have p1:=(h.pos s hs.1 hs.2).2
 have p2:=(h.pos t ht.1 ht.2).2
 rw[e,p2] at p1
 exact(Option.some.inj p1).symm
theorem qk.lt(h:qk many steps b6 r ky diff)(av:eK many steps){s t:Int}(hs:0<=s/\s<many)(ht:0<=t/\t<many):rk r s<rk r t↔qh (ky s) (ky t)=true:=by
 have p1:=h.pos s hs.1 hs.2
 have p2:=h.pos t ht.1 ht.2
 have k1:=h.ok av (ll p1.2)
 have k2:=h.ok av (ll p2.2)
 obtain⟨a1,a2⟩:=iN.mp p1.2
 obtain⟨b1,b2⟩:=iN.mp p2.2
 have pw:=DL.mp h.up
 constructor
 ·intro l
  have:=pw _ _ a1 b1 (by lia)
  rwa[a2,b2] at this
 ·intro l
  by_cases z:rk r t<rk r s
  ·have:=pw _ _ b1 a1 (by lia)
   rw[a2,b2] at this
   have:=Al k1 k2 k1 l this
   rw[jV _ k1] at this;cases this
  ·by_cases z2:rk r s=rk r t
   ·have:=h.v_ hs ht z2
    rw[this,jV _ k2] at l;cases l
   ·lia
theorem RB.mono(h:RB many steps b6 r)(av:eK many steps){s t:Int}(hs:0<=s/\s<many)(ht:0<=t/\t<many)(l:rk b6 s<rk b6 t):rk r s<rk r t:=by
 obtain⟨ky,diff,h⟩:=h
 refine(h.lt av hs ht).mpr (Cy ?_)
 rw[(h.key s hs.1 hs.2).fst,(h.key t ht.1 ht.2).fst]
 exact l
theorem RB.eE'(h:RB many steps b6 r){s t:Int}(hs:0<=s/\s<many)(ht:0<=t/\t<many)(e:rk r s=rk r t):rk b6 s=rk b6 t:=by
 obtain⟨ky,diff,h⟩:=h
 have:=h.v_ hs ht e
 rw[<- (h.key s hs.1 hs.2).fst,<- (h.key t ht.1 ht.2).fst,this]
theorem RB.XC(h:RB many steps b6 r)(av:eK many steps){t:aw}(ht:t∈steps){s:Int}(hs:0<=s/\s<many)(e:rk r t.1=rk r s):∃ u∈steps,u.1=s/\u.2.1=t.2.1/\rk b6 u.2.2=rk b6 t.2.2:=by
 obtain⟨ky,diff,h⟩:=h
 have hk:=h.v_ ⟨(av t ht).1,(av t ht).2.1⟩ hs e
 have hm:=((h.key t.1 (av t ht).1 (av t ht).2.1).mem (t.2.1,rk b6 t.2.2)).mpr ⟨t,ht,rfl,rfl⟩
 rw[hk] at hm
 obtain⟨u,hu,e1,e2⟩:=((h.key s hs.1 hs.2).mem _).mp hm
 exact⟨u,hu,e1,(Prod.mk.inj e2).1.symm,(Prod.mk.inj e2).2.symm⟩
def uy(many:Int)(r:List Int):Prop:=r.length=many.toNat/\(∀ s,0<=s->s<many->0<=rk r s/\rk r s<many)/\∀ s,0<=s->s<many->0<rk r s->∃ t,(0<=t/\t<many)/\rk r t=rk r s-1
theorem qk.short(h:qk many steps b6 r ky diff)(av:eK many steps):diff.length<=many.toNat:=by
 have nd:diff.Nodup:=by
  rw[ND]
  have:=DL.mp h.up
  rw[DL]
  intro i j hi hj kH e
  have z:=this i j hi hj kH
  rw[e,jV _ (h.ok av (KL hj))] at z
  cases z
 have:=bx (m:=(bQ many.toNat).map ky) nd fun k hk=>by
  obtain⟨s,hs,rfl⟩:=(h.mem k).mp hk
  exact b9.mpr ⟨s,aZ.mpr (by lia),rfl⟩
 rwa[bT,gR] at this
theorem RB.yo(h:RB many steps b6 r)(av:eK many steps):uy many r:=by
 obtain⟨ky,diff,h⟩:=h
 have sh:=h.short av
 refine⟨h.len,fun s a b=>?_,fun s a b c=>?_⟩
 ·have p:=h.pos s a b
  have:=(iN.mp p.2).1
  lia
 ·have p:=h.pos s a b
  have l:=(iN.mp p.2).1
  have l2:(rk r s-1).toNat<diff.length:=by lia
  obtain⟨t,ht,e⟩:=(h.mem _).mp (KL l2)
  have p2:=h.pos t ht.1 ht.2
  have:=h.inj av p2.2 (iN.mpr ⟨l2,e⟩)
  exact⟨t,ht,by lia⟩
theorem RB.grows(h:RB many steps b6 r)(av:eK many steps)(d:uy many b6):∀ (n:Nat) (s:Int),0<=s->s<many->rk b6 s=n->rk b6 s<=rk r s
 |0,s,a,b,e=>by rw[e];exact((h.yo av).2.1 s a b).1
 |n+1,s,a,b,e=>by
  obtain⟨t,ht,et⟩:=d.2.2 s a b (by lia)
  have:=RB.grows h av d n t ht.1 ht.2 (by lia)
  have:=h.mono av ht ⟨a,b⟩ (by lia)
  lia
theorem RB.le(h:RB many steps b6 r)(av:eK many steps)(d:uy many b6){s:Int}(a:0<=s)(b:s<many):rk b6 s<=rk r s :=
 h.grows av d (rk b6 s).toNat s a b (by have:=(d.2.1 s a b).1;lia)
end
theorem Av:∀ {l m:List Int},l.length=m.length->(∀ (i:Nat) (h1:i<l.length) (h2:i<m.length),l[i]<=m[i])->l.sum<=m.sum/\(l≠m->l.sum<m.sum)
 |[],[],_,_=>⟨by simp,fun h=>absurd rfl h⟩
 |[],y :: m,h,_=>by simp at h
 |x :: l,[],h,_=>by simp at h
 |x :: l,y :: m,h,hl=>by
  have ih:=Av (l:=l) (m:=m) (by simpa using h) fun i h1 h2=>by
   have:=hl (i+1) (by simp;lia) (by simp;lia)
   simpa using this
  have h0:x<=y:=by have:=hl 0 (by simp) (by simp);simpa using this
  simp only[List.sum_cons]
  refine⟨by have:=ih.1;lia,fun ne=>?_⟩
  by_cases e:x=y
  ·subst e
   have:l≠m:=fun z=>ne (by rw[z])
   have:=ih.2 this
   lia
  ·have:=ih.1
   lia
theorem sum_bound{l:List Int}{b:Int}(h:∀ x∈l,x<=b)(hb:0<=b):l.sum<=l.length*b:=by
 induction l with
 |nil=>simp
 |cons x l ih =>
  have:=ih fun y hy=>h y (b5 _ hy)
  have:=h x bX
  simp only[List.sum_cons,tI]
  have e:((l.length+1:Nat):Int)*b=l.length*b+b:=by rw[Int.natCast_add,Int.add_mul];simp
  lia
theorem Ea{r:List Int}{i:Nat}(h:i<r.length):r[i]=rk r i:=by simp[rk,List.getD,h]
theorem RB.sum{many:Int}{steps:List aw}{b6 r:List Int}(h:RB many steps b6 r)(av:eK many steps)(d:uy many b6)(hm:0<=many)(ne:r≠b6):b6.sum<r.sum/\r.sum<=many*many:=by
 have d2:=h.yo av
 have hl:=d.1
 have EB:=d2.1
 refine⟨(Av (by lia) fun i h1 h2=>?_).2 fun e=>ne e.symm,?_⟩
 ·rw[Ea h1,Ea h2]
  exact h.le av d (by lia) (by lia)
 ·have:=sum_bound (l:=r) (b:=many) (fun x hx=>by
   obtain⟨i,hi,rfl⟩:=List.mem_iff_getElem.mp hx
   rw[Ea hi]
   have:=(d2.2.1 i (by lia) (by lia)).2
   lia) hm
  rwa[EB,D5 hm] at this
def Chain(many:Int)(steps:List aw):List Int->List (List Int)->Prop
 |cur,[]=>RB many steps cur cur
 |cur,gI :: rest=>RB many steps cur gI/\gI≠cur/\Chain many steps gI rest
theorem Chain.uniq{many:Int}{steps:List aw}(av:eK many steps):∀ {cur:List Int} {a b:List (List Int)},Chain many steps cur a->Chain many steps cur b->a=b
 |_,[],[],_,_=>rfl
 |_,[],y :: b,h,g=>absurd (g.1.uniq h av) g.2.1
 |_,x :: a,[],h,g=>absurd (h.1.uniq g av) h.2.1
 |_,x :: a,y :: b,h,g=>by
  have:=h.1.uniq g.1 av
  subst this
  rw[Chain.uniq av h.2.2 g.2.2]
def ig(cur:List Int)(rest:List (List Int)):List Int:=(cur :: rest).getLast (by simp)
theorem ud(cur gI:List Int)(rest:List (List Int)):ig cur (gI :: rest)=ig gI rest:=by simp[ig]
theorem Chain.last{many:Int}{steps:List aw}:∀ {cur:List Int} {rest:List (List Int)},Chain many steps cur rest->RB many steps (ig cur rest) (ig cur rest)
 |_,[],h=>h
 |cur,gI :: rest,h=>by rw[ud];exact h.2.2.last
def zeros(many:Int):List Int:=List.replicate many.toNat 0
theorem jd(many s:Int):rk (zeros many) s=0:=by
 unfold rk zeros
 by_cases h:s.toNat<many.toNat
 ·simp[List.getD,h]
 ·rw[List.getD,sA (by simpa using h)];rfl
theorem qD{many:Int}(h:1<=many):uy many (zeros many) :=
 ⟨by simp[zeros],fun s _ _=>by rw[jd];lia,fun s _ _ z=>by rw[jd] at z;lia⟩
def Kinds(many:Int)(steps:List aw)(k:List Int):Prop:=∃ rest,Chain many steps (zeros many) rest/\k=ig (zeros many) rest
theorem Kinds.uniq{many:Int}{steps:List aw}(av:eK many steps){k l:List Int}(h:Kinds many steps k)(g:Kinds many steps l):k=l:=by
 obtain⟨a,ha,rfl⟩:=h
 obtain⟨b,hb,rfl⟩:=g
 rw[ha.uniq av hb]
theorem yS{ps:List Pr}(hl:ps.length<=63){m:Md}{Q:Md->D->Prop}(k:∀ l:List Pr,l.Pairwise (fun a b=>fi (oD a) (oD b)=true)->(∀ p,p∈l↔p∈ps)->Q (.ow true) (.list (l.map lj))) :
  eN m (.list (ps.map lj)) Q:=by
 refine⟨ps.map oD,[true],by rw[js];rfl,by rw[bT];exact hl,fun k hk=>?_,fun ms nd mm pw=>?_⟩
 ·obtain⟨p,_,rfl⟩:=b9.mp hk
  rfl
 ·obtain⟨l,rfl,hp⟩:=Te (f:=oD) (P:=fun p=>p∈ps) (ks:=ms) fun k hk=>by
   obtain⟨p,hp,e⟩:=b9.mp ((mm k).mp hk)
   exact⟨p,e.symm,hp⟩
  have e:(l.map oD).map mn=l.map lj:=by rw[js];rfl
  rw[e]
  refine k l ?_ fun p=>⟨hp p,fun eI=>?_⟩
  ·rw[ly] at pw
   have Np:l.Pairwise fun a b=>oD a≠oD b:=by
    rw[List.Nodup,ly] at nd
    exact nd
   refine(pw.and Np).imp fun {a b} ⟨h1,h2⟩=>?_
   cases h3:fi (oD a) (oD b) with
   |true=>rfl
   |false=>exact absurd (jn (a:=oD a) (b:=oD b) rfl h3 h1) h2
  ·obtain⟨q,hq,e⟩:=b9.mp ((mm (oD p)).mpr (b9.mpr ⟨p,eI,rfl⟩))
   rw[<- CK e]
   exact hq
def kM(steps:List aw)(s:Int):List Pr:=(steps.filter fun t=>decide (t.1=s)).map (·.2)
def Sx(steps:List aw):Prop:=steps.length<=1000/\∀ s,(kM steps s).length<=63
def om(many:Int)(steps:List aw):List D:=(bQ many.toNat).map fun s=>.list ((kM steps s).map lj)
def BD(many:Int)(steps:List aw):D:=.list (om many steps)
theorem Fj(many:Int):((pQ 0 many.toNat).filter fun _=>true).map (fun _=>D.list [])=om many []:=by
 unfold om pQ bQ
 rw[NK.mpr fun _ _=>rfl,js,js]
 rfl
theorem Ds{many s:Int}(steps:List aw)(h0:0<=s)(h1:s<many):(om many steps)[s.toNat]? = some (.list ((kM steps s).map lj)):=by
 have:s.toNat<many.toNat:=by lia
 simp[om,bQ,this,D5 h0]
theorem pX(many:Int)(steps:List aw):(om many steps).length=many.toNat:=by simp[om,bQ]
theorem sE{n:Nat}{i:Int}(h0:0<=i)(h1:i<n):lS n i=some i.toNat:=by unfold lS;rw[if_pos h0,if_pos h1]
theorem zJ(steps:List aw)(p:Int)(d:Str)(r s:Int):kM (steps++[(p,d,r)]) s=if p=s then kM steps s++[(d,r)] else kM steps s:=by
 unfold kM
 by_cases h:p=s
 ·simp[h]
 ·simp[h]
theorem Et{many p:Int}(steps:List aw)(d:Str)(r:Int)(h0:0<=p)(h1:p<many):(om many steps).set p.toNat (.list ((kM steps p).map lj++[.tup [.str d,.int r]]))=om many (steps++[(p,d,r)]):=by
 apply DM
 intro i
 by_cases hi:i<many.toNat
 ·have e:∀ st,(om many st)[i]? = some (.list ((kM st (i:Nat)).map lj)):=fun st=>by
   have:=Ds (many:=many) (s:=(i:Nat)) st (by lia) (by lia)
   simpa using this
  rw[e,zJ]
  by_cases hp:p=(i:Nat)
  ·subst hp
   rw[if_pos rfl]
   simp[pX,hi,lj]
  ·rw[if_neg hp,Kj (by lia),e]
 ·rw[sA (by rw[List.length_set,pX];lia),sA (by rw[pX];lia)]
theorem Fe{many s:Int}(steps:List aw)(h0:0<=s)(h1:s<many):eT (om many steps) s=some (.list ((kM steps s).map lj)) :=
 t_ (sE h0 (by rw[pX];lia)) (Ds steps h0 h1)
theorem zx{many s:Int}{r:List Int}(hl:r.length=many.toNat)(h0:0<=s)(h1:s<many):eT (r.map D.int) s=some (.int (rk r s)):=by
 have h:s.toNat<r.length:=by lia
 refine t_ (sE h0 (by rw[bT];lia)) ?_
 simp[rk,List.getD,h]
theorem qy{steps:List aw}{s:Int}{p:Pr}(h:p∈kM steps s):∃ t∈steps,t.1=s/\t.2=p:=by
 obtain⟨t,ht,e⟩:=b9.mp h
 obtain⟨ht,hs⟩:=z3.mp ht
 exact⟨t,ht,of_decide_eq_true hs,e⟩
theorem wA{steps:List aw}{t:aw}(h:t∈steps):t.2∈kM steps t.1:=b9.mpr ⟨t,z3.mpr ⟨h,decide_eq_true rfl⟩,rfl⟩
theorem qR(steps:List aw)(s:Int):(kM steps s).length<=steps.length:=by
 unfold kM
 rw[bT]
 exact List.length_filter_le _ _
theorem wR(many:Int):(List.replicate many.toNat [D.int 0]).flatten=(zeros many).map D.int:=by
 unfold zeros
 generalize many.toNat=n
 induction n with
 |zero=>rfl
 |succ n ih=>rw[tF,vk,ih,tF];rfl
theorem RB.len{many:Int}{steps:List aw}{b6 r:List Int}(h:RB many steps b6 r):r.length=many.toNat:=by
 obtain⟨ky,diff,h⟩:=h
 exact h.len
abbrev P2:=Int × Int
def vj(many:Int)(p:P2):Prop:=(0<=p.1/\p.1<many)/\0<=p.2/\p.2<many
def Fwd(l:List aw)(ps:List P2)(p q:Int):Prop:=∀ d e,(p,d,e)∈l->∃ o,(q,d,o)∈l/\(e,o)∈ps
def Bwd(l:List aw)(ps:List P2)(p q:Int):Prop:=∀ d o,(q,d,o)∈l->∃ e,(p,d,e)∈l/\(e,o)∈ps
def eH'(l:List aw)(ps:List P2)(p:P2):Prop:=Fwd l ps p.1 p.2/\Bwd l ps p.1 p.2
theorem RB.iff{many:Int}{steps:List aw}{b6 r:List Int}(h:RB many steps b6 r)(av:eK many steps){s t:Int}(hs:0<=s/\s<many)(ht:0<=t/\t<many) :
  rk r s=rk r t↔rk b6 s=rk b6 t/\(∀ d e,(s,d,e)∈steps->∃ o,(t,d,o)∈steps/\rk b6 e=rk b6 o)/\∀ d o,(t,d,o)∈steps->∃ e,(s,d,e)∈steps/\rk b6 e=rk b6 o:=by
 constructor
 ·intro e
  refine⟨h.eE' hs ht e,fun d x hx=>?_,fun d o ho=>?_⟩
  ·obtain⟨⟨a,b,c⟩,hu,e1,e2,e3⟩:=h.XC av hx ht e
   cases e1
   cases e2
   exact⟨c,hu,e3.symm⟩
  ·obtain⟨⟨a,b,c⟩,hu,e1,e2,e3⟩:=h.XC av ho hs e.symm
   cases e1
   cases e2
   exact⟨c,hu,e3⟩
 ·rintro⟨e0,f,b⟩
  obtain⟨ky,diff,h⟩:=h
  have ks:=h.key s hs.1 hs.2
  have kt:=h.key t ht.1 ht.2
  have e:ky s=ky t:=by
   refine Prod.ext (by rw[ks.fst,kt.fst,e0]) (jb (fun x _ y _ h1 h2=>by have:=lM h1 h2;rw[du] at this;cases this) ks.up kt.up fun p=>?_)
   rw[ks.mem,kt.mem]
   constructor
   ·rintro⟨⟨a,d,e⟩,hu,rfl,rfl⟩
    obtain⟨o,ho,m⟩:=f d e hu
    exact⟨_,ho,rfl,by show(d,rk b6 e)=(d,rk b6 o);rw[m]⟩
   ·rintro⟨⟨a,d,o⟩,hu,rfl,rfl⟩
    obtain⟨e,he,m⟩:=b d o hu
    exact⟨_,he,rfl,by show(d,rk b6 o)=(d,rk b6 e);rw[m]⟩
  have p1:=h.pos s hs.1 hs.2
  have p2:=h.pos t ht.1 ht.2
  rw[<- e] at p2
  have:=h.inj av p1.2 p2.2
  lia
structure Rds(many:Int)(steps:List aw)(rest:List (List Int))(f:Nat->List Int):Prop where
 zero:f 0=zeros many
 gI:∀ k,RB many steps (f k) (f (k+1))
 at':∀ k,k<=rest.length->(zeros many :: rest)[k]? = some (f k)
 eh:∀ k,rest.length<=k->f k=f rest.length
theorem Chain.sq{many:Int}{steps:List aw}:∀ {cur:List Int} {rest:List (List Int)},Chain many steps cur rest->∃ f:Nat->List Int,f 0=cur/\(∀ k,RB many steps (f k) (f (k+1)))/\(∀ k,k<=rest.length->(cur :: rest)[k]? = some (f k))/\∀ k,rest.length<=k->f k=f rest.length
 |cur,[],h=>⟨fun _=>cur,rfl,fun _=>h,fun k hk=>by
   have:k=0:=Nat.le_zero.mp hk
   subst this
   rfl,fun _ _=>rfl⟩
 |cur,gI :: rest,h=>by
  obtain⟨f,f0,fn,fa,fs⟩:=h.2.2.sq
  refine⟨fun k=>Nat.casesOn k cur f,rfl,fun k=>?_,fun k hk=>?_,fun k hk=>?_⟩
  ·cases k with
   |zero=>show RB many steps cur (f 0);rw[f0];exact h.1
   |succ k=>exact fn k
  ·cases k with
   |zero=>rfl
   |succ k=>exact fa k (Nat.le_of_succ_le_succ hk)
  ·cases k with
   |zero=>exact absurd hk (by simp)
   |succ k=>exact fs k (Nat.le_of_succ_le_succ hk)
theorem Chain.rds{many:Int}{steps:List aw}{rest:List (List Int)}(h:Chain many steps (zeros many) rest):∃ f,Rds many steps rest f:=by
 obtain⟨f,a,b,c,d⟩:=h.sq
 exact⟨f,a,b,c,d⟩
theorem zP{κ β:Type}[DecidableEq κ](k k':κ)(d:β)(kvs:List (κ × β)):cE (i5 kvs k d) k'=if k'=k then some d else cE kvs k':=by
 have cons:∀ (p:κ × β) (r:List (κ × β)),cE (p :: r) k'=if p.1=k' then some p.2 else cE r k':=fun p r=>by
  unfold cE
  rw[DU]
  by_cases e:p.1=k'<;>simp[e]
 have mp:∀ kvs:List (κ × β),cE (kvs.map fun p=>if p.1=k then (p.1,d) else p) k'=if k'=k/\(cE kvs k').isSome then some d else cE kvs k':=by
  intro kvs
  induction kvs with
  |nil=>simp[cE]
  |cons p r ih =>
   rw[fo,cons,cons,ih]
   by_cases e:p.1=k
   ·by_cases e2:k=k'
    ·simp[e,e2]
    ·simp[e,e2]
   ·by_cases e2:p.1=k'
    ·subst e2
     simp[e]
    ·simp[e,e2]
 have sn:∀ kvs:List (κ × β),cE (kvs++[(k,d)]) k'=(cE kvs k').or (if k=k' then some d else none):=by
  intro kvs
  induction kvs with
  |nil=>rw[NV,cons];simp[cE]
  |cons p r ih =>
   rw[NP,cons,cons,ih]
   by_cases e2:p.1=k'<;>simp[e2]
 unfold i5
 by_cases h:(kvs.any fun kv=>decide (kv.1=k))=true
 ·rw[if_pos h,mp]
  by_cases e:k'=k
  ·subst e
   have:=gk.mpr (qx.mp h)
   simp[this]
  ·simp[e]
 ·rw[if_neg h,sn]
  by_cases e:k'=k
  ·subst e
   have:cE kvs k'=none:=by
    cases z:cE kvs k' with
    |none=>rfl
    |some v=>exact absurd (qx.mpr (gk.mp (by rw[z];rfl))) h
   simp[this]
  ·have e2:¬ k=k':=fun z=>e z.symm
   simp[e,e2]
theorem yH(cur:List Int)(rest:List (List Int)):(cur :: rest)[rest.length]? = some (ig cur rest):=by
 unfold ig
 rw[List.getLast_eq_getElem]
 simp
theorem Kinds.rb{many:Int}{l:List aw}{k:List Int}(h:Kinds many l k):RB many l k k:=by
 obtain⟨rest,hc,rfl⟩:=h
 exact hc.last
theorem Kinds.same{many:Int}{l:List aw}{k:List Int}{ps:List P2}(h:Kinds many l k)(av:eK many l)(hi:∀ x∈ps,vj many x)(hb:∀ x∈ps,eH' l ps x):∀ x∈ps,rk k x.1=rk k x.2:=by
 obtain⟨rest,hc,rfl⟩:=h
 obtain⟨f,hf⟩:=hc.rds
 have go:∀ i,∀ x∈ps,rk (f i) x.1=rk (f i) x.2:=fun i=>by
  induction i with
  |zero=>intro x _;rw[hf.zero,jd,jd]
  |succ i ih =>
   intro x hx
   have b:=hb x hx
   refine((hf.gI i).iff av (hi x hx).1 (hi x hx).2).mpr ⟨ih x hx,fun d e he=>?_,fun d o ho=>?_⟩
   ·obtain⟨o,ho,m⟩:=b.1 d e he
    exact⟨o,ho,ih _ m⟩
   ·obtain⟨e,he,m⟩:=b.2 d o ho
    exact⟨e,he,ih _ m⟩
 have e:=hf.at' rest.length (ck _)
 rw[yH] at e
 rw[Option.some.inj e]
 exact go _
def DE(kvs:Kn)(t:aw):Prop:=fT t∈kvs.map (·.1)
theorem rF{kvs:Kn}{s t:aw}{d:D}:DE (i5 kvs (fT s) d) t↔DE kvs t\/t=s:=by
 unfold DE
 rw[<- gk,<- gk,zP]
 by_cases e:t=s
 ·subst e;simp
 ·have:fT t≠fT s:=fun z=>e (nY z)
  simp[this,e]
theorem iL.head {l:List aw} {s x:Int} (h:iL l s x):x=s\/∃ u,((s, "*",u):aw)∈l/\iL l u x:=by
 induction h with
 |refl=>exact .inl rfl
 |@step t _ ht e ih =>
  obtain⟨a,d,b⟩:=t
  have e:d = "*" := e
  subst e
  rcases ih with rfl|⟨u,hu,r⟩
  ·exact .inr ⟨b,ht,.refl⟩
  ·exact .inr ⟨u,hu,.step r ht rfl⟩
theorem nh.star {many:Int} {l out:List aw} (h:nh many l out) {s x:Int} (hs:0<=s/\s<many) (r:iL l s x):((s, "*",x):aw)∈out:=(h.mem _).mpr ⟨hs,.inl ⟨rfl,r⟩⟩
theorem nh.put {many:Int} {l out:List aw} (h:nh many l out) {s a b x:Int} {d:Str} (hs:0<=s/\s<many) (hd:d ≠ "*") (r:iL l s a) (m:(a,d,b)∈l) (r2:iL l b x):(s,d,x)∈out:=(h.mem _).mpr ⟨hs,.inr ⟨hd,a,b,r,m,r2⟩⟩
section
variable {many:Int}{l out:List aw}{k k2:List Int}
theorem Kinds.Tf(hk:Kinds many l k)(av:eK many l){x a y:Int}(r:iL l x a)(hx:0<=x/\x<many)(hy:0<=y/\y<many)(e:rk k x=rk k y):∃ b,iL l y b/\rk k a=rk k b:=by
 induction r with
 |refl=>exact⟨y,.refl,e⟩
 |@step t r ht es ih =>
  obtain⟨b,hb,eb⟩:=ih
  obtain⟨a1,d,a2⟩:=t
  have es:d = "*" := es
  subst es
  have h1:=((hk.rb.iff av (r.lt av hx) (hb.lt av hy)).mp eb).2.1 _ _ ht
  obtain⟨o,ho,eo⟩:=h1
  exact⟨o,.step hb ho rfl,eo⟩
theorem Kinds.es(hk:Kinds many l k)(av:eK many l)(he:nh many l out){x y e:Int}{d:Str}(hx:0<=x/\x<many)(hy:0<=y/\y<many)(XD:rk k x=rk k y)(h:(x,d,e)∈out):∃ o,(y,d,o)∈out/\rk k e=rk k o:=by
 rcases ((he.mem _).mp h).2 with⟨ed,r⟩|⟨nd,a,b,r1,m,r2⟩
 ·have ed:d = "*" := ed
  subst ed
  obtain⟨o,ho,eo⟩:=hk.Tf av r hx hy XD
  exact⟨o,he.star hy ho,eo⟩
 ·obtain⟨a2,XE,ea⟩:=hk.Tf av r1 hx hy XD
  obtain⟨b2,XF,eb⟩:=((hk.rb.iff av (r1.lt av hx) (XE.lt av hy)).mp ea).2.1 _ _ m
  obtain⟨o,ho,eo⟩:=hk.Tf av r2 (av _ m).2.2.2 (av _ XF).2.2.2 eb
  exact⟨o,he.put hy nd XE XF ho,eo⟩
theorem Kinds.B6(hk:Kinds many l k)(yb:Kinds many out k2)(av:eK many l)(he:nh many l out){x y:Int}(hx:0<=x/\x<many)(hy:0<=y/\y<many)(e:rk k x=rk k y):rk k2 x=rk k2 y:=by
 have hm:∀ z:P2,z∈(((bQ many.toNat).map fun a=>(bQ many.toNat).map fun b=>((a,b):P2)).flatten.filter fun z=>decide (rk k z.1=rk k z.2))↔vj many z/\rk k z.1=rk k z.2:=fun z=>by
  rw[z3,decide_eq_true_iff,NT]
  refine and_congr_left fun _=>⟨?_,fun h=>⟨_,b9.mpr ⟨z.1,aZ.mpr ⟨h.1.1,by have:=h.1.2;lia⟩,rfl⟩,b9.mpr ⟨z.2,aZ.mpr ⟨h.2.1,by have:=h.2.2;lia⟩,rfl⟩⟩⟩
  rintro⟨r,hr,hz⟩
  obtain⟨a,ha,rfl⟩:=b9.mp hr
  obtain⟨b,hb,rfl⟩:=b9.mp hz
  have h1:=aZ.mp ha
  have h2:=aZ.mp hb
  exact⟨⟨h1.1,by show a<many;lia⟩,h2.1,by show b<many;lia⟩
 refine yb.same (he.in av) (fun z hz=>((hm z).mp hz).1) (fun z hz=>?_) (x,y) ((hm _).mpr ⟨⟨hx,hy⟩,e⟩)
 obtain⟨⟨z1,z2⟩,ez⟩:=(hm z).mp hz
 refine⟨fun d e mG=>?_,fun d o ho=>?_⟩
 ·obtain⟨o,ho,eo⟩:=hk.es av he z1 z2 ez mG
  exact⟨o,ho,(hm _).mpr ⟨⟨(he.in av _ mG).2.2.2,(he.in av _ ho).2.2.2⟩,eo⟩⟩
 ·obtain⟨e2,mG,eo⟩:=hk.es av he z2 z1 ez.symm ho
  exact⟨e2,mG,(hm _).mpr ⟨⟨(he.in av _ mG).2.2.2,(he.in av _ ho).2.2.2⟩,eo.symm⟩⟩
def DF (l:List aw) (x t:Int):Prop:=((x, "*",t):aw)∈l/\∀ d e,(x,d,e)∈l->d = "*"/\e=t
theorem DF.B6{x t:Int}(h:DF l x t)(yb:Kinds many out k2)(av:eK many l)(he:nh many l out):rk k2 x=rk k2 t:=by
 have ok:=av _ h.1
 have hx:0<=x/\x<many:=⟨ok.1,ok.2.1⟩
 have ht:0<=t/\t<many:=ok.2.2.2
 have hm:∀ z:P2,z∈((x,t) :: (bQ many.toNat).map fun a=>((a,a):P2))↔z=(x,t)\/((0<=z.1/\z.1<many)/\z.1=z.2):=fun z=>by
  rw[df,b9]
  refine or_congr_right ⟨?_,fun h=>⟨z.1,aZ.mpr (by lia),Prod.ext rfl h.2⟩⟩
  rintro⟨a,ha,rfl⟩
  have h1:=aZ.mp ha
  exact⟨⟨h1.1,by show a<many;lia⟩,rfl⟩
 have CY:∀ {a d e},(a,d,e)∈out->(e,e)∈((x,t) :: (bQ many.toNat).map fun a=>((a,a):P2)):=fun z=>(hm _).mpr (.inr ⟨(he.in av _ z).2.2.2,rfl⟩)
 have rx:iL l x t:=.step (t:=(x, "*",t)) .refl h.1 rfl
 have hr:∀ {a},iL l x a->a=x\/iL l t a:=fun r=>r.head.imp id fun⟨u,hu,r⟩=>by rw[<- (h.2 _ _ hu).2];exact r
 refine yb.same (he.in av) (fun z hz=>?_) (fun z hz=>?_) (x,t) ((hm _).mpr (.inl rfl))
 ·rcases (hm z).mp hz with rfl|⟨h1,h2⟩
  ·exact⟨hx,ht⟩
  ·exact⟨h1,by rw[<- h2];exact h1⟩
 ·rcases (hm z).mp hz with rfl|⟨h1,h2⟩
  ·refine⟨fun d e mG=>?_,fun d o ho=>?_⟩
   ·rcases ((he.mem _).mp mG).2 with⟨ed,r⟩|⟨nd,a,b,r1,m,r2⟩
    ·have ed:d = "*" := ed
     subst ed
     rcases hr r with z|z
     ·have z:e=x:=z
      subst z
      exact⟨t,he.star ht .refl,bX⟩
     ·exact⟨e,he.star ht z,CY mG⟩
    ·rcases hr r1 with z|z
     ·subst z
      exact absurd (h.2 _ _ m).1 nd
     ·exact⟨e,he.put ht nd z m r2,CY mG⟩
   ·refine⟨o,?_,CY ho⟩
    rcases ((he.mem _).mp ho).2 with⟨ed,r⟩|⟨nd,a,b,r1,m,r2⟩
    ·have ed:d = "*" := ed
     subst ed
     exact he.star hx (rx.trans r)
    ·exact he.put hx nd (rx.trans r1) m r2
  ·refine⟨fun d e mG=>⟨e,by rw[<- h2];exact mG,CY mG⟩,fun d o ho=>⟨o,by rw[h2];exact ho,CY ho⟩⟩
end
theorem fj(x:Int){m:Int}(h:0<m):0<=x % m/\x % m<m:=⟨D6 _ (by lia),FX _ h⟩
theorem pF{a b:Int}(h0:-1000<=b)(h1:b<=10000000000):Ee a b:=.inr ⟨by lia,by lia⟩
def dw:WS :=
 (n9 (AX (wB (pD Pk MQ (wC (.int 0)) (ai 1) (aT ic (ai 0) (wC (.int 0))))))
 (vC "NoState" (wC (.str "the machine has no such state")))
 dH)
def aK:hV:=fun ds Q=>∃ (many:Int) (l:List aw) (s:Int),ds=[mD many l,.int s]/\((0<=s/\s<many)->Q .sh .non)/\(¬ (0<=s/\s<many)->Q (.ow false) (.str "NoState"))
theorem jJ (ds Q) (h:aK ds Q):ds.length=["m", "state"].length:=by obtain⟨_,_,_,rfl,_⟩:=h;rfl
theorem ou:∀ ds Q,aK ds Q->dw { nx:=fun _=>Q .sh .non,rt:=Q } (aJ 2 ds):=by
 rintro ds Q ⟨many,l,s,rfl,h1,h2⟩
 unfold dw mD
 walk_at "q"
 refine R.D (fun a=>?_) fun a=>?_
 ·walk_at "q"
  by_cases b:s<many
  ·refine R.F (by simp[b]) ?_
   walk_at "q"
   exact h1 ⟨a,b⟩
  ·refine R.T (by simp[b]) ?_
   walk_at "q"
   exact h2 fun z=>b z.2
 ·walk_at "q"
  exact h2 fun z=>a z.1
def jq:WS :=
 (dk (fw 1 sS)
 (dk (iS 0 (pT (dJ (aT ic (ai 0) (wC (.int 1)))) (gT 3 (cN (gN 2) (cN (gN 3) (cN (gN 4) pG))))
 (iS 4 (iS 3 (iS 2 (PR 1 (nV (ak (ai 2) (ak (ai 3) cx))) (ai 4)))))))
 (oZ 1)))
def cB:hV:=fun ds Q=>∃ (many:Int) (l:List aw),ds=[mD many l]/\l.length<=10000/\∀ kvs,zv l kvs->Q (.ow true) (.dT kvs)
theorem rB (ds Q) (h:cB ds Q):ds.length=["m"].length:=by obtain⟨_,_,rfl,_⟩:=h;rfl
theorem xR:∀ ds Q,cB ds Q->jq { nx:=fun _=>Q .sh .non,rt:=Q } (aJ 5 ds):=by
 rintro ds Q ⟨many,l,rfl,hz,h⟩
 unfold jq mD
 walk_at "q"
 refine bN _ (fun i ρ=>∃ (kvs:Kn) (o2 o3 o4:Option Sl),zv (l.take i) kvs/\kvs.length<=i/\ρ=[some (.sh (.tup [.int many,.list (l.map dc)])),some (.ow true (.dT kvs)),o2,o3,o4]) ⟨[],_,_,_,zv.nil,by simp,rfl⟩ ?_ ?_
 ·rintro i x ρ hx ⟨kvs,o2,o3,o4,hw,hk,rfl⟩ N hN
  have hi:=(iN.mp hx).1
  rw[bT] at hi
  obtain⟨p,d,r,rfl,hs,et⟩:=Ae hx
  walk_at "q"
  refine⟨by lia,?_,hN _ ⟨_,_,_,_,by rw[et];exact hw.put p d r,by have:=wD [.inl p,.inr d] (.int r) kvs;lia,rfl⟩⟩
  rw[hw p d]
  have:=zy (l.take i) p d
  rw[vn] at this
  split
  ·trivial
  ·show List.length _<_
   rw[bT]
   exact Fq (by lia)
 ·rintro ρ ⟨kvs,o2,o3,o4,hw,hk,rfl⟩
  rw[bT,z0] at hw
  walk_at "q"
  exact h kvs hw
def ie:WS :=
 (dk (fw 1 (jL (gK (aT ic (ai 0) (wC (.int 0)))) (gN 0) A3 (rL cx) 1 []))
 (dk (iS 0 (pT (dJ (aT ic (ai 0) (wC (.int 1)))) (gT 3 (cN (gN 2) (cN (gN 3) (cN (gN 4) pG))))
 (iS 4 (iS 3 (E3 (Pt (vi 1) (ai 2)) (nV (ak (ai 3) (ak (ai 4) cx))))))))
 (oZ 1)))
def bh:hV:=fun ds Q=>∃ (many:Int) (steps:List aw),ds=[mD many steps]/\(0<=many/\many<=1000)/\eK many steps/\steps.length<=1000/\Q (.ow true) (BD many steps)
theorem pR (ds Q) (h:bh ds Q):ds.length=["m"].length:=by obtain⟨_,_,rfl,_⟩:=h;rfl
theorem uN:∀ ds Q,bh ds Q->ie { nx:=fun _=>Q .sh .non,rt:=Q } (aJ 5 ds):=by
 rintro ds Q ⟨many,steps,rfl,hm,av,hl,h⟩
 unfold ie mD
 walk_at "q"
 refine⟨by lia,by lia,?_⟩
 refine fH (fun _=>true) (fun _=>.list []) (fun ρ=>∃ o,ρ=[o]) _ _ _ ⟨_,rfl⟩ ?_ ?_
 ·rintro x hx ρ ⟨o,rfl⟩ N1 N2 n1 n2
  walk_at "q"
  exact⟨.inr rfl,n2 _ ⟨_,rfl⟩ rfl⟩
 rw[Fj]
 refine bN _ (fun i ρ=>∃ o2 o3 o4,ρ=[some (.sh (.tup [.int many,.list (steps.map dc)])),some (.ow true (.list (om many (steps.take i)))),o2,o3,o4]) ⟨none,none,none,by simp⟩ ?_ ?_
 ·rintro i x ρ hx ⟨o2,o3,o4,rfl⟩ N hN
  obtain⟨p,d,r,rfl,hs,ht⟩:=Ae hx
  have ok:=av _ hs
  walk_at "q"
  refine⟨p.toNat,.list ((kM (steps.take i) p).map lj),sE ok.1 (by rw[pX];have:=ok.2.1;lia),Ds _ ok.1 ok.2.1,rfl,?_⟩
  walk_at "q"
  refine⟨?_,?_⟩
  ·have:=qR (steps.take i) p
   have:(steps.take i).length<=steps.length:=by rw[vn];lia
   lia
  ·refine hN _ ⟨some (.sh (.int p)),some (.sh (.str d)),some (.sh (.int r)),?_⟩
   rw[Et _ _ _ ok.1 ok.2.1,<- ht]
 ·rintro ρ ⟨o2,o3,o4,rfl⟩
  walk_at "q"
  rw[z0]
  exact h
def m8:WS :=
 (mM (nV (ak (aT ic (ai 1) (ai 2)) (ak (kE eN (jL (j_ (aT ic (ai 0) (ai 2))) (gT 2 (cN (gN 0) (cN (gN 1) pG))) A3 (nV (ak (ai 0) (ak (aT ic (ai 2) (ai 1)) cx))) 2 [1])) cx))))
def dh:hV:=fun ds Q=>∃ (many:Int) (steps:List aw) (b6:List Int) (s:Int),ds=[BD many steps,.list (b6.map .int),.int s]/\(0<=s/\s<many)/\b6.length=many.toNat/\eK many steps/\Sx steps/\∀ k,DC steps b6 s k->Q (.ow true) (gv k)
theorem uL (ds Q) (h:dh ds Q):ds.length=["exits", "ranks", "state"].length:=by obtain⟨_,_,_,_,rfl,_⟩:=h;rfl
theorem yu:∀ ds Q,dh ds Q->m8 { nx:=fun _=>Q .sh .non,rt:=Q } (aJ 3 ds):=by
 rintro ds Q ⟨many,steps,b6,s,rfl,hs,hr,av,hl,h⟩
 unfold m8 BD
 walk_at "q"
 refine⟨_,zx hr hs.1 hs.2,?_⟩
 walk_at "q"
 refine⟨_,Fe steps hs.1 hs.2,?_⟩
 walk_at "q"
 refine fH (fun _=>true) (fun d=>match d with
  |.tup [.str x,.int e]=>.tup [.str x,.int (rk b6 e)]
  |d=>d) (fun ρ=>∃ o0 o1,ρ=[o0,o1,some (.sh (.list (b6.map .int)))]) _ _ _ ⟨_,_,rfl⟩ ?_ ?_
 ·rintro x hx ρ ⟨o0,o1,rfl⟩ N1 N2 n1 n2
  obtain⟨p,hp,rfl⟩:=b9.mp hx
  obtain⟨t,ht,e1,e2⟩:=qy hp
  obtain⟨x,e⟩:=p
  have ok:=av t ht
  obtain⟨t1,t2,t3⟩:=t
  cases e2
  unfold lj
  walk_at "q"
  refine⟨_,zx hr ok.2.2.2.1 ok.2.2.2.2,?_⟩
  walk_at "q"
  exact⟨.inl rfl,n2 _ ⟨_,_,rfl⟩ rfl⟩
 have e1:((kM steps s).map lj |>.filter fun _=>true).map (fun d=>match d with
   |.tup [.str x,.int e]=>.tup [.str x,.int (rk b6 e)]
   |d=>d)=((kM steps s).map fun p=>(p.1,rk b6 p.2)).map lj:=by
  rw[NK.mpr fun _ _=>rfl,js,js]
  rfl
 rw[e1]
 refine yS (ps:=(kM steps s).map fun p=>(p.1,rk b6 p.2)) (m:=.ow true) (Q:=fun _ d=>Q (.ow true) (.tup [.int (rk b6 s),d])) (by rw[bT];exact hl.2 s) fun l up mem=>?_
 refine h (rk b6 s,l) ⟨rfl,up,fun p=>(mem p).trans ⟨fun hp=>?_,fun hp=>?_⟩⟩
 ·obtain⟨q,hq,rfl⟩:=b9.mp hp
  obtain⟨t,ht,e1,rfl⟩:=qy hq
  exact⟨t,ht,e1,rfl⟩
 ·obtain⟨t,ht,rfl,rfl⟩:=hp
  exact b9.mpr ⟨t.2,wA ht,rfl⟩
def cY:WS :=
 (dk (fw 2 (S5 (ai 1) (Ng (rL cx))))
 (dk (iS 1 (fw 3 (rL (ak (ai 1) cx))))
 (dk (uX (R4 (ai 3))
 (dk (Py 4 (vi 3))
 (iS 4 (pT (dJ (PN (ai 0) (nV (ak (ai 4) (ak (wC (.str "*")) cx))) (Ng (rL cx)))) (gN 5)
 (n9 (wB (aT (AY true) (ai 5) (ai 2)))
 (dk (iS 5 (iS 4 (wg (vi 2) (ai 5) (Ng (aT kF (aT ic (ai 2) (ai 4)) (rL (ak (nV (ak (ai 4) (ak (wC (.str "*")) (ak (ai 5) cx)))) cx)))))))
 (iS 5 (E3 (vi 3) (ai 5))))
 dH)))))
 (oZ 2))))
structure Wk(many:Int)(l:List aw)(s:Int)(ks:List Int)(kd:List (Key × D)):Prop where
 ek:kd.map (·.1)=ks.map fun x=>(Sum.inl x:Key)
 nd:ks.Nodup
 z:s∈ks
 r:∀ x∈ks,iL l s x/\0<=x/\x<many
 v:∀ p∈kd,∃ w:List aw,p.2=.list (w.map dc)/\w.length<ks.length
theorem Wk.len{many:Int}{l:List aw}{s:Int}{ks:List Int}{kd:List (Key × D)}(w:Wk many l s ks kd)(h:many<=20):ks.length<=20/\kd.length=ks.length:=by
 refine⟨?_,by have:=congrArg List.length w.ek;simpa using this⟩
 have:=wQ w.nd fun x hx=>(w.r x hx).2
 lia
theorem Wk.get{many:Int}{l:List aw}{s:Int}{ks:List Int}{kd:List (Key × D)}(w:Wk many l s ks kd){x:Int}(hx:x∈ks):∃ p:List aw,cE kd (.inl x)=some (.list (p.map dc))/\p.length<ks.length:=by
 have:(cE kd (.inl x)).isSome=true:=gk.mpr (by rw[w.ek];exact jt.mpr hx)
 obtain⟨d,e⟩:=Qt.mp this
 obtain⟨q,hq,e'⟩:=K0.mp e
 obtain⟨p,e2,hl⟩:=w.v q (List.mem_of_find?_eq_some hq)
 exact⟨p,by rw[e,<- e',e2],hl⟩
theorem Wk.has{many:Int}{l:List aw}{s:Int}{ks:List Int}{kd:List (Key × D)}(w:Wk many l s ks kd)(x:Int):(cE kd (.inl x)).isSome=decide (x∈ks):=by
 rw[yv,gk,w.ek,jt,decide_eq_true_iff]
theorem Wk.put {many:Int} {l:List aw} {s:Int} {ks:List Int} {kd:List (Key × D)} (w:Wk many l s ks kd) (av:eK many l) {a x:Int} (ha:a∈ks) (hx:x∉ks) (ht:((a, "*",x):aw)∈l) {p:List aw} (hp:p.length<=ks.length) :
  Wk many l s (ks++[x]) (i5 kd (.inl x) (.list (p.map dc))):=by
 have ep:i5 kd (.inl x) (D.list (p.map dc))=kd++[(.inl x,.list (p.map dc))]:=by
  unfold i5
  rw[if_neg fun z=>hx (jt.mp (by rw[<- w.ek];exact qx.mp z))]
 have nx:∀ b∈ks,∀ c∈[x],b≠c:=fun b hb c hc e=>by
  have:c=x:=by simpa using hc
  subst this;subst e;exact hx hb
 refine⟨by rw[ep,sC,w.ek];simp,ip.mpr ⟨w.nd,by simp,nx⟩,i9 _ w.z,fun y hy=>?_,fun q hq=>?_⟩
 ·rcases dS.mp hy with hy|hy
  ·exact w.r y hy
  ·have:y=x:=by simpa using hy
   subst this
   exact⟨.step (t:=(a, "*",y)) (w.r a ha).1 ht rfl,(av _ ht).2.2.2⟩
 ·rw[ep] at hq
  rw[kA,NH]
  rcases dS.mp hq with hq|hq
  ·obtain⟨u,e,hu⟩:=w.v q hq
   exact⟨u,e,by lia⟩
  ·have:q=(.inl x,.list (p.map dc)):=by simpa using hq
   subst this
   exact⟨p,rfl,by lia⟩
def aR:hV:=fun ds Q=>∃ (kvs:Kn) (s many:Int) (l:List aw),ds=[.dT kvs,.int s]/\zv l kvs/\eK many l/\many<=20/\(0<=s/\s<many) /\
 ∀ (kd:List (Key × D)) (ks:List Int),kd.map (·.1)=(ks.map fun x=>(Sum.inl x:Key))->ks.Nodup->(∀ x,x∈ks↔iL l s x)->Q (.ow false) (.dK kd)
theorem iR (ds Q) (h:aR ds Q):ds.length=["ways", "state"].length:=by obtain⟨_,_,_,_,rfl,_⟩:=h;rfl
theorem lF:∀ ds Q,aR ds Q->cY { nx:=fun _=>Q .sh .non,rt:=Q } (aJ 6 ds):=by
 rintro ds Q ⟨kvs,s,many,l,rfl,hw,av,hm,hs,h⟩
 unfold cY
 walk_at "q"
 refine⟨fun ρ=>∃ (ks wait:List Int) (kd:List (Key × D)) (o4 o5:Option Sl),Wk many l s ks kd/\(∀ x∈wait,x∈ks)/\wait.length<=ks.length/\(∀ t∈l,t.2.1 = "*"->t.1∈ks->t.1∉wait->t.2.2∈ks) /\
   ρ=[some (.sh (.dT kvs)),some (.sh (.int s)),some (.ow false (.dK kd)),some (.ow true (.list (wait.map .int))),o4,o5],
  fun ρ=>match ρ with
   |[_,_,some (.ow _ (.dK kd)),some (.ow _ (.list w)),_,_]=>2*(20-kd.length)+w.length
   |_=>0,⟨[s],[s],[(.inl s,.list [])],none,none,⟨rfl,by simp,by simp,fun x hx=>?_,fun p hp=>?_⟩,by simp,by simp,fun t _ _ e hn=>absurd (by simpa using e) (by simpa using hn),rfl⟩,?_⟩
 ·have:x=s:=by simpa using hx
  subst this;exact⟨.refl,hs⟩
 ·have:p=(.inl s,.list []):=by simpa using hp
  subst this;exact⟨[],rfl,by simp⟩
 rintro ρ ⟨Tg,wait,XG,o4,o5,hc,XH,CC,hG,rfl⟩
 have PD:=hc.len hm
 walk_at "q"
 by_cases fS:wait=[]
 ·subst fS
  rw[if_neg (by simp)]
  exact h XG Tg hc.ek hc.nd fun x=>⟨fun hx=>(hc.r x hx).1,CN hc.z fun t ht e hm=>hG t ht e hm (by simp)⟩
 ·obtain⟨w0,st,rfl⟩:∃ w0 st,wait=w0++[st]:=⟨wait.dropLast,wait.getLast fS,(List.dropLast_concat_getLast fS).symm⟩
  rw[if_pos (by simp)]
  refine⟨.int st,by simp,rfl,?_⟩
  walk_at "q"
  rw[show(List.map D.int (w0++[st])).dropLast=w0.map D.int by simp]
  simp only[kA,NH] at CC ⊢
  refine zR hw ⟨trivial,?_⟩
  walk_at "q"
  refine bN _ (fun i ρ=>∃ (ks wait:List Int) (kd:List (Key × D)) (o5:Option Sl),Wk many l s ks kd/\st∈ks/\(∀ x∈wait,x∈ks)/\wait.length+1<=ks.length/\(∀ t∈l,t.2.1 = "*"->t.1∈ks->t.1∉wait->t.1≠st->t.2.2∈ks)/\(∀ x∈(cP l st "*").take i,x∈ks) /\
   2*(20-ks.length)+wait.length<2*(20-Tg.length)+(w0.length+1) /\
   ρ=[some (.sh (.dT kvs)),some (.sh (.int s)),some (.ow false (.dK kd)),some (.ow true (.list (wait.map .int))),some (.sh (.int st)),o5])
   ⟨Tg,w0,XG,_,hc,XH st (by simp),fun x hx=>XH x (by simp[hx]),by lia,fun t ht e h1 h2 h3=>hG t ht e h1 (by simp[h2,h3]),by simp,by lia,rfl⟩ ?_ ?_
  ·rintro i x ρ hx ⟨ks,wait,kd,o5,hc,jS,P6,CC,hG,Nr,XI,rfl⟩ N hN
   obtain⟨r,rfl,hr,et⟩:=int_at hx
   have PD:=hc.len hm
   walk_at "q"
   by_cases P7:r∈ks
   ·refine R.F (by rw[hc.has];simp[P7]) ?_
    walk_at "q"
    refine hN _ ⟨ks,wait,kd,_,hc,jS,P6,CC,hG,fun x hx=>?_,XI,rfl⟩
    rw[et] at hx
    rcases dS.mp hx with hx|hx
    ·exact Nr x hx
    ·have:x=r:=by simpa using hx
     rw[this];exact P7
   ·refine R.T (by rw[hc.has];simp[P7]) ?_
    walk_at "q"
    obtain⟨p,ep,hp⟩:=hc.get jS
    refine⟨_,_,rfl,ep,?_⟩
    walk_at "q"
    have e1:p.map dc++[D.tup [.int st,.str "*",.int r]]=(p++[((st, "*",r):aw)]).map dc:=by simp[dc]
    have vE:=hc.put av jS P7 (tQ.mp hr) (p:=p++[((st, "*",r):aw)]) (by simp;lia)
    have eK':=vE.len hm
    rw[kA,NH] at eK'
    refine⟨by lia,.inl ⟨eF p,?_⟩⟩
    rw[e1]
    refine⟨by lia,by lia,?_⟩
    rw[show wait.map D.int++[D.int r]=(wait++[r]).map D.int by simp]
    refine hN _ ⟨ks++[r],wait++[r],_,_,vE,by simp[jS],fun x hx=>?_,by simp;lia,fun t ht e h1 h2 h3=>?_,fun x hx=>?_,by simp;lia,rfl⟩
    ·rcases dS.mp hx with hx|hx
     ·simp[P6 x hx]
     ·simp at hx;simp[hx]
    ·simp only[dS,nv,not_or] at h1 h2 ⊢
     rcases h1 with h1|h1
     ·exact .inl (hG t ht e h1 h2.1 h3)
     ·exact absurd h1 h2.2
    ·rw[et] at hx
     rcases dS.mp hx with hx|hx
     ·simp[Nr x hx]
     ·have:x=r:=by simpa using hx
      simp[this]
  ·rintro ρ ⟨ks,wait,kd,o5,hc,jS,P6,CC,hG,Nr,XI,rfl⟩
   rw[bT,z0] at Nr
   have hW':=hc.len hm
   refine⟨⟨ks,wait,kd,_,_,hc,P6,by lia,fun t ht e h1 h2=>?_,rfl⟩,by simp;lia⟩
   by_cases e':t.1=st
   ·refine Nr _ (tQ.mpr ?_)
    obtain⟨p,d,r⟩:=t
    simp only at e e' ⊢
    subst e;subst e'
    exact ht
   ·exact hG t ht e h1 h2 e'
def dB:WS :=
 (dk (iS 2 (fw 3 (jL (j_ (aT ic (ai 1) (ai 2))) (gN 0) A3 (nV (ak (ai 1) (ak (wC (.str "*")) (ak (ai 0) cx)))) 1 [2])))
 (dk (iS 1 (pT (dJ (aT ic (ai 1) (ai 2))) (gN 4)
 (iS 0 (pT (dJ (aT ic (ai 0) (ai 4))) (gT 2 (cN (gN 5) (cN (gN 6) pG)))
 (n9 (wB (aT sT (ai 5) (wC (.str "*"))))
 (iS 5 (iS 2 (PZ (vi 3) (jL (j_ (aT ic (ai 1) (ai 6))) (gN 0) A3 (nV (ak (ai 2) (ak (ai 1) (ak (ai 0) cx)))) 1 [5,2]))))
 dH)))))
 (mM (kE dX (ai 3)))))
def yi(xs:List Int):D:=.list (xs.map .int)
structure P8(many:Int)(l:List aw)(rs:List (List Int)):Prop where
 len:rs.length=many.toNat
 at':∀ (i:Nat) xs,rs[i]? = some xs->IQ l i xs
theorem P8.get{many:Int}{l:List aw}{rs:List (List Int)}(h:P8 many l rs){s:Int}(hs:0<=s/\s<many):∃ xs,eT (rs.map yi) s=some (yi xs)/\IQ l s xs:=by
 have hn:s.toNat<rs.length:=by rw[h.len];lia
 refine⟨rs[s.toNat],t_ (sE hs.1 (by rw[bT,h.len];lia)) (by simp[hn]),?_⟩
 have:=h.at' s.toNat _ (oq hn)
 rwa[D5 hs.1] at this
theorem IQ.len{many:Int}{l:List aw}{s:Int}{xs:List Int}(h:IQ l s xs)(av:eK many l)(hs:0<=s/\s<many)(hm:many<=10):xs.length<=20:=by
 have:=wQ (yD h.up) fun x hx=>((h.mem x).mp hx).lt av hs
 lia
structure Ez(many:Int)(l:List aw)(s:Int)(out:List aw):Prop where
 up:out.Pairwise fun a b=>b4 a b=true
 mem:∀ t,t∈out↔t.1=s/\Es l t
def BE(names:List Str)(s:Int):List aw:=(names.map fun n=>(bQ 10).map fun q=>((s,n,q):aw)).flatten
theorem jg(names:List Str)(s:Int):(BE names s).length=names.length*10:=by
 unfold BE
 induction names with
 |nil=>rfl
 |cons n names ih=>rw[fo,vk,kA,ih,bT,gR,tI];lia
theorem ji{names:List Str}{s:Int}{t:aw}(h1:t.1=s)(h2:t.2.1∈names)(h3:0<=t.2.2/\t.2.2<10):t∈BE names s:=by
 unfold BE
 rw[NT]
 obtain⟨a,b,c⟩:=t
 simp only at h1 h2 h3
 subst h1
 exact⟨_,b9.mpr ⟨b,h2,rfl⟩,b9.mpr ⟨c,aZ.mpr (by lia),rfl⟩⟩
theorem Eh{ps U:List aw}(hu:U.length<=63)(hp:∀ t∈ps,t∈U){m:Md}{Q:Md->D->Prop}(k:∀ l:List aw,l.Pairwise (fun a b=>b4 a b=true)->(∀ t,t∈l↔t∈ps)->Q (.ow true) (.list (l.map dc))):dX m (.list (ps.map dc)) Q:=by
 refine⟨ps.map fT,U.map fT,[false,true],by rw[js];rfl,by rw[bT];exact hu,fun k hk=>?_,fun k hk=>?_,fun ms nd mm pw=>?_⟩
 ·obtain⟨t,ht,rfl⟩:=b9.mp hk
  exact b9.mpr ⟨t,hp t ht,rfl⟩
 ·obtain⟨t,ht,rfl⟩:=b9.mp hk
  rfl
 ·obtain⟨l,rfl,hl⟩:=qu (P:=fun t=>t∈ps) (ks:=ms) fun k hk=>by
   obtain⟨t,ht,e⟩:=b9.mp ((mm k).mp hk)
   exact⟨t,e.symm,ht⟩
  rw[show(l.map fT).map mn=l.map dc by rw[js];rfl]
  refine k l ?_ fun t=>⟨hl t,fun ht=>?_⟩
  ·rw[ly] at pw
   have Np:l.Pairwise fun a b=>fT a≠fT b:=by
    rw[List.Nodup,ly] at nd
    exact nd
   refine(pw.and Np).imp fun {a b} ⟨h1,h2⟩=>?_
   unfold b4
   cases h3:fi (fT a) (fT b) with
   |true=>rfl
   |false=>exact absurd (jn (a:=fT a) (b:=fT b) rfl h3 h1) h2
  ·obtain⟨u,A7,e⟩:=b9.mp ((mm (fT t)).mpr (b9.mpr ⟨t,ht,rfl⟩))
   rw[<- nY e]
   exact A7
theorem rJ(a:List aw)(b:List aw):a.map dc++b.map dc=(a++b).map dc:=by rw[sC]
structure Part(l:List aw)(s:Int)(xs:List Int)(i:Nat)(ps:List aw):Prop where
 ok:∀ t∈ps,t.1=s/\Es l t
 st:∀ q∈xs,((s, "*",q):aw)∈ps
 nx:∀ a∈xs.take i,∀ (d:Str) (b:Int),(a,d,b)∈l->d ≠ "*"->∀ q,iL l b q->(s,d,q)∈ps
def a_:hV:=fun ds Q=>∃ (many:Int) (l:List aw) (rs:List (List Int)) (names:List Str) (s:Int),ds=[BD many l,.list (rs.map yi),.int s]/\(1<=many/\many<=10)/\eK many l/\qf names l/\("*" : Str)∈names/\names.length<=5/\l.length<=1000/\P8 many l rs/\(0<=s/\s<many)/\∀ out,Ez many l s out->Q (.ow true) (.list (out.map dc))
theorem jH (ds Q) (h:a_ ds Q):ds.length=["exits", "reaches", "state"].length:=by obtain⟨_,_,_,_,_,rfl,_⟩:=h;rfl
theorem mU:∀ ds Q,a_ ds Q->dB { nx:=fun _=>Q .sh .non,rt:=Q } (aJ 7 ds):=by
 rintro ds Q ⟨many,l,rs,names,s,rfl,hm,av,fe,hz,gL,hl,P9,hs,h⟩
 obtain⟨xs,ex,rx⟩:=P9.get hs
 have hxl:=rx.len av hs hm.2
 unfold dB BD
 walk_at "q"
 refine⟨_,ex,?_⟩
 rw[show yi xs=D.list (xs.map .int) from rfl]
 walk_at "q"
 refine fH (fun _=>true) (fun d=>match d with
  |.int q=>dc (s, "*",q)
  |d=>d) (fun ρ=>∃ o,ρ=[o,some (.sh (.int s))]) _ _ _ ⟨_,rfl⟩ ?_ ?_
 ·rintro x hx ρ ⟨o,rfl⟩ N1 N2 n1 n2
  obtain⟨c,_,rfl⟩:=b9.mp hx
  walk_at "q"
  exact⟨.inl rfl,n2 _ ⟨_,rfl⟩ rfl⟩
 have e0:((xs.map D.int).filter fun _=>true).map (fun d=>match d with
   |.int q=>dc (s, "*",q)
   |d=>d)=(xs.map fun q=>((s, "*",q):aw)).map dc:=by
  rw[NK.mpr fun _ _=>rfl,js,js]
  rfl
 rw[e0]
 refine⟨_,ex,?_⟩
 rw[show yi xs=D.list (xs.map .int) from rfl]
 walk_at "q"
 refine bN _ (fun i ρ=>∃ (ps:List aw) (o4 o5 o6:Option Sl),Part l s xs i ps/\ps.length<=20+i*(l.length*20)/\ρ=[some (.sh (.list (om many l))),some (.sh (.list (rs.map yi))),some (.sh (.int s)),some (.ow true (.list (ps.map dc))),o4,o5,o6]) ⟨_,_,_,_,⟨fun t ht=>?_,fun q hq=>b9.mpr ⟨q,hq,rfl⟩,by simp⟩,by rw[bT];lia,rfl⟩ ?_ ?_
 ·obtain⟨q,hq,rfl⟩:=b9.mp ht
  exact⟨rfl,.inl ⟨rfl,(rx.mem q).mp hq⟩⟩
 ·rintro i x ρ hx ⟨ps,o4,o5,o6,hp,ft,rfl⟩ N hN
  have hi:=(iN.mp hx).1
  rw[bT] at hi
  obtain⟨a,ha,rfl⟩:∃ a,xs[i]? = some a/\x=.int a:=by
   rw[ny] at hx
   obtain⟨a,ha,e⟩:=K0.mp hx
   exact⟨a,ha,e.symm⟩
  have MC:a∈xs:=ll ha
  have XJ:=(rx.mem a).mp MC
  have XM:=XJ.lt av hs
  have PB:=qR l a
  walk_at "q"
  refine⟨_,Fe l XM.1 XM.2,?_⟩
  walk_at "q"
  refine bN _ (fun j ρ=>∃ (ps:List aw) (o5 o6:Option Sl),Part l s xs i ps/\(∀ p∈(kM l a).take j,p.1 ≠ "*"->∀ q,iL l p.2 q->((s,p.1,q):aw)∈ps)/\ps.length<=20+i*(l.length*20)+j*20/\ρ=[some (.sh (.list (om many l))),some (.sh (.list (rs.map yi))),some (.sh (.int s)),some (.ow true (.list (ps.map dc))),some (.sh (.int a)),o5,o6]) ⟨ps,_,_,hp,by simp,by lia,rfl⟩ ?_ ?_
  ·clear hp ft
   rintro j x ρ hx ⟨ps,o5,o6,hp,hq,ft,rfl⟩ N hN
   have hj:=(iN.mp hx).1
   rw[bT] at hj
   obtain⟨d,b,gy,rfl⟩:∃ d b,(kM l a)[j]? = some (d,b)/\x=.tup [.str d,.int b]:=by
    rw[ny] at hx
    obtain⟨p,hp,e⟩:=K0.mp hx
    exact⟨p.1,p.2,hp,e.symm⟩
   have rq:((a,d,b):aw)∈l:=by
    obtain⟨t,ht,e1,e2⟩:=qy (ll gy)
    obtain⟨t1,t2⟩:=t
    simp only at e1 e2
    subst e1 e2
    exact ht
   have XO:=(av _ rq).2.2.2
   have tk:(kM l a).take (j+1)=(kM l a).take j++[(d,b)]:=by rw[DS,gy];rfl
   have hY':20+i*(l.length*20)+j*20<=8000000:=by
    have h1:i*(l.length*20)<=20*(10000*20):=B1 (by lia) (by lia)
    lia
   walk_at "q"
   by_cases hd:d = "*"
   ·refine R.F (by simp[hd]) ?_
    walk_at "q"
    refine hN _ ⟨ps,_,_,hp,fun p eI fS=>?_,by lia,rfl⟩
    rw[tk] at eI
    rcases dS.mp eI with eI|eI
    ·exact hq p eI fS
    ·rw[nv.mp eI] at fS;exact absurd hd fS
   ·refine R.T (by simp[hd]) ?_
    obtain⟨ys,ey,ry⟩:=P9.get XO
    have hyl:=ry.len av XO hm.2
    walk_at "q"
    refine⟨_,ey,?_⟩
    rw[show yi ys=D.list (ys.map .int) from rfl]
    walk_at "q"
    refine fH (fun _=>true) (fun x=>match x with
     |.int q=>dc (s,d,q)
     |x=>x) (fun ρ=>∃ o,ρ=[o,some (.sh (.str d)),some (.sh (.int s))]) _ _ _ ⟨_,rfl⟩ ?_ ?_
    ·rintro x hx ρ ⟨o,rfl⟩ N1 N2 n1 n2
     obtain⟨c,_,rfl⟩:=b9.mp hx
     walk_at "q"
     exact⟨.inl rfl,n2 _ ⟨_,rfl⟩ rfl⟩
    have e1:((ys.map D.int).filter fun _=>true).map (fun x=>match x with
      |.int q=>dc (s,d,q)
      |x=>x)=(ys.map fun q=>((s,d,q):aw)).map dc:=by
     rw[NK.mpr fun _ _=>rfl,js,js]
     rfl
    rw[e1]
    refine⟨eF _,by simp only[bT];lia,?_⟩
    rw[rJ]
    refine hN _ ⟨ps++ys.map fun q=>(s,d,q),_,_,⟨fun t ht=>?_,fun q x8=>i9 _ (hp.st q x8),fun c hc d' b' Sr Qx q x8=>i9 _ (hp.nx c hc d' b' Sr Qx q x8)⟩,fun p eI fS q x8=>?_,by rw[kA,bT];lia,rfl⟩
    ·rcases dS.mp ht with ht|ht
     ·exact hp.ok t ht
     ·obtain⟨q,x8,rfl⟩:=b9.mp ht
      exact⟨rfl,.inr ⟨hd,a,b,XJ,rq,(ry.mem q).mp x8⟩⟩
    ·rw[tk] at eI
     rcases dS.mp eI with eI|eI
     ·exact i9 _ (hq p eI fS q x8)
     ·rw[nv.mp eI] at x8 ⊢
      exact fF _ (b9.mpr ⟨q,(ry.mem q).mpr x8,rfl⟩)
  ·clear hp ft
   rintro ρ ⟨ps,o5,o6,hp,hq,ft,rfl⟩
   rw[bT] at hq ft
   rw[z0] at hq
   have tk:xs.take (i+1)=xs.take i++[a]:=by rw[DS,ha];rfl
   refine hN _ ⟨ps,_,_,_,⟨hp.ok,hp.st,fun c hc d b rq hd q hr=>?_⟩,?_,rfl⟩
   ·rw[tk] at hc
    rcases dS.mp hc with hc|hc
    ·exact hp.nx c hc d b rq hd q hr
    ·rw[nv.mp hc] at rq
     exact hq (d,b) (wA rq) hd q hr
   ·have:(i+1)*(l.length*20)=i*(l.length*20)+l.length*20:=by rw[Nat.add_mul,KW]
    lia
 ·rintro ρ ⟨ps,o4,o5,o6,hp,ft,rfl⟩
  rw[bT] at hp
  walk_at "q"
  refine Eh (m:=.sh) (U:=BE names s) (by rw[jg];lia) (fun t ht=>?_) fun out up mem=>h out ⟨up,fun t=>(mem t).trans ⟨hp.ok t,fun⟨e,es⟩=>?_⟩⟩
  ·obtain⟨e,es⟩:=hp.ok t ht
   have ok:=es.in av (by rw[e];exact hs)
   exact ji e (es.nm fe hz) ⟨ok.2.2.2.1,by have:=ok.2.2.2.2;lia⟩
  ·obtain⟨t1,t2,t3⟩:=t
   simp only at e
   subst e
   rcases es with⟨e2,r⟩|⟨ne,a,b,r1,m,r2⟩
   ·simp only at e2 r
    subst e2
    exact hp.st _ ((rx.mem _).mpr r)
   ·exact hp.nx a (by rw[z0];exact(rx.mem a).mpr r1) _ b m ne _ r2
def cX:WS :=
 (dk (n9 (wB (aT MQ (ai 1) (kE AZ (ai 0))))
 (mM (aT ic (ai 0) (ai 1)))
 dH)
 (mM (wC (.int 0))))
def az:hV:=fun ds Q=>∃ (ns:List Int) (k:Int),ds=[.list (ns.map .int),.int k]/\0<=k/\Q .sh (.int (ns.getD k.toNat 0))
theorem iQ (ds Q) (h:az ds Q):ds.length=["_law_script", "_law_k"].length:=by obtain⟨_,_,rfl,_⟩:=h;rfl
theorem lq:∀ ds Q,az ds Q->cX { nx:=fun _=>Q .sh .non,rt:=Q } (aJ 2 ds):=by
 rintro ds Q ⟨ns,k,rfl,hk,h⟩
 unfold cX
 walk_at "q"
 refine R.D (fun hl=>?_) fun hl=>?_
 ·walk_at "q"
  have hn:k.toNat<ns.length:=by lia
  refine⟨.int ns[k.toNat],?_,?_⟩
  ·have:=LY (xs:=ns.map D.int) (j:=k.toNat) (v:=.int ns[k.toNat]) (by simp[hn])
   rwa[D5 hk] at this
  ·show Q .sh _;simpa[List.getD,hn] using h
 ·walk_at "q"
  have:ns.getD k.toNat 0=0:=by
   have:ns.length<=k.toNat:=by lia
   simp[List.getD,sA this]
  rwa[this] at h
def d_:WS :=
 (dk (fw 1 (wC (.str "abcdefghijklmnopqrstuvwxyz")))
 (dk (fw 2 (aT kF (aT ic (ai 1) (aT iF (aT mI (ai 0) (wC (.int 4))) (wC (.int 26)))) (aT y_ (aT ic (ai 1) (aT iF (aT mI (ai 0) (wC (.int 104))) (wC (.int 26)))) (aT iF (aT mI (ai 0) (wC (.int 2704))) (wC (.int 5))))))
 (iS 2 (mM (Ic (rL (ak (wC (.str "*")) (ak (ai 2) (ak (aT kF (ai 2) (wC (.str "a"))) (ak (aT kF (wC (.str "b")) (Ic (ai 2) (oW (wC (.int 1))) kh)) cx))))) kh (oW (aT kF (wC (.int 1)) (aT iF (ai 0) (wC (.int 4))))))))))
def bz:hV:=fun ds Q=>∃ c:Int,ds=[.int c]/\∀ names:List Str,1<=names.length->names.length<=4->(∀ n∈names,zo n)->Q (.ow true) (.list (names.map .str))
theorem lJ (ds Q) (h:bz ds Q):ds.length=["_law_cell"].length:=by obtain⟨_,rfl,_⟩:=h;rfl
theorem zu{x:Str}(h:lets x)(n:Int):lets (oi n x):=fun c hc=>by
 unfold oi sg at hc
 rw[List.toList_toArray] at hc
 obtain⟨y,hy,hc⟩:=NT.mp hc
 rw[List.eq_of_mem_replicate hy] at hc
 exact h c hc
theorem pU:∀ ds Q,bz ds Q->d_ { nx:=fun _=>Q .sh .non,rt:=Q } (aJ 3 ds):=by
 rintro ds Q ⟨c,rfl,h⟩
 unfold d_
 walk_at "q"
 obtain⟨c1,e1,l1⟩:=vY (c / 4)
 obtain⟨c2,e2,l2⟩:=vY (c / 104)
 have h5:=D6 (c / 2704) (show(5:Int)≠0 by decide)
 have h5':=FX (c / 2704) (show(0:Int)<5 by decide)
 generalize c / 2704 % 5=k at *
 refine⟨c1,e1,c2,e2,?_⟩
 have hl:(⟨#[c1]⟩++oi k ⟨#[c2]⟩:Str).length=1+k.toNat:=by rw[bW,nG,aQ,aQ];lia
 have hb:lets (⟨#[c1]⟩++oi k ⟨#[c2]⟩:Str):=nM (jh l1) (zu (jh l2) k)
 have hr:(oi k ⟨#[c2]⟩).length=k.toNat:=by rw[nG,aQ];lia
 have ha:("a" : Str)=⟨#[97]⟩:=by decide +kernel
 have Ro:("b" : Str)=⟨#[98]⟩:=by decide +kernel
 rw[hr,ha,Ro,aQ,aQ,aQ,aQ]
 generalize (⟨#[c1]⟩++oi k ⟨#[c2]⟩:Str)=base at *
 have hc:=tE base (some 1) none
 refine⟨⟨h5,by lia,by lia⟩,by lia,by lia,by lia,.inl ?_⟩
 have d1:zo base:=.inr ⟨by lia,by lia,hb⟩
 have d2:zo (base ++ ⟨#[97]⟩):=.inr ⟨by rw[bW,aQ];lia,by rw[bW,aQ];lia,nM hb (jh rfl)⟩
 have d3:zo (⟨#[98]⟩++pd base (some 1) none):=.inr ⟨by rw[bW,aQ];lia,by rw[bW,aQ];lia,nM (jh rfl) (yV hb _ _)⟩
 have h4:=D6 c (show(4:Int)≠0 by decide)
 have h4':=FX c (show(0:Int)<4 by decide)
 have all:∀ ns:List Str,ns <+: ["*",base,base ++ ⟨#[97]⟩,⟨#[98]⟩++pd base (some 1) none]->1<=ns.length->ns.length<=4->Q (.ow true) (.list (ns.map .str)):=fun ns hp a b=>h ns a b fun n hn=>by
  have:=hp.subset hn
  simp only[df,zS,or_false] at this
  rcases this with rfl|rfl|rfl|rfl
  ·exact .inl rfl
  ·exact d1
  ·exact d2
  ·exact d3
 rcases (show c % 4=0\/c % 4=1\/c % 4=2\/c % 4=3 by lia) with e|e|e|e
 ·rw[e];exact all ["*"] ⟨_,rfl⟩ (by simp) (by simp)
 ·rw[e];exact all ["*",base] ⟨_,rfl⟩ (by simp) (by simp)
 ·rw[e];exact all ["*",base,base ++ ⟨#[97]⟩] ⟨_,rfl⟩ (by simp) (by simp)
 ·rw[e];exact all ["*",base,base ++ ⟨#[97]⟩,⟨#[98]⟩++pd base (some 1) none] ⟨[],rfl⟩ (by simp) (by simp)
def cU:WS :=
 (dk (fw 2 (jL (gK (kE AZ (ai 1))) (gN 0) A3 (bO dh (ak (ai 1) (ak (ai 2) (ak (ai 0) cx)))) 1 [0,1]))
 (dk (fw 3 (rL cx))
 (dk (iS 2 (pT (dJ (kE vp (ai 2))) (gN 4)
 (n9 (wB (aT (PK true) (ai 4) (ai 3)))
 (iS 4 (E3 (vi 3) (ai 4)))
 dH)))
 (mM (jL (j_ (ai 2)) (gN 0) A3 (rT (ai 1) (ai 0)) 1 [3])))))
def aL:hV:=fun ds Q=>∃ (many:Int) (steps:List aw) (b6:List Int),ds=[BD many steps,.list (b6.map .int)]/\(0<=many/\many<=63)/\b6.length=many.toNat/\eK many steps/\Sx steps/\∀ r,RB many steps b6 r->Q (.ow true) (.list (r.map .int))
theorem iT (ds Q) (h:aL ds Q):ds.length=["exits", "ranks"].length:=by obtain⟨_,_,_,rfl,_⟩:=h;rfl
theorem lr:∀ ds Q,aL ds Q->cU { nx:=fun _=>Q .sh .non,rt:=Q } (aJ 5 ds):=by
 rintro ds Q ⟨many,steps,b6,rfl,hm,hr,av,hl,h⟩
 unfold cU BD
 walk_at "q"
 refine⟨by lia,by lia,?_⟩
 refine gD (fun n out=>∃ l:List Ky,out=l.map gv/\l.length=n/\∀ (i:Nat) k,l[i]? = some k->DC steps b6 i k) (fun ρ=>∃ o,ρ=[o,some (.sh (.list (om many steps))),some (.sh (.list (b6.map .int)))]) _ 0 [] _ _ ⟨_,rfl⟩ ⟨[],rfl,rfl,fun i k hk=>by simp at hk⟩ ?_ ?_
 ·rintro j y hy ρ ⟨o,rfl⟩ out ⟨l,rfl,IU,hk⟩ N1 N2 EH
  have hj:=(gh hy).1
  obtain⟨_,rfl⟩:=gh hy
  walk_at "q"
  refine⟨many,steps,b6,0+(j:Nat),rfl,by lia,hr,av,hl,fun k yb=>?_⟩
  walk_at "q"
  refine⟨.inr rfl,EH _ _ ⟨_,rfl⟩ ⟨l++[k],by simp,by simp[IU],fun i k' gp=>?_⟩⟩
  rcases D3 i l.length with hi|hi
  ·rw[FE hi] at gp
   exact hk i k' gp
  ·rw[BM hi] at gp
   have w_:i-l.length=0:=by
    rcases Qq (i-l.length) with z|z
    ·exact z
    ·rw[sA (by simp;lia)] at gp;cases gp
   rw[w_] at gp
   cases gp
   have:((i:Nat):Int)=0+(j:Nat):=by lia
   rw[this]
   exact yb
 rintro out ⟨l,e,IU,hk⟩
 simp only[NV] at e
 subst e
 rw[iW,D2] at IU
 have FC:∀ k∈l,sj k:=fun k qo=>by
  obtain⟨i,hi⟩:=Ki.mp qo
  exact(hk i k hi).ok av
 refine⟨by rw[bT];lia,fun d hd=>?_,fun ms pm pw=>?_⟩
 ·obtain⟨k,qo,rfl⟩:=b9.mp hd
  exact⟨xZ (FC k qo) 9,(FC k qo).tq⟩
 obtain⟨l2,rfl,EB⟩:=Te (f:=gv) (P:=fun k=>k∈l) (ks:=ms) fun d hd=>by
  obtain⟨k,qo,e⟩:=b9.mp (pm.mem_iff.mp hd)
  exact⟨k,e.symm,qo⟩
 have back:∀ k∈l,k∈l2:=fun k qo=>by
  obtain⟨j,hj,e⟩:=b9.mp (pm.mem_iff.mpr (b9.mpr ⟨k,qo,rfl⟩))
  rw[<- wI e];exact hj
 have ic':l2.length=l.length:=by have:=pm.length_eq;simpa using this
 rw[ly] at pw
 have pw:l2.Pairwise fun a b=>qh b a=false:=pw
 refine bN _ (fun i ρ=>∃ (diff:List Ky) (fl:Bool) (o4:Option Sl),diff.Pairwise (fun a b=>qh a b=true)/\(∀ k,k∈diff↔k∈l2.take i)/\diff.length<=i/\ρ=[some (.sh (.list (om many steps))),some (.sh (.list (b6.map .int))),some (.sh (.list (l.map gv))),some (.ow fl (.list (diff.map gv))),o4]) ⟨[],true,none,.nil,by simp,by simp,rfl⟩ ?_ ?_
 ·rintro i x ρ hx ⟨diff,fl,o4,up,mem,dl,rfl⟩ N hN
  obtain⟨hi,hx'⟩:=iN.mp hx
  have ki:i<l2.length:=by simpa using hi
  have hxe:x=gv l2[i]:=by rw[<- hx'];simp
  subst hxe
  have qo:l2[i]∈l:=EB _ (KL ki)
  have tk:l2.take (i+1)=l2.take i++[l2[i]]:=by rw[DS,oq ki];rfl
  have P_:∀ k∈diff,sj k:=fun k Nt=>FC k (EB k (NJ ((mem k).mp Nt)))
  generalize ek:l2[i]=k at *
  walk_at "q"
  refine⟨xZ (FC k qo) 9,z7 P_ 8,?_⟩
  rw[FN]
  by_cases hd:k∈diff
  ·refine R.F (by simp[hd]) ?_
   walk_at "q"
   refine hN _ ⟨diff,fl,_,up,fun k'=>?_,by lia,rfl⟩
   rw[mem,tk,dS,nv]
   exact⟨.inl,fun z=>z.elim id fun e=>by rw[e];exact(mem k).mp hd⟩
  ·refine R.T (by simp[hd]) ?_
   walk_at "q"
   refine⟨by lia,?_⟩
   refine hN _ ⟨diff++[k],fl && (gv k).flat,some (.sh (gv k)),?_,fun k'=>?_,by simp;lia,by simp⟩
   ·refine List.pairwise_append.mpr ⟨up,by simp,fun a ha b hb=>?_⟩
    rw[nv.mp hb]
    cases h3:qh a k with
    |true=>rfl
    |false =>
     have h4:qh k a=false:=by
      obtain⟨j,hj⟩:=Ki.mp ((mem a).mp ha)
      obtain⟨HG,Nq⟩:=iN.mp hj
      have Sq:j<i:=by rw[vn] at HG;lia
      have:=DL.mp pw j i (by lia) ki Sq
      rw[ek] at this
      rw[List.getElem_take] at Nq
      rwa[Nq] at this
     exact absurd (Cq (P_ a ha) (FC k qo) h3 h4) fun e=>hd (by rw[<- e];exact ha)
   ·rw[dS,nv,mem,tk,dS,nv]
 ·rintro ρ ⟨diff,fl,o4,up,mem,dl,rfl⟩
  rw[bT,z0] at mem
  have md:∀ k,k∈diff↔k∈l:=fun k=>(mem k).trans ⟨EB k,back k⟩
  have P_:∀ k∈diff,sj k:=fun k Nt=>FC k ((md k).mp Nt)
  walk_at "q"
  refine gD (fun n out=>∃ r:List Int,out=r.map .int/\r.length=n/\∀ (i:Nat) x,r[i]? = some x->0<=x/\diff[x.toNat]? = l[i]?) (fun ρ=>∃ o,ρ=[o,some (.sh (.list (diff.map gv)))]) _ 0 [] _ _ ⟨_,rfl⟩ ⟨[],rfl,rfl,fun i k hk=>by simp at hk⟩ ?_ ?_
  ·rintro j y hy ρ ⟨o,rfl⟩ out ⟨r,rfl,DH,xk⟩ N1 N2 EH
   obtain⟨hj,Rl⟩:=iN.mp hy
   have wa:j<l.length:=by simpa using hj
   have hye:y=gv l[j]:=by rw[<- Rl];simp
   subst hye
   have qo:l[j]∈l:=KL wa
   have hlj:l[j]? = some l[j]:=oq wa
   generalize l[j]=k at *
   have Nt:=(md k).mpr qo
   have wc:=List.idxOf_lt_length_of_mem Nt
   walk_at "q"
   refine⟨z7 P_ 8,xZ (FC k qo) 9,diff.idxOf k,⟨gv k,?_,by rw[uq];exact decide_eq_true rfl⟩,fun i z hi hz=>?_,.inl rfl,EH _ _ ⟨_,rfl⟩ ⟨r++[((diff.idxOf k:Nat):Int)],by simp,by simp[DH],fun i x hx=>?_⟩⟩
   ·rw[ny,oq wc,List.getElem_idxOf wc];rfl
   ·rw[ny,oq (by lia)] at hz
    cases hz
    rw[uq]
    refine decide_eq_false fun e=>?_
    have:=List.not_of_lt_findIdx (p:=(· == k)) (xs:=diff) hi
    rw[show diff[i]=k from e] at this
    simp at this
   ·rcases D3 i r.length with hi|hi
    ·rw[FE hi] at hx
     exact xk i x hx
    ·rw[BM hi] at hx
     have w_:i-r.length=0:=by
      rcases Qq (i-r.length) with z|z
      ·exact z
      ·rw[sA (by simp;lia)] at hx;cases hx
     rw[w_] at hx
     cases hx
     have:i=j:=by lia
     subst this
     refine⟨by lia,?_⟩
     rw[hlj,FY,oq wc,List.getElem_idxOf wc]
  rintro out ⟨r,e,DH,xk⟩
  simp only[NV] at e
  subst e
  rw[bT,D2] at DH
  refine h r ⟨fun s=>l.getD s.toNat (0,[]),diff,by lia,fun s a b=>?_,up,fun k=>?_,fun s a b=>?_⟩
  ·have hs:s.toNat<l.length:=by lia
   have:=hk s.toNat l[s.toNat] (oq hs)
   rw[D5 a] at this
   simpa[List.getD,hs] using this
  ·rw[md]
   constructor
   ·intro qo
    obtain⟨i,hi,rfl⟩:=List.mem_iff_getElem.mp qo
    exact⟨(i:Nat),by lia,by simp[List.getD,hi]⟩
   ·rintro⟨s,hs,rfl⟩
    have hs:s.toNat<l.length:=by lia
    simp[List.getD,hs]
  ·have hs:s.toNat<r.length:=by lia
   have hJ:s.toNat<l.length:=by lia
   have:=xk s.toNat r[s.toNat] (oq hs)
   simpa[rk,List.getD,hs,hJ] using this
def qw:WS :=
 (dk (fw 1 (bO cB (ak (ai 0) cx)))
 (dk (fw 2 (bO bh (ak (ai 0) cx)))
 (dk (fw 3 (jL (gK (aT ic (ai 0) (wC (.int 0)))) (gN 0) A3 (kE xJ (bO aR (ak (ai 1) (ak (ai 0) cx)))) 1 [1]))
 (dk (fw 4 (rL cx))
 (dk (pT (gK (aT ic (ai 0) (wC (.int 0)))) (gN 5)
 (PZ (vi 4) (bO a_ (ak (ai 2) (ak (ai 3) (ak (ai 5) cx))))))
 (xM [.inl (aT ic (ai 0) (wC (.int 0))),.inr 4]))))))
theorem Ez.len {many:Int} {l out:List aw} {names:List Str} {s:Int} (z:Ez many l s out) (av:eK many l) (hs:0<=s/\s<many) (hm:many<=10) (fe:qf names l) (hz:("*" : Str)∈names) (gL:names.length<=5):out.length<=160:=by
 have nd:out.Nodup:=z.up.imp fun {a b} q e=>by subst e;unfold b4 at q;rw[du] at q;cases q
 have:=bx (m:=BE names s) nd fun t ht=>by
  obtain⟨e,es⟩:=(z.mem t).mp ht
  have ok:=es.in av (by rw[e];exact hs)
  exact ji e (es.nm fe hz) ⟨ok.2.2.2.1,by have:=ok.2.2.2.2;lia⟩
 rw[jg] at this
 lia
def cz:hV:=fun ds Q=>∃ (many:Int) (l:List aw) (names:List Str),ds=[mD many l]/\(1<=many/\many<=10)/\eK many l/\qf names l/\("*" : Str)∈names/\names.length<=5/\l.length<=1000/\∀ out,nh many l out->out.length<=3200->Q (.ow true) (mD many out)
theorem vz (ds Q) (h:cz ds Q):ds.length=["m"].length:=by obtain⟨_,_,_,rfl,_⟩:=h;rfl
theorem Bw:∀ ds Q,cz ds Q->qw { nx:=fun _=>Q .sh .non,rt:=Q } (aJ 6 ds):=by
 rintro ds Q ⟨many,l,names,rfl,hm,av,fe,hz,gL,hl,h⟩
 unfold qw
 rw[show aJ 6 [mD many l]=[some (.sh (mD many l)),none,none,none,none,none] from rfl]
 walk_at "q"
 refine⟨many,l,rfl,by lia,fun kvs hw=>?_⟩
 walk_at "q"
 refine⟨many,l,rfl,by lia,av,hl,?_⟩
 unfold BD mD
 walk_at "q"
 refine⟨by lia,by lia,?_⟩
 refine gD (fun n out=>∃ rs:List (List Int),out=rs.map yi/\rs.length=n/\∀ (i:Nat) xs,rs[i]? = some xs->IQ l i xs) (fun ρ=>∃ o,ρ=[o,some (.sh (.dT kvs))]) _ 0 [] _ _ ⟨_,rfl⟩ ⟨[],rfl,rfl,fun i k hk=>by simp at hk⟩ ?_ ?_
 ·rintro j y hy ρ ⟨o,rfl⟩ out ⟨rs,rfl,DH,xk⟩ N1 N2 EH
  have hj:=(gh hy).1
  obtain⟨_,rfl⟩:=gh hy
  walk_at "q"
  refine⟨kvs,0+(j:Nat),many,l,rfl,hw,av,by lia,by lia,fun kd ks ek nd mem=>?_⟩
  walk_at "q"
  refine sort_keys (Q:=fun m d=>MY m d/\N2 [some (.sh (.int (0+(j:Nat)))),some (.sh (.dT kvs))] d) ek nd (by have:=wQ (many:=many) nd fun x hx=>((mem x).mp hx).lt av (by lia);lia) mem fun xs hx=>?_
  refine⟨.inr rfl,EH _ _ ⟨_,rfl⟩ ⟨rs++[xs],by simp[yi],by simp[DH],fun i k' gp=>?_⟩⟩
  rcases D3 i rs.length with hi|hi
  ·rw[FE hi] at gp
   exact xk i k' gp
  ·rw[BM hi] at gp
   have w_:i-rs.length=0:=by
    rcases Qq (i-rs.length) with z|z
    ·exact z
    ·rw[sA (by simp;lia)] at gp;cases gp
   rw[w_] at gp
   cases gp
   have:((i:Nat):Int)=0+(j:Nat):=by lia
   rw[this]
   exact hx
 rintro out ⟨rs,e,DH,xk⟩
 simp only[NV] at e
 subst e
 rw[iW,D2] at DH
 have P9:P8 many l rs:=⟨DH,xk⟩
 refine⟨by lia,by lia,?_⟩
 refine bN _ (fun i ρ=>∃ (ps:List aw) (o5:Option Sl),ps.Pairwise (fun a b=>b4 a b=true)/\(∀ t,t∈ps↔(0<=t.1/\t.1<(i:Nat))/\Es l t)/\ps.length<=i*160/\ρ=[some (.sh (.tup [.int many,.list (l.map dc)])),some (.ow true (.dT kvs)),some (.ow true (.list (om many l))),some (.ow true (.list (rs.map yi))),some (.ow true (.list (ps.map dc))),o5]) ⟨[],_,.nil,fun t=>?_,by simp,rfl⟩ ?_ ?_
 ·simp
  lia
 ·rintro i x ρ hx ⟨ps,o5,up,mem,ft,rfl⟩ N hN
  obtain⟨hi,rfl⟩:=gh hx
  walk_at "q"
  refine⟨many,l,rs,names,0+(i:Nat),rfl,hm,av,fe,hz,gL,hl,P9,by lia,fun out A9=>?_⟩
  have Sy:=A9.len av (by lia) hm.2 fe hz gL
  walk_at "q"
  have hib:i*160<=20*160:=B1 (by lia) (ck _)
  refine⟨eF _,by lia,?_⟩
  rw[rJ]
  refine hN _ ⟨ps++out,_,List.pairwise_append.mpr ⟨up,A9.up,fun a ha b hb=>?_⟩,fun t=>?_,by rw[kA];lia,rfl⟩
  ·have h1:=((mem a).mp ha).1
   have h2:=((A9.mem b).mp hb).1
   obtain⟨a1,a2,a3⟩:=a
   obtain⟨b1,b2,b3⟩:=b
   simp only at h1 h2
   unfold b4 fT
   simp only[fi]
   rw[if_neg (by simp;lia)]
   exact decide_eq_true (by lia)
  ·rw[dS,mem,A9.mem]
   constructor
   ·rintro(⟨z,e⟩|⟨z,e⟩)
    ·exact⟨by lia,e⟩
    ·exact⟨by lia,e⟩
   ·rintro⟨z,e⟩
    by_cases q:t.1<(i:Nat)
    ·exact .inl ⟨by lia,e⟩
    ·exact .inr ⟨by lia,e⟩
 ·rintro ρ ⟨ps,o5,up,mem,ft,rfl⟩
  rw[iW] at mem ft
  walk_at "q"
  refine h ps ⟨up,fun t=>?_⟩ (by have:many.toNat*160<=20*160:=B1 (by lia) (ck _);lia)
  rw[mem]
  constructor<;>rintro⟨z,e⟩<;>exact⟨by lia,e⟩
def Ti(names:List Str):List aw:=((bQ 10).map (BE names)).flatten
theorem yl(names:List Str):(Ti names).length=10*(names.length*10):=by
 unfold Ti
 have:∀ n:Nat,((bQ n).map (BE names)).flatten.length=n*(names.length*10):=fun n=>by
  unfold bQ
  rw[js]
  induction n with
  |zero=>simp
  |succ n ih=>rw[List.range_succ,sC,List.flatten_append,kA,ih,Nat.add_mul,KW];simp[jg]
 exact this 10
theorem nh.len {many:Int} {l out:List aw} {names:List Str} (h:nh many l out) (av:eK many l) (hm:many<=10) (fe:qf names l) (hz:("*" : Str)∈names) (gL:names.length<=5):out.length<=1000:=by
 have nd:out.Nodup:=h.up.imp fun {a b} q e=>by subst e;unfold b4 at q;rw[du] at q;cases q
 have:=bx (m:=Ti names) nd fun t ht=>by
  obtain⟨e,es⟩:=(h.mem t).mp ht
  have ok:=es.in av e
  exact NT.mpr ⟨_,b9.mpr ⟨t.1,aZ.mpr (by lia),rfl⟩,ji rfl (es.nm fe hz) ⟨ok.2.2.2.1,by have:=ok.2.2.2.2;lia⟩⟩
 rw[yl] at this
 lia
theorem nh.sx {many:Int} {l out:List aw} {names:List Str} (h:nh many l out) (av:eK many l) (hm:many<=10) (fe:qf names l) (hz:("*" : Str)∈names) (gL:names.length<=5):Sx out:=by
 refine⟨h.len av hm fe hz gL,fun s=>?_⟩
 have nd:out.Nodup:=h.up.imp fun {a b} q e=>by subst e;unfold b4 at q;rw[du] at q;cases q
 have:=bx (m:=BE names s) (nd.filter fun t=>decide (t.1=s)) fun t ht=>by
  obtain⟨ht,e⟩:=z3.mp ht
  obtain⟨e1,es⟩:=(h.mem t).mp ht
  have ok:=es.in av e1
  exact ji (of_decide_eq_true e) (es.nm fe hz) ⟨ok.2.2.2.1,by have:=ok.2.2.2.2;lia⟩
 rw[jg] at this
 unfold kM
 rw[bT]
 lia
theorem eP'{l:List aw}(h:l.length<=63):Sx l:=⟨by lia,fun s=>gS (qR l s) h⟩
def fW:WS :=
 (dk (fw 2 (bO az (ak (ai 0) (ak (wC (.int 2)) cx))))
 (dk (fw 3 (rL cx))
 (dk (pT (gK (ai 1)) (gN 4)
 (n9 (HP (wB (aT sR (aT iF (ai 2) (wC (.int 2))) (wC (.int 1)))) (wB (aT sR (aT iF (aT mI (aT mI (ai 2) (wC (.int 2))) (aT kF (aT MN (ai 4) (ai 4)) (wC (.int 1)))) (wC (.int 3))) (wC (.int 1)))))
 (iS 4 (E3 (vi 3) (ai 4)))
 dH))
 (oZ 3))))
def bL:hV:=fun ds Q=>∃ (ns:List Int) (many:Int),ds=[.list (ns.map .int),.int many]/\(1<=many/\many<=10)/\∀ lone:List Int,(∀ x∈lone,0<=x/\x<many)->lone.length<=10->Q (.ow true) (.list (lone.map .int))
theorem m5 (ds Q) (h:bL ds Q):ds.length=["_law_script", "_law_many"].length:=by obtain⟨_,_,rfl,_⟩:=h;rfl
theorem qI:∀ ds Q,bL ds Q->fW { nx:=fun _=>Q .sh .non,rt:=Q } (aJ 5 ds):=by
 rintro ds Q ⟨ns,many,rfl,hm,h⟩
 unfold fW
 walk_at "q"
 refine⟨ns,2,rfl,by decide,?_⟩
 generalize ns.getD _ 0=bits
 walk_at "q"
 refine⟨by lia,by lia,?_⟩
 refine bN _ (fun i ρ=>∃ (lone:List Int) (o4:Option Sl),(∀ x∈lone,0<=x/\x<many)/\lone.length<=i/\ρ=[some (.sh (.list (ns.map .int))),some (.sh (.int many)),some (.sh (.int bits)),some (.ow true (.list (lone.map .int))),o4]) ⟨[],_,(fun x hx=>nomatch hx),ck _,rfl⟩ ?_ ?_
 ·rintro i x ρ hx ⟨lone,o4,hi,hl,rfl⟩ N hN
  obtain⟨xh,rfl⟩:=gh hx
  have sq:0<=(0+(i:Nat):Int)*(0+(i:Nat))/\(0+(i:Nat):Int)*(0+(i:Nat))<=10*10:=⟨Int.mul_nonneg (by lia) (by lia),Int.mul_le_mul (by lia) (by lia) (by lia) (by lia)⟩
  walk_at "q"
  refine R.D (fun _=>?_) fun _=>?_
  ·walk_at "q"
   refine⟨pF (by lia) (by lia),by lia,R.D (fun _=>?_) fun _=>?_⟩
   ·walk_at "q"
    refine⟨by lia,hN _ ⟨lone++[(0+(i:Nat):Int)],_,fun x hx=>?_,by simp;lia,(by rw[sC];rfl)⟩⟩
    rcases dS.mp hx with z|z
    ·exact hi x z
    ·rw[nv.mp z];lia
   ·walk_at "q"
    exact hN _ ⟨lone,_,hi,by lia,rfl⟩
  ·walk_at "q"
   exact hN _ ⟨lone,_,hi,by lia,rfl⟩
 ·rintro ρ ⟨lone,o4,hi,hl,rfl⟩
  rw[iW] at hl
  walk_at "q"
  exact h lone hi (by lia)
def cT:WS :=
 (dk (fw 4 (bO az (ak (ai 0) (ak (wC (.int 2)) cx))))
 (dk (fw 5 sS)
 (dk (iS 0 (pT (sJ (Ic (ai 0) (oW (wC (.int 3))) (oW (wC (.int 27))))) (gT 2 (cN (gN 6) (cN (gN 7) pG)))
 (dk (fw 8 (aT ic (ai 2) (aT iF (aT mI (aT mI (ai 7) (ai 1)) (ai 1)) (kE AZ (ai 2)))))
 (dk (n9 (HP (wB (aT sR (aT iF (aT mI (ai 4) (wC (.int 5))) (wC (.int 2))) (wC (.int 1)))) (wB (aT sR (aT iF (ai 6) (wC (.int 2))) (wC (.int 1)))))
 (fw 8 (wC (.str "*")))
 dH)
 (n9 (wB (aT (AY true) (aT iF (ai 7) (ai 1)) (ai 3)))
 (vh (vi 5) (nV (ak (aT iF (ai 7) (ai 1)) (ak (ai 8) (ak (aT iF (aT mI (ai 7) (ai 1)) (ai 1)) cx)))) (wC (.bl true)))
 dH)))))
 (dk (iS 3 (pT (dJ (ai 3)) (gN 6)
 (vh (vi 5) (nV (ak (ai 6) (ak (wC (.str "*")) (ak (aT iF (aT kF (aT kF (ai 6) (wC (.int 1))) (aT iF (aT mI (ai 4) (wC (.int 7))) (ai 1))) (ai 1)) cx)))) (wC (.bl true)))))
 (xM [.inr 1,.inl (kE rY (kE uO (ai 5)))])))))
def gI(many first x:Int):Int:=(x+1+first / 7 % many) % many
def XQ (many:Int) (names:List Str) (t:aw):Prop:=IL many t/\t.2.1∈("*" : Str) :: names
def aP:hV:=fun ds Q=>∃ (ns:List Int) (many:Int) (names:List Str) (lone:List Int),ds=[.list (ns.map .int),.int many,.list (names.map .str),.list (lone.map .int)]/\(1<=many/\many<=10)/\(1<=names.length/\names.length<=4)/\(∀ n∈names,zo n)/\(∀ x∈lone,0<=x/\x<many)/\lone.length<=10/\ns.length<=63 /\
 ∀ l:List aw,eK many l->qf (("*" : Str) :: names) l->l.length<=63->(∀ x∈lone,DF l x (gI many (ns.getD 2 0) x))->Q (.ow true) (mD many l)
theorem iV (ds Q) (h:aP ds Q):ds.length=["_law_script", "_law_many", "_law_deeds_here", "_law_lone_here"].length:=by obtain⟨_,_,_,_,rfl,_⟩:=h;rfl
theorem zH{l:List Int}{i:Nat}{x:D}(h:(lD (l.map D.int))[i]? = some x):∃ c,x=.tup [.int i,.int c]/\i<l.length:=by
 unfold lD at h
 rw[List.getElem?_mapIdx,ny] at h
 cases e:l[i]? with
 |none=>rw[e] at h;cases h
 |some c=>rw[e] at h;cases h;exact⟨c,rfl,(iN.mp e).1⟩
theorem pH:zo "*" := .inl rfl
theorem kW(l:List Int):(l.map D.int).all dI=true:=by simp[NW,dI]
theorem rD(x:Int)(l:List Int):inD (.int x) (l.map .int)=decide (x∈l):=by
 unfold inD
 rw[List.any_map,yv,KG,decide_eq_true_iff]
 constructor
 ·rintro⟨y,hy,e⟩
  have e:gu (.int y) (.int x)=true:=e
  rw[ju _ _ rfl rfl] at e
  cases e
  exact hy
 ·exact fun hx=>⟨x,hx,eq_self (x:=.int x) rfl⟩
theorem kZ:∀ ds Q,aP ds Q->cT { nx:=fun _=>Q .sh .non,rt:=Q } (aJ 9 ds):=by
 rintro ds Q ⟨ns,many,names,lone,rfl,hm,O5,hd,lT,IU,kD,h⟩
 unfold cT
 walk_at "q"
 refine⟨ns,2,rfl,by decide,?_⟩
 have h:∀ l:List aw,eK many l->qf (("*" : Str) :: names) l->l.length<=63->(∀ x∈lone,DF l x (gI many (ns.getD (2:Int).toNat 0) x))->Q (.ow true) (mD many l):=h
 generalize ns.getD _ 0=first at h ⊢
 walk_at "q"
 refine .inl ⟨gC ns,?_⟩
 rw[rW]
 have hc:(nX ns (some 3) (some 27)).length<=24:=by
  unfold nX
  rw[vn]
  simp only[HT.bP]
  split<;>split<;>lia
 generalize nX ns (some 3) (some 27)=cells at *
 refine bN _ (fun i ρ=>∃ (kvs:Kn) (o6 o7 o8:Option Sl),zt (XQ many names) kvs/\kvs.length<=i/\(∀ t,DE kvs t->t.1∉lone) /\
  ρ=[some (.sh (.list (ns.map .int))),some (.sh (.int many)),some (.sh (.list (names.map .str))),some (.sh (.list (lone.map .int))),some (.sh (.int first)),some (.ow true (.dT kvs)),o6,o7,o8]) ⟨[],_,_,_,zt.nil,gV _,(fun t z=>nomatch z),rfl⟩ ?_ ?_
 ·rintro i x ρ hx ⟨kvs,o6,o7,o8,hk,hz,tS,rfl⟩ N hN
  obtain⟨c,rfl,hi⟩:=zH hx
  have a1:=fj c (show 0<many by lia)
  have a3:=fj (c / many) (show 0<many by lia)
  walk_at "q"
  obtain⟨n,hn,e⟩:=name_mod (c / many / many) O5.1
  walk_at "o"
  refine⟨.str n,e,?_⟩
  walk_at "q"
  have go:∀ n:Str,zo n->n∈("*" : Str) :: names->c % many∉lone->N [some (.sh (.list (ns.map .int))),some (.sh (.int many)),some (.sh (.list (names.map .str))),some (.sh (.list (lone.map .int))),some (.sh (.int first)),some (.ow true (.dT (i5 kvs [.inl (c % many),.inr n,.inl (c / many % many)] (.bl true)))),some (.sh (.int i)),some (.sh (.int c)),some (.sh (.str n))]:=fun n hn n5 nl =>
   hN _ ⟨_,_,_,_,hk.put (s:=(c % many,n,c / many % many)) ⟨⟨a1.1,a1.2,hn,a3.1,a3.2⟩,n5⟩,(by have:=gB kvs (fT (c % many,n,c / many % many)) (D.bl true);lia),(fun t z=>by
    rcases rF.mp z with z|rfl
    ·exact tS t z
    ·exact nl),rfl⟩
  have eh:∀ n:Str,N [some (.sh (.list (ns.map .int))),some (.sh (.int many)),some (.sh (.list (names.map .str))),some (.sh (.list (lone.map .int))),some (.sh (.int first)),some (.ow true (.dT kvs)),some (.sh (.int i)),some (.sh (.int c)),some (.sh (.str n))]:=fun n=>hN _ ⟨kvs,_,_,_,hk,by lia,tS,rfl⟩
  have ig':i<63:=by lia
  refine R.D (fun _=>?_) fun _=>?_
  ·walk_at "q"
   refine R.D (fun _=>?_) fun _=>?_
   ·walk_at "q"
    walk_at "o"
    refine⟨rfl,kW _,?_⟩
    rw[rD]
    by_cases av:c % many∈lone
    ·rw[decide_eq_true av]
     walk_at "q"
     exact eh _
    ·rw[decide_eq_false av]
     walk_at "q"
     exact⟨by lia,by lia,by lia,by lia,go "*" pH bX av⟩
   ·walk_at "q"
    walk_at "o"
    refine⟨rfl,kW _,?_⟩
    rw[rD]
    by_cases av:c % many∈lone
    ·rw[decide_eq_true av]
     walk_at "q"
     exact eh _
    ·rw[decide_eq_false av]
     walk_at "q"
     exact⟨by lia,by lia,by lia,by lia,go n (hd n hn) (b5 _ hn) av⟩
  ·walk_at "q"
   walk_at "o"
   refine⟨rfl,kW _,?_⟩
   rw[rD]
   by_cases av:c % many∈lone
   ·rw[decide_eq_true av]
    walk_at "q"
    exact eh _
   ·rw[decide_eq_false av]
    walk_at "q"
    exact⟨by lia,by lia,by lia,by lia,go n (hd n hn) (b5 _ hn) av⟩
 ·rintro ρ ⟨kvs,o6,o7,o8,hk,hz,tS,rfl⟩
  have hz:kvs.length<=24:=by simp[lD] at hz;lia
  walk_at "q"
  refine bN _ (fun i ρ=>∃ (BF:Kn) (o6:Option Sl),zt (XQ many names) BF/\BF.length<=24+i/\(∀ t,DE BF t↔DE kvs t\/∃ x∈lone.take i,t=((x, "*",gI many first x):aw)) /\
   ρ=[some (.sh (.list (ns.map .int))),some (.sh (.int many)),some (.sh (.list (names.map .str))),some (.sh (.list (lone.map .int))),some (.sh (.int first)),some (.ow true (.dT BF)),o6,o7,o8]) ⟨kvs,_,hk,by lia,fun t=>⟨.inl,fun z=>z.elim id fun⟨_,z,_⟩=>(nomatch z)⟩,rfl⟩ ?_ ?_
  ·rintro i x ρ hx ⟨BF,o6,Tj,E9,rq,rfl⟩ N hN
   obtain⟨c,rfl,q0,tk⟩:=int_at hx
   have hG:=lT c q0
   have hi:i<lone.length:=by have:=(iN.mp hx).1;simpa using this
   have b1:=fj (c+1+first / 7 % many) (show 0<many by lia)
   walk_at "q"
   refine⟨by lia,by lia,by lia,?_⟩
   have pl:=gB BF (fT (c, "*",gI many first c)) (D.bl true)
   refine hN _ ⟨_,_,Tj.put (s:=(c, "*",gI many first c)) ⟨⟨hG.1,hG.2,pH,b1.1,b1.2⟩,bX⟩,by lia,fun t=>?_,rfl⟩
   rw[rF,rq,tk]
   constructor
   ·rintro((z|⟨x,z,e⟩)|rfl)
    ·exact .inl z
    ·exact .inr ⟨x,i9 _ z,e⟩
    ·exact .inr ⟨c,fF _ (nv.mpr rfl),rfl⟩
   ·rintro(z|⟨x,z,e⟩)
    ·exact .inl (.inl z)
    ·rcases dS.mp z with z|z
     ·exact .inl (.inr ⟨x,z,e⟩)
     ·rw[nv.mp z] at e
      exact .inr e
  ·rintro ρ ⟨BF,o6,Tj,E9,rq,rfl⟩
   rw[bT,z0] at rq
   rw[bT] at E9
   walk_at "q"
   refine(show rY (.ow true) (.list (BF.map fun kv=>.tup (kv.1.map rS))) (fun m x=>Q (qF [(.sh,.int many),(m,x)]) (.tup [.int many,x])) from Tj.sorted (by lia) fun l pm hs up hl=>?_)
   have hm:∀ t,t∈l↔DE BF t:=fun t=>by
    unfold DE
    rw[<- pm.mem_iff,b9]
    exact⟨fun z=>⟨t,z,rfl⟩,fun⟨u,hu,e⟩=>by rwa[<- nY e]⟩
   refine h l (fun s m=>(hs s m).1) (fun s m=>(hs s m).2) (by lia) fun x hx=>⟨(hm _).mpr ((rq _).mpr (.inr ⟨x,hx,rfl⟩)),fun d e z=>?_⟩
   rcases (rq _).mp ((hm _).mp z) with z|⟨y,hy,z⟩
   ·exact absurd hx (tS _ z)
   ·cases z
    exact⟨rfl,rfl⟩
def fY:WS :=
 (dk (fw 1 (bO bh (ak (ai 0) cx)))
 (dk (fw 2 (rL (ak (aT zm (rL (ak (wC (.int 0)) cx)) (aT ic (ai 0) (wC (.int 0)))) cx)))
 (dk (fw 3 (bO aL (ak (ai 1) (ak (aT ic (ai 2) (wC (.int 0))) cx))))
 (dk (uX (wB (aT sT (ai 3) (aT ic (ai 2) (kE EW (wC (.int 1))))))
 (wX 2 3 (bO aL (ak (ai 1) (ak (ai 3) cx)))))
 (oZ 2)))))
def XR(rs:List (List Int)):D:=.list (rs.map zC)
def bK:hV:=fun ds Q=>∃ (many:Int) (steps:List aw),ds=[mD many steps]/\(1<=many/\many<=63)/\eK many steps/\Sx steps/\∀ rest,Chain many steps (zeros many) rest->rest.length<=10000->Q (.ow true) (XR (zeros many :: rest))
theorem nQ (ds Q) (h:bK ds Q):ds.length=["m"].length:=by obtain⟨_,_,rfl,_⟩:=h;rfl
theorem wY(cur:List Int)(pre:List (List Int)):eT ((cur :: pre).map zC) (-1)=some (zC (ig cur pre)):=by
 have e:(cur :: pre).map zC=((cur :: pre).dropLast.map zC)++[zC (ig cur pre)]:=by
  conv=>lhs;rw[<- List.dropLast_concat_getLast (show cur :: pre≠[] by simp)]
  rw[sC]
  rfl
 rw[e]
 exact aw' _ _
theorem uD(cur gI:List Int)(pre:List (List Int)):ig cur (pre++[gI])=gI:=by
 unfold ig
 rw[List.getLast_cons (by simp),List.getLast_concat]
theorem qN:∀ ds Q,bK ds Q->fY { nx:=fun _=>Q .sh .non,rt:=Q } (aJ 4 ds):=by
 rintro ds Q ⟨many,steps,rfl,hm,av,hl,h⟩
 unfold fY
 have hmm:many*many<=10000:=by
  have:=Int.mul_le_mul hm.2 hm.2 (by lia) (by lia)
  lia
 have e0:aJ 4 [mD many steps]=[some (.sh (mD many steps)),none,none,none]:=rfl
 rw[e0]
 walk_at "q"
 refine⟨many,steps,rfl,by lia,av,hl.1,?_⟩
 unfold BD
 walk_at "q"
 unfold mD
 walk_at "q"
 refine⟨by lia,?_⟩
 rw[wR]
 refine⟨many,steps,zeros many,rfl,by lia,by simp[zeros],av,hl,fun r hr=>?_⟩
 walk_at "q"
 refine⟨fun ρ=>∃ (pre:List (List Int)) (cur gI:List Int),uy many cur/\RB many steps cur gI/\(∀ rest,Chain many steps cur rest->Chain many steps (zeros many) (pre++rest))/\ig (zeros many) pre=cur/\(pre.length:Int)<=cur.sum/\cur.sum<=many*many /\
   ρ=[some (.sh (.tup [.int many,.list (steps.map dc)])),some (.ow true (.list (om many steps))),some (.ow true (.list ((zeros many :: pre).map zC))),some (.ow true (.list (gI.map .int)))],
  fun ρ=>match ρ with
   |[_,_,some (.ow _ (.list rs)),_]=>20000-rs.length
   |_=>0,⟨[],zeros many,r,qD hm.1,hr,fun rest hc=>hc,rfl,?_,?_,rfl⟩,?_⟩
 ·simp[zeros]
 ·have:0<=many*many:=Int.mul_nonneg (by lia) (by lia)
  simp[zeros];lia
 rintro ρ ⟨pre,cur,gI,hd,hb,hc,hla,hp,hs,rfl⟩
 walk_at "q"
 refine⟨_,wY _ _,?_⟩
 rw[hla]
 unfold zC
 walk_at "q"
 refine⟨uV _ _,uV _ _,?_⟩
 rw[HQ]
 by_cases e:gI=cur
 ·rw[if_neg (by simp[e])]
  rw[e] at hb
  have:=hc [] hb
  rw[lI] at this
  exact h pre this (by lia)
 ·rw[if_pos (by simp[e])]
  have eR':=hb.sum av hd (by lia) e
  refine⟨gC _,by lia,?_⟩
  refine⟨many,steps,gI,rfl,by lia,(hb.yo av).1,av,hl,fun r2 hr2=>?_⟩
  walk_at "q"
  refine⟨⟨pre++[gI],gI,r2,hb.yo av,hr2,fun rest vw=>?_,uD _ _ _,by simp;lia,eR'.2,by simp[zC]⟩,?_⟩
  ·have:=hc (gI :: rest) ⟨hb,e,vw⟩
   simpa using this
  ·simp
   lia
def g8:WS :=
 (mM (P4 (bO bK (ak (ai 0) cx)) (kE EW (wC (.int 1)))))
def bH:hV:=fun ds Q=>∃ (many:Int) (steps:List aw),ds=[mD many steps]/\(1<=many/\many<=63)/\eK many steps/\Sx steps/\∀ k,Kinds many steps k->Q (.ow true) (.list (k.map .int))
theorem oF (ds Q) (h:bH ds Q):ds.length=["m"].length:=by obtain⟨_,_,rfl,_⟩:=h;rfl
theorem uJ:∀ ds Q,bH ds Q->g8 { nx:=fun _=>Q .sh .non,rt:=Q } (aJ 1 ds):=by
 rintro ds Q ⟨many,steps,rfl,hm,av,hl,h⟩
 unfold g8
 rw[show aJ 1 [mD many steps]=[some (.sh (mD many steps))] from rfl]
 walk_at "q"
 refine⟨many,steps,rfl,hm,av,hl,fun rest hc hr=>?_⟩
 unfold XR
 walk_at "q"
 refine⟨_,wY _ _,?_⟩
 unfold zC
 walk_at "q"
 exact h _ ⟨rest,hc,rfl⟩
def qK:WS :=
 (dk (rQ aK (ak (ai 0) (ak (ai 1) cx)))
 (dk (rQ aK (ak (ai 0) (ak (ai 2) cx)))
 (dk (fw 3 (bO bH (ak (ai 0) cx)))
 (mM (aT sR (aT ic (ai 3) (ai 1)) (aT ic (ai 3) (ai 2)))))))
def b8:hV:=fun ds Q=>∃ (many:Int) (l:List aw) (p q:Int),ds=[mD many l,.int p,.int q]/\(1<=many/\many<=63)/\eK many l/\Sx l/\(vj many (p,q)->∀ k,Kinds many l k->Q .sh (.bl (decide (rk k p=rk k q))))/\(¬ vj many (p,q)->Q (.ow false) (.str "NoState"))
theorem u_ (ds Q) (h:b8 ds Q):ds.length=["m", "p", "q"].length:=by obtain⟨_,_,_,_,rfl,_⟩:=h;rfl
theorem DP:∀ ds Q,b8 ds Q->qK { nx:=fun _=>Q .sh .non,rt:=Q } (aJ 4 ds):=by
 rintro ds Q ⟨many,l,p,q,rfl,hm,av,hl,h1,h2⟩
 unfold qK
 rw[show aJ 4 [mD many l,.int p,.int q]=[some (.sh (mD many l)),some (.sh (.int p)),some (.sh (.int q)),none] from rfl]
 walk_at "q"
 refine⟨many,l,p,rfl,fun a=>?_,fun a=>?_⟩
 ·walk_at "q"
  refine⟨many,l,q,rfl,fun b=>?_,fun b=>?_⟩
  ·walk_at "q"
   refine⟨many,l,rfl,hm,av,hl,fun k hk=>?_⟩
   walk_at "q"
   refine⟨_,zx hk.rb.len a.1 a.2,?_⟩
   walk_at "q"
   refine⟨_,zx hk.rb.len b.1 b.2,?_⟩
   walk_at "q"
   exact h1 ⟨a,b⟩ k hk
  ·walk_at "q"
   exact h2 fun z=>b z.2
 ·walk_at "q"
  exact h2 fun z=>a z.1
def Bh:WS :=
 (Bd b8 (ak (bO cz (ak (ai 0) cx)) (ak (ai 1) (ak (ai 2) cx))))
def cL:hV:=fun ds Q=>∃ (many:Int) (l:List aw) (names:List Str) (p q:Int),ds=[mD many l,.int p,.int q]/\(1<=many/\many<=10)/\eK many l/\qf names l/\("*" : Str)∈names/\names.length<=5/\l.length<=63/\(vj many (p,q)->∀ out k,nh many l out->Kinds many out k->Q .sh (.bl (decide (rk k p=rk k q))))/\(¬ vj many (p,q)->Q (.ow false) (.str "NoState"))
theorem Be (ds Q) (h:cL ds Q):ds.length=["m", "p", "q"].length:=by obtain⟨_,_,_,_,_,rfl,_⟩:=h;rfl
theorem Hm:∀ ds Q,cL ds Q->Bh { nx:=fun _=>Q .sh .non,rt:=Q } (aJ 3 ds):=by
 rintro ds Q ⟨many,l,names,p,q,rfl,hm,av,fe,hz,gL,hl,h1,h2⟩
 unfold Bh
 rw[show aJ 3 [mD many l,.int p,.int q]=[some (.sh (mD many l)),some (.sh (.int p)),some (.sh (.int q))] from rfl]
 walk_at "q"
 refine⟨many,l,names,rfl,by lia,av,fe,hz,by lia,by lia,fun out he _=>?_⟩
 walk_at "q"
 refine⟨many,out,p,q,rfl,by lia,he.in av,he.sx av hm.2 fe hz gL,fun hx k hk=>?_,fun hx=>?_⟩
 ·walk_at "q"
  exact h1 hx out k he hk
 ·walk_at "q"
  exact h2 hx
def dR:WS :=
 (dk (SV (Dy 3 cL (ak (ai 0) (ak (ai 1) (ak (ai 2) cx)))) (fun a=>[none,none,none,none,some (.xc a),none]) (fun a n=>(dk (fw 5 (rL (ak (wd 4 a (decide (n = "NoMachine"))) (ak (wd 4 a (decide (n = "TooBig"))) (ak (wd 4 a (decide (n = "NoDeed"))) (ak (wd 4 a (decide (n = "NoText"))) cx))))))
 (dk (fw 5 (aT kF (ai 5) (rL (ak (wd 4 a (decide (n = "NoFrame"))) (ak (wd 4 a (decide (n = "NoScroll"))) (ak (wd 4 a (decide (n = "NoName"))) cx))))))
 (dk (n9 (EV (wB (aT (AY false) (wC (.bl true)) (ai 5))) (EV (wB (wd 4 a (decide (n = "NoRow")))) (AX (wB (wd 4 a true)))))
 (mM (nV (ak (wC (.str "refused")) (ak (wC (.str "other")) cx))))
 dH)
 (mM (nV (ak (wC (.str "refused")) (ak (wd 4 a (decide (n = "NoState"))) cx)))))))))
 (xM [.inl (wC (.str "told")),.inr 3]))
def aV:hV:=fun ds Q=>∃ (many:Int) (l:List aw) (names:List Str) (p q:Int),ds=[mD many l,.int p,.int q]/\(1<=many/\many<=10)/\eK many l/\qf names l/\("*" : Str)∈names/\names.length<=5/\l.length<=63/\¬ vj many (p,q)/\Q .sh (.tup [.str "refused",.bl true])
theorem lC (ds Q) (h:aV ds Q):ds.length=["_law_m", "_law_p", "_law_q"].length:=by obtain⟨_,_,_,_,_,rfl,_⟩:=h;rfl
theorem ph:∀ ds Q,aV ds Q->dR { nx:=fun _=>Q .sh .non,rt:=Q } (aJ 6 ds):=by
 rintro ds Q ⟨many,l,names,p,q,rfl,hm,av,fe,hz,gL,hl,hx,h⟩
 unfold dR
 walk_at "q"
 refine⟨many,l,names,p,q,rfl,hm,av,fe,hz,gL,hl,fun z=>absurd z hx,fun _=>?_⟩
 walk_at "q"
 intro a
 refine .inl ⟨rfl,rfl,R.F (by decide) ?_⟩
 walk_at "q"
 refine R.F (by decide) ?_
 walk_at "q"
 exact h
def fV:WS :=
 (dk (fw 4 (fM cL (ak (ai 0) (ak (ai 2) (ak (ai 3) cx)))))
 (dk (n9 (EV (AX (wB (kE (R7 "bool") (ai 4)))) (EV (wB (aT sT (ai 4) (fM cL (ak (ai 0) (ak (ai 3) (ak (ai 2) cx)))))) (wB (aT sT (ai 4) (fM b8 (ak (ai 1) (ak (ai 2) (ak (ai 3) cx))))))))
 (mM (wC (.bl false)))
 dH)
 (mM (Pg (ai 4) (zf (aT sT (ai 2) (ai 3)) (yX (fM b8 (ak (ai 0) (ak (ai 2) (ak (ai 3) cx))))))))))
def bw:hV:=fun ds Q=>∃ (many:Int) (l out:List aw) (names:List Str) (p q:Int),ds=[mD many l,mD many out,.int p,.int q]/\(1<=many/\many<=10)/\eK many l/\qf names l/\("*" : Str)∈names/\names.length<=5/\l.length<=63/\nh many l out/\vj many (p,q)/\Q .sh (.bl true)
theorem mX (ds Q) (h:bw ds Q):ds.length=["_law_m", "_law_loose", "_law_p", "_law_q"].length:=by obtain⟨_,_,_,_,_,_,rfl,_⟩:=h;rfl
theorem qg:∀ ds Q,bw ds Q->fV { nx:=fun _=>Q .sh .non,rt:=Q } (aJ 5 ds):=by
 rintro ds Q ⟨many,l,out,names,p,q,rfl,hm,av,fe,hz,gL,hl,he,hx,h⟩
 have Fc:vj many (q,p):=⟨hx.2,hx.1⟩
 unfold fV
 walk_at "q"
 refine⟨many,l,names,p,q,rfl,hm,av,fe,hz,gL,hl,fun _ ii' k he1 hk=>?_,fun z=>absurd hx z⟩
 rw[he1.uniq he] at hk
 walk_at "q"
 refine⟨many,l,names,q,p,rfl,hm,av,fe,hz,gL,hl,fun _ eU' k2 mG yb=>?_,fun z=>absurd Fc z⟩
 rw[mG.uniq he] at yb
 rw[yb.uniq (he.in av) hk,show decide (rk k q=rk k p)=decide (rk k p=rk k q) from decide_eq_decide.mpr ⟨Eq.symm,Eq.symm⟩]
 walk_at "q"
 refine⟨many,out,p,q,rfl,by lia,he.in av,he.sx av hm.2 fe hz gL,fun _ k3 IE=>?_,fun z=>absurd hx z⟩
 rw[IE.uniq (he.in av) hk]
 walk_at "q"
 by_cases e:rk k p=rk k q
 ·rw[decide_eq_true e]
  walk_at "q"
  exact h
 ·rw[decide_eq_false e]
  walk_at "q"
  refine R.T (by simp only[Bool.not_eq_true',decide_eq_false_iff_not];exact fun z=>e (by rw[z])) ?_
  walk_at "q"
  refine⟨many,l,p,q,rfl,by lia,av,eP' hl,fun _ k0 hk0=>?_,fun z=>absurd hx z⟩
  rw[decide_eq_false fun z=>e (hk0.B6 hk av he hx.1 hx.2 z)]
  walk_at "q"
  exact h
def sU:WS :=
 (mM (aT sR (ai 4) (ai 5)))
def iY:WS :=
 (dk (iS 1 (pT (wy (nV (ak (kE EW (wC (.int 1))) (ak (aT Pj (kE EW (wC (.int 1))) (aT iF (ai 2) (aT MP (wC (.int 10)) (wC (.int 59))))) (ak (ai 1) (ak (aT kF (ai 1) (aT iF (ai 2) (aT MP (wC (.int 10)) (wC (.int 59))))) cx)))))) (gN 13)
 (n9 (EV (wB (aT sT (bO aV (ak (ai 4) (ak (ai 13) (ak (ai 10) cx)))) (nV (ak (wC (.str "refused")) (ak (wC (.bl true)) cx))))) (wB (aT sT (bO aV (ak (ai 4) (ak (ai 10) (ak (ai 13) cx)))) (nV (ak (wC (.str "refused")) (ak (wC (.bl true)) cx))))))
 (mM (wC (.bl false)))
 dH)))
 sU)
def jc:WS :=
 (dk (iS 3 (pT (dJ (Ic (ai 3) kh (oW (wC (.int 3))))) (gN 7)
 (n9 (AX (wB (fM cL (ak (ai 4) (ak (ai 7) (ak (aT iF (aT kF (aT kF (ai 7) (wC (.int 1))) (aT iF (aT mI (bO az (ak (ai 0) (ak (wC (.int 2)) cx))) (wC (.int 7))) (ai 1))) (ai 1)) cx))))))
 (mM (wC (.bl false)))
 dH)))
 iY)
def jj:WS :=
 (dk (fw 12 (aT iF (aT mI (ai 2) (wC (.int 64))) (ai 1)))
 (dk (n9 (HP (wB (fM cL (ak (ai 4) (ak (ai 10) (ak (ai 11) cx))))) (HP (wB (fM cL (ak (ai 4) (ak (ai 11) (ak (ai 12) cx))))) (AX (wB (fM cL (ak (ai 4) (ak (ai 10) (ak (ai 12) cx))))))))
 (mM (wC (.bl false)))
 dH)
 jc))
def vJ:WS :=
 (dk (n9 (AX (wB (bO bw (ak (ai 4) (ak (ai 6) (ak (ai 10) (ak (ai 10) cx)))))))
 (mM (wC (.bl false)))
 dH)
 (dk (fw 11 (aT iF (aT mI (ai 2) (wC (.int 8))) (ai 1)))
 jj))
def nU:WS :=
 (dk (fw 10 (aT iF (ai 2) (ai 1)))
 vJ)
def n6:WS :=
 (dk (fw 6 (bO cz (ak (ai 4) cx)))
 (dk (pT (gK (aT Cu (ai 1) (wC (.int 3)))) (gN 7)
 (dk (fw 8 (aT iF (aT kF (aT mI (ai 2) (wC (.int 4))) (ai 7)) (ai 1)))
 (pT (wy (nV (ak (aT iF (aT kF (aT mI (ai 2) (wC (.int 11))) (aT MN (wC (.int 2)) (ai 7))) (ai 1)) (ak (aT iF (aT kF (ai 8) (wC (.int 1))) (ai 1)) cx)))) (gN 9)
 (n9 (AX (wB (bO bw (ak (ai 4) (ak (ai 6) (ak (ai 8) (ak (ai 9) cx)))))))
 (mM (wC (.bl false)))
 dH))))
 nU))
def nH:WS :=
 (dk (fw 2 (bO az (ak (ai 0) (ak (wC (.int 1)) cx))))
 (dk (fw 3 (bO bL (ak (ai 0) (ak (ai 1) cx))))
 (dk (fw 4 (bO aP (ak (ai 0) (ak (ai 1) (ak (bO bz (ak (ai 2) cx)) (ak (ai 3) cx))))))
 (dk (iS 1 (fw 5 (nV (ak (ai 1) (ak (kE uO (aT ic (ai 4) (wC (.int 1)))) cx)))))
 n6))))
def Dc:WS :=
 (dk (fw 1 (aT kF (wC (.int 1)) (aT iF (aT mI (bO az (ak (ai 0) (ak (wC (.int 0)) cx))) (wC (.int 8))) (wC (.int 6)))))
 (dk (n9 (wB (aT sR (aT iF (bO az (ak (ai 0) (ak (wC (.int 0)) cx))) (wC (.int 8))) (wC (.int 3))))
 (fw 1 (aT kF (wC (.int 1)) (aT iF (aT mI (bO az (ak (ai 0) (ak (wC (.int 0)) cx))) (wC (.int 8))) (wC (.int 10)))))
 dH)
 nH))
abbrev IX:hV:=WV
theorem Dq (ds Q) (h:IX ds Q):ds.length=["_law_script"].length:=by obtain⟨_,rfl,_⟩:=h;rfl
theorem zj {Q:Md->D->Prop} {ns:List Int} {many far a:Int} {l:List aw} {names:List Str} {o3 o6 o7 o8 o9 IY IZ:Option Sl} (hm:1<=many/\many<=10) (av:eK many l) (fe:qf names l) (hz:("*" : Str)∈names) (gL:names.length<=5) (hl:l.length<=63) (ha:0<=a/\a<many) (h:∀ m,Q m (.bl true)) :
  iY { nx:=fun _=>Q .sh .non,rt:=Q } [some (.sh (.list (ns.map .int))),some (.sh (.int many)),some (.sh (.int far)),o3,some (.ow true (.tup [.int many,.list (l.map dc)])),some (.ow true (.tup [.int many,.list (l.map dc)])),o6,o7,o8,o9,some (.sh (.int a)),IY,IZ,none]:=by
 unfold iY sU
 walk_at "q"
 have p1:=D6 far (show(100000000000000000000000000000000000000000000000000000000000:Int)≠0 by decide)
 generalize far % 100000000000000000000000000000000000000000000000000000000000=big at *
 have cp:GU 10 59:=by unfold GU;decide
 refine⟨cp,cp,?_⟩
 refine bN _ (fun i ρ=>∃ (Qa:Option Sl),ρ=[some (.sh (.list (ns.map .int))),some (.sh (.int many)),some (.sh (.int far)),o3,some (.ow true (.tup [.int many,.list (l.map dc)])),some (.ow true (.tup [.int many,.list (l.map dc)])),o6,o7,o8,o9,some (.sh (.int a)),IY,IZ,Qa]) ⟨_,rfl⟩ ?_ ?_
 ·rintro i x ρ hx ⟨Qa,rfl⟩ N hN
  obtain⟨w,rfl,hw⟩:∃ w:Int,x=.int w/\¬ (0<=w/\w<many):=by
   have:=ll hx
   simp only[df,zS,or_false] at this
   rcases this with e|e|e|e<;>exact⟨_,e,by lia⟩
  walk_at "q"
  refine⟨many,l,names,w,a,rfl,hm,av,fe,hz,gL,hl,fun z=>hw z.1,?_⟩
  walk_at "q"
  refine⟨by decide +kernel,by decide +kernel,R.F (by decide +kernel) ?_⟩
  walk_at "q"
  refine⟨many,l,names,a,w,rfl,hm,av,fe,hz,gL,hl,fun z=>hw z.2,?_⟩
  walk_at "q"
  refine⟨by decide +kernel,by decide +kernel,R.F (by decide +kernel) ?_⟩
  walk_at "q"
  exact hN _ ⟨_,rfl⟩
 rintro ρ ⟨Qa,rfl⟩
 walk_at "q"
 refine⟨Xz 9 av,Xz 9 av,?_⟩
 rw[show gu (.tup [.int many,.list (l.map dc)]) (.tup [.int many,.list (l.map dc)])=true from eq_self (eD' _ _)]
 exact h _
theorem mR {Q:Md->D->Prop} {ns:List Int} {many far a:Int} {l:List aw} {names:List Str} {o6 o7 o8 o9 IY IZ:Option Sl} (hm:1<=many/\many<=10) (av:eK many l) (fe:qf names l) (hz:("*" : Str)∈names) (gL:names.length<=5) (hl:l.length<=63) {lone:List Int} (lT:∀ x∈lone,DF l x (gI many (ns.getD 2 0) x)) (ha:0<=a/\a<many) (h:∀ m,Q m (.bl true)) :
  jc { nx:=fun _=>Q .sh .non,rt:=Q } [some (.sh (.list (ns.map .int))),some (.sh (.int many)),some (.sh (.int far)),some (.ow true (.list (lone.map .int))),some (.ow true (.tup [.int many,.list (l.map dc)])),some (.ow true (.tup [.int many,.list (l.map dc)])),o6,o7,o8,o9,some (.sh (.int a)),IY,IZ,none]:=by
 obtain⟨w14,Tn⟩:∃ w14,w14=iY:=⟨_,rfl⟩
 unfold jc
 rw[<- Tn]
 walk_at "q"
 refine .inl ⟨gC lone,?_⟩
 rw[rW]
 have hc:∀ x∈nX lone none (some 3),x∈lone:=fun x hx=>Qh (NJ hx)
 generalize nX lone none (some 3)=ij' at *
 refine bN _ (fun i ρ=>∃ (o7:Option Sl),ρ=[some (.sh (.list (ns.map .int))),some (.sh (.int many)),some (.sh (.int far)),some (.sh (.list (lone.map .int))),some (.ow true (.tup [.int many,.list (l.map dc)])),some (.ow true (.tup [.int many,.list (l.map dc)])),o6,o7,o8,o9,some (.sh (.int a)),IY,IZ,none]) ⟨_,rfl⟩ ?_ ?_
 ·rintro i x ρ hx ⟨o7,rfl⟩ N hN
  obtain⟨c,rfl,q0,tk⟩:=int_at hx
  have lo:=lT c (hc c q0)
  have ok:=av _ lo.1
  walk_at "q"
  refine⟨ns,2,rfl,by decide,?_⟩
  walk_at "q"
  have Fc:vj many (c,gI many (ns.getD 2 0) c):=⟨⟨ok.1,ok.2.1⟩,ok.2.2.2⟩
  refine⟨by lia,by lia,many,l,names,c,gI many (ns.getD 2 0) c,rfl,hm,av,fe,hz,gL,hl,fun _ out k he hk=>?_,fun z=>absurd Fc z⟩
  rw[decide_eq_true (lo.B6 hk av he)]
  walk_at "q"
  exact hN _ ⟨_,rfl⟩
 ·rintro ρ ⟨o7,rfl⟩
  rw[Tn]
  exact zj hm av fe hz gL hl ha h
theorem yZ {Q:Md->D->Prop} {ns:List Int} {many far a b:Int} {l:List aw} {names:List Str} {o6 o7 o8 o9:Option Sl} (hm:1<=many/\many<=10) (av:eK many l) (fe:qf names l) (hz:("*" : Str)∈names) (gL:names.length<=5) (hl:l.length<=63) {lone:List Int} (lT:∀ x∈lone,DF l x (gI many (ns.getD 2 0) x)) (ha:0<=a/\a<many) (hb:0<=b/\b<many) (h:∀ m,Q m (.bl true)) :
  jj { nx:=fun _=>Q .sh .non,rt:=Q } [some (.sh (.list (ns.map .int))),some (.sh (.int many)),some (.sh (.int far)),some (.ow true (.list (lone.map .int))),some (.ow true (.tup [.int many,.list (l.map dc)])),some (.ow true (.tup [.int many,.list (l.map dc)])),o6,o7,o8,o9,some (.sh (.int a)),some (.sh (.int b)),none,none]:=by
 obtain⟨w13,Nu⟩:∃ w13,w13=jc:=⟨_,rfl⟩
 unfold jj
 rw[<- Nu]
 walk_at "q"
 have hc:=fj (far / 64) (show 0<many by lia)
 generalize far / 64 % many=c at *
 have E5:vj many (a,b):=⟨ha,hb⟩
 have hbc:vj many (b,c):=⟨hb,hc⟩
 have PY:vj many (a,c):=⟨ha,hc⟩
 refine⟨by lia,many,l,names,a,b,rfl,hm,av,fe,hz,gL,hl,fun _ out k he hk=>?_,fun z=>absurd E5 z⟩
 walk_at "q"
 refine R.D (fun e1=>?_) fun _=>?_
 ·walk_at "q"
  refine⟨many,l,names,b,c,rfl,hm,av,fe,hz,gL,hl,fun _ eU' k2 mG yb=>?_,fun z=>absurd hbc z⟩
  rw[mG.uniq he] at yb
  rw[yb.uniq (he.in av) hk]
  walk_at "q"
  refine R.D (fun e2=>?_) fun _=>?_
  ·walk_at "q"
   refine⟨many,l,names,a,c,rfl,hm,av,fe,hz,gL,hl,fun _ ik' k3 he3 IE=>?_,fun z=>absurd PY z⟩
   rw[he3.uniq he] at IE
   rw[IE.uniq (he.in av) hk,decide_eq_true (e1.trans e2)]
   walk_at "q"
   rw[Nu]
   exact mR hm av fe hz gL hl lT ha h
  ·walk_at "q"
   rw[Nu]
   exact mR hm av fe hz gL hl lT ha h
 ·walk_at "q"
  rw[Nu]
  exact mR hm av fe hz gL hl lT ha h
theorem Dz {Q:Md->D->Prop} {ns:List Int} {many far:Int} {l out:List aw} {names:List Str} {o7 o8 o9:Option Sl} (hm:1<=many/\many<=10) (av:eK many l) (fe:qf names l) (hz:("*" : Str)∈names) (gL:names.length<=5) (hl:l.length<=63) {lone:List Int} (lT:∀ x∈lone,DF l x (gI many (ns.getD 2 0) x)) (he:nh many l out) (h:∀ m,Q m (.bl true)) :
  nU { nx:=fun _=>Q .sh .non,rt:=Q } [some (.sh (.list (ns.map .int))),some (.sh (.int many)),some (.sh (.int far)),some (.ow true (.list (lone.map .int))),some (.ow true (.tup [.int many,.list (l.map dc)])),some (.ow true (.tup [.int many,.list (l.map dc)])),some (.ow true (.tup [.int many,.list (out.map dc)])),o7,o8,o9,none,none,none,none]:=by
 obtain⟨w11,To⟩:∃ w11,w11=jj:=⟨_,rfl⟩
 unfold nU vJ
 rw[<- To]
 walk_at "q"
 have ha:=fj far (show 0<many by lia)
 have hb:=fj (far / 8) (show 0<many by lia)
 refine⟨by lia,many,l,out,names,_,_,rfl,hm,av,fe,hz,gL,hl,he,⟨ha,ha⟩,?_⟩
 walk_at "q"
 refine⟨by lia,?_⟩
 rw[To]
 exact yZ hm av fe hz gL hl lT ha hb h
theorem Dd {Q:Md->D->Prop} {ns:List Int} {many far:Int} {l:List aw} {names:List Str} (hm:1<=many/\many<=10) (av:eK many l) (fe:qf names l) (hz:("*" : Str)∈names) (gL:names.length<=5) (hl:l.length<=63) {lone:List Int} (lT:∀ x∈lone,DF l x (gI many (ns.getD 2 0) x)) (h:∀ m,Q m (.bl true)) :
  n6 { nx:=fun _=>Q .sh .non,rt:=Q } [some (.sh (.list (ns.map .int))),some (.sh (.int many)),some (.sh (.int far)),some (.ow true (.list (lone.map .int))),some (.ow true (.tup [.int many,.list (l.map dc)])),some (.ow true (.tup [.int many,.list (l.map dc)])),none,none,none,none,none,none,none,none]:=by
 obtain⟨w8,e8⟩:∃ w8,w8=nU:=⟨_,rfl⟩
 unfold n6
 rw[<- e8]
 walk_at "q"
 refine⟨many,l,names,rfl,by lia,av,fe,hz,by lia,by lia,fun out he _=>?_⟩
 unfold mD
 walk_at "q"
 have hr:∃ r:Int,(if (3:Int)<many then (3:Int) else many)=r/\0<=r/\r<=3:=⟨_,rfl,by split<;>lia⟩
 obtain⟨r,er,r0,r1⟩:=hr
 rw[er]
 refine⟨by lia,by lia,?_⟩
 refine bN _ (fun i ρ=>∃ (o7 o8 o9:Option Sl),ρ=[some (.sh (.list (ns.map .int))),some (.sh (.int many)),some (.sh (.int far)),some (.ow true (.list (lone.map .int))),some (.ow true (.tup [.int many,.list (l.map dc)])),some (.ow true (.tup [.int many,.list (l.map dc)])),some (.ow true (.tup [.int many,.list (out.map dc)])),o7,o8,o9,none,none,none,none]) ⟨_,_,_,rfl⟩ ?_ ?_
 ·rintro i x ρ hx ⟨o7,o8,o9,rfl⟩ N hN
  obtain⟨hi,rfl⟩:=gh hx
  walk_at "q"
  have hp:=fj (far / 4+(0+(i:Nat))) (show 0<many by lia)
  have hq1:=fj (far / 11+2*(0+(i:Nat))) (show 0<many by lia)
  generalize (far / 4+(0+((i:Nat):Int))) % many=p at *
  have hq2:=fj (p+1) (show 0<many by lia)
  refine⟨by lia,pF (by lia) (by lia),by lia,by lia,?_⟩
  refine bN _ (fun j ρ=>∃ (o9:Option Sl),ρ=[some (.sh (.list (ns.map .int))),some (.sh (.int many)),some (.sh (.int far)),some (.ow true (.list (lone.map .int))),some (.ow true (.tup [.int many,.list (l.map dc)])),some (.ow true (.tup [.int many,.list (l.map dc)])),some (.ow true (.tup [.int many,.list (out.map dc)])),some (.sh (.int (0+(i:Nat)))),some (.sh (.int p)),o9,none,none,none,none]) ⟨_,rfl⟩ ?_ ?_
  ·rintro j x ρ Fc ⟨o9,rfl⟩ N hN
   obtain⟨q,rfl,hq⟩:∃ q:Int,x=.int q/\0<=q/\q<many:=by
    have:=ll Fc
    simp only[df,zS,or_false] at this
    rcases this with e|e
    ·exact⟨_,e,hq1⟩
    ·exact⟨_,e,hq2⟩
   walk_at "q"
   refine⟨many,l,out,names,p,q,rfl,hm,av,fe,hz,gL,hl,he,⟨hp,hq⟩,?_⟩
   walk_at "q"
   exact hN _ ⟨_,rfl⟩
  ·rintro ρ ⟨o9,rfl⟩
   exact hN _ ⟨_,_,_,rfl⟩
 ·rintro ρ ⟨o7,o8,o9,rfl⟩
  rw[e8]
  exact Dz hm av fe hz gL hl lT he h
theorem xN{Q:Md->D->Prop}{ns:List Int}{many:Int}(hn:ns.length<=63)(hm:1<=many/\many<=10)(h:∀ m,Q m (.bl true)) :
  nH { nx:=fun _=>Q .sh .non,rt:=Q } [some (.sh (.list (ns.map .int))),some (.sh (.int many)),none,none,none,none,none,none,none,none,none,none,none,none]:=by
 obtain⟨w6,e6⟩:∃ w6,w6=n6:=⟨_,rfl⟩
 unfold nH
 rw[<- e6]
 walk_at "q"
 refine⟨ns,1,rfl,by decide,?_⟩
 generalize ns.getD _ 0=far
 walk_at "q"
 refine⟨ns,many,rfl,hm,fun lone lT IU=>?_⟩
 walk_at "q"
 refine⟨far,rfl,fun names n1 n2 hd=>?_⟩
 walk_at "q"
 refine⟨ns,many,names,lone,rfl,hm,⟨n1,n2⟩,hd,lT,IU,hn,fun l av fe hl hln=>?_⟩
 unfold mD
 walk_at "q"
 refine .inl ⟨eF _,?_⟩
 rw[e6]
 exact Dd hm av fe bX (by simp;lia) hl hln h
theorem IK:∀ ds Q,IX ds Q->Dc { nx:=fun _=>Q .sh .non,rt:=Q } (aJ 14 ds):=by
 rintro ds Q ⟨ns,rfl,hn,h⟩
 obtain⟨w2,e2⟩:∃ w2,w2=nH:=⟨_,rfl⟩
 unfold Dc
 rw[<- e2]
 walk_at "q"
 refine⟨ns,0,rfl,by decide,?_⟩
 walk_at "q"
 refine⟨ns,0,rfl,by decide,?_⟩
 walk_at "q"
 have b1:=fj (ns.getD (0:Int).toNat 0 / 8) (show(0:Int)<6 by decide)
 have b2:=fj (ns.getD (0:Int).toNat 0 / 8) (show(0:Int)<10 by decide)
 refine R.D (fun _=>?_) fun _=>?_
 ·walk_at "q"
  refine⟨ns,0,rfl,by decide,?_⟩
  walk_at "q"
  rw[e2]
  exact xN hn (by lia) h
 ·walk_at "q"
  rw[e2]
  exact xN hn (by lia) h
def top(i:Nat):Stmt:=PySem.Challenge.pw_kinlook_k51_kin_and_alike.main.body.getD i (.Pass ⟨0,0,0,0⟩)
abbrev aF:Stmt:=top 13
abbrev fU:List Str:=["m", "state"]
abbrev di:Stmt:=top 14
abbrev ux:List Str:=["m", "ways", "start", "deed", "end"]
abbrev bZ:Stmt:=top 15
abbrev kJ:List Str:=["m", "exits", "start", "deed", "end"]
abbrev dF:Stmt:=top 17
abbrev oJ:List Str:=["exits", "ranks", "state"]
abbrev aH:Stmt:=top 18
abbrev cG:List Str:=["exits", "ranks", "keys", "different", "key"]
abbrev b7:Stmt:=top 19
abbrev pP:List Str:=["m", "exits", "rounds", "ranks"]
abbrev cC:Stmt:=top 20
abbrev qM:List Str:=["m"]
abbrev cR:Stmt:=top 21
abbrev rR:List Str:=["m", "p", "q", "kinds"]
abbrev bc:Stmt:=top 23
abbrev jZ:List Str:=["ways", "state", "walks", "waiting", "start", "end"]
abbrev aN:Stmt:=top 24
abbrev cV:List Str:=["exits", "reaches", "state", "steps", "near", "deed", "far"]
abbrev fZ:Stmt:=top 25
abbrev tH:List Str:=["m", "ways", "exits", "reaches", "steps", "state"]
abbrev lB:Stmt:=top 26
abbrev Ad:List Str:=["m", "p", "q"]
abbrev aX:Stmt:=top 28
abbrev jz:List Str:=["_law_script", "_law_k"]
abbrev bM:Stmt:=top 29
abbrev nu:List Str:=["_law_cell", "_law_letters", "_law_base"]
abbrev bU:Stmt:=top 30
abbrev oU:List Str:=["_law_script", "_law_many", "_law_bits", "_law_lone_here", "_law_k"]
abbrev aW:Stmt:=top 31
abbrev jG:List Str:=["_law_script", "_law_many", "_law_deeds_here", "_law_lone_here", "_law_first", "_law_known", "_law_k", "_law_cell", "_law_deed"]
abbrev bJ:Stmt:=top 32
abbrev m_:List Str:=["_law_m", "_law_p", "_law_q", "_law_found", "e", "_law_others"]
abbrev bV:Stmt:=top 33
abbrev o_:List Str:=["_law_m", "_law_loose", "_law_p", "_law_q", "_law_found"]
abbrev n_:Stmt:=top 34
abbrev Fy:List Str:=["_law_script", "_law_many", "_law_far", "_law_lone_here", "_law_m", "_law_copied", "_law_loose", "_law_k", "_law_p", "_law_q", "_law_a", "_law_b", "_law_c", "_law_wrong"]
abbrev rn:List Str:=["NoState"]
structure Txt(K:PySem.W.Frag)(mg:Str->Option Value):Prop where
 Nv:mg "ValueError" = none
 Nw:mg "bool" = none
 Nx:mg "enumerate" = none
 sv:mg "isinstance" = none
 FD:mg "len" = none
 I0:mg "list" = none
 Ny:mg "min" = none
 zD:mg "range" = none
 Jn:mg "set" = none
 BG:mg "sorted" = none
 DI:RG mg "HIDDEN" "*"
 fc':Xm K mg "NoState"
 fd':Ew K mg rn "KinError"
 fe':∀ n C,n∈rn->mg n=some (.ref C)->∃ c,mg "NoText" = some (.ref c)/\PySem.W.kitOne K (.ref C) (.ref c)=some (decide (n = "NoText"))
 fg':∀ n C,n∈rn->mg n=some (.ref C)->∃ c,mg "NoDeed" = some (.ref c)/\PySem.W.kitOne K (.ref C) (.ref c)=some (decide (n = "NoDeed"))
 fh':∀ n C,n∈rn->mg n=some (.ref C)->∃ c,mg "TooBig" = some (.ref c)/\PySem.W.kitOne K (.ref C) (.ref c)=some (decide (n = "TooBig"))
 fi':∀ n C,n∈rn->mg n=some (.ref C)->∃ c,mg "NoMachine" = some (.ref c)/\PySem.W.kitOne K (.ref C) (.ref c)=some (decide (n = "NoMachine"))
 fj':∀ n C,n∈rn->mg n=some (.ref C)->∃ c,mg "NoName" = some (.ref c)/\PySem.W.kitOne K (.ref C) (.ref c)=some (decide (n = "NoName"))
 fk':∀ n C,n∈rn->mg n=some (.ref C)->∃ c,mg "NoScroll" = some (.ref c)/\PySem.W.kitOne K (.ref C) (.ref c)=some (decide (n = "NoScroll"))
 fm':∀ n C,n∈rn->mg n=some (.ref C)->∃ c,mg "NoFrame" = some (.ref c)/\PySem.W.kitOne K (.ref C) (.ref c)=some (decide (n = "NoFrame"))
 fn':∀ n C,n∈rn->mg n=some (.ref C)->∃ c,mg "NoRow" = some (.ref c)/\PySem.W.kitOne K (.ref C) (.ref c)=some (decide (n = "NoRow"))
 fo':∀ n C,n∈rn->mg n=some (.ref C)->PySem.W.kitOne K (.ref C) (.type "ValueError")=some true
 fp':∀ n C,n∈rn->mg n=some (.ref C)->∃ c,mg "NoState" = some (.ref c)/\PySem.W.kitOne K (.ref C) (.ref c)=some (decide (n = "NoState"))
section
variable {P:Program}{w:World}{K:PySem.W.Frag}{mg:Str->Option Value}{base:Heap}
theorem fO:kC fU ["m", "state"] (cw aF):=⟨rfl,rfl,rfl,by decide +kernel,rfl,by decide +kernel,by decide +kernel⟩
theorem mj {f:Addr} (T:Txt K mg)  (cK:Value) (A:Around) (outer:List PySem.Env) (s:Shared) (H:Hp) (E:XK) (hr:kc 0 (A.deeper (envOfC "check_state" (cw aF) s.heap.objs.size f cK))) :
  pz (qE (mP P w mg rn) P w K mg base fU "check_state" (cw aF) f cK A outer s H E) K (LX rn mg E) (ib aF) dw :=
 have nd:=fO.nd
 have hu:(A.deeper (envOfC "check_state" (cw aF) s.heap.objs.size f cK)).units+64<cLine:=hr.units
 (ao (fK (kj (x_ En Aj Ho GC aB (qv 1) (ku hu (qv 0) aB)))
   (ao (zb rfl Ei T.fc' (.head _) gU))
   bC))
theorem lz {f:Addr} {fd:FuncData} (F:g9 K "check_state" "check_state" aF f fd) (T:Txt K mg)  : g7 P w K mg base (mP P w mg rn) 1 f fd ["m", "state"] (dG K rn mg aK) :=
 SN.ok F fO jJ (mj T ) ou
theorem lV:kC ux ["m"] (cw di):=⟨rfl,rfl,rfl,by decide +kernel,rfl,by decide +kernel,by decide +kernel⟩
theorem ug {f:Addr} {fd:FuncData} (F:g9 K "ways_of" "ways_of" di f fd) (T:Txt K mg)  : g7 P w K mg base kg 1 f fd ["m"] (au K cB) :=
 pS.ok (t:=jq) F lV rB (fun cK A outer s H E hr =>
  have nd:=lV.nd
  have hu:=hr.units
  (aj (aG (i:=1) nd rfl (Or.inl rfl) xU)
   (aj (aU 0 (cO PassesOwn.never rfl (eO (ku hu (qv 0) aB)) (pZ rfl (bF (aD (i:=2) nd rfl (Or.inl rfl)) (bF (aD (i:=3) nd rfl (Or.inl rfl)) (bF (aD (i:=4) nd rfl (Or.inl rfl)) kO))))
   (ao (aU 4 (aU 3 (aU 2 (HF hu (pv 1) (eY (aa (qv 2) (aa (qv 3) aq))) (qv 4))))))))
   (ao (jy (pv 1)))))) xR
theorem jT:kC kJ ["m"] (cw bZ):=⟨rfl,rfl,rfl,by decide +kernel,rfl,by decide +kernel,by decide +kernel⟩
theorem qW {f:Addr} {fd:FuncData} (F:g9 K "exits_of" "exits_of" bZ f fd) (T:Txt K mg)  : g7 P w K mg base kg 1 f fd ["m"] (au K bh) :=
 pS.ok (t:=ie) F jT pR (fun cK A outer s H E hr =>
  have nd:=jT.nd
  have hu:=hr.units
  (aj (fD (i:=1) (tn:=["state"]) (cn:=[]) (ix:=[]) nd rfl (Or.inl rfl) rfl (vR (gY T.zD (ku hu (qv 0) aB))) (cD.of (sc:=cw bZ) (N:=kJ) rfl rfl (by decide +kernel)) (fun _ _ _ _=>(aD (i:=0) (show(["state"]:List Str).Nodup by decide +kernel) rfl (Or.inl rfl) (.inr rfl))) (fun _ _ _ _=>gf) (fun _ _ _ _=>(gH aq)))
   (aj (aU 0 (cO PassesOwn.never rfl (eO (ku hu (qv 0) aB)) (pZ rfl (bF (aD (i:=2) nd rfl (Or.inl rfl)) (bF (aD (i:=3) nd rfl (Or.inl rfl)) (bF (aD (i:=4) nd rfl (Or.inl rfl)) kO))))
   (ao (aU 4 (aU 3 (tL (HX hu (cW (pv 1)) (qv 2)) (eY (aa (qv 3) (aa (qv 4) aq)))))))))
   (ao (jy (pv 1)))))) uN
theorem qb:kC oJ ["exits", "ranks", "state"] (cw dF):=⟨rfl,rfl,rfl,by decide +kernel,rfl,by decide +kernel,by decide +kernel⟩
theorem xH {f:Addr} {fd:FuncData} (F:g9 K "key_of" "key_of" dF f fd) (T:Txt K mg)  : g7 P w K mg base kg 1 f fd ["exits", "ranks", "state"] (au K dh) :=
 pS.ok (t:=m8) F qb uL (fun cK A outer s H E hr =>
  have nd:=qb.nd
  have hu:=hr.units
  (ao (bR (eY (aa (ku hu (qv 1) (qv 2)) (aa (uf hu rfl T.BG rfl T.Jn (xq (tn:=["deed", "end"]) (cn:=["ranks"]) (ix:=[1]) rfl (nO (ku hu (qv 0) (qv 2))) (cD.of (sc:=cw dF) (N:=oJ) rfl rfl (by decide +kernel)) (fun _ _ _ _=>(pZ rfl (bF (aD (i:=0) (show(["deed", "end", "ranks"]:List Str).Nodup by decide +kernel) rfl (Or.inl rfl) (.inr rfl)) (bF (aD (i:=1) (show(["deed", "end", "ranks"]:List Str).Nodup by decide +kernel) rfl (Or.inl rfl) (.inr rfl)) kO)))) (fun _ _ _ _=>gf) (fun _ _ _ _=>(eY (aa (qv 0) (aa (ku hu (qv 2) (qv 1)) aq)))))) aq)))))) yu
theorem eU:kC jZ ["ways", "state"] (cw bc):=⟨rfl,rfl,rfl,by decide +kernel,rfl,by decide +kernel,by decide +kernel⟩
theorem jN {f:Addr} {fd:FuncData} (F:g9 K "hidden_walks" "hidden_walks" bc f fd) (T:Txt K mg)  : g7 P w K mg base kg 1 f fd ["ways", "state"] (au K aR) :=
 pS.ok (t:=cY) F eU iR (fun cK A outer s H E hr =>
  have nd:=eU.nd
  have hu:=hr.units
  (aj (aG (i:=2) nd rfl (Or.inl rfl) (zF (qv 1) (S2 (gH aq))))
   (aj (aU 1 (aG (i:=3) nd rfl (Or.inl rfl) (gH (aa (qv 1) aq))))
   (aj (tY PassesOwn.never (Bu (qv 3))
   (aj (GD (i:=4) nd rfl (Or.inl rfl) (cW (pv 3)))
   (ao (aU 4 (cO PassesOwn.never rfl (eO (H_ hu (qv 0) (eY (aa (qv 4) (aa (Pa T.DI) aq))) (S2 (gH aq)))) (aD (i:=5) nd rfl (Or.inl rfl))
   (ao (fK (cj (Ac (K:=K) hu) Bc (qv 5) (qv 2) (by rfl))
   (aj (aU 5 (aU 4 (yc hu (cW (pv 2)) (qv 5) (S2 (dM (ku hu (qv 2) (qv 4)) (gH (aa (eY (aa (qv 4) (aa (Pa T.DI) (aa (qv 5) aq)))) aq)))))))
   (ao (aU 5 (tL (cW (pv 3)) (qv 5)))))
   bC)))))))
   (ao (jy (pv 2))))))) lF
theorem fQ:kC cV ["exits", "reaches", "state"] (cw aN):=⟨rfl,rfl,rfl,by decide +kernel,rfl,by decide +kernel,by decide +kernel⟩
theorem lE {f:Addr} {fd:FuncData} (F:g9 K "eased_steps" "eased_steps" aN f fd) (T:Txt K mg)  : g7 P w K mg base kg 1 f fd ["exits", "reaches", "state"] (au K a_) :=
 pS.ok (t:=dB) F fQ jH (fun cK A outer s H E hr =>
  have nd:=fQ.nd
  have hu:=hr.units
  (aj (aU 2 (fD (i:=3) (tn:=["end"]) (cn:=["state"]) (ix:=[2]) nd rfl (Or.inl rfl) rfl (nO (ku hu (qv 1) (qv 2))) (cD.of (sc:=cw aN) (N:=cV) rfl rfl (by decide +kernel)) (fun _ _ _ _=>(aD (i:=0) (show(["end", "state"]:List Str).Nodup by decide +kernel) rfl (Or.inl rfl) (.inr rfl))) (fun _ _ _ _=>gf) (fun _ _ _ _=>(eY (aa (qv 1) (aa (Pa T.DI) (aa (qv 0) aq)))))))
   (aj (aU 1 (cO PassesOwn.never rfl (eO (ku hu (qv 1) (qv 2))) (aD (i:=4) nd rfl (Or.inl rfl))
   (ao (aU 0 (cO PassesOwn.never rfl (eO (ku hu (qv 0) (qv 4))) (pZ rfl (bF (aD (i:=5) nd rfl (Or.inr rfl)) (bF (aD (i:=6) nd rfl (Or.inl rfl)) kO)))
   (ao (fK (cj (EK (K:=K) hu) qj (qv 5) (Pa T.DI) (qA _))
   (ao (aU 5 (aU 2 (Ar (cW (pv 3)) (xq (tn:=["end"]) (cn:=["deed", "state"]) (ix:=[5,2]) rfl (nO (ku hu (qv 1) (qv 6))) (cD.of (sc:=cw aN) (N:=cV) rfl rfl (by decide +kernel)) (fun _ _ _ _=>(aD (i:=0) (show(["end", "deed", "state"]:List Str).Nodup by decide +kernel) rfl (Or.inl rfl) (.inr rfl))) (fun _ _ _ _=>gf) (fun _ _ _ _=>(eY (aa (qv 2) (aa (qv 1) (aa (qv 0) aq))))))))))
   bC)))))))
   (ao (bR (uH hu rfl T.BG rfl T.Jn (qv 3))))))) mU
theorem eG:kC jz ["_law_script", "_law_k"] (cw aX):=⟨rfl,rfl,rfl,by decide +kernel,rfl,by decide +kernel,by decide +kernel⟩
theorem jD {f:Addr} {fd:FuncData} (F:g9 K "_law_cell_at" "_law_cell_at" aX f fd) (T:Txt K mg)  : g7 P w K mg base kg 1 f fd ["_law_script", "_law_k"] (au K az) :=
 pS.ok (t:=cX) F eG iQ (fun cK A outer s H E hr =>
  have nd:=eG.nd
  have hu:=hr.units
  (aj (fK (cj Aj GC (qv 1) (gZ g_ vq rfl T.FD xQ (qv 0)) (qA _))
   (ao (bR (ku hu (qv 0) (qv 1))))
   bC)
   (ao (bR aB)))) lq
theorem gF:kC nu ["_law_cell"] (cw bM):=⟨rfl,rfl,rfl,by decide +kernel,rfl,by decide +kernel,by decide +kernel⟩
theorem nP {f:Addr} {fd:FuncData} (F:g9 K "_law_deeds" "_law_deeds" bM f fd) (T:Txt K mg)  : g7 P w K mg base kg 1 f fd ["_law_cell"] (au K bz) :=
 pS.ok (t:=d_) F gF lJ (fun cK A outer s H E hr =>
  have nd:=gF.nd
  have hu:=hr.units
  (aj (aG (i:=1) nd rfl (Or.inl rfl) gU)
   (aj (aG (i:=2) nd rfl (Or.inl rfl) (dM (ku hu (qv 1) (bY (eE (qv 0) aB) aB)) (Fi (ku hu (qv 1) (bY (eE (qv 0) aB) aB)) (bY (eE (qv 0) aB) aB))))
   (ao (aU 2 (bR (mW (gH (aa gU (aa (qv 2) (aa (dM (qv 2) gU) (aa (dM gU (mW (qv 2) (jE aB) qH)) aq))))) qH (jE (dM aB (bY (qv 0) aB)))))))))) pU
theorem e_:kC cG ["exits", "ranks"] (cw aH):=⟨rfl,rfl,rfl,by decide +kernel,rfl,by decide +kernel,by decide +kernel⟩
theorem jY {f:Addr} {fd:FuncData} (F:g9 K "ranks_behind" "ranks_behind" aH f fd) (T:Txt K mg) (fq':fA P w K mg base 1 "key_of" ["exits", "ranks", "state"] (au K dh)):g7 P w K mg base kg 2 f fd ["exits", "ranks"] (au K aL) :=
 pS.ok (t:=cU) F e_ iT (fun cK A outer s H E hr =>
  have nd:=e_.nd
  have hu:=hr.units
  (aj (fD (i:=2) (tn:=["state"]) (cn:=["exits", "ranks"]) (ix:=[0,1]) nd rfl (Or.inl rfl) rfl (vR (gY T.zD (gZ g_ vq rfl T.FD xQ (qv 1)))) (cD.of (sc:=cw aH) (N:=cG) rfl rfl (by decide +kernel)) (fun _ _ _ _=>(aD (i:=0) (show(["state", "exits", "ranks"]:List Str).Nodup by decide +kernel) rfl (Or.inl rfl) (.inr rfl))) (fun _ _ _ _=>gf) (fun _ _ _ _=>(b_ fq' (hr.mono (by decide)) (aa (qv 1) (aa (qv 2) (aa (qv 0) aq))))))
   (aj (aG (i:=3) nd rfl (Or.inr rfl) (gH aq))
   (aj (aU 2 (cO PassesOwn.never rfl (eO (gZ (Em hu) yQ rfl T.BG dN (qv 2))) (aD (i:=4) nd rfl (Or.inl rfl))
   (ao (fK (cj (Bv (K:=K) hu) Ep (qv 4) (qv 3) (by rfl))
   (ao (aU 4 (tL (cW (pv 3)) (qv 4))))
   bC))))
   (ao (bR (xq (tn:=["key"]) (cn:=["different"]) (ix:=[3]) rfl (nO (qv 2)) (cD.of (sc:=cw aH) (N:=cG) rfl rfl (by decide +kernel)) (fun _ _ _ _=>(aD (i:=0) (show(["key", "different"]:List Str).Nodup by decide +kernel) rfl (Or.inl rfl) (.inr rfl))) (fun _ _ _ _=>gf) (fun _ _ _ _=>(Cg hu (qv 1) (qv 0)))))))))) lr
theorem tV:kC tH ["m"] (cw fZ):=⟨rfl,rfl,rfl,by decide +kernel,rfl,by decide +kernel,by decide +kernel⟩
theorem yU {f:Addr} {fd:FuncData} (F:g9 K "eased" "eased" fZ f fd) (T:Txt K mg) (fr':fA P w K mg base 1 "ways_of" ["m"] (au K cB)) (Tp:fA P w K mg base 1 "exits_of" ["m"] (au K bh)) (fs':fA P w K mg base 1 "hidden_walks" ["ways", "state"] (au K aR)) (ft':fA P w K mg base 1 "eased_steps" ["exits", "reaches", "state"] (au K a_)):g7 P w K mg base kg 2 f fd ["m"] (au K cz) :=
 pS.ok (t:=qw) F tV vz (fun cK A outer s H E hr =>
  have nd:=tV.nd
  have hu:=hr.units
  (aj (aG (i:=1) nd rfl (Or.inr rfl) (b_ fr' (hr.mono (by decide)) (aa (qv 0) aq)))
   (aj (aG (i:=2) nd rfl (Or.inl rfl) (b_ Tp (hr.mono (by decide)) (aa (qv 0) aq)))
   (aj (fD (i:=3) (tn:=["state"]) (cn:=["ways"]) (ix:=[1]) nd rfl (Or.inl rfl) rfl (vR (gY T.zD (ku hu (qv 0) aB))) (cD.of (sc:=cw fZ) (N:=tH) rfl rfl (by decide +kernel)) (fun _ _ _ _=>(aD (i:=0) (show(["state", "ways"]:List Str).Nodup by decide +kernel) rfl (Or.inl rfl) (.inr rfl))) (fun _ _ _ _=>gf) (fun _ _ _ _=>(gZ Ek yC rfl T.BG dN (b_ fs' (hr.mono (by decide)) (aa (qv 1) (aa (qv 0) aq))))))
   (aj (aG (i:=4) nd rfl (Or.inl rfl) (gH aq))
   (aj (cO PassesOwn.never rfl (gY T.zD (ku hu (qv 0) aB)) (aD (i:=5) nd rfl (Or.inl rfl))
   (ao (Ar (cW (pv 4)) (b_ ft' (hr.mono (by decide)) (aa (qv 2) (aa (qv 3) (aa (qv 5) aq)))))))
   (ao (qi (Sf (ku hu (qv 0) aB) (Sg (pv 4) xW)))))))))) Bw
theorem iH:kC oU ["_law_script", "_law_many"] (cw bU):=⟨rfl,rfl,rfl,by decide +kernel,rfl,by decide +kernel,by decide +kernel⟩
theorem oO {f:Addr} {fd:FuncData} (F:g9 K "_law_lone" "_law_lone" bU f fd) (T:Txt K mg) (BH:fA P w K mg base 1 "_law_cell_at" ["_law_script", "_law_k"] (au K az)):g7 P w K mg base kg 2 f fd ["_law_script", "_law_many"] (au K bL) :=
 pS.ok (t:=fW) F iH m5 (fun cK A outer s H E hr =>
  have nd:=iH.nd
  have hu:=hr.units
  (aj (aG (i:=2) nd rfl (Or.inl rfl) (b_ BH (hr.mono (by decide)) (aa (qv 0) (aa aB aq))))
   (aj (aG (i:=3) nd rfl (Or.inl rfl) (gH aq))
   (aj (cO PassesOwn.never rfl (gY T.zD (qv 1)) (aD (i:=4) nd rfl (Or.inl rfl))
   (ao (fK (HV (rZ (cj (EJ (K:=K) hu) qC (bY (qv 2) aB) aB (qA _)) (qQ (cj (EJ (K:=K) hu) qC (bY (eE (eE (qv 2) aB) (dM (FJ (qv 4) (qv 4)) aB)) aB) aB (qA _)))))
   (ao (aU 4 (tL (cW (pv 3)) (qv 4))))
   bC)))
   (ao (jy (pv 3))))))) qI
theorem dO:kC jG ["_law_script", "_law_many", "_law_deeds_here", "_law_lone_here"] (cw aW):=⟨rfl,rfl,rfl,by decide +kernel,rfl,by decide +kernel,by decide +kernel⟩
theorem jU {f:Addr} {fd:FuncData} (F:g9 K "_law_machine" "_law_machine" aW f fd) (T:Txt K mg) (BH:fA P w K mg base 1 "_law_cell_at" ["_law_script", "_law_k"] (au K az)):g7 P w K mg base kg 2 f fd ["_law_script", "_law_many", "_law_deeds_here", "_law_lone_here"] (au K aP) :=
 pS.ok (t:=cT) F dO iV (fun cK A outer s H E hr =>
  have nd:=dO.nd
  have hu:=hr.units
  (aj (aG (i:=4) nd rfl (Or.inl rfl) (b_ BH (hr.mono (by decide)) (aa (qv 0) (aa aB aq))))
   (aj (aG (i:=5) nd rfl (Or.inl rfl) xU)
   (aj (aU 0 (cO PassesOwn.never rfl (CQ T.Nx (mW (qv 0) (jE aB) (jE aB))) (pZ rfl (bF (aD (i:=6) nd rfl (Or.inl rfl)) (bF (aD (i:=7) nd rfl (Or.inl rfl)) kO)))
   (aj (aG (i:=8) nd rfl (Or.inl rfl) (ku hu (qv 2) (bY (eE (eE (qv 7) (qv 1)) (qv 1)) (gZ g_ vq rfl T.FD xQ (qv 2)))))
   (aj (fK (HV (rZ (cj (EJ (K:=K) hu) qC (bY (eE (qv 4) aB) aB) aB (qA _)) (qQ (cj (EJ (K:=K) hu) qC (bY (qv 6) aB) aB (qA _)))))
   (ao (aG (i:=8) nd rfl (Or.inl rfl) gU))
   bC)
   (ao (fK (cj (Ac (K:=K) hu) Bc (bY (qv 7) (qv 1)) (qv 3) (by rfl))
   (ao (wz hu (cW (pv 5)) (eY (aa (bY (qv 7) (qv 1)) (aa (qv 8) (aa (bY (eE (qv 7) (qv 1)) (qv 1)) aq)))) xB))
   bC))))))
   (aj (aU 3 (cO PassesOwn.never rfl (eO (qv 3)) (aD (i:=6) nd rfl (Or.inl rfl))
   (ao (wz hu (cW (pv 5)) (eY (aa (qv 6) (aa gU (aa (bY (dM (dM (qv 6) aB) (bY (eE (qv 4) aB) (qv 1))) (qv 1)) aq)))) xB))))
   (ao (qi (Sg (pv 1) (Sf (gZ Fg zp rfl T.BG dN (tK lR xF rfl T.I0 vg (qv 5))) xW))))))))) kZ
theorem iz:kC pP ["m"] (cw b7):=⟨rfl,rfl,rfl,by decide +kernel,rfl,by decide +kernel,by decide +kernel⟩
theorem pL {f:Addr} {fd:FuncData} (F:g9 K "rounds_of" "rounds_of" b7 f fd) (T:Txt K mg) (Tp:fA P w K mg base 1 "exits_of" ["m"] (au K bh)) (XS:fA P w K mg base 2 "ranks_behind" ["exits", "ranks"] (au K aL)):g7 P w K mg base kg 3 f fd ["m"] (au K bK) :=
 pS.ok (t:=fY) F iz nQ (fun cK A outer s H E hr =>
  have nd:=iz.nd
  have hu:=hr.units
  (aj (aG (i:=1) nd rfl (Or.inl rfl) (b_ Tp (hr.mono (by decide)) (aa (qv 0) aq)))
   (aj (aG (i:=2) nd rfl (Or.inl rfl) (gH (aa (Er (gH (aa aB aq)) (ku hu (qv 0) aB)) aq)))
   (aj (aG (i:=3) nd rfl (Or.inl rfl) (b_ XS (hr.mono (by decide)) (aa (qv 1) (aa (ku hu (qv 2) aB) aq))))
   (aj (tY PassesOwn.never (cj (EK (K:=K) hu) qj (qv 3) (ku hu (qv 2) (yM aB)) (qA _))
   (za nd rfl (Or.inl rfl) (pv 2) (pv 3) (b_ XS (hr.mono (by decide)) (aa (qv 1) (aa (qv 3) aq)))))
   (ao (jy (pv 2)))))))) qN
theorem jK:kC qM ["m"] (cw cC):=⟨rfl,rfl,rfl,by decide +kernel,rfl,by decide +kernel,by decide +kernel⟩
theorem rA {f:Addr} {fd:FuncData} (F:g9 K "kinds_of" "kinds_of" cC f fd) (T:Txt K mg) (fu':fA P w K mg base 3 "rounds_of" ["m"] (au K bK)):g7 P w K mg base kg 4 f fd ["m"] (au K bH) :=
 pS.ok (t:=g8) F jK oF (fun cK A outer s H E hr =>
  have nd:=jK.nd
  have hu:=hr.units
  (ao (bR (IW (b_ fu' (hr.mono (by decide)) (aa (qv 0) aq)) (yM aB))))) uJ
theorem rE:kC rR ["m", "p", "q"] (cw cR):=⟨rfl,rfl,rfl,by decide +kernel,rfl,by decide +kernel,by decide +kernel⟩
theorem Bt {f:Addr} (T:Txt K mg) (Qb:ti P w K mg base rn 1 "check_state" ["m", "state"] aK) (Tq:fA P w K mg base 4 "kinds_of" ["m"] (au K bH)) (cK:Value) (A:Around) (outer:List PySem.Env) (s:Shared) (H:Hp) (E:XK) (hr:kc 4 (A.deeper (envOfC "alike" (cw cR) s.heap.objs.size f cK))) :
  pz (qE (mP P w mg rn) P w K mg base rR "alike" (cw cR) f cK A outer s H E) K (LX rn mg E) (ib cR) qK :=
 have nd:=rE.nd
 have hu:(A.deeper (envOfC "alike" (cw cR) s.heap.objs.size f cK)).units+64<cLine:=hr.units
 (aj (tR Qb (hr.mono (by decide)) Bq (aa (qv 0) (aa (qv 1) aq)))
   (aj (tR Qb (hr.mono (by decide)) Bq (aa (qv 0) (aa (qv 2) aq)))
   (aj (aG (i:=3) nd rfl (Or.inl rfl) (b_ Tq (hr.mono (by decide)) (aa (qv 0) aq)))
   (ao (bR (De (EJ (K:=K) hu) qC (ku hu (qv 3) (qv 1)) (ku hu (qv 3) (qv 2)) (qA _)))))))
theorem zz {f:Addr} {fd:FuncData} (F:g9 K "alike" "alike" cR f fd) (T:Txt K mg) (Qb:ti P w K mg base rn 1 "check_state" ["m", "state"] aK) (Tq:fA P w K mg base 4 "kinds_of" ["m"] (au K bH)):g7 P w K mg base (mP P w mg rn) 5 f fd ["m", "p", "q"] (dG K rn mg b8) :=
 SN.ok F rE u_ (Bt T Qb Tq) DP
theorem Ak:kC Ad ["m", "p", "q"] (cw lB):=⟨rfl,rfl,rfl,by decide +kernel,rfl,by decide +kernel,by decide +kernel⟩
theorem HY {f:Addr} (T:Txt K mg) (JA:ti P w K mg base rn 5 "alike" ["m", "p", "q"] b8) (Nz:fA P w K mg base 2 "eased" ["m"] (au K cz)) (cK:Value) (A:Around) (outer:List PySem.Env) (s:Shared) (H:Hp) (E:XK) (hr:kc 5 (A.deeper (envOfC "kin" (cw lB) s.heap.objs.size f cK))) :
  pz (qE (mP P w mg rn) P w K mg base Ad "kin" (cw lB) f cK A outer s H E) K (LX rn mg E) (ib lB) Bh :=
 have nd:=Ak.nd
 have hu:(A.deeper (envOfC "kin" (cw lB) s.heap.objs.size f cK)).units+64<cLine:=hr.units
 (ao (Bp JA (hr.mono (by decide)) Bq (aa (b_ Nz (hr.mono (by decide)) (aa (qv 0) aq)) (aa (qv 1) (aa (qv 2) aq)))))
theorem Gn {f:Addr} {fd:FuncData} (F:g9 K "kin" "kin" lB f fd) (T:Txt K mg) (JA:ti P w K mg base rn 5 "alike" ["m", "p", "q"] b8) (Nz:fA P w K mg base 2 "eased" ["m"] (au K cz)):g7 P w K mg base (mP P w mg rn) 6 f fd ["m", "p", "q"] (dG K rn mg cL) :=
 SN.ok F Ak Be (HY T JA Nz) Hm
theorem gr:kC m_ ["_law_m", "_law_p", "_law_q"] (cw bJ):=⟨rfl,rfl,rfl,by decide +kernel,rfl,by decide +kernel,by decide +kernel⟩
theorem mY {f:Addr} {fd:FuncData} (F:g9 K "_law_asked" "_law_asked" bJ f fd) (T:Txt K mg) (BI:ti P w K mg base rn 6 "kin" ["m", "p", "q"] cL):g7 P w K mg base kg 7 f fd ["_law_m", "_law_p", "_law_q"] (au K aV) :=
 pS.ok (t:=dR) F gr lC (fun cK A outer s H E hr =>
  have nd:=gr.nd
  have hu:=hr.units
  (aj (Fw (j:=4) (ρh:=fun a=>[none,none,none,none,some (.xc a),none]) T.fd' nd rfl rfl rfl rfl (fun a=>rfl) (fun pn xe E1 RN=>(ao (Du BI (hr.mono (by decide)) RN (i:=3) nd rfl (Or.inl rfl) (aa (qv 0) (aa (qv 1) (aa (qv 2) aq))))))
   (fun pn a oe n C hn hm xc hp hG=>by
    obtain⟨fv',fw',fx'⟩:=T.fe' n C hn hm
    obtain⟨fy',fz',fA'⟩:=T.fg' n C hn hm
    obtain⟨fB',fC',fD'⟩:=T.fh' n C hn hm
    obtain⟨fE',fF',fG'⟩:=T.fi' n C hn hm
    obtain⟨fH',fI',fJ'⟩:=T.fj' n C hn hm
    obtain⟨fK',fL',fM'⟩:=T.fk' n C hn hm
    obtain⟨fN',fO',fP'⟩:=T.fm' n C hn hm
    obtain⟨fQ',fR',fS'⟩:=T.fn' n C hn hm
    obtain⟨fT',fU',fV'⟩:=T.fp' n C hn hm
    exact(aj (aG (i:=5) nd rfl (Or.inl rfl) (gH (aa (lu (vc:=.ref fE') (j:=4) T.sv hp hG xc fG' (pv 4) (y1 rfl fF' rfl) (fun _ r=>r)) (aa (lu (vc:=.ref fB') (j:=4) T.sv hp hG xc fD' (pv 4) (y1 rfl fC' rfl) (fun _ r=>r)) (aa (lu (vc:=.ref fy') (j:=4) T.sv hp hG xc fA' (pv 4) (y1 rfl fz' rfl) (fun _ r=>r)) (aa (lu (vc:=.ref fv') (j:=4) T.sv hp hG xc fx' (pv 4) (y1 rfl fw' rfl) (fun _ r=>r)) aq))))))
   (aj (aG (i:=5) nd rfl (Or.inl rfl) (dM (qv 5) (gH (aa (lu (vc:=.ref fN') (j:=4) T.sv hp hG xc fP' (pv 4) (y1 rfl fO' rfl) (fun _ r=>r)) (aa (lu (vc:=.ref fK') (j:=4) T.sv hp hG xc fM' (pv 4) (y1 rfl fL' rfl) (fun _ r=>r)) (aa (lu (vc:=.ref fH') (j:=4) T.sv hp hG xc fJ' (pv 4) (y1 rfl fI' rfl) (fun _ r=>r)) aq))))))
   (aj (fK (HV (vN (cj (kB (K:=K) hu) Bc xB (qv 5) (by rfl)) (vN (gM (lu (vc:=.ref fQ') (j:=4) T.sv hp hG xc fS' (pv 4) (y1 rfl fR' rfl) (fun _ r=>r))) (vI (kj (gM (lu (vc:=.ty "ValueError") (j:=4) T.sv hp hG xc (T.fo' n C hn hm) (pv 4) (Ej T.Nv mC) (fun _ r=>r))))))))
   (ao (bR (eY (aa gU (aa gU aq)))))
   bC)
   (ao (bR (eY (aa gU (aa (lu (vc:=.ref fT') (j:=4) T.sv hp hG xc fV' (pv 4) (y1 rfl fU' rfl) (fun _ r=>r)) aq))))))))))
   (ao (qi (Sf gU (Sg (pv 3) xW)))))) ph
theorem iD:kC o_ ["_law_m", "_law_loose", "_law_p", "_law_q"] (cw bV):=⟨rfl,rfl,rfl,by decide +kernel,rfl,by decide +kernel,by decide +kernel⟩
theorem oH {f:Addr} {fd:FuncData} (F:g9 K "_law_pair" "_law_pair" bV f fd) (T:Txt K mg) (BI:ti P w K mg base rn 6 "kin" ["m", "p", "q"] cL) (JA:ti P w K mg base rn 5 "alike" ["m", "p", "q"] b8):g7 P w K mg base kg 7 f fd ["_law_m", "_law_loose", "_law_p", "_law_q"] (au K bw) :=
 pS.ok (t:=fV) F iD mX (fun cK A outer s H E hr =>
  have nd:=iD.nd
  have hu:=hr.units
  (aj (aG (i:=4) nd rfl (Or.inl rfl) (iJ BI (hr.mono (by decide)) (aa (qv 0) (aa (qv 2) (aa (qv 3) aq)))))
   (aj (fK (HV (vN (kj (gM (Hu T.sv (qv 4) (Ej T.Nw DG)))) (vN (cj (EK (K:=K) hu) qj (qv 4) (iJ BI (hr.mono (by decide)) (aa (qv 0) (aa (qv 3) (aa (qv 2) aq)))) (qA _)) (vI (cj (EK (K:=K) hu) qj (qv 4) (iJ JA (hr.mono (by decide)) (aa (qv 1) (aa (qv 2) (aa (qv 3) aq)))) (qA _))))))
   (ao (bR xB))
   bC)
   (ao (bR (cw' (qv 4) (Fd (Hh (De (EK (K:=K) hu) qj (qv 2) (qv 3) (qA _)) (Fd (G6 (iJ JA (hr.mono (by decide)) (aa (qv 0) (aa (qv 2) (aa (qv 3) aq)))))))))))))) qg
theorem z9:kC Fy ["_law_script"] (cw n_):=⟨rfl,rfl,rfl,by decide +kernel,rfl,by decide +kernel,by decide +kernel⟩
theorem fW' {f:Addr} {fd:FuncData} (F:g9 K "law" "law" n_ f fd) (T:Txt K mg) (BH:fA P w K mg base 1 "_law_cell_at" ["_law_script", "_law_k"] (au K az)) (fX':fA P w K mg base 2 "_law_lone" ["_law_script", "_law_many"] (au K bL)) (fY':fA P w K mg base 2 "_law_machine" ["_law_script", "_law_many", "_law_deeds_here", "_law_lone_here"] (au K aP)) (Nz:fA P w K mg base 2 "eased" ["m"] (au K cz)) (fZ':fA P w K mg base 1 "_law_deeds" ["_law_cell"] (au K bz)) (XT:fA P w K mg base 7 "_law_pair" ["_law_m", "_law_loose", "_law_p", "_law_q"] (au K bw)) (BI:ti P w K mg base rn 6 "kin" ["m", "p", "q"] cL) (XU:fA P w K mg base 7 "_law_asked" ["_law_m", "_law_p", "_law_q"] (au K aV)):g7 P w K mg base kg 8 f fd ["_law_script"] (au K IX) :=
 pS.ok (t:=Dc) F z9 Dq (fun cK A outer s H E hr =>
  have nd:=z9.nd
  have hu:=hr.units
  (aj (aG (i:=1) nd rfl (Or.inl rfl) (dM aB (bY (eE (b_ BH (hr.mono (by decide)) (aa (qv 0) (aa aB aq))) aB) aB)))
   (aj (fK (cj (EJ (K:=K) hu) qC (bY (b_ BH (hr.mono (by decide)) (aa (qv 0) (aa aB aq))) aB) aB (qA _))
   (ao (aG (i:=1) nd rfl (Or.inl rfl) (dM aB (bY (eE (b_ BH (hr.mono (by decide)) (aa (qv 0) (aa aB aq))) aB) aB))))
   bC)
   (aj (aG (i:=2) nd rfl (Or.inl rfl) (b_ BH (hr.mono (by decide)) (aa (qv 0) (aa aB aq))))
   (aj (aG (i:=3) nd rfl (Or.inl rfl) (b_ fX' (hr.mono (by decide)) (aa (qv 0) (aa (qv 1) aq))))
   (aj (aG (i:=4) nd rfl (Or.inl rfl) (b_ fY' (hr.mono (by decide)) (aa (qv 0) (aa (qv 1) (aa (b_ fZ' (hr.mono (by decide)) (aa (qv 2) aq)) (aa (qv 3) aq))))))
   (aj (aU 1 (aG (i:=5) nd rfl (Or.inl rfl) (eY (aa (qv 1) (aa (tK lR xF rfl T.I0 vg (ku hu (qv 4) aB)) aq)))))
   (aj (aG (i:=6) nd rfl (Or.inl rfl) (b_ Nz (hr.mono (by decide)) (aa (qv 4) aq)))
   (aj (cO PassesOwn.never rfl (gY T.zD (Cd FQ Bb rfl T.Ny Gk (qv 1) aB)) (aD (i:=7) nd rfl (Or.inl rfl))
   (aj (aG (i:=8) nd rfl (Or.inl rfl) (bY (dM (eE (qv 2) aB) (qv 7)) (qv 1)))
   (ao (cO PassesOwn.never rfl (Ay (eY (aa (bY (dM (eE (qv 2) aB) (FJ aB (qv 7))) (qv 1)) (aa (bY (dM (qv 8) aB) (qv 1)) aq)))) (aD (i:=9) nd rfl (Or.inl rfl))
   (ao (fK (kj (gM (b_ XT (hr.mono (by decide)) (aa (qv 4) (aa (qv 6) (aa (qv 8) (aa (qv 9) aq)))))))
   (ao (bR xB))
   bC))))))
   (aj (aG (i:=10) nd rfl (Or.inl rfl) (bY (qv 2) (qv 1)))
   (aj (fK (kj (gM (b_ XT (hr.mono (by decide)) (aa (qv 4) (aa (qv 6) (aa (qv 10) (aa (qv 10) aq)))))))
   (ao (bR xB))
   bC)
   (aj (aG (i:=11) nd rfl (Or.inl rfl) (bY (eE (qv 2) aB) (qv 1)))
   (aj (aG (i:=12) nd rfl (Or.inl rfl) (bY (eE (qv 2) aB) (qv 1)))
   (aj (fK (HV (rZ (gM (iJ BI (hr.mono (by decide)) (aa (qv 4) (aa (qv 10) (aa (qv 11) aq))))) (rZ (gM (iJ BI (hr.mono (by decide)) (aa (qv 4) (aa (qv 11) (aa (qv 12) aq))))) (qQ (kj (gM (iJ BI (hr.mono (by decide)) (aa (qv 4) (aa (qv 10) (aa (qv 12) aq))))))))))
   (ao (bR xB))
   bC)
   (aj (aU 3 (cO PassesOwn.never rfl (eO (mW (qv 3) qH (jE aB))) (aD (i:=7) nd rfl (Or.inl rfl))
   (ao (fK (kj (gM (iJ BI (hr.mono (by decide)) (aa (qv 4) (aa (qv 7) (aa (bY (dM (dM (qv 7) aB) (bY (eE (b_ BH (hr.mono (by decide)) (aa (qv 0) (aa aB aq))) aB) (qv 1))) (qv 1)) aq))))))
   (ao (bR xB))
   bC))))
   (aj (aU 1 (cO PassesOwn.never rfl (Ay (eY (aa (yM aB) (aa (Hi (yM aB) (bY (qv 2) (Fx aB aB))) (aa (qv 1) (aa (dM (qv 1) (bY (qv 2) (Fx aB aB))) aq)))))) (aD (i:=13) nd rfl (Or.inl rfl))
   (ao (fK (HV (vN (cj (EK (K:=K) hu) qj (b_ XU (hr.mono (by decide)) (aa (qv 4) (aa (qv 13) (aa (qv 10) aq)))) (eY (aa gU (aa xB aq))) (qA _)) (vI (cj (EK (K:=K) hu) qj (b_ XU (hr.mono (by decide)) (aa (qv 4) (aa (qv 10) (aa (qv 13) aq)))) (eY (aa gU (aa xB aq))) (qA _)))))
   (ao (bR xB))
   bC))))
   (ao (bR (De (EJ (K:=K) hu) qC (qv 4) (qv 5) (qA _)))))))))))))))))))) IK
end
theorem JJ{us:List Value}(h:us.length=1):∃ a0,us=[a0]:=by
 cases us with
 |nil=>simp at h
 |cons a0 us =>
 cases us with
 |nil=>exact⟨_,rfl⟩
 |cons b us=>simp at h
theorem NB{us:List Value}(h:us.length=2):∃ a0 a1,us=[a0,a1]:=by
 cases us with
 |nil=>simp at h
 |cons a0 us =>
 cases us with
 |nil=>simp at h
 |cons a1 us =>
 cases us with
 |nil=>exact⟨_,_,rfl⟩
 |cons b us=>simp at h
theorem NC{us:List Value}(h:us.length=3):∃ a0 a1 a2,us=[a0,a1,a2]:=by
 cases us with
 |nil=>simp at h
 |cons a0 us =>
 cases us with
 |nil=>simp at h
 |cons a1 us =>
 cases us with
 |nil=>simp at h
 |cons a2 us =>
 cases us with
 |nil=>exact⟨_,_,_,rfl⟩
 |cons b us=>simp at h
theorem XW{us:List Value}(h:us.length=4):∃ a0 a1 a2 a3,us=[a0,a1,a2,a3]:=by
 cases us with
 |nil=>simp at h
 |cons a0 us =>
 cases us with
 |nil=>simp at h
 |cons a1 us =>
 cases us with
 |nil=>simp at h
 |cons a2 us =>
 cases us with
 |nil=>simp at h
 |cons a3 us =>
 cases us with
 |nil=>exact⟨_,_,_,_,rfl⟩
 |cons b us=>simp at h
theorem all_mk {l:PySem.W.OpenLaw} {w:World} {K:PySem.W.Frag} {h:Heap} {mg:Str->Option Value} {fa:Addr} (X:K.In h) (G:h.Ns mainGlobals mg) (hfa:mg "law" = some (.ref fa))
  (a0:PySem.W.nsIn K mainGlobals "check_state" = some (some (.ref f0))) (l0:K.lookup f0=some ⟨o0,d0,.func (PySem.W.fnOf "check_state" "check_state" (kf aF) (ib aF) (cw aF) .none v0 j0 p0 e0 r0 u0),t0⟩) (c0:PySem.W.codeIn K r0 "check_state" = true) (k0:PySem.W.keepIn K (.ref f0)=true)
  (a1:PySem.W.nsIn K mainGlobals "ways_of" = some (some (.ref f1))) (l1:K.lookup f1=some ⟨o1,d1,.func (PySem.W.fnOf "ways_of" "ways_of" (kf di) (ib di) (cw di) .none v1 j1 p1 e1 r1 u1),t1⟩) (c1:PySem.W.codeIn K r1 "ways_of" = true) (k1:PySem.W.keepIn K (.ref f1)=true)
  (a2:PySem.W.nsIn K mainGlobals "exits_of" = some (some (.ref f2))) (l2:K.lookup f2=some ⟨o2,d2,.func (PySem.W.fnOf "exits_of" "exits_of" (kf bZ) (ib bZ) (cw bZ) .none v2 j2 p2 e2 r2 u2),t2⟩) (c2:PySem.W.codeIn K r2 "exits_of" = true) (k2:PySem.W.keepIn K (.ref f2)=true)
  (a3:PySem.W.nsIn K mainGlobals "key_of" = some (some (.ref f3))) (l3:K.lookup f3=some ⟨o3,d3,.func (PySem.W.fnOf "key_of" "key_of" (kf dF) (ib dF) (cw dF) .none v3 j3 p3 e3 r3 u3),t3⟩) (c3:PySem.W.codeIn K r3 "key_of" = true) (k3:PySem.W.keepIn K (.ref f3)=true)
  (a4:PySem.W.nsIn K mainGlobals "ranks_behind" = some (some (.ref f4))) (l4:K.lookup f4=some ⟨o4,d4,.func (PySem.W.fnOf "ranks_behind" "ranks_behind" (kf aH) (ib aH) (cw aH) .none v4 j4 p4 e4 r4 u4),t4⟩) (c4:PySem.W.codeIn K r4 "ranks_behind" = true) (k4:PySem.W.keepIn K (.ref f4)=true)
  (a5:PySem.W.nsIn K mainGlobals "rounds_of" = some (some (.ref f5))) (l5:K.lookup f5=some ⟨o5,d5,.func (PySem.W.fnOf "rounds_of" "rounds_of" (kf b7) (ib b7) (cw b7) .none v5 j5 p5 e5 r5 u5),t5⟩) (c5:PySem.W.codeIn K r5 "rounds_of" = true) (k5:PySem.W.keepIn K (.ref f5)=true)
  (a6:PySem.W.nsIn K mainGlobals "kinds_of" = some (some (.ref f6))) (l6:K.lookup f6=some ⟨o6,d6,.func (PySem.W.fnOf "kinds_of" "kinds_of" (kf cC) (ib cC) (cw cC) .none v6 j6 p6 e6 r6 u6),t6⟩) (c6:PySem.W.codeIn K r6 "kinds_of" = true) (k6:PySem.W.keepIn K (.ref f6)=true)
  (a7:PySem.W.nsIn K mainGlobals "alike" = some (some (.ref f7))) (l7:K.lookup f7=some ⟨o7,d7,.func (PySem.W.fnOf "alike" "alike" (kf cR) (ib cR) (cw cR) .none v7 j7 p7 e7 r7 u7),t7⟩) (c7:PySem.W.codeIn K r7 "alike" = true) (k7:PySem.W.keepIn K (.ref f7)=true)
  (a8:PySem.W.nsIn K mainGlobals "hidden_walks" = some (some (.ref f8))) (l8:K.lookup f8=some ⟨o8,d8,.func (PySem.W.fnOf "hidden_walks" "hidden_walks" (kf bc) (ib bc) (cw bc) .none v8 j8 p8 e8 r8 u8),t8⟩) (c8:PySem.W.codeIn K r8 "hidden_walks" = true) (k8:PySem.W.keepIn K (.ref f8)=true)
  (a9:PySem.W.nsIn K mainGlobals "eased_steps" = some (some (.ref f9))) (l9:K.lookup f9=some ⟨o9,d9,.func (PySem.W.fnOf "eased_steps" "eased_steps" (kf aN) (ib aN) (cw aN) .none v9 j9 p9 e9 r9 u9),t9⟩) (c9:PySem.W.codeIn K r9 "eased_steps" = true) (k9:PySem.W.keepIn K (.ref f9)=true)
  (Tr:PySem.W.nsIn K mainGlobals "eased" = some (some (.ref XX))) (l10:K.lookup XX=some ⟨o10,d10,.func (PySem.W.fnOf "eased" "eased" (kf fZ) (ib fZ) (cw fZ) .none v10 j10 p10 e10 Rt u10),t10⟩) (Ts:PySem.W.codeIn K Rt "eased" = true) (Tt:PySem.W.keepIn K (.ref XX)=true)
  (Tv:PySem.W.nsIn K mainGlobals "kin" = some (some (.ref XY))) (Tw:K.lookup XY=some ⟨IY,d11,.func (PySem.W.fnOf "kin" "kin" (kf lB) (ib lB) (cw lB) .none v11 j11 p11 To RW u11),t11⟩) (Tx:PySem.W.codeIn K RW "kin" = true) (Tz:PySem.W.keepIn K (.ref XY)=true)
  (TB:PySem.W.nsIn K mainGlobals "_law_cell_at" = some (some (.ref XZ))) (TC:K.lookup XZ=some ⟨IZ,d12,.func (PySem.W.fnOf "_law_cell_at" "_law_cell_at" (kf aX) (ib aX) (cw aX) .none v12 j12 p12 e12 r12 u12),t12⟩) (TF:PySem.W.codeIn K r12 "_law_cell_at" = true) (TH:PySem.W.keepIn K (.ref XZ)=true)
  (TJ:PySem.W.nsIn K mainGlobals "_law_deeds" = some (some (.ref X1))) (TK:K.lookup X1=some ⟨Qa,d13,.func (PySem.W.fnOf "_law_deeds" "_law_deeds" (kf bM) (ib bM) (cw bM) .none v13 j13 p13 Nu r13 u13),t13⟩) (TL:PySem.W.codeIn K r13 "_law_deeds" = true) (TN:PySem.W.keepIn K (.ref X1)=true)
  (TQ:PySem.W.nsIn K mainGlobals "_law_lone" = some (some (.ref X2))) (TR:K.lookup X2=some ⟨o14,d14,.func (PySem.W.fnOf "_law_lone" "_law_lone" (kf bU) (ib bU) (cw bU) .none v14 j14 p14 Tn r14 u14),t14⟩) (TV:PySem.W.codeIn K r14 "_law_lone" = true) (TX:PySem.W.keepIn K (.ref X2)=true)
  (TY:PySem.W.nsIn K mainGlobals "_law_machine" = some (some (.ref X3))) (T1:K.lookup X3=some ⟨o15,d15,.func (PySem.W.fnOf "_law_machine" "_law_machine" (kf aW) (ib aW) (cw aW) .none v15 j15 p15 e15 r15 u15),t15⟩) (T3:PySem.W.codeIn K r15 "_law_machine" = true) (T4:PySem.W.keepIn K (.ref X3)=true)
  (T5:PySem.W.nsIn K mainGlobals "_law_asked" = some (some (.ref X4))) (T6:K.lookup X4=some ⟨o16,d16,.func (PySem.W.fnOf "_law_asked" "_law_asked" (kf bJ) (ib bJ) (cw bJ) .none v16 j16 p16 e16 r16 u16),t16⟩) (c16:PySem.W.codeIn K r16 "_law_asked" = true) (T7:PySem.W.keepIn K (.ref X4)=true)
  (T8:PySem.W.nsIn K mainGlobals "_law_pair" = some (some (.ref X5))) (T9:K.lookup X5=some ⟨o17,d17,.func (PySem.W.fnOf "_law_pair" "_law_pair" (kf bV) (ib bV) (cw bV) .none v17 j17 p17 e17 r17 u17),t17⟩) (T_:PySem.W.codeIn K r17 "_law_pair" = true) (Ua:PySem.W.keepIn K (.ref X5)=true)
  (Ub:PySem.W.nsIn K mainGlobals "law" = some (some (.ref X6))) (Uc:K.lookup X6=some ⟨o18,d18,.func (PySem.W.fnOf "law" "law" (kf n_) (ib n_) (cw n_) .none v18 j18 p18 e18 X7 u18),t18⟩) (Ud:PySem.W.codeIn K X7 "law" = true) (Ue:PySem.W.keepIn K (.ref X6)=true)
  (Nv:PySem.W.nsIn K mainGlobals "ValueError" = some none)
  (Nw:PySem.W.nsIn K mainGlobals "bool" = some none)
  (Nx:PySem.W.nsIn K mainGlobals "enumerate" = some none)
  (sv:PySem.W.nsIn K mainGlobals "isinstance" = some none)
  (FD:PySem.W.nsIn K mainGlobals "len" = some none)
  (I0:PySem.W.nsIn K mainGlobals "list" = some none)
  (Ny:PySem.W.nsIn K mainGlobals "min" = some none)
  (zD:PySem.W.nsIn K mainGlobals "range" = some none)
  (Jn:PySem.W.nsIn K mainGlobals "set" = some none)
  (BG:PySem.W.nsIn K mainGlobals "sorted" = some none)
  {gm':Tok} (DI:PySem.W.nsIn K mainGlobals "HIDDEN" = some (some (.str "*" gm')))
  {DJ:Addr} (Ug:PySem.W.nsIn K mainGlobals "KinError" = some (some (.ref DJ)))
  {X8:Addr} (Uh:PySem.W.nsIn K mainGlobals "NoDeed" = some (some (.ref X8)))
  {X9:Addr} (Ui:PySem.W.nsIn K mainGlobals "NoFrame" = some (some (.ref X9)))
  {X_:Addr} (Uj:PySem.W.nsIn K mainGlobals "NoMachine" = some (some (.ref X_)))
  {Ya:Addr} (Uk:PySem.W.nsIn K mainGlobals "NoName" = some (some (.ref Ya)))
  {Yb:Addr} (Ul:PySem.W.nsIn K mainGlobals "NoRow" = some (some (.ref Yb)))
  {Yc:Addr} (Um:PySem.W.nsIn K mainGlobals "NoScroll" = some (some (.ref Yc)))
  {nr:Addr} (Uo:PySem.W.nsIn K mainGlobals "NoState" = some (some (.ref nr)))
  {Yd:Addr} (Uq:PySem.W.nsIn K mainGlobals "NoText" = some (some (.ref Yd)))
  {Ye:Addr} (Ur:PySem.W.nsIn K mainGlobals "TooBig" = some (some (.ref Ye)))
  (Us:PySem.W.excIn K DJ [.type "ValueError",.type "Exception",.type "BaseException",.type "object"] "ValueError.__new__" = true) (Ut:PySem.W.findIn K (.ref DJ) "__getattr__" = some none) (Uu:PySem.W.findIn K (.ref DJ) "__getattribute__" = some (some (.builtin "BaseException.__getattribute__"))) (Uv:PySem.W.findIn K (.ref DJ) "__class__" = some (some (.builtin "object.__class__"))) (Uw:PySem.W.mroIn K DJ (.type "object")=some true)
  (Ux:PySem.W.excIn K nr [.type "ValueError",.type "Exception",.type "BaseException",.type "object"] "ValueError.__new__" = true) (Uy:PySem.W.findIn K (.ref nr) "__getattr__" = some none) (Uz:PySem.W.findIn K (.ref nr) "__getattribute__" = some (some (.builtin "BaseException.__getattribute__"))) (UA:PySem.W.findIn K (.ref nr) "__class__" = some (some (.builtin "object.__class__"))) (UB:PySem.W.mroIn K nr (.type "object")=some true)
  (UC:PySem.W.mroIn K nr (.ref DJ)=some true)
  (UD:PySem.W.kitOne K (.ref nr) (.ref Yd)=some false)
  (UE:PySem.W.kitOne K (.ref nr) (.ref X8)=some false)
  (UG:PySem.W.kitOne K (.ref nr) (.ref Ye)=some false)
  (UH:PySem.W.kitOne K (.ref nr) (.ref X_)=some false)
  (UI:PySem.W.kitOne K (.ref nr) (.ref Ya)=some false)
  (UJ:PySem.W.kitOne K (.ref nr) (.ref Yc)=some false)
  (UK:PySem.W.kitOne K (.ref nr) (.ref X9)=some false)
  (UL:PySem.W.kitOne K (.ref nr) (.ref Yb)=some false)
  (UM:PySem.W.kitOne K (.ref nr) (.type "ValueError")=some true)
  (UN:PySem.W.kitOne K (.ref nr) (.ref nr)=some true)
  : ∃ fd:FuncData,(∀ (s:Shared) (v:Value),BindsTo s fd ⟨[v],[]⟩ [("_law_script",v)])/\∀ base:Heap,K.In base->base.Ns mainGlobals mg->g7 l.prog w K mg base kg 8 fa fd ["_law_script"] (au K IX):=by
 have e:=hfa.symm.trans (PySem.W.mg_of X G Ub)
 cases e
 have gn':=PySem.W.mg_of X G Ug
 have gp':=PySem.W.mg_of X G Uh
 have gq':=PySem.W.mg_of X G Ui
 have gr':=PySem.W.mg_of X G Uj
 have gs':=PySem.W.mg_of X G Uk
 have gt':=PySem.W.mg_of X G Ul
 have gu':=PySem.W.mg_of X G Um
 have UO:=PySem.W.mg_of X G Uo
 have gv':=PySem.W.mg_of X G Uq
 have gw':=PySem.W.mg_of X G Ur
 have gx':n4 K DJ:=⟨Us,Ut,Uu,Uv,Uw⟩
 have Yf:n4 K nr:=⟨Ux,Uy,Uz,UA,UB⟩
 have each:∀ {G:Str->Addr->Prop},G "NoState" nr->∀ n C,n∈rn->mg n=some (.ref C)->G n C:=by
  intro G gy' n C hn hm
  simp only[rn,df,zS,or_false] at hn
  rcases hn with rfl
  ·rw[UO] at hm;cases hm;exact gy'
 have T:Txt K mg:=⟨PySem.W.mg_none_of X G Nv,PySem.W.mg_none_of X G Nw,PySem.W.mg_none_of X G Nx,PySem.W.mg_none_of X G sv,PySem.W.mg_none_of X G FD,PySem.W.mg_none_of X G I0,PySem.W.mg_none_of X G Ny,PySem.W.mg_none_of X G zD,PySem.W.mg_none_of X G Jn,PySem.W.mg_none_of X G BG,⟨_,PySem.W.mg_of X G DI⟩,⟨_,UO,Yf⟩,⟨_,gn',gx',each ⟨Yf,UC⟩⟩,each ⟨_,gv',UD⟩,each ⟨_,gp',UE⟩,each ⟨_,gw',UG⟩,each ⟨_,gr',UH⟩,each ⟨_,gs',UI⟩,each ⟨_,gu',UJ⟩,each ⟨_,gq',UK⟩,each ⟨_,gt',UL⟩,each UM,each ⟨_,UO,UN⟩⟩
 have F0:=nL (st:=aF) l0 c0 k0
 have F1:=nL (st:=di) l1 c1 k1
 have F2:=nL (st:=bZ) l2 c2 k2
 have F3:=nL (st:=dF) l3 c3 k3
 have F4:=nL (st:=aH) l4 c4 k4
 have F5:=nL (st:=b7) l5 c5 k5
 have F6:=nL (st:=cC) l6 c6 k6
 have F7:=nL (st:=cR) l7 c7 k7
 have F8:=nL (st:=bc) l8 c8 k8
 have F9:=nL (st:=aN) l9 c9 k9
 have Yg:=nL (st:=fZ) l10 Ts Tt
 have Yh:=nL (st:=lB) Tw Tx Tz
 have Yi:=nL (st:=aX) TC TF TH
 have Yj:=nL (st:=bM) TK TL TN
 have Yk:=nL (st:=bU) TR TV TX
 have Yl:=nL (st:=aW) T1 T3 T4
 have Ym:=nL (st:=bJ) T6 c16 T7
 have Yn:=nL (st:=bV) T9 T_ Ua
 have F18:=nL (st:=n_) Uc Ud Ue
 refine⟨PySem.W.fnOf "law" "law" (kf n_) (ib n_) (cw n_) .none v18 j18 p18 e18 X7 u18,fun s v=>.of_eq rfl,fun base _ _=>?_⟩
 have C0:ti l.prog w K mg base rn 1 "check_state" ["m", "state"] aK:=g9.SQ F0 (PySem.W.mg_of X G a0) (lz F0 T ) fun _ _ _ _ _ _ us hl=>by obtain⟨_,_,rfl⟩:=NB hl;rfl
 have C1:fA l.prog w K mg base 1 "ways_of" ["m"] (au K cB):=F1.rp (PySem.W.mg_of X G a1) (ug F1 T ) fun _ _ _ _ _ _ us hl=>by obtain⟨_,rfl⟩:=JJ hl;rfl
 have C2:fA l.prog w K mg base 1 "exits_of" ["m"] (au K bh):=F2.rp (PySem.W.mg_of X G a2) (qW F2 T ) fun _ _ _ _ _ _ us hl=>by obtain⟨_,rfl⟩:=JJ hl;rfl
 have C3:fA l.prog w K mg base 1 "key_of" ["exits", "ranks", "state"] (au K dh):=F3.rp (PySem.W.mg_of X G a3) (xH F3 T ) fun _ _ _ _ _ _ us hl=>by obtain⟨_,_,_,rfl⟩:=NC hl;rfl
 have C8:fA l.prog w K mg base 1 "hidden_walks" ["ways", "state"] (au K aR):=F8.rp (PySem.W.mg_of X G a8) (jN F8 T ) fun _ _ _ _ _ _ us hl=>by obtain⟨_,_,rfl⟩:=NB hl;rfl
 have C9:fA l.prog w K mg base 1 "eased_steps" ["exits", "reaches", "state"] (au K a_):=F9.rp (PySem.W.mg_of X G a9) (lE F9 T ) fun _ _ _ _ _ _ us hl=>by obtain⟨_,_,_,rfl⟩:=NC hl;rfl
 have UQ:fA l.prog w K mg base 1 "_law_cell_at" ["_law_script", "_law_k"] (au K az):=Yi.rp (PySem.W.mg_of X G TB) (jD Yi T ) fun _ _ _ _ _ _ us hl=>by obtain⟨_,_,rfl⟩:=NB hl;rfl
 have C13:fA l.prog w K mg base 1 "_law_deeds" ["_law_cell"] (au K bz):=Yj.rp (PySem.W.mg_of X G TJ) (nP Yj T ) fun _ _ _ _ _ _ us hl=>by obtain⟨_,rfl⟩:=JJ hl;rfl
 have C4:fA l.prog w K mg base 2 "ranks_behind" ["exits", "ranks"] (au K aL):=F4.rp (PySem.W.mg_of X G a4) (jY F4 T C3) fun _ _ _ _ _ _ us hl=>by obtain⟨_,_,rfl⟩:=NB hl;rfl
 have Yo:fA l.prog w K mg base 2 "eased" ["m"] (au K cz):=Yg.rp (PySem.W.mg_of X G Tr) (yU Yg T C1 C2 C8 C9) fun _ _ _ _ _ _ us hl=>by obtain⟨_,rfl⟩:=JJ hl;rfl
 have C14:fA l.prog w K mg base 2 "_law_lone" ["_law_script", "_law_many"] (au K bL):=Yk.rp (PySem.W.mg_of X G TQ) (oO Yk T UQ) fun _ _ _ _ _ _ us hl=>by obtain⟨_,_,rfl⟩:=NB hl;rfl
 have C15:fA l.prog w K mg base 2 "_law_machine" ["_law_script", "_law_many", "_law_deeds_here", "_law_lone_here"] (au K aP):=Yl.rp (PySem.W.mg_of X G TY) (jU Yl T UQ) fun _ _ _ _ _ _ us hl=>by obtain⟨_,_,_,_,rfl⟩:=XW hl;rfl
 have C5:fA l.prog w K mg base 3 "rounds_of" ["m"] (au K bK):=F5.rp (PySem.W.mg_of X G a5) (pL F5 T C2 C4) fun _ _ _ _ _ _ us hl=>by obtain⟨_,rfl⟩:=JJ hl;rfl
 have C6:fA l.prog w K mg base 4 "kinds_of" ["m"] (au K bH):=F6.rp (PySem.W.mg_of X G a6) (rA F6 T C5) fun _ _ _ _ _ _ us hl=>by obtain⟨_,rfl⟩:=JJ hl;rfl
 have C7:ti l.prog w K mg base rn 5 "alike" ["m", "p", "q"] b8:=g9.SQ F7 (PySem.W.mg_of X G a7) (zz F7 T C0 C6) fun _ _ _ _ _ _ us hl=>by obtain⟨_,_,_,rfl⟩:=NC hl;rfl
 have UR:ti l.prog w K mg base rn 6 "kin" ["m", "p", "q"] cL:=g9.SQ Yh (PySem.W.mg_of X G Tv) (Gn Yh T C7 Yo) fun _ _ _ _ _ _ us hl=>by obtain⟨_,_,_,rfl⟩:=NC hl;rfl
 have C16:fA l.prog w K mg base 7 "_law_asked" ["_law_m", "_law_p", "_law_q"] (au K aV):=Ym.rp (PySem.W.mg_of X G T5) (mY Ym T UR) fun _ _ _ _ _ _ us hl=>by obtain⟨_,_,_,rfl⟩:=NC hl;rfl
 have C17:fA l.prog w K mg base 7 "_law_pair" ["_law_m", "_law_loose", "_law_p", "_law_q"] (au K bw):=Yn.rp (PySem.W.mg_of X G T8) (oH Yn T UR C7) fun _ _ _ _ _ _ us hl=>by obtain⟨_,_,_,_,rfl⟩:=XW hl;rfl
 exact fW' F18 T UQ C14 C15 Yo C13 C17 UR C16
theorem walk{l:PySem.W.OpenLaw}{q:Program}{loose:List Str}{XP:(Str->Option Value)->Heap->Prop}{YP:World->Heap->Prop}{d:DefRec}{K:Params->PySem.W.Frag}(hn:l.most=some 63)(L8:d.params.defaults=[])
  (hY:∀ (w:World) (h:Heap),YP w h->(K w.params).In h)
  (F:∀ (w:World) (mg:Str->Option Value) (fa:Addr) (h:Heap),(K w.params).In h->h.Ns mainGlobals mg->mg d.name=some (.ref fa) ->
   ∃ fd:FuncData,(∀ (s:Shared) (u:Value),BindsTo s fd ⟨[u],[]⟩ [("_law_script",u)])/\∀ base:Heap,(K w.params).In base->base.Ns mainGlobals mg->g7 l.prog w (K w.params) mg base kg 8 fa fd ["_law_script"] (au (K w.params) IX)) :
  PySem.W.WalkO q loose XP YP l.row.toRowW d [] (fun f vs=>PySem.call f vs) :=
 L2.bA' (n:=63) (k:=8) (x := "_law_script") (CX:=fun _=>kg) (sp:=fun w=>au (K w.params) IX) hn (by decide) L8 ⟨rfl,by decide,by decide⟩ hY F (fun w H a ns hl hO hS=>yE hl hS) fun _ _ _ _ _ z=>z
end L2.Q.Td
open PySem PySem.W PyProof.Rows
namespace PySem.W.Fast
def tw16414619945993178675:=0
def tw631646353537210887:=0
def tw10291108324671668856:=0
def tw3880612437705051885:=0
def tw7136753357383994914:=0
def tw5347638998607463903:=0
def tw12613776111034574738:=0
def tw14888288681608439647:=0
def tw11079827432697762772:=0
def tw4567013749554230365:=0
def tw4468810085737715006:=0
def tw17131105264055429585:=0
def tw4590751361397560360:=0
def tw9541820751507087755:=0
def tw13311071525367233611:=0
def tw7170515841911214113:=0
def tw835112494674426482:=0
def tw15125174060200919088:=0
def tw14795643404332607459:=0
def tw14034666401941358450:=0
def tw7205905757160887011:=0
def tw4390560630086402423:=0
def tw9260545766148249391:=0
def tw8843577373140360781:=0
def tw4952854412095270726:=0
def tw2916340654534540153:=0
def tw6063505456838114448:=0
def tw17533964124940916849:=0
def tw14746370274424623858:=0
def tw1110869464592591192:=0
def tw5901700428647753932:=0
def tw10641954705212814013:=0
def tw8251870456135472529:=0
def tw6739951462876976752:=0
def tw13768327021546618662:=0
def tw10406005524878911093:=0
def tw11044541428921643668:=0
def tw13174701091222826197:=0
def tw6229170005638493138:=0
def tw9325747456512298010:=0
end PySem.W.Fast
set_option maxRecDepth 100000 in
set_option maxHeartbeats 0 in
theorem PySem.Challenge.cw_kinlook_k51_kin_and_alike_holds : PySem.Challenge.rw_kinlook_k51_kin_and_alike.Holds := by
 w_on;o_law;k_head;(case hw=>w_witness2)
 k_fill
 refine L2.Q.Td.walk (l:=PySem.Challenge.rw_kinlook_k51_kin_and_alike) rfl rfl (fun w h Y=>PySem.W.kIn_of Y) ?F
 case F =>
  intro w mg fa h KX G L9
  refine' L2.Q.Td.all_mk KX G L9 ?a0 ?l0 ?c0 ?k0 ?a1 ?l1 ?c1 ?k1 ?a2 ?l2 ?c2 ?k2 ?a3 ?l3 ?c3 ?k3 ?a4 ?l4 ?c4 ?k4 ?a5 ?l5 ?c5 ?k5 ?a6 ?l6 ?c6 ?k6 ?a7 ?l7 ?c7 ?k7 ?a8 ?l8 ?c8 ?k8 ?a9 ?l9 ?c9 ?k9 ?Tr ?l10 ?Ts ?Tt ?Tv ?Tw ?Tx ?Tz ?TB ?TC ?TF ?TH ?TJ ?TK ?TL ?TN ?TQ ?TR ?TV ?TX ?TY ?T1 ?T3 ?T4 ?T5 ?T6 ?c16 ?T7 ?T8 ?T9 ?T_ ?Ua ?Ub ?Uc ?Ud ?Ue ?Nv ?Nw ?Nx ?sv ?FD ?I0 ?Ny ?zD ?Jn ?BG ?DI ?Ug ?Uh ?Ui ?Uj ?Uk ?Ul ?Um ?Uo ?Uq ?Ur ?Us ?Ut ?Uu ?Uv ?Uw ?Ux ?Uy ?Uz ?UA ?UB ?UC ?UD ?UE ?UG ?UH ?UI ?UJ ?UK ?UL ?UM ?UN
  (case a0=>k_is)
  (case l0=>k_is)
  (case c0=>k_is)
  (case k0=>k_is)
  (case a1=>k_is)
  (case l1=>k_is)
  (case c1=>k_is)
  (case k1=>k_is)
  (case a2=>k_is)
  (case l2=>k_is)
  (case c2=>k_is)
  (case k2=>k_is)
  (case a3=>k_is)
  (case l3=>k_is)
  (case c3=>k_is)
  (case k3=>k_is)
  (case a4=>k_is)
  (case l4=>k_is)
  (case c4=>k_is)
  (case k4=>k_is)
  (case a5=>k_is)
  (case l5=>k_is)
  (case c5=>k_is)
  (case k5=>k_is)
  (case a6=>k_is)
  (case l6=>k_is)
  (case c6=>k_is)
  (case k6=>k_is)
  (case a7=>k_is)
  (case l7=>k_is)
  (case c7=>k_is)
  (case k7=>k_is)
  (case a8=>k_is)
  (case l8=>k_is)
  (case c8=>k_is)
  (case k8=>k_is)
  (case a9=>k_is)
  (case l9=>k_is)
  (case c9=>k_is)
  (case k9=>k_is)
  (case Tr=>k_is)
  (case l10=>k_is)
  (case Ts=>k_is)
  (case Tt=>k_is)
  (case Tv=>k_is)
  (case Tw=>k_is)
  (case Tx=>k_is)
  (case Tz=>k_is)
  (case TB=>k_is)
  (case TC=>k_is)
  (case TF=>k_is)
  (case TH=>k_is)
  (case TJ=>k_is)
  (case TK=>k_is)
  (case TL=>k_is)
  (case TN=>k_is)
  (case TQ=>k_is)
  (case TR=>k_is)
  (case TV=>k_is)
  (case TX=>k_is)
  (case TY=>k_is)
  (case T1=>k_is)
  (case T3=>k_is)
  (case T4=>k_is)
  (case T5=>k_is)
  (case T6=>k_is)
  (case c16=>k_is)
  (case T7=>k_is)
  (case T8=>k_is)
  (case T9=>k_is)
  (case T_=>k_is)
  (case Ua=>k_is)
  (case Ub=>k_is)
  (case Uc=>k_is)
  (case Ud=>k_is)
  (case Ue=>k_is)
  (case Nv=>k_is)
  (case Nw=>k_is)
  (case Nx=>k_is)
  (case sv=>k_is)
  (case FD=>k_is)
  (case I0=>k_is)
  (case Ny=>k_is)
  (case zD=>k_is)
  (case Jn=>k_is)
  (case BG=>k_is)
  (case DI=>k_is)
  (case Ug=>k_is)
  (case Uh=>k_is)
  (case Ui=>k_is)
  (case Uj=>k_is)
  (case Uk=>k_is)
  (case Ul=>k_is)
  (case Um=>k_is)
  (case Uo=>k_is)
  (case Uq=>k_is)
  (case Ur=>k_is)
  (case Us=>k_exc)
  (case Ut=>k_is)
  (case Uu=>k_is)
  (case Uv=>k_is)
  (case Uw=>k_is)
  (case Ux=>k_exc)
  (case Uy=>k_is)
  (case Uz=>k_is)
  (case UA=>k_is)
  (case UB=>k_is)
  (case UC=>k_is)
  (case UD=>kit_is)
  (case UE=>kit_is)
  (case UG=>kit_is)
  (case UH=>kit_is)
  (case UI=>kit_is)
  (case UJ=>kit_is)
  (case UK=>kit_is)
  (case UL=>kit_is)
  (case UM=>kit_is)
  (case UN=>kit_is)
