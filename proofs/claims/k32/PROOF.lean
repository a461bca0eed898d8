import PyProof.Rows.All
import Wide.All
import OpenK.AllK
import Wide.FinOn
import Lean
import PyProof.EqAt
import PyProof.EqKinds
import PyProof.TupleCall
import PyProof.CompUse
import PyProof.NeData
import PyProof.WalksEnum
import PyProof.EnumMake
import PyProof.ZipIter
import PyProof.Rows.EnumRows
import PyProof.Rows.FactsT2
import KE.KDictList
import PyProof.Rows.SortRuns
import PyProof.Rows.SortWalk
import KE.KSortTup
import PyProof.Rows.SortStr
import PyProof.ListRange
import PyProof.StrOps2
import PyProof.StrBlock2
import PyProof.AutoIntG3
import PyProof.ListMulRight
import PyProof.Rows.ListMulArg
import PyProof.Rows.CallKwBuiltin
import PyProof.Rows.StrMul
import KE.KMinBuiltin
import PyProof.TupleKey
import PyProof.SetKind
import PyProof.Rows.SetFrom
import PyProof.DictWalks
import KE.KRevIter
import PyProof.NsDelKeeps
import PyProof.AutoSeq1
import PyProof.P3Eq
import PyProof.MeetsSeq3
import PyProof.FactsAll.list_2
import PyProof.FactsAll.tuple_2
import PyProof.Rows.RowHeap
import PyProof.FactsAll.list_3
import PySem.Challenge.RW_kinlook_k32_alike_two
open PySem renaming wpAny_bind->ah,wpAny_pure->aE,wpAny_mono->oy
open List renaming mem_cons_of_mem->b9,mem_cons_self->cc,mem_append_right->fe,length_map->dc,mem_cons->cK,getElem?_eq_some_iff->hX,mem_append->dP,mem_map->dr,mem_append_left->i5,getElem?_eq_getElem->kN,map_cons->fm,size_toArray->i9,nodup_append->ja,mem_of_getElem?->kP,sublist_append_right->pT,getElem?_map->nL,nodup_cons->lS,drop_eq_getElem_cons->vE,getElem?_eq_none->sL,length_take->nS,mem_singleton->pV,getElem?_append_right->xC,pairwise_iff_getElem->xD,pairwise_map->qa,append_nil->nV,length_cons->qc,nodup_nil->oz,length_append->tS,map_map->mM,mem_range->rh,filterMap_cons->xE,replicate_succ->xI,append_assoc->vF,getElem?_append_left->Dx,zip_cons_cons->zv,flatten_cons->zC,not_mem_nil->zD,getElem?_set_ne->DB,ext_getElem?->BG,nil_append->zI,getD_eq_getElem?_getD->IG,length_drop->BH,sublist_append_left->IH,append_eq_nil_iff->II,getElem_mem->DC,nodup_iff_pairwise_ne->Mp,mem_iff_getElem?->IJ,find?_cons->DE,map_append->DF,take_add_one->E8,pairwise_append->IL,nil_sublist->E9,length_eq_zero_iff->Mq,getElem?_set_self->Mr,all_cons->DH,any_cons->DI,take_of_length_le->Ms,take_append_drop->Mt,mem_of_mem_take->Mu,all_eq_true->IQ,extract_eq_drop_take->Oz,mem_filter->IU,getElem?_replicate->OB,drop_of_length_le->OD,length_replicate->OG,perm_append_comm->OJ,map_fst_zip->Mv,countP_cons->Mw,cons_ne_nil->Mx,any_eq_true->My,mem_of_mem_drop->OL,length_zip->Mz,length_set->MA,map_congr_left->OO,mem_filterMap->OQ,filterMap_map->OS,contains_cons->OU,length_range->OV,getElem?_set->OW,lookup_cons->OX,drop_length->OY,take_length->OZ
open PySem.Heap renaming get?_push_of_some->eS,lt_size->dn,get?_push_size->i6,get?_update_other->IX,get?_update_self->IY,get?_push_ne->Fc,size_update->Fh
open Nat renaming le_refl->bX,ne_of_lt->eP,zero_le->dQ,lt_of_lt_of_le->kA,le_trans->hG,le_of_lt->kc,lt_succ_of_lt->sM,lt_irrefl->rj,zero_add->rp,not_lt_zero->xS,pow_succ->x6,le_of_not_lt->IZ,lt_succ_of_le->Fm,add_sub_of_le->I0,mul_assoc->Fn,one_pos->DJ,add_zero->Fs,lt_or_ge->Fu,lt_of_succ_lt->O0,le_of_lt_succ->MB,sub_lt->DL,le_add_right->O1,ne_of_gt->Jn,le_of_eq->JA,mod_lt->FC,lt_trans->O3,add_comm->MD,min_self->MF,mul_comm->MG,succ_pos->MJ
open Bool renaming false_ne_true->gI,false_eq_true->gL,and_eq_true->kQ,eq_iff_iff->BI,not_eq_true'->O4,not_true->MK,and_true->ML
open Array renaming getElem?_toList->kR,toList_push->mP,getElem?_eq_getElem->x8,getD_eq_getD_getElem?->BM,getElem?_eq_none->BO,length_toList->zS,getElem?_eq_some_iff->FD,size_extract->DM,eq_empty_of_size_eq_zero->MN,append_assoc->JJ,getElem?_extract->MP,toArray_toList->MQ,perm_iff_toList_perm->O5,toList_inj->MR,toList_extract->O6,append_empty->O7
open Int renaming le_trans->tT,toNat_of_nonneg->DS,le_refl->ua,le_of_lt->z5,toNat_natCast->FE,emod_nonneg->MS,emod_lt_of_pos->O8
local macro_rules | `(command| def $i:declId $s:optDeclSig $v:declVal)=>`(command| noncomputable def $i:declId $s:optDeclSig $v:declVal)
local macro_rules | `(command| abbrev $i:declId $s:optDeclSig $v:declVal)=>`(command| noncomputable abbrev $i:declId $s:optDeclSig $v:declVal)
set_option compiler.extract_closed false
local macro_rules | `(tactic| walk_at "l") => `(tactic| first | lia | omega)
local macro_rules | `(tactic| walk_at "s1") => `(tactic| solve_by_elim (maxDepth := 4) [Nat.lt_of_lt_of_le, Nat.lt_of_le_of_lt, Nat.le_trans, Nat.lt_trans, Nat.le_of_lt, Nat.le_of_not_lt])
local macro_rules | `(tactic| walk_at "s2") => `(tactic| solve_by_elim (maxDepth := 5) [Nat.lt_of_lt_of_le, Nat.lt_of_le_of_lt, Nat.le_trans, Nat.le_of_lt, Nat.le_of_not_lt, Nat.lt_of_not_le, Nat.lt_of_succ_lt, Nat.le_of_succ_le])
local macro_rules | `(tactic| walk_at "s3") => `(tactic| solve_by_elim (maxDepth := 5) [Int.lt_of_lt_of_le, Int.lt_of_le_of_lt, Int.le_trans, Int.le_of_lt, Int.not_lt.mp, Int.not_le.mp])
local macro_rules | `(tactic| walk_at "s4") => `(tactic| solve_by_elim (maxDepth := 5) [Nat.le_trans, Nat.lt_of_lt_of_le, Nat.le_of_lt, Nat.le_add_right, Nat.le_add_left, Nat.add_le_add_left, Nat.add_lt_add_left, Nat.succ_le_succ, Nat.sub_le])
theorem L2.gi{α β:Type _}{A B C:α->β->Prop}{G:Prop}(x:∃ a b,A a b/\B a b/\C a b)(k:∀ a b,A a b->B a b->C a b->G):G :=
 let ⟨a,b,p,q,r⟩:=x
 k a b p q r
set_option Elab.async false
set_option linter.all false
set_option maxRecDepth 100000
namespace L2
open PySem PySem.Spec PyProof.Rows
abbrev Key:=Sum Int Str
def FG:Key->Value->Bool
 |.inl k,v=>Value.isInt k v
 |.inr x,v=>Value.isStrOf x v
def WQ(w:World):Key->Int
 |.inl k=>hashInt k
 |.inr x=>hashStr w x
theorem ya:∀ {k:Key} {v:Value},FG k v=true->(∃ i t,k=Sum.inl i/\v=Value.int i t)\/(∃ x t,k=Sum.inr x/\v=Value.str x t)
 |.inl i,v,h=>by
  obtain⟨t,e⟩:=Value.isInt_shape (k:=i) (v:=v) h
  exact .inl ⟨i,t,rfl,e⟩
 |.inr x,v,h=>by
  obtain⟨t,e⟩:=Value.isStrOf_shape (x:=x) (v:=v) h
  exact .inr ⟨x,t,rfl,e⟩
theorem WR(i:Int)(t:Tok):FG (.inl i) (.int i t)=true:=by simp[FG,Value.isInt]
theorem WU(x:Str)(t:Tok):FG (.inr x) (.str x t)=true:=by simp[FG,Value.isStrOf]
theorem S4(a b:Int):decide ((Sum.inl a:Key)=Sum.inl b)=(a == b):=by
 by_cases e:a=b
 ·subst e;simp
 ·have h:¬ (Sum.inl a:Key)=Sum.inl b:=fun q=>e (Sum.inl.inj q)
  rw[decide_eq_false h]
  exact(beq_eq_false_iff_ne.mpr e).symm
theorem S5(a b:Str):decide ((Sum.inr a:Key)=Sum.inr b)=decide (a=b):=by
 by_cases e:a=b
 ·subst e;simp
 ·have h:¬ (Sum.inr a:Key)=Sum.inr b:=fun q=>e (Sum.inr.inj q)
  rw[decide_eq_false h,decide_eq_false e]
theorem WV(a:Int)(b:Str):decide ((Sum.inl a:Key)=Sum.inr b)=false:=decide_eq_false (fun q=>nomatch q)
theorem WW(a:Str)(b:Int):decide ((Sum.inr a:Key)=Sum.inl b)=false:=decide_eq_false (fun q=>nomatch q)
def lT(prog:Program)(w:World):PySem.KeyKind prog w Key where
 is:=FG
 hash:=WQ w
 inj:=fun v a b ha hb=>by
  rcases ya ha with⟨i,t,rfl,rfl⟩|⟨x,t,rfl,rfl⟩
  ·rcases ya hb with⟨j,u,rfl,e⟩|⟨y,u,rfl,e⟩
   ·injection e with e1 _;rw[e1]
   ·exact nomatch e
  ·rcases ya hb with⟨j,u,rfl,e⟩|⟨y,u,rfl,e⟩
   ·exact nomatch e
   ·injection e with e1 _;rw[e1]
 byValue:=fun k v h=>by
  rcases ya h with⟨i,t,rfl,rfl⟩|⟨x,t,rfl,rfl⟩<;>rfl
 pyHash:=fun hv h=>by
  rcases ya hv with⟨i,t,rfl,rfl⟩|⟨x,t,rfl,rfl⟩
  ·exact wpAny_pyHash_int h
  ·exact wpAny_pyHash_str h
 eqBool:=fun hu hv h=>by
  rcases ya hu with⟨i,t,rfl,rfl⟩|⟨x,t,rfl,rfl⟩
  ·rcases ya hv with⟨j,u,rfl,rfl⟩|⟨y,u,rfl,rfl⟩
   ·rw[S4] at h;exact wpAny_eqBool_int h
   ·rw[WV] at h;exact SeqAt.EqAt.int_str i t y u _ _ _ _ h
  ·rcases ya hv with⟨j,u,rfl,rfl⟩|⟨y,u,rfl,rfl⟩
   ·rw[WW] at h;exact SeqAt.EqAt.str_int x t j u _ _ _ _ h
   ·rw[S5] at h;exact wpAny_eqBool_str h
 «strs» := fun k x t v h=>by
  rcases ya h with⟨i,u,rfl,e⟩|⟨y,u,rfl,e⟩
  ·exact nomatch e
  ·injection e with e1 _
   subst e1
   cases v<;>rfl
theorem WX(prog:Program)(w:World)(i:Int)(t:Tok):(lT prog w).is (.inl i) (.int i t)=true:=WR i t
theorem WY(prog:Program)(w:World)(x:Str)(t:Tok):(lT prog w).is (.inr x) (.str x t)=true:=WU x t
inductive V where
 |non|bl (b:Bool)|int (i:Int)|str (x:Str)|sN (b:Array UInt8)|An (b:UInt64)|ref (a:Addr)|ty (n:String)
 deriving DecidableEq
def RelV:V->Value->Prop
 |.non,u=>u=Value.none
 |.bl b,u=>u=Value.bool b
 |.int i,u=>∃ t,u=Value.int i t
 |.str x,u=>∃ t,u=Value.str x t
 |.sN b,u=>∃ t,u=Value.bytes b t
 |.An b,u=>∃ t,u=Value.float b t
 |.ref a,u=>u=Value.ref a
 |.ty n,u=>u=Value.type n
abbrev Vals:List V->List Value->Prop:=Paired RelV
theorem Vals.length(r:Vals xs us):xs.length=us.length:=Paired.length r
theorem Vals.get:∀ {xs:List V} {us:List Value} {i:Nat} {x:V},Vals xs us->xs[i]? = some x->∃ u,us[i]? = some u/\RelV x u
 |_,_,_,_,.nil,e=>by simp at e
 |_,_,0,_,.cons r _,e=>by simp at e;subst e;exact⟨_,rfl,r⟩
 |_,_,i+1,x,.cons _ t,e=>by
  obtain⟨u,h1,h2⟩:=Vals.get (i:=i) (x:=x) t (by simpa using e)
  exact⟨u,by simpa using h1,h2⟩
theorem Vals.append:∀ {xs ys:List V} {us ws:List Value},Vals xs us->Vals ys ws->Vals (xs++ys) (us++ws)
 |_,_,_,_,.nil,s=>s
 |_,_,_,_,.cons r t,s=>.cons r (Vals.append t s)
theorem Vals.take:∀ {xs:List V} {us:List Value} (n:Nat),Vals xs us->Vals (xs.take n) (us.take n)
 |_,_,0,_=>.nil
 |_,_,_+1,.nil=>.nil
 |_,_,n+1,.cons r t=>.cons r (Vals.take n t)
theorem Vals.drop:∀ {xs:List V} {us:List Value} (n:Nat),Vals xs us->Vals (xs.drop n) (us.drop n)
 |_,_,0,r=>r
 |_,_,_+1,.nil=>.nil
 |_,_,n+1,.cons _ t=>Vals.drop n t
def vS:Option V->Option Value->Prop
 |some v,some u=>RelV v u
 |none,none=>True
 |_,_=>False
def KV{κ:Type}:List (κ × V)->List (κ × Value)->Prop:=Paired fun(p:κ × V) (q:κ × Value)=>p.1=q.1/\RelV p.2 q.2
def kV:Key->V
 |.inl i=>.int i
 |.inr x=>.str x
inductive HO where
 /-- a list -/
 |lst (xs:List V)
 /-- a tuple (never changes) -/
 |tup (xs:List V)
 /-- a dict whose keys are ints and texts;one whose keys are tuples of ints and texts (the empty one is both) -/
 |dK (kvs:List (Key × V))|dT (kvs:List (List Key × V))
 /-- a set of ints: its members,its size -/
 |set (S:Int->Bool) (n:Nat)
 /-- an instance of the class at C,its dict at dx,its attributes -/
 |ins (C dx:Addr) (fs:List (Str × V))
 /-- the dict of the instance at x -/
 |own (x:Addr)
 /-- the dict of an exception -/
 |xd (fs:List (Str × V))
 /-- a bound method,f of x -/
 |met (f x:Addr)
 /-- a range object lo,lo+1,.. below hi -/
 |MT (lo hi:Int)
 /-- a thing that is known to the object (the script;a dict while a loop walks it): read,never written while it is so -/
 |kS (o:Obj) (u:HO)
 /-- a code object's table -/
 |BQ (ps:Array Value)
 /-- any other thing,by what is true of its one object (a def of ez' own: eA' a S n:=HO.ext fun h=>..) -/
 |ext (φ:Heap->Prop)
abbrev Hp:=Addr->Option HO
def upd(H:Hp)(a:Addr)(o:HO):Hp:=fun b=>if b=a then some o else H b
theorem jS:upd H a o a=some o:=by unfold upd;rw[if_pos rfl]
theorem fw(h:b≠a):upd H a o b=H b:=by unfold upd;rw[if_neg h]
theorem WZ{H:Hp}{a b:Addr}{o u:HO}(h:H a=some o)(h':H b=some u)(d:o≠u):a≠b:=by
 intro e;subst e;rw[h] at h';exact d (Option.some.inj h')
theorem FH{H:Hp}{a b:Addr}{o:HO}(h:H a=some o)(h':H b=none):a≠b:=by
 intro e;subst e;rw[h] at h';cases h'
section
variable (P:Program)(w:World)
def eR(H:Hp)(h:Heap)(a:Addr):HO->Prop
 |.lst xs=>xs.length<=sizeLine/\∃ (its:List Value) (n:Nat),Vals xs its/\h.get? a=some { cls:=.type "list",data:=.seq its.toArray n }
 |.tup xs=>xs.length<=sizeLine/\∃ its:List Value,Vals xs its/\IsTup h a its.toArray
 |.dK kvs=>kvs.length<=sizeLine/\(a == sysModules)=false/\∃ vs,KV kvs vs/\h.DictOf (lT P w) a vs
 |.dT kvs=>kvs.length<=sizeLine/\(a == sysModules)=false/\∃ xs:List (List Key × Addr × Value),
   Paired (fun(p:List Key × V) (q:List Key × Addr × Value)=>p.1=q.1/\H q.2.1=some (.tup (p.1.map kV))/\RelV p.2 q.2.2) kvs xs /\
   ∃ o es ep,h.get? a=some o/\o.ExactDict/\o.data=.dict es ep/\es.toList=xs.map (entryOfKey (tupleKind (lT P w)))/\(xs.map (·.1)).Nodup
 |.set S n=>h.SetOf (intKind P w) a S n
 |.ins C dx fs=>H dx=some (.own a)/\fs.length<=1000/\dx≠a/\h.get? a=some (PySem.W.instObj C dx) /\
   ∃ mA,h.Ns1 dx mA/\(∀ f,vS (fs.lookup f) (mA f))/\PySem.Within mA (fs.map (·.1))
 |.own _=>∃ o,h.get? a=some o
 |.xd fs=>∃ mA,h.Ns1 a mA/\∀ f,vS (fs.lookup f) (mA f)
 |.MT lo hi=>∃ t u v,h.get? a=some { cls:=.type "range",data:=.fields #[.int lo t,.int hi u,.int 1 v] }
 |.kS o u=>h.get? a=some o/\eR H h a u
 |.BQ ps=>h.get? a=some { cls:=.none,data:=.fields ps }
 |.met f x=>h.get? a=some (PySem.W.methodObj (.ref f) (.ref x))
 |.ext φ=>φ h/\(∃ o,h.get? a=some o)/\∀ h1 h2:Heap,φ h1->(∀ o,h1.get? a=some o->h2.get? a=some o)->φ h2
def fo(H:Hp)(h:Heap):Prop:=∀ a o,H a=some o->eR P w H h a o
end
section
variable {P:Program}{w:World}{H H':Hp}{h h':Heap}{a:Addr}{o:HO}
theorem eR.lt(x:eR P w H h a o):a<h.objs.size:=by
 cases o with
 |lst xs=>obtain⟨_,_,_,_,e⟩:=x;exact dn e
 |tup xs=>obtain⟨_,_,_,p⟩:=x;exact p.lt
 |dK kvs=>obtain⟨_,_,_,_,o,_,_,e,_⟩:=x;exact dn e
 |dT kvs=>obtain⟨_,_,_,_,o,_,_,e,_⟩:=x;exact dn e
 |set S n=>obtain⟨o,_,_,_,e,_⟩:=x;exact dn e
 |ins C dx fs=>obtain⟨_,_,_,e,_⟩:=x;exact dn e
 |own y=>obtain⟨_,e⟩:=x;exact dn e
 |xd fs=>obtain⟨_,⟨_,_,_,e,_⟩,_⟩:=x;exact dn e
 |MT lo hi=>obtain⟨_,_,_,e⟩:=x;exact dn e
 |kS ob u=>obtain⟨e,_⟩:=x;exact dn e
 |BQ ps=>exact dn (show h.get? a=some _ from x)
 |met f y=>exact dn (show h.get? a=some _ from x)
 |ext φ=>obtain⟨_,⟨_,e⟩,_⟩:=x;exact dn e
theorem Paired.O9{α β:Type}{F G:α->β->Prop}:∀ {S6:List α} {S7:List β},Paired F S6 S7->(∀ a b,F a b->G a b)->Paired G S6 S7
 |_,_,.nil,_=>.nil
 |_,_,.cons r t,f=>.cons (f _ _ r) (Paired.O9 t f)
theorem eR.eJ(x:eR P w H h a o)(k:∀ b u,(b=a\/H b=some (.own a))->h.get? b=some u->h'.get? b=some u)
  (ho:∀ b,H b=some (.own a)->H' b=some (.own a)) (ht:∀ b xs,H b=some (.tup xs)->H' b=some (.tup xs)):eR P w H' h' a o:=by
 induction o with
 |lst xs=>obtain⟨z,its,n,r,e⟩:=x;exact⟨z,its,n,r,k _ _ (.inl rfl) e⟩
 |tup xs=>obtain⟨z,its,r,ob,e,c⟩:=x;exact⟨z,its,r,ob,k _ _ (.inl rfl) e,c⟩
 |dK kvs=>obtain⟨z,y,vs,r,ob,es,ep,e,c⟩:=x;exact⟨z,y,vs,r,ob,es,ep,k _ _ (.inl rfl) e,c⟩
 |dT kvs =>
  obtain⟨z,y,xs,r,ob,es,ep,e,c⟩:=x
  exact⟨z,y,xs,Paired.O9 r fun p q z=>⟨z.1,ht _ _ z.2.1,z.2.2⟩,ob,es,ep,k _ _ (.inl rfl) e,c⟩
 |set S n=>obtain⟨ob,es,ep,t,e,c⟩:=x;exact⟨ob,es,ep,t,k _ _ (.inl rfl) e,c⟩
 |ins C dx fs =>
  obtain⟨d,z,ne,e,mA,⟨od,es,ep,e2,c⟩,r⟩:=x
  exact⟨ho _ d,z,ne,k _ _ (.inl rfl) e,mA,⟨od,es,ep,k _ _ (.inr d) e2,c⟩,r⟩
 |own y=>obtain⟨ob,e⟩:=x;exact⟨ob,k _ _ (.inl rfl) e⟩
 |xd fs=>obtain⟨mA,⟨od,es,ep,e,c⟩,r⟩:=x;exact⟨mA,⟨od,es,ep,k _ _ (.inl rfl) e,c⟩,r⟩
 |MT lo hi=>obtain⟨t,u,v,e⟩:=x;exact⟨t,u,v,k _ _ (.inl rfl) e⟩
 |kS ob u ih=>obtain⟨e,q⟩:=x;exact⟨k _ _ (.inl rfl) e,ih q⟩
 |BQ ps =>
  have e:h.get? a=some { cls:=.none,data:=.fields ps }:=x
  show h'.get? a=some { cls:=.none,data:=.fields ps }
  exact k a _ (.inl rfl) e
 |met f y =>
  have e:h.get? a=some (PySem.W.methodObj (.ref f) (.ref y)):=x
  show h'.get? a=some (PySem.W.methodObj (.ref f) (.ref y))
  exact k a _ (.inl rfl) e
 |ext φ=>obtain⟨p,⟨o,e⟩,st⟩:=x;exact⟨st _ _ p fun o q=>k _ _ (.inl rfl) q,⟨o,k _ _ (.inl rfl) e⟩,st⟩
theorem fo.lt(x:fo P w H h)(e:H a=some o):a<h.objs.size:=(x a o e).lt
theorem fo.fresh(x:fo P w H h)(e:h.objs.size<=a):H a=none:=by
 cases q:H a with
 |none=>rfl
 |some u=>exact absurd (kA (x.lt q) e) (rj _)
theorem fo.kept(x:fo P w H h)(k:∀ b u,h.get? b=some u->h'.get? b=some u):fo P w H h':=fun a o e =>
 (x a o e).eJ (fun b u _ q=>k b u q) (fun _ q=>q) fun _ _ q=>q
theorem fo.laid(x:fo P w H h)(k:∀ b u,h.get? b=some u->h'.get? b=some u)(hp:h.objs.size<=a)(new:eR P w (upd H a o) h' a o):fo P w (upd H a o) h':=fun b u e=>by
 have hn:=x.fresh hp
 by_cases hb:b=a
 ·subst hb;rw[jS] at e;cases e;exact new
 ·rw[fw hb] at e
  exact(x b u e).eJ (fun c v _ q=>k c v q) (fun c q=>by rw[fw (FH q hn)];exact q) fun c xs q=>by rw[fw (FH q hn)];exact q
end
def Rd(H:Hp)(a:Addr)(u:HO):Prop:=H a=some u\/∃ o,H a=some (.kS o u)
theorem Rd.ok{P:Program}(r:Rd H a u)(x:fo P w H h):eR P w H h a u:=by
 rcases r with r|⟨o,r⟩
 ·exact x a u r
 ·obtain⟨_,q⟩:=x a _ r
  exact q
def JY:Option HO->Prop
 |some (.lst _)=>True
 |some (.dK _)=>True
 |some (.dT _)=>True
 |some (.set _ _)=>True
 |some (.ins _ _ _)=>True
 |some (.ext _)=>True
 |_=>False
section
variable {P:Program}{w:World}{H:Hp}{h h':Heap}{x e:Addr}{o':HO}
theorem fo.write(ok:fo P w H h)(mu:JY (H x))(he:e=x\/H e=some (.own x))(k:∀ b u,b≠e->h.get? b=some u->h'.get? b=some u)(FI:∃ u,h'.get? e=some u)
  (new:eR P w (upd H x o') h' x o'):fo P w (upd H x o') h':=fun b u q=>by
 have S8:∀ c y,H c=some (.own y)->c≠x:=fun c y r z=>by subst z;rw[r] at mu;exact mu
 have W0:∀ c xs,H c=some (.tup xs)->c≠x:=fun c xs r z=>by subst z;rw[r] at mu;exact mu
 by_cases hb:b=x
 ·subst hb;rw[jS] at q;cases q;exact new
 ·rw[fw hb] at q
  by_cases DT:b=e
  ·have q':H b=some (.own x):=by
    rcases he with z|z
    ·exact absurd (DT.trans z) hb
    ·rw[DT];exact z
   rw[q] at q';cases q'
   obtain⟨v,hv⟩:=FI
   exact⟨v,by rw[DT];exact hv⟩
  ·refine(ok b u q).eJ (fun c v hc r=>k c v ?_ r) (fun c r=>by rw[fw (S8 c b r)];exact r) fun c xs r=>by rw[fw (W0 c xs r)];exact r
   rcases hc with rfl|hc
   ·exact DT
   ·rintro rfl
    rcases he with z|z
    ·exact S8 c b hc z
    ·rw[hc] at z;cases z;exact hb rfl
end
structure Un(fs ex:List Addr)(H H':Hp)(h h':Heap):Prop where
 keep:∀ b o,h.get? b=some o->H b=none->b∉fs->b∉ex->h'.get? b=some o
 slot:∀ b o,h.get? b=some o->H b=none->b∈fs->b∉ex->∃ sl,h'.get? b=some { o with slots:=sl }
 free:∀ b o,h.get? b=some o->H b=none->b∉ex->H' b=none
 there:∀ b o,h.get? b=some o->b∉ex->∃ o',h'.get? b=some o'
 ic:∀ b xs,H b=some (.tup xs)->H' b=some (.tup xs)
 rq:∀ b o u,H b=some (.kS o u)->H' b=some (.kS o u)
 sP:∀ b ps,H b=some (.BQ ps)->∃ more,H' b=some (.BQ (ps++more))
section
variable {fs ex:List Addr}{H H1:Hp}{h h1 h':Heap}{a x e:Addr}{o:HO}
theorem Un.any(u:Un fs ex H H1 h h1)(q:h.get? b=some ob)(n:H b=none)(hx:b∉ex):∃ sl,h1.get? b=some { ob with slots:=sl }:=by
 by_cases hb:b∈fs
 ·exact u.slot b ob q n hb hx
 ·exact⟨ob.slots,u.keep b ob q n hb hx⟩
theorem Un.kept(k:∀ b u,h.get? b=some u->h'.get? b=some u):Un fs ex H H h h' :=
 ⟨fun b ob q _ _ _=>k b ob q,fun b ob q _ _ _=>⟨ob.slots,k b ob q⟩,fun _ _ _ n _=>n,fun b ob q _=>⟨ob,k b ob q⟩,fun _ _ q=>q,fun _ _ _ q=>q,fun _ ps q=>⟨#[],by rw[q];simp⟩⟩
theorem Un.refl:Un fs ex H H h h:=Un.kept fun _ _ q=>q
theorem Un.laid(k:∀ b u,h.get? b=some u->h'.get? b=some u)(hp:h.objs.size<=a)(hn:H a=none):Un fs ex H (upd H a o) h h' where
 keep:=fun b u q _ _ _=>k b u q
 slot:=fun b u q _ _ _=>⟨u.slots,k b u q⟩
 free:=fun b u q n _=>by rw[fw (eP (kA (dn q) hp))];exact n
 there:=fun b u q _=>⟨u,k b u q⟩
 ic:=fun b xs q=>by rw[fw (FH q hn)];exact q
 rq:=fun b u xs q=>by rw[fw (FH q hn)];exact q
 sP:=fun b ps q=>⟨#[],by rw[fw (FH q hn),q];simp⟩
theorem Un.write(mu:JY (H x))(he:e=x\/H e=some (.own x))(k:∀ b u,b≠e->h.get? b=some u->h'.get? b=some u)(FI:∃ u,h'.get? e=some u):Un fs ex H (upd H x o) h h':=by
 have hx:∀ b,H b=none->b≠x:=fun b n z=>by subst z;rw[n] at mu;exact mu
 have hb:∀ b,H b=none->b≠e:=fun b n z=>by
  subst z
  rcases he with r|r
  ·exact hx b n r
  ·rw[n] at r;cases r
 have hm:∀ b u,H b=some u->¬ JY (some u)->b≠x:=fun b u q nm z=>by subst z;rw[q] at mu;exact nm mu
 refine⟨fun b u q n _ _=>k b u (hb b n) q,fun b u q n _ _=>⟨u.slots,k b u (hb b n) q⟩,fun b u q n _=>by rw[fw (hx b n)];exact n,fun b u q _=>?_,
  fun b xs q=>by rw[fw (hm b _ q fun z=>z)];exact q,fun b u xs q=>by rw[fw (hm b _ q fun z=>z)];exact q,fun b ps q=>⟨#[],by rw[fw (hm b _ q fun z=>z),q];simp⟩⟩
 by_cases DT:b=e
 ·subst DT;exact FI
 ·exact⟨u,k b u DT q⟩
end
def MV(h:Heap)(H:Hp):List Addr:=(List.range h.objs.size).filter fun a=>(H a).isSome
def Ap(h:Heap)(H:Hp):Heap:=PySem.W.hideAll h (MV h H)
theorem W3(h:Heap)(H:Hp):(Ap h H).objs.size=h.objs.size:=PySem.W.hideAll_size _ _
theorem W4(e:h.get? b=some o)(n:H b=none):(Ap h H).get? b=some o :=
 PySem.W.hideAll_get _ e fun hm=>by
  have q:(H b).isSome=true:=(IU.mp hm).2
  rw[n] at q;simp at q
theorem W5(e:(Ap h H).get? b=some o):h.get? b=some o/\H b=none:=by
 have e':h.get? b=some o:=PySem.W.of_hideAll (MV h H) e
 refine⟨e',?_⟩
 cases q:H b with
 |none=>rfl
 |some x =>
  have hm:b∈MV h H:=IU.mpr ⟨rh.mpr (dn e'),by simp[q]⟩
  have z:(Ap h H).get? b=none:=PySem.W.hideAll_none (MV h H) hm
  rw[z] at e;cases e
def W6(g h:Heap)(L:Addr):List (Addr × Obj):=(List.range h.objs.size).filterMap fun a=>if a=L\/(g.get? a).isSome=true then none else (h.get? a).map fun o=>(a,o)
def rest(g h:Heap)(L d:Addr):List (Addr × Obj):=(W6 g h L).filter fun p=>decide (p.1≠d)
structure Mod(K:PySem.W.Frag)(mg:Str->Option Value)(base:Heap):Prop where
 MX:K.In base
 glob:base.Ns mainGlobals mg
 blt:∃ mb,base.Ns builtinsNs mb/\∀ x:Str,x ≠ "__name__"->mb x=bootBuiltins x
 nolimit:base.NoLimit
structure Cx where
 prog:Program
 w:World
 K:PySem.W.Frag
 mg:Str->Option Value
 base:Heap
 A:Around
 N:List Str
 dz:Shared
 vT:Hp
 env:Env
 outer:List Env
 stack:List Env
 ex:List Addr
 fn:Str->Bool
 calm:Bool
 pn:List (Addr × Obj)
 xe:Value->Shared->Prop
def eK(l:List Env):List Addr:=l.filterMap (·.frame)
abbrev Cx.fs(X:Cx):List Addr:=eK X.outer
def FK(sc:Scope)(x:Str):Prop:=sc.names.lookup x=some .local\/sc.names.lookup x=some .cell\/sc.names.lookup x=some .free
def Loc(sc:Scope)(x:Str):Prop:=sc.names.lookup x=some .local\/sc.names.lookup x=some .cell
def Look(env:Env)(h:Heap)(m:Str->Option Value)(x:Str)(u:Value):Prop :=
 (env.kindOf x=some .local/\m x=some u)\/((env.kindOf x=some .cell\/env.kindOf x=some .free)/\∃ c,env.cells.lookup x=some c/\h.IsCell c (some u))
structure Cx.Ok(X:Cx):Prop where
 mod:Mod X.K X.mg X.base
 kind:X.env.scope.kind=.function
 glob:X.env.globals=mainGlobals
 blt:X.env.builtins=builtinsNs
 above:X.dz.heap.objs.size<=X.env.locals
 inj:∀ x y c,X.env.cells.lookup x=some c->X.env.cells.lookup y=some c->x=y
 has:∀ x,(X.env.kindOf x=some .cell\/X.env.kindOf x=some .free)->∃ c,X.env.cells.lookup x=some c
 yb:∀ x c,X.fn x=true->X.env.cells.lookup x=some c->X.dz.heap.objs.size<=c
 hd:X.calm=true->X.A.handled=none
 frames:X.A.frames=some X.stack
 Au:X.stack=X.outer\/(X.stack=X.env :: X.outer/\X.env.frame=some X.env.locals)
 AA:∀ b∈X.ex,b≠X.env.locals/\∀ x c,X.env.cells.lookup x=some c->c≠b
 bs:∀ b o,X.base.get? b=some o->X.dz.heap.get? b=some o/\X.vT b=none
 sQ:X.base.objs.size<=X.dz.heap.objs.size
 yi:∀ b o,X.base.get? b=some o->b∉X.ex
 yk:∀ b∈X.ex,b∉X.fs
 oB:X.dz.heap.FunFrames X.base X.outer
 wa:∀ b∈X.fs,X.vT b=none
structure Inv(X:Cx)(pins:List (Addr × Obj))(σ:List (Option V))(H:Hp)(s:Shared):Prop where
 ok:X.Ok
 os:s.os=X.dz.os
 bare:AllBare s.gens
 base:Un X.fs X.ex X.vT H X.dz.heap s.heap
 loc:∃ m,s.heap.Ns X.env.locals m/\∀ (i:Nat) (x:Str) (v:V),X.N[i]? = some x->σ[i]? = some (some v)->FK X.env.scope x->∃ u,RelV v u/\Look X.env s.heap m x u
 cell:∀ x c,X.env.cells.lookup x=some c->∃ v,s.heap.IsCell c v
 free:H X.env.locals=none
 mh:∀ x c,X.env.cells.lookup x=some c->H c=none
 pin:∀ p∈X.pn++pins,s.heap.get? p.1=some p.2/\H p.1=none/\p.1≠X.env.locals/\p.1∉X.fs/\∀ v,p.2.data≠.cell v
 bp:fo X.prog X.w H s.heap
 len:σ.length=X.N.length
section
variable {X:Cx}{pins:List (Addr × Obj)}{σ:List (Option V)}{H H':Hp}{s:Shared}{h':Heap}
theorem Cx.Ok.W7(ok:X.Ok)(e:X.base.get? b=some o):b∉X.fs:=fun hb=>by
 have:=(ok.oB.mem hb).1
 rw[e] at this;cases this
theorem Inv.bs(I:Inv X pins σ H s):∀ b o,X.base.get? b=some o->s.heap.get? b=some o/\H b=none:=fun b o e =>
 ⟨I.base.keep b o (I.ok.bs b o e).1 (I.ok.bs b o e).2 (I.ok.W7 e) (I.ok.yi b o e),I.base.free b o (I.ok.bs b o e).1 (I.ok.bs b o e).2 (I.ok.yi b o e)⟩
theorem Inv.bk(I:Inv X pins σ H s):∀ b o,X.base.get? b=some o->s.heap.get? b=some o:=fun b o e=>(I.bs b o e).1
theorem Inv.mod(I:Inv X pins σ H s):Mod X.K X.mg X.base:=I.ok.mod
theorem Inv.js(I:Inv X pins σ H s):X.K.In s.heap:=I.ok.mod.MX.keeps I.bk
theorem Inv.lt(I:Inv X pins σ H s):X.env.locals<s.heap.objs.size:=let ⟨_,hn,_⟩:=I.loc;hn.lt
theorem Inv.sz(I:Inv X pins σ H s):X.dz.heap.objs.size<=s.heap.objs.size:=hG I.ok.above (kc I.lt)
theorem Inv.W8(I:Inv X pins σ H s)(h:s.heap.objs.size<=a):a∉X.fs:=fun hb=>by
 obtain⟨_,o,ho,_⟩:=I.ok.oB.mem hb
 exact absurd (kA (dn ho) (hG I.sz h)) (rj _)
theorem Inv.yn(I:Inv X pins σ H s):∀ x c,X.env.cells.lookup x=some c->c≠X.env.locals:=fun x c e z=>by
 obtain⟨v,o,ho,hd⟩:=I.cell x c e
 obtain⟨m,⟨o',es,ep,kU,W9,_⟩,_⟩:=I.loc
 rw[z,kU] at ho;cases ho;rw[W9] at hd;cases hd
theorem Inv.oB(I:Inv X pins σ H s):s.heap.FunFrames X.base X.outer:=by
 have all:∀ (l:List Env),(∀ b∈eK l,b∈X.fs)->X.dz.heap.FunFrames X.base l->s.heap.FunFrames X.base l:=by
  intro l
  induction l with
  |nil=>intro _ _;trivial
  |cons env r ih =>
   intro hs hl
   obtain⟨hk,⟨L,o,hf,hn,ho,hd⟩,hr⟩:=hl
   have hL:L∈X.fs:=hs L (by unfold eK;rw[xE,hf];exact cc)
   obtain⟨sl,e⟩:=I.base.slot L o ho (I.ok.wa L hL) hL fun z=>I.ok.yk L z hL
   exact⟨hk,⟨L,_,hf,hn,e,hd⟩,ih (fun b hb=>hs b (by unfold eK;rw[xE,hf];exact b9 _ hb)) hr⟩
 exact all X.outer (fun _ hb=>hb) I.ok.oB
theorem Inv.stack(I:Inv X pins σ H s):s.heap.FunFrames X.base X.stack:=by
 rcases I.ok.Au with e|⟨e,hf⟩
 ·rw[e];exact I.oB
 ·rw[e]
  obtain⟨m,hn,_⟩:=I.loc
  refine .cons (by rw[I.ok.kind];decide) hf hn ?_ I.oB
  exact Heap.get?_none_of_le (hG I.ok.sQ I.ok.above)
theorem Inv.O_(I:Inv X pins σ H s):∀ b∈eK X.stack,b∈X.env.locals :: X.fs:=fun b hb=>by
 rcases I.ok.Au with e|⟨e,hf⟩
 ·rw[e] at hb;exact b9 _ hb
 ·rw[e] at hb
  unfold eK at hb
  rw[xE,hf] at hb
  exact hb
theorem Inv.Pa(I:Inv X pins σ H s):∀ b∈eK X.stack,H b=none:=fun b hb=>by
 rcases cK.mp (I.O_ b hb) with e|hb
 ·rw[e];exact I.free
 ·obtain⟨_,o,ho,_⟩:=I.ok.oB.mem hb
  exact I.base.free b o ho (I.ok.wa b hb) fun z=>I.ok.yk b z hb
theorem Inv.step{g':Array GenState}{t':Nat}{d':Drawn}{ch:List Addr}(I:Inv X pins σ H s)
  (ub:∀ b∈ch,(b∈X.ex\/X.dz.heap.objs.size<=b)/\b≠X.env.locals/\(∀ x c,X.env.cells.lookup x=some c->c≠b)/\∀ p∈X.pn++pins,p.1≠b)
  (keep:∀ b o,b≠X.env.locals->b∉X.fs->b∉ch->s.heap.get? b=some o->H b=none->h'.get? b=some o)
  (slot:∀ b o,b≠X.env.locals->b∈X.fs->b∉ch->s.heap.get? b=some o->H b=none->∃ sl,h'.get? b=some { o with slots:=sl }) (free:∀ b o,b∉ch->s.heap.get? b=some o->H b=none->H' b=none)
  (there:∀ b o,b∉ch->s.heap.get? b=some o->∃ o',h'.get? b=some o')
  (ic:∀ b xs,H b=some (.tup xs)->H' b=some (.tup xs)) (rq:∀ b o u,H b=some (.kS o u)->H' b=some (.kS o u)) (sP:∀ b ps,H b=some (.BQ ps)->∃ more,H' b=some (.BQ (ps++more)))
  (ns:∀ m,s.heap.Ns X.env.locals m->h'.Ns X.env.locals m) (bp:fo X.prog X.w H' h') (hg:AllBare g') :
  Inv X pins σ H' { s with heap:=h',gens:=g',drawn:=d',toks:=t' }:=by
 have Kb:∀ b o,X.dz.heap.get? b=some o->b≠X.env.locals:=fun b o e=>eP (kA (dn e) I.ok.above)
 have MY:∀ b o,X.dz.heap.get? b=some o->b∉X.ex->b∉ch:=fun b o e hx hb=>by
  rcases (ub b hb).1 with z|z
  ·exact hx z
  ·exact absurd (kA (dn e) z) (rj _)
 have cellK:∀ x c,X.env.cells.lookup x=some c->∀ v,s.heap.IsCell c v->h'.IsCell c v:=fun x c e v df=>by
  obtain⟨o,ho,hd⟩:=df
  have Ki:c∉ch:=fun z=>(ub c z).2.2.1 x c e rfl
  by_cases hc:c∈X.fs
  ·obtain⟨sl,q⟩:=slot c o (I.yn x c e) hc Ki ho (I.mh x c e)
   exact⟨_,q,hd⟩
  ·exact⟨o,keep c o (I.yn x c e) hc Ki ho (I.mh x c e),hd⟩
 refine⟨I.ok,I.os,hg,⟨fun b o e n hb hx=>?_,fun b o e n hb hx=>?_,fun b o e n hx=>?_,fun b o e hx=>?_,fun b xs e=>ic b xs (I.base.ic b xs e),fun b o xs e=>rq b o xs (I.base.rq b o xs e),fun b ps e=>?_⟩,?_,fun x c e=>?_,?_,fun x c e=>?_,fun p hp=>?_,bp,I.len⟩
 ·exact keep b o (Kb b o e) hb (MY b o e hx) (I.base.keep b o e n hb hx) (I.base.free b o e n hx)
 ·obtain⟨sl,e1⟩:=I.base.slot b o e n hb hx
  obtain⟨W_,e2⟩:=slot b _ (Kb b o e) hb (MY b o e hx) e1 (I.base.free b o e n hx)
  exact⟨W_,e2⟩
 ·obtain⟨o',e1⟩:=I.base.there b o e hx
  exact free b o' (MY b o e hx) e1 (I.base.free b o e n hx)
 ·obtain⟨o',e1⟩:=I.base.there b o e hx
  exact there b o' (MY b o e hx) e1
 ·obtain⟨m1,e1⟩:=I.base.sP b ps e
  obtain⟨m2,e2⟩:=sP b _ e1
  exact⟨m1++m2,by rw[e2,JJ]⟩
 ·obtain⟨m,hn,hl⟩:=I.loc
  refine⟨m,ns m hn,fun i x v e1 e2 e3=>?_⟩
  obtain⟨u,r,l⟩:=hl i x v e1 e2 e3
  refine⟨u,r,?_⟩
  rcases l with l|⟨k,c,e,z⟩
  ·exact .inl l
  ·exact .inr ⟨k,c,e,cellK x c e _ z⟩
 ·obtain⟨v,z⟩:=I.cell x c e
  exact⟨v,cellK x c e v z⟩
 ·obtain⟨m,⟨o,_,_,ho,_⟩,_⟩:=I.loc
  exact free _ o (fun z=>(ub _ z).2.1 rfl) ho I.free
 ·obtain⟨v,o,ho,hd⟩:=I.cell x c e
  exact free c o (fun z=>(ub c z).2.2.1 x c e rfl) ho (I.mh x c e)
 ·obtain⟨e,n,ne,nf,d⟩:=I.pin p hp
  have Ki:p.1∉ch:=fun z=>(ub p.1 z).2.2.2 p hp rfl
  exact⟨keep p.1 p.2 ne nf Ki e n,free p.1 p.2 Ki e n,ne,nf,d⟩
theorem Inv.un{t':Nat}(I:Inv X pins σ H s)(u:Un X.fs [] H H' s.heap h')(bp:fo X.prog X.w H' h'):Inv X pins σ H' { s with heap:=h',toks:=t' }:=by
 obtain⟨m,⟨o,es,ep,ho,r⟩,_⟩:=id I.loc
 obtain⟨sl,hL⟩:=u.any ho I.free (by simp)
 exact I.step (g':=s.gens) (d':=s.drawn) (ch:=[]) (fun _ z=>nomatch z) (fun b o _ hb _ e n=>u.keep b o e n hb (by simp)) (fun b o _ hb _ e n=>u.slot b o e n hb (by simp)) (fun b o _ e n=>u.free b o e n (by simp)) (fun b o _ e=>u.there b o e (by simp)) u.ic u.rq u.sP (fun m' hm=>by
  obtain⟨o',Pb,Pg,kU,r'⟩:=hm
  rw[ho] at kU;cases kU
  exact⟨_,Pb,Pg,hL,r'⟩) bp I.bare
theorem Inv.call{g':Array GenState}{t':Nat}{d':Drawn}{ch:List Addr}(I:Inv X pins σ H s)(u:Un (eK X.stack) ch H H' s.heap h')(bp:fo X.prog X.w H' h')(hg:AllBare g')
  (ub:∀ b∈ch,(b∈X.ex\/X.dz.heap.objs.size<=b)/\b≠X.env.locals/\(∀ x c,X.env.cells.lookup x=some c->c≠b)/\∀ p∈X.pn++pins,p.1≠b) :
  Inv X pins σ H' { s with heap:=h',gens:=g',drawn:=d',toks:=t' }:=by
 obtain⟨m,⟨o,es,ep,ho,r⟩,_⟩:=id I.loc
 obtain⟨sl,hL⟩:=u.any ho I.free fun z=>(ub _ z).2.1 rfl
 exact I.step (ch:=ch) ub (fun b o hL hb hc e n=>u.keep b o e n (fun z=>(cK.mp (I.O_ b z)).elim hL hb) hc) (fun b o _ _ hc e n=>u.any e n hc) (fun b o hc e n=>u.free b o e n hc) (fun b o hc e=>u.there b o e hc) u.ic u.rq u.sP (fun m' hm=>by
  obtain⟨o',Pb,Pg,kU,r'⟩:=hm
  rw[ho] at kU;cases kU
  exact⟨_,Pb,Pg,hL,r'⟩) bp hg
theorem Inv.turned{t':Nat}{it:Addr}(I:Inv X pins σ H s)(k:∀ b o,b≠it->s.heap.get? b=some o->h'.get? b=some o)(hn:H it=none)(hL:it≠X.env.locals)
  (h1:it∈X.ex\/X.dz.heap.objs.size<=it) (h2:∀ x c,X.env.cells.lookup x=some c->c≠it) (h3:∀ p∈X.pn++pins,p.1≠it):Inv X pins σ H { s with heap:=h',toks:=t' }:=by
 have S9:∀ b u,H b=some u->b≠it:=fun b u e z=>by rw[z,hn] at e;cases e
 refine I.step (g':=s.gens) (d':=s.drawn) (ch:=[it]) (fun b hb=>?_) (fun b o _ _ hc e _=>k b o (fun z=>hc (by simp[z])) e) (fun b o _ _ hc e _=>⟨o.slots,k b o (fun z=>hc (by simp[z])) e⟩) (fun _ _ _ _ n=>n)
  (fun b o hc e=>⟨o,k b o (fun z=>hc (by simp[z])) e⟩) (fun _ _ e=>e) (fun _ _ _ e=>e) (fun b ps e=>⟨#[],by rw[e];simp⟩) (fun m hm=>?_) (fun b u e=>?_) I.bare
 ·have e:b=it:=by simpa using hb
  subst e
  exact⟨h1,hL,h2,h3⟩
 ·obtain⟨o,es,ep,ho,r⟩:=hm
  exact⟨o,es,ep,k _ o (Ne.symm hL) ho,r⟩
 ·refine(I.bp b u e).eJ (fun c v hc q=>k c v ?_ q) (fun _ q=>q) fun _ _ q=>q
  rcases hc with z|z
  ·rw[z];exact S9 b u e
  ·exact S9 c _ z
theorem Inv.tok(I:Inv X pins σ H s)(t:Nat):Inv X pins σ H { s with toks:=t }:=I.un (h':=s.heap) (t':=t) Un.refl I.bp
theorem Inv.kept(I:Inv X pins σ H s)(k:∀ b u,s.heap.get? b=some u->h'.get? b=some u):Inv X pins σ H { s with heap:=h',toks:=t' }:=I.un (Un.kept k) (I.bp.kept k)
theorem Inv.laid(I:Inv X pins σ H s)(k:∀ b u,s.heap.get? b=some u->h'.get? b=some u)(hp:s.heap.objs.size<=a)(new:eR X.prog X.w (upd H a o) h' a o) :
  Inv X pins σ (upd H a o) { s with heap:=h',toks:=t' }:=I.un (Un.laid k hp (I.bp.fresh hp)) (I.bp.laid k hp new)
theorem Inv.write(I:Inv X pins σ H s)(mu:JY (H x))(he:e=x\/H e=some (.own x))(k:∀ b u,b≠e->s.heap.get? b=some u->h'.get? b=some u)(FI:∃ u,h'.get? e=some u)
  (new:eR X.prog X.w (upd H x o) h' x o):Inv X pins σ (upd H x o) { s with heap:=h',toks:=t' }:=I.un (Un.write mu he k FI) (I.bp.write mu he k FI new)
theorem Inv.S_(I:Inv X pins σ H s)(h:∀ p∈mn,s.heap.get? p.1=some p.2/\H p.1=none/\p.1≠X.env.locals/\p.1∉X.fs/\∀ v,p.2.data≠.cell v):Inv X mn σ H s :=
 ⟨I.ok,I.os,I.bare,I.base,I.loc,I.cell,I.free,I.mh,fun p hp=>(dP.mp hp).elim (fun z=>I.pin p (i5 _ z)) (h p),I.bp,I.len⟩
theorem Ta{N:List Str}(hN:N.Nodup){i j:Nat}{x:Str}(a:N[i]? = some x)(b:N[j]? = some x):i=j:=by
 obtain⟨h1,e1⟩:=hX.mp a
 obtain⟨h2,e2⟩:=hX.mp b
 exact(List.getElem_inj hN).mp (e1.trans e2.symm)
theorem Ph{M:Model}{A:Around}{E:Value->Shared->Prop}{i:Nat}{x:Str}{v:V}{u:Value}{Q:Unit->Shared->Prop}(I:Inv X pins σ H s)(hN:X.N.Nodup)(hi:X.N[i]? = some x)(hx:Loc X.env.scope x)(r:RelV v u)
  (h:∀ s',Inv X pins (σ.set i (some v)) H s'->(∃ a,Heap.SameBut a s.heap s'.heap/\(a=X.env.locals\/X.env.cells.lookup x=some a))->Q () s') (hf:X.fn x=true\/X.env.scope.names.lookup x=some .local:=by first|exact .inl rfl|exact .inr rfl|assumption):wpAny M A (storeName X.env x u) Q E s:=by
 obtain⟨m,hn,hl⟩:=id I.loc
 have Pj:(X.env.scope.kind == .class || (X.env.scope.kind == .module && X.env.locals != X.env.globals))=false:=by rw[I.ok.kind];rfl
 have Tb:i<σ.length:=by rw[I.len];exact(hX.mp hi).1
 have yn:=I.yn
 have tracked:∀ {a:Addr} {h':Heap},(∃ o,s.heap.get? a=some o/\H a=none)->Heap.SameBut a s.heap h'->fo X.prog X.w H h':=fun {a h'} ha hs b ob e=>by
  obtain⟨_,_,Tc⟩:=ha
  refine(I.bp b ob e).eJ (fun c w' hc q=>(hs.2 c ?_).trans q) (fun _ q=>q) fun _ _ q=>q
  rintro rfl
  rcases hc with rfl|hc
  ·rw[Tc] at e;cases e
  ·rw[Tc] at hc;cases hc
 rcases hx with hk|hk
 ·refine wpAny_storeName_local hk hn (fun h' Kj hs=>?_) Pj
  obtain⟨oL,_,_,ui,_⟩:=id hn
  refine h _ ⟨I.ok,I.os,I.bare,⟨fun b o e n hb hx=>?_,fun b o e n hb hx=>?_,I.base.free,fun b o e hx=>?_,I.base.ic,I.base.rq,I.base.sP⟩,⟨_,Kj,fun j y v' e1 e2 e3=>?_⟩,fun y c e=>?_,I.free,I.mh,fun p hp=>?_,tracked ⟨oL,ui,I.free⟩ hs,by simpa using I.len⟩ ⟨_,hs,.inl rfl⟩
  ·exact(hs.2 b (eP (kA (dn e) I.ok.above))).trans (I.base.keep b o e n hb hx)
  ·obtain⟨sl,e1⟩:=I.base.slot b o e n hb hx
   exact⟨sl,(hs.2 b (eP (kA (dn e) I.ok.above))).trans e1⟩
  ·obtain⟨o',e1⟩:=I.base.there b o e hx
   exact⟨o',(hs.2 b (eP (kA (dn e) I.ok.above))).trans e1⟩
  ·by_cases hj:j=i
   ·subst hj
    rw[hi] at e1;cases e1
    rw[Mr Tb] at e2
    cases e2
    exact⟨u,r,.inl ⟨hk,by simp⟩⟩
   ·rw[DB (Ne.symm hj)] at e2
    obtain⟨u',r',q⟩:=hl j y v' e1 e2 e3
    refine⟨u',r',?_⟩
    rcases q with⟨k,e⟩|⟨k,c,e,z⟩
    ·refine .inl ⟨k,?_⟩
     have:y≠x:=fun e=>hj (Ta hN e1 (e ▸ hi))
     simp[this,e]
    ·exact .inr ⟨k,c,e,z.sameBut hs (yn y c e)⟩
  ·obtain⟨w',z⟩:=I.cell y c e
   exact⟨w',z.sameBut hs (yn y c e)⟩
  ·obtain⟨e,n,ne,nf,d⟩:=I.pin p hp
   exact⟨(hs.2 p.1 ne).trans e,n,ne,nf,d⟩
 ·have Pk:X.fn x=true:=by
   rcases hf with z|z
   ·exact z
   ·rw[z] at hk;cases hk
  obtain⟨c,hc⟩:=I.ok.has x (.inl hk)
  obtain⟨w',z⟩:=I.cell x c hc
  refine wpAny_storeName_cell I.ok.kind hk hc z (fun h' DU hs=>?_)
  obtain⟨oc,Td,Xa⟩:=id z
  refine h { s with heap:=h' } ⟨I.ok,I.os,I.bare,⟨fun b o e n hb hx=>?_,fun b o e n hb hx=>?_,I.base.free,fun b o e hx=>?_,I.base.ic,I.base.rq,I.base.sP⟩,⟨m,hn.sameBut hs (Ne.symm (yn x c hc)),fun j y v' e1 e2 e3=>?_⟩,fun y c' e=>?_,I.free,I.mh,fun p hp=>?_,tracked ⟨oc,Td,I.mh x c hc⟩ hs,by simpa using I.len⟩ ⟨c,hs,.inr hc⟩
  ·exact(hs.2 b (eP (kA (dn e) (I.ok.yb x c Pk hc)))).trans (I.base.keep b o e n hb hx)
  ·obtain⟨sl,e1⟩:=I.base.slot b o e n hb hx
   exact⟨sl,(hs.2 b (eP (kA (dn e) (I.ok.yb x c Pk hc)))).trans e1⟩
  ·obtain⟨o',e1⟩:=I.base.there b o e hx
   exact⟨o',(hs.2 b (eP (kA (dn e) (I.ok.yb x c Pk hc)))).trans e1⟩
  ·by_cases hj:j=i
   ·subst hj
    rw[hi] at e1;cases e1
    rw[Mr Tb] at e2
    cases e2
    exact⟨u,r,.inr ⟨.inl hk,c,hc,DU⟩⟩
   ·rw[DB (Ne.symm hj)] at e2
    obtain⟨u',r',q⟩:=hl j y v' e1 e2 e3
    refine⟨u',r',?_⟩
    rcases q with q|⟨k,c',e,z'⟩
    ·exact .inl q
    ·refine .inr ⟨k,c',e,z'.sameBut hs ?_⟩
     rintro rfl
     exact hj (Ta hN e1 (I.ok.inj _ _ _ e hc ▸ hi))
  ·by_cases wc:c'=c
   ·subst wc;exact⟨_,DU⟩
   ·obtain⟨w2,z2⟩:=I.cell y c' e
    exact⟨w2,z2.sameBut hs wc⟩
  ·obtain⟨e,n,ne,nf,d⟩:=I.pin p hp
   refine⟨(hs.2 p.1 ?_).trans e,n,ne,nf,d⟩
   intro q
   rw[q,Td] at e
   have q':oc=p.2:=Option.some.inj e
   exact d w' (by rw[<- q'];exact Xa)
theorem Te(I:Inv X pins σ H s)(hN:X.N.Nodup)(hi:X.N[i]? = some x)(hx:Loc X.env.scope x)(r:RelV v u)
  (h:∀ s',Inv X pins (σ.set i (some v)) H s'->Q () s') (hf:X.fn x=true\/X.env.scope.names.lookup x=some .local:=by first|exact .inl rfl|exact .inr rfl|assumption):wpAny M A (storeName X.env x u) Q E s :=
 Ph I hN hi hx r (fun s' I' _=>h s' I') hf
theorem Inv.Xb(I:Inv X pins σ H s)(ho:s'.os=s.os)(u:Un (eK X.stack) ch H H' s.heap s'.heap)(bp:fo X.prog X.w H' s'.heap)(hg:AllBare s'.gens)
  (ub:∀ b∈ch,(b∈X.ex\/X.dz.heap.objs.size<=b)/\b≠X.env.locals/\(∀ x c,X.env.cells.lookup x=some c->c≠b)/\∀ p∈X.pn++pins,p.1≠b):Inv X pins σ H' s':=by
 obtain⟨h',g',d',t',o'⟩:=s'
 have e:o'=s.os:=ho
 subst e
 exact I.call (g':=g') (t':=t') (d':=d') u bp hg ub
end
abbrev XK:=Value->Option Addr->Hp->Prop
abbrev St:=List (Option V)
abbrev VK:=V->Hp->Prop
abbrev TE:=St->Hp->VK->Prop
abbrev TT:=St->Hp->(Bool->Hp->Prop)->Prop
abbrev TA:=St->Hp->(List V->Hp->Prop)->Prop
structure Ends where
 nx:St->Hp->Prop
 rt:VK
 bk:St->Hp->Prop:=fun _ _=>False
 ct:St->Hp->Prop:=fun _ _=>False
abbrev TS:=Ends->St->Hp->Prop
def EP(X:Cx)(pins:List (Addr × Obj))(σ:St)(Q:VK)(u:Value)(s':Shared):Prop:=∃ v H',Inv X pins σ H' s'/\RelV v u/\Q v H'
def TP(X:Cx)(pins:List (Addr × Obj))(σ:St)(Q:Bool->Hp->Prop)(b:Bool)(s':Shared):Prop:=∃ H',Inv X pins σ H' s'/\Q b H'
def AP(X:Cx)(pins:List (Addr × Obj))(σ:St)(Q:List V->Hp->Prop)(us:List Value)(s':Shared):Prop:=∃ vs H',Inv X pins σ H' s'/\Vals vs us/\Q vs H'
def SP(X:Cx)(pins:List (Addr × Obj))(D:Ends)(f:Flow)(s':Shared):Prop :=
 match f with
 |.next=>∃ aI H',Inv X pins aI H' s'/\D.nx aI H'
 |.brk=>∃ aI H',Inv X pins aI H' s'/\D.bk aI H'
 |.cont=>∃ aI H',Inv X pins aI H' s'/\D.ct aI H'
 |.ret u=>∃ v aI H',Inv X pins aI H' s'/\RelV v u/\D.rt v H'
def PE(X:Cx)(e:Expr)(t:TE):Prop :=
 ∀ (pins:List (Addr × Obj)) (s:Shared) (σ:St) (H:Hp) (Q:VK),Inv X pins σ H s->t σ H Q->wpAny (model X.prog X.w) X.A (eval e X.env) (EP X pins σ Q) X.xe s
def PT(X:Cx)(e:Expr)(t:TT):Prop :=
 ∀ (pins:List (Addr × Obj)) (s:Shared) (σ:St) (H:Hp) (Q:Bool->Hp->Prop),Inv X pins σ H s->t σ H Q->wpAny (model X.prog X.w) X.A (isTrue e X.env (eval e X.env)) (TP X pins σ Q) X.xe s
def PW(X:Cx)(e:Expr)(t:TT):Prop :=
 ∀ (whole:Sem Value) (pins:List (Addr × Obj)) (s:Shared) (σ:St) (H:Hp) (Q:Bool->Hp->Prop),Inv X pins σ H s->t σ H Q->wpAny (model X.prog X.w) X.A (isTrue e X.env whole) (TP X pins σ Q) X.xe s
def PA(X:Cx)(es:List Expr)(t:TA):Prop :=
 ∀ (pos:Pos) (pins:List (Addr × Obj)) (s:Shared) (σ:St) (H:Hp) (Q:List V->Hp->Prop),Inv X pins σ H s->t σ H Q->wpAny (model X.prog X.w) X.A (spliced (backTo pos (starEach es X.env))) (AP X pins σ Q) X.xe s
def PS(X:Cx)(st:Stmt)(t:TS):Prop :=
 ∀ (pins:List (Addr × Obj)) (s:Shared) (σ:St) (H:Hp) (D:Ends),Inv X pins σ H s->t D σ H->wpAny (model X.prog X.w) X.A (exec st X.env) (SP X pins D) X.xe s
def kX(X:Cx)(st:List Stmt)(t:TS):Prop :=
 ∀ (pins:List (Addr × Obj)) (s:Shared) (σ:St) (H:Hp) (D:Ends),Inv X pins σ H s->t D σ H->wpAny (model X.prog X.w) X.A (execs st X.env) (SP X pins D) X.xe s
theorem ck{α:Type}{t:Sem α}{Q Q':α->Shared->Prop}{M:Model}{A:Around}{E:Value->Shared->Prop}{s:Shared}(h:wpAny M A t Q E s)(hQ:∀ a s,Q a s->Q' a s):wpAny M A t Q' E s:=oy h hQ fun _ _ x=>x
section
variable {X:Cx}
def AB(i:Nat):TE:=fun σ H Q=>∃ v,σ[i]? = some (some v)/\Q v H
def tC(v:V):TE:=fun _ H Q=>Q v H
theorem Pl (hN:X.N[i]? = some x) (hv:FK X.env.scope x) (hd:(x == ("__debug__" : Str))=false:=by decide) (nX:(x == ("__classdict__" : Str))=false:=by decide):PE X (.Name x pos) (AB i):=by
 intro pins s σ H Q I h
 obtain⟨v,e,h⟩:=h
 obtain⟨m,hn,hl⟩:=I.loc
 obtain⟨u,r,l⟩:=hl i x v hN e hv
 have fin:EP X pins σ Q u s:=⟨v,H,I,r,h⟩
 rcases l with⟨hk,hm⟩|⟨hk,c,hc,Tf⟩
 ·exact wpAny_Name (wpAny_loadName_local I.ok.kind hk hn hm fin) hd
 ·rcases hk with hk|hk
  ·exact wpAny_Name (wpAny_loadName_cell I.ok.kind hk hc Tf fin) hd
  ·exact wpAny_Name (wpAny_loadName_free I.ok.kind hk hc Tf fin nX) hd
theorem Xc{i j pos}:PE X (.Constant (.int i) j pos) (tC (.int i)):=fun _ _ _ H _ I h=>wpAny_Constant_int ⟨.int i,H,I.tok _,⟨_,rfl⟩,h⟩
theorem Xd{b j pos}:PE X (.Constant (.bool b) j pos) (tC (.bl b)):=fun _ _ _ H _ I h=>Constant_bool ⟨.bl b,H,I,rfl,h⟩
theorem Xe{j pos}:PE X (.Constant .none j pos) (tC .non):=fun _ _ _ H _ I h=>Constant_none ⟨.non,H,I,rfl,h⟩
theorem Xf{x j pos}:PE X (.Constant (.str x) j pos) (tC (.str x)):=fun _ _ _ H _ I h=>Calls.Constant_str ⟨.str x,H,I.tok _,⟨_,rfl⟩,h⟩
def Gl(X:Cx)(x:Str):Prop:=X.env.kindOf x=some .globalImplicit
theorem MZ(I:Inv X pins σ H s)(hg:Gl X x)(hm:X.mg x=some u)(h:Q u s)
  (hd:(x == ("__debug__" : Str))=false:=by decide):wpAny (model X.prog X.w) X.A (eval (.Name x pos) X.env) Q E s :=
 Calls.Name_function_global I.ok.kind hg (Calls.loadGlobal_global (by rw[I.ok.glob];exact I.mod.glob.keeps I.bk) hm h) hd
theorem FL(I:Inv X pins σ H s)(hg:Gl X x)(hm:X.mg x=none)(hv:bootBuiltins x=some u)(h:Q u s)
  (hn:x ≠ "__name__" := by decide) (hd:(x == ("__debug__" : Str))=false:=by decide):wpAny (model X.prog X.w) X.A (eval (.Name x pos) X.env) Q E s:=by
 obtain⟨mb,h1,h2⟩:=I.mod.blt
 exact Calls.Name_function_global I.ok.kind hg (Calls.loadGlobal_builtin (by rw[I.ok.glob];exact I.mod.glob.keeps I.bk) hm (by rw[I.ok.blt];exact h1.keeps I.bk) ((h2 x hn).trans hv) h) hd
theorem AF (hg:Gl X x) (hm:X.mg x=some u) (r:RelV v u) (hd:(x == ("__debug__" : Str))=false:=by decide):PE X (.Name x pos) (tC v) :=
 fun _ _ _ H _ I h=>MZ I hg hm ⟨v,H,I,r,h⟩ hd
theorem Xg (hg:Gl X x) (hm:X.mg x=none) (hv:bootBuiltins x=some u) (r:RelV v u) (hn:x ≠ "__name__" := by decide) (hd:(x == ("__debug__" : Str))=false:=by decide):PE X (.Name x pos) (tC v) :=
 fun _ _ _ H _ I h=>FL I hg hm hv ⟨v,H,I,r,h⟩ hn hd
variable {a b:Expr}{ta tb:TE}{pos:Pos}
def tB(t:TE):TT:=fun σ H Q=>t σ H fun x H1=>∃ c,x=.bl c/\Q c H1
theorem Xh(h:PE X e t)(he:∀ whole,isTrue e X.env whole=(do let v <- whole;standAt e.pos;holding [v] (truthy v)):=by intro _;rfl):PT X e (tB t):=by
 intro pins s σ H Q I hw
 refine isTrue_plain (ck (h pins s σ H _ I hw) fun v s1 cw=>L2.gi cw fun x H1 I1 r1 q1=>?_) (he _)
 obtain⟨d,rfl,q⟩:=q1
 cases r1
 exact wpAny_truthy_bool ⟨H1,I1,q⟩
variable {tA M0:TT}{rest:List Expr}
def Xi(t u:TT):TT:=fun σ H Q=>t σ H fun c H1=>if c=true then u σ H1 Q else Q false H1
def Xj(t u:TT):TT:=fun σ H Q=>t σ H fun c H1=>if c=true then Q true H1 else u σ H1 Q
def Xk(t:TT):TT:=fun σ H Q=>t σ H fun c H1=>Q (!c) H1
theorem pw_and1(ha:PT X a tA):PW X (.BoolOp .And [a] pos) tA:=by
 intro wh pins s σ H Q I h
 refine isTrue_and (ck (ha pins s σ H Q I h) fun c s1 e=>?_)
 cases c with
 |true=>exact isTrue_and_nil e
 |false=>exact e
theorem pw_or1(ha:PT X a tA):PW X (.BoolOp .Or [a] pos) tA:=by
 intro wh pins s σ H Q I h
 refine isTrue_or (ck (ha pins s σ H Q I h) fun c s1 e=>?_)
 cases c with
 |false=>exact isTrue_or_nil e
 |true=>exact e
theorem pw_and(ha:PT X a tA)(hb:PW X (.BoolOp .And (b :: rest) pos) M0):PW X (.BoolOp .And (a :: b :: rest) pos) (Xi tA M0):=by
 intro wh pins s σ H Q I h
 refine isTrue_and (ck (ha pins s σ H _ I h) fun c s1 df=>?_)
 obtain⟨H1,I1,q1⟩:=df
 cases c with
 |true=>exact hb wh pins s1 σ H1 Q I1 q1
 |false=>exact⟨H1,I1,q1⟩
theorem pw_or(ha:PT X a tA)(hb:PW X (.BoolOp .Or (b :: rest) pos) M0):PW X (.BoolOp .Or (a :: b :: rest) pos) (Xj tA M0):=by
 intro wh pins s σ H Q I h
 refine isTrue_or (ck (ha pins s σ H _ I h) fun c s1 df=>?_)
 obtain⟨H1,I1,q1⟩:=df
 cases c with
 |true=>exact⟨H1,I1,q1⟩
 |false=>exact hb wh pins s1 σ H1 Q I1 q1
theorem Xl(ha:PT X a tA):PT X (.UnaryOp .Not a pos) (Xk tA):=by
 intro pins s σ H Q I h
 exact isTrue_not (ha pins s σ H (fun c H1=>Q (!c) H1) I h)
def Xm(ta tb:TE):TE:=fun σ H Q=>ta σ H fun x H1=>∃ c,x=.bl c/\if c=true then tb σ H1 Q else Q (.bl false) H1
def Xn(ta:TE):TE:=fun σ H Q=>ta σ H fun x H1=>∃ c,x=.bl c/\Q (.bl (!c)) H1
theorem Xo{op}(h:PE X a t):PE X (.BoolOp op [a] pos) t:=fun pins s σ H Q I hw=>BoolOp_one (h pins s σ H Q I hw)
theorem Xp(ha:PE X a ta)(hb:PE X (.BoolOp .And (b :: rest) pos) tb):PE X (.BoolOp .And (a :: b :: rest) pos) (Xm ta tb):=by
 intro pins s σ H Q I h
 refine BoolOp_and (ck (ha pins s σ H _ I h) fun v s1 cw=>L2.gi cw fun x H1 I1 r1 q1=>?_)
 obtain⟨c,rfl,q1⟩:=q1
 cases r1
 refine wpAny_truthy_bool ?_
 cases c with
 |true=>exact hb pins s1 σ H1 Q I1 q1
 |false=>exact⟨.bl false,H1,I1,rfl,q1⟩
theorem Xq(ha:PE X a ta):PE X (.UnaryOp .Not a pos) (Xn ta):=by
 intro pins s σ H Q I h
 refine UnaryOp_ (ck (ha pins s σ H _ I h) fun v s1 cw=>L2.gi cw fun x H1 I1 r1 q1=>?_)
 obtain⟨c,rfl,q1⟩:=q1
 cases r1
 exact not_of (wpAny_truthy_bool ⟨.bl (!c),H1,I1,rfl,q1⟩)
end
def eh(K:PySem.W.Frag)(H:Hp)(a:Addr)(xs:List V):Prop :=
 Rd H a (.lst xs) \/
  ∃ (o:Obj) (its:Array Value) (n:Nat),K.lookup a=some o/\o.cls=.type "list"/\o.dict=none/\o.data=.seq its n/\its.size<=sizeLine/\Vals xs its.toList
def n4(K:PySem.W.Frag)(H:Hp)(a:Addr)(xs:List V):Prop :=
 Rd H a (.tup xs) \/
  ∃ (o:Obj) (its:Array Value) (n:Nat),K.lookup a=some o/\o.cls=.type "tuple"/\o.data=.seq its n/\its.size<=sizeLine/\Vals xs its.toList
def Xr:Value->Option V
 |.none=>some .non
 |.bool b=>some (.bl b)
 |.int i _=>some (.int i)
 |.str x _=>some (.str x)
 |.bytes b _=>some (.sN b)
 |.float b _=>some (.An b)
 |.ref a=>some (.ref a)
 |.type n=>some (.ty n)
 |_=>none
theorem RelV.abs(r:RelV x u):Xr u=some x:=by
 cases x with
 |non=>cases r;rfl
 |bl _=>cases r;rfl
 |int _=>obtain⟨t,rfl⟩:=r;rfl
 |str _=>obtain⟨t,rfl⟩:=r;rfl
 |sN _=>obtain⟨t,rfl⟩:=r;rfl
 |An _=>obtain⟨t,rfl⟩:=r;rfl
 |ref _=>cases r;rfl
 |ty _=>cases r;rfl
theorem RelV.inj(r:RelV x u)(q:RelV y u):x=y:=Option.some.inj (r.abs.symm.trans q.abs)
theorem Vals.inj:∀ {xs ys:List V} {us:List Value},Vals xs us->Vals ys us->xs=ys
 |_,_,_,.nil,.nil=>rfl
 |_,_,_,.cons r t,.cons r' t'=>by rw[r.inj r',Vals.inj t t']
section
variable {X:Cx}{pins:List (Addr × Obj)}{σ:St}{H:Hp}{s:Shared}{a:Addr}{xs ys:List V}
theorem Inv.list(I:Inv X pins σ H s)(h:eh X.K H a xs):∃ its:List Value,Vals xs its/\PlainL s.heap a its.toArray/\xs.length<=sizeLine:=by
 rcases h with h|⟨o,its,n,hk,hc,hd,hs,hz,r⟩
 ·obtain⟨z,its,n,r,e⟩:=h.ok I.bp
  exact⟨its,r,⟨_,n,e,rfl,rfl,rfl⟩,z⟩
 ·refine⟨its.toList,r,⟨o,n,I.js a o hk,hc,hd,by simpa using hs⟩,?_⟩
  have e:=r.length
  simp only[zS] at e
  lia
theorem Inv.tuple(I:Inv X pins σ H s)(h:n4 X.K H a xs):∃ its:List Value,Vals xs its/\IsTup s.heap a its.toArray/\xs.length<=sizeLine:=by
 rcases h with h|⟨o,its,n,hk,hc,hs,hz,r⟩
 ·obtain⟨z,its,r,p⟩:=h.ok I.bp
  exact⟨its,r,p,z⟩
 ·refine⟨its.toList,r,⟨o,I.js a o hk,hc,n,by simpa using hs⟩,?_⟩
  have e:=r.length
  simp only[zS] at e
  lia
theorem Inv.Xs(I:Inv X pins σ H s)(h:eh X.K H a xs)(h':eh X.K H a ys):xs=ys:=by
 obtain⟨its,r,⟨o,n,e,_,_,d⟩,_⟩:=I.list h
 obtain⟨its',r',⟨o',n',e',_,_,d'⟩,_⟩:=I.list h'
 rw[e] at e';cases e'
 rw[d] at d'
 injection d' with d1 _
 have:its=its':=by simpa using congrArg Array.toList d1
 subst this
 exact r.inj r'
end
abbrev Cx.wish(X:Cx)(E:Value->Shared->Prop):Cx:={ X with xe:=E }
abbrev Cx.Kk(X:Cx):Cx:=X.wish fun _ _=>False
theorem Cx.Ok.wish{X:Cx}(ok:X.Ok)(E:Value->Shared->Prop):(X.wish E).Ok :=
 ⟨ok.mod,ok.kind,ok.glob,ok.blt,ok.above,ok.inj,ok.has,ok.yb,ok.hd,ok.frames,ok.Au,ok.AA,ok.bs,ok.sQ,ok.yi,ok.yk,ok.oB,ok.wa⟩
theorem Cx.Ok.BU{X:Cx}(ok:(X.wish E).Ok):X.Ok :=
 ⟨ok.mod,ok.kind,ok.glob,ok.blt,ok.above,ok.inj,ok.has,ok.yb,ok.hd,ok.frames,ok.Au,ok.AA,ok.bs,ok.sQ,ok.yi,ok.yk,ok.oB,ok.wa⟩
section
variable {X:Cx}{pins:List (Addr × Obj)}{σ:St}{H:Hp}{s:Shared}{E:Value->Shared->Prop}
theorem Inv.wish(I:Inv X pins σ H s)(E:Value->Shared->Prop):Inv (X.wish E) pins σ H s:=⟨I.ok.wish E,I.os,I.bare,I.base,I.loc,I.cell,I.free,I.mh,I.pin,I.bp,I.len⟩
theorem Inv.BU(I:Inv (X.wish E) pins σ H s):Inv X pins σ H s:=⟨I.ok.BU,I.os,I.bare,I.base,I.loc,I.cell,I.free,I.mh,I.pin,I.bp,I.len⟩
theorem SP.BU{D:Ends}(h:SP (X.wish E) pins D f s'):SP X pins D f s':=by
 cases f with
 |next=>obtain⟨aI,H',I,q⟩:=h;exact⟨aI,H',I.BU,q⟩
 |brk=>obtain⟨aI,H',I,q⟩:=h;exact⟨aI,H',I.BU,q⟩
 |cont=>obtain⟨aI,H',I,q⟩:=h;exact⟨aI,H',I.BU,q⟩
 |ret u=>obtain⟨v,aI,H',I,r,q⟩:=h;exact⟨v,aI,H',I.BU,r,q⟩
theorem kX.Kk{st:List Stmt}(h:kX X.Kk st t):kX X st t:=fun pins s σ H D I hw =>
 oy (h pins s σ H D (I.wish _) hw) (fun _ _ q=>q.BU) fun _ _ z=>False.elim z
end
section
variable {X:Cx}{st:Stmt}{rest:List Stmt}{t u:TS}{e:Expr}{te:TE}{pos:Pos}
def Xt:TS:=fun D σ H=>D.nx σ H
def Tg(t u:TS):TS:=fun D σ H=>t { D with nx:=u D } σ H
theorem Xu:kX X [] Xt:=fun _ _ σ H _ I h=>wpAny_execs_nil ⟨σ,H,I,h⟩
theorem Ti(h1:PS X st t)(h2:kX X rest u):kX X (st :: rest) (Tg t u):=by
 intro pins s σ H D I h
 refine wpAny_execs_cons (ck (h1 pins s σ H { D with nx:=u D } I h) fun f s1 q=>?_)
 cases f with
 |next =>
  obtain⟨aI,H',I',q⟩:=q
  exact h2 pins s1 aI H' D I' q
 |ret v=>exact q
 |brk=>exact q
 |cont=>exact q
theorem Pm(h1:PS X st t):kX X [st] t:=by
 intro pins s σ H D I h
 refine wpAny_execs_cons (ck (h1 pins s σ H D I h) fun f s1 q=>?_)
 cases f with
 |next=>exact wpAny_execs_nil q
 |ret v=>exact q
 |brk=>exact q
 |cont=>exact q
theorem Inv.quiet(I:Inv X pins σ H s):interactive X.env=false:=by simp[interactive,I.ok.kind]
def Xv(te:TE):TS:=fun D σ H=>te σ H fun _ H1=>D.nx σ H1
theorem Pn(he:PE X e te)(hs:swapsWith e none pos.line X.env=pure false:=by rfl):PS X (.Expr e pos) (Xv te):=by
 intro pins s σ H D I h
 exact wpAny_Expr_any (ck (he pins s σ H _ I h) fun v s1 cw=>L2.gi cw fun x H1 I1 r1 q1=>⟨σ,H1,I1,q1⟩) I.quiet hs
def Xw(te:TE):TS:=fun D σ H=>te σ H D.rt
theorem Tj(he:PE X e te):PS X (.Return (some e) pos) (Xw te):=by
 intro pins s σ H D I h
 exact wpAny_Return_some (ck (he pins s σ H _ I h) fun v s1 cw=>L2.gi cw fun x H1 I1 r1 q1=>⟨x,σ,H1,I1,r1,q1⟩)
def Xx(c:TT)(t u:TS):TS:=fun D σ H=>c σ H fun b H1=>if b=true then t D σ H1 else u D σ H1
theorem Xy(hc:PT X c tc)(ha:kX X a t)(hb:kX X b u):PS X (.If c a b pos) (Xx tc t u):=by
 intro pins s σ H D I h
 refine wpAny_If (ck (hc pins s σ H _ I h) fun d s1 df=>?_)
 obtain⟨H1,I1,q1⟩:=df
 cases d with
 |true=>exact ha pins s1 σ H1 D I1 q1
 |false=>exact hb pins s1 σ H1 D I1 q1
end
abbrev TG:=V->St->Hp->(St->Hp->Prop)->Prop
abbrev FP:=List V->St->Hp->(St->Hp->Prop)->Prop
def PG(X:Cx)(target:Expr)(t:TG):Prop :=
 ∀ (pins:List (Addr × Obj)) (s:Shared) (σ:St) (H:Hp) (v:V) (u:Value) (Q:St->Hp->Prop),Inv X pins σ H s->RelV v u->t v σ H Q ->
  wpAny (model X.prog X.w) X.A (assign target X.env u) (fun _ s'=>∃ aI H',Inv X pins aI H' s'/\Q aI H') X.xe s
def yv(X:Cx)(ts:List Expr)(t:FP):Prop :=
 ∀ (pins:List (Addr × Obj)) (s:Shared) (σ:St) (H:Hp) (vs:List V) (us:List Value) (Q:St->Hp->Prop),Inv X pins σ H s->Vals vs us->t vs σ H Q ->
  wpAny (model X.prog X.w) X.A (assignInOrder ((assignEach ts X.env).map (·.2)) us) (fun _ s'=>∃ aI H',Inv X pins aI H' s'/\Q aI H') X.xe s
section
variable {X:Cx}{pos:Pos}
def Pp(i:Nat):TG:=fun v σ H Q=>Q (σ.set i (some v)) H
theorem Pq(hN:X.N.Nodup)(hi:X.N[i]? = some x)(hx:Loc X.env.scope x)(hf:X.fn x=true\/X.env.scope.names.lookup x=some .local:=by first|exact .inl rfl|exact .inr rfl|assumption):PG X (.Name x pos) (Pp i):=by
 intro pins s σ H v u Q I r h
 exact wpAny_assign_Name (Te I hN hi hx r (fun s' I'=>⟨_,H,I',h⟩) hf)
def Xz:FP:=fun vs σ H Q=>vs=[]/\Q σ H
def XA(t:TG)(u:FP):FP:=fun vs σ H Q=>∃ v r,vs=v :: r/\t v σ H fun aI H'=>u r aI H' Q
theorem Tn:yv X [] Xz:=by
 intro pins s σ H vs us Q I r h
 obtain⟨e,h⟩:=h
 subst e
 cases r
 exact assignInOrder_nil ⟨σ,H,I,h⟩
theorem Pt(h1:PG X e t)(h2:yv X es u)
  (hs:(assignEach (e :: es) X.env).map (·.2)=assign e X.env :: (assignEach es X.env).map (·.2):=by rfl):yv X (e :: es) (XA t u):=by
 intro pins s σ H vs us Q I r h
 obtain⟨v,vr,e1,h⟩:=h
 subst e1
 cases r with
 |cons r rr =>
  rw[hs]
  refine assignInOrder_cons (ck (h1 pins s σ H _ _ _ I r h) fun _ s1 df=>?_)
  obtain⟨FR,H1,I1,q1⟩:=df
  exact h2 pins s1 FR H1 _ _ Q I1 rr q1
def XB(K:PySem.W.Frag)(n:Nat)(t:FP):TG:=fun v σ H Q=>∃ a xs,v=.ref a/\n4 K H a xs/\xs.length=n/\t xs σ H Q
theorem To(hc:X.calm=true)(h:yv X es t)
  (hn:(assignEach es X.env).length=n:=by rfl) (jv:(assignEach es X.env).findIdx? (·.1)=none:=by rfl):PG X (.Tuple es k pos) (XB X.K n t):=by
 intro pins s σ H v u Q I r hw
 obtain⟨a,xs,e1,hq,hl,hw⟩:=hw
 subst e1
 cases r
 obtain⟨its,rv,ht,hz⟩:=I.tuple hq
 refine assign_Tuple_tuple (I.ok.hd hc) ht (by simp[hn,<- hl,rv.length]) jv fun h' hx=>?_
 have I1:Inv X pins σ H { s with heap:=h' }:=I.kept (t':=s.toks) fun b o e=>hx b o (eP (dn e)) e
 exact h pins _ σ H xs _ Q I1 (by simpa using rv) hw
def Pu(te:TE)(g:TG):TS:=fun D σ H=>te σ H fun x H1=>g x σ H1 D.nx
theorem XC(he:PE X e te)(hg:PG X tg g)(hs:swapsWithSole [tg] e pos.line X.env=pure false:=by rfl)(hw:swappedStores [tg] e X.env=pure none:=by rfl)
  (h1:(assignEach [tg] X.env).map (·.2)=[assign tg X.env]:=by rfl):PS X (.Assign [tg] e pos) (Pu te g):=by
 intro pins s σ H D I h
 refine wpAny_Assign_stores (ck (he pins s σ H _ I h) fun v s1 cw=>L2.gi cw fun x H1 I1 r1 q1=>?_) hs hw
 rw[h1]
 exact ck (hg pins s1 σ H1 x v _ I1 r1 q1) fun _ s2 q=>q
theorem Pw(hN:X.N.Nodup)(hi:X.N[i]? = some x)(hx:Loc X.env.scope x)(he:PE X e te)(hs:swapsWith e (some (.Name x pos')) pos.line X.env=pure false:=by rfl)(hf:X.fn x=true\/X.env.scope.names.lookup x=some .local:=by first|exact .inl rfl|exact .inr rfl|assumption) :
  PS X (.Assign [.Name x pos'] e pos) (Pu te (Pp i)):=by
 intro pins s σ H D I h
 refine wpAny_Assign_Name (ck (he pins s σ H _ I h) fun v s1 cw=>L2.gi cw fun y H1 I1 r1 q1=>?_) hs
 exact Te I1 hN hi hx r1 (fun s2 I2=>⟨_,H1,I2,q1⟩) hf
def XD(c:TT)(tb:TS):TS:=fun D σ H=>∃ W:Nat->St->Hp->Prop,(∃ m,W m σ H)/\∀ m σ H,W m σ H ->
 c σ H fun b H1=>if b=true then ∃ N:St->Hp->Prop,(∀ aI H',N aI H'->∃ m',m'<m/\W m' aI H')/\tb { D with nx:=N,ct:=N,bk:=D.nx } σ H1 else D.nx σ H1
theorem XE(hp:PassesOwn (model X.prog X.w) X.A X.env X.xe)(hc:PT X c tc)(hb:kX X body tb):PS X (.While c body [] pos) (XD tc tb):=by
 intro pins s σ H D I h
 obtain⟨W,⟨m0,w0⟩,turn⟩:=h
 refine wpAny_While (codeAny_whileLoop (fun n s'=>∃ aI H',Inv X pins aI H' s'/\W n aI H') ?_ m0 ⟨σ,H,I,w0⟩)
 rintro n s1 ⟨FR,H1,I1,w1⟩
 refine wpAny_passesOwn hp (ck (hc pins s1 FR H1 _ I1 (turn n FR H1 w1)) fun b s2 df=>?_)
 obtain⟨H2,I2,q2⟩:=df
 cases b with
 |true =>
  obtain⟨N,hN,q2⟩:=q2
  rw[if_pos rfl]
  refine wpAny_passesOwn hp (ck (hb pins s2 FR H2 _ I2 q2) fun f s3 q3=>?_)
  cases f with
  |next =>
   obtain⟨oC,H3,I3,n3⟩:=q3
   obtain⟨m',hm,w3⟩:=hN oC H3 n3
   exact⟨m',hm,oC,H3,I3,w3⟩
  |cont =>
   obtain⟨oC,H3,I3,n3⟩:=q3
   obtain⟨m',hm,w3⟩:=hN oC H3 n3
   exact⟨m',hm,oC,H3,I3,w3⟩
  |brk=>exact q3
  |ret v=>exact q3
 |false =>
  rw[if_neg gI]
  exact wpAny_execs_nil ⟨FR,H2,I2,q2⟩
end
structure It where
 go:Nat->Hp->Prop
 mS:Nat->Hp->V->Hp->Prop
 stop:Nat->Hp->Prop
def yy(X:Cx)(pins:List (Addr × Obj))(H:Hp)(b:Addr):Prop :=
 H b=none/\b≠X.env.locals/\b∉X.fs/\(b∈X.ex\/X.dz.heap.objs.size<=b)/\(∀ x c,X.env.cells.lookup x=some c->c≠b)/\∀ p∈X.pn++pins,p.1≠b
theorem Inv.Px{X:Cx}(I:Inv X pins σ H s)(hb:s.heap.objs.size<=b)(hn:H' b=none):yy X pins H' b:=by
 refine⟨hn,Jn (kA I.lt hb),I.W8 hb,.inr (hG I.sz hb),fun x c e z=>?_,fun p hp z=>?_⟩
 ·obtain⟨v,q⟩:=I.cell x c e
  exact absurd (kA q.lt (by rw[z];exact hb)) (rj _)
 ·exact absurd (kA (dn (I.pin p hp).1) (by rw[z];exact hb)) (rj _)
structure Turn(P:Program)(w:World)(K:PySem.W.Frag)(tg:Expr)(J:It)(fp:List Addr)(it:Addr)(tn:Nat->Heap->Prop):Prop where
 mem:it∈fp
 obj:∀ i h,tn i h->∀ b∈fp,∃ o,h.get? b=some o/\∀ v,o.data≠.cell v
 keep:∀ i h h',tn i h->(∀ b∈fp,∀ o,h.get? b=some o->h'.get? b=some o)->tn i h'
 item:∀ (X:Cx),X.prog=P->X.w=w->X.K=K->X.calm=true->∀ (i:Nat) (pins:List (Addr × Obj)) (s:Shared) (σ:St) (H:Hp) (E:Value->Shared->Prop),Inv X pins σ H s->(∀ b∈fp,yy X pins H b)->tn i s.heap->J.go i H ->
  wpAny (model P w) X.A (pyNext (.ref it)) (fun r s1=>∃ u,r=some u /\
   wpAny (model P w) X.A (letOwnedTupleGo tg (.ref it) u) (fun _ s2=>∃ x H',Inv X pins σ H' s2/\RelV x u/\J.mS i H x H'/\tn (i+1) s2.heap/\∀ b∈fp,H' b=none) E s1) E s
 done:∀ (X:Cx),X.prog=P->X.w=w->X.K=K->X.calm=true->∀ (i:Nat) (pins:List (Addr × Obj)) (s:Shared) (σ:St) (H:Hp) (E:Value->Shared->Prop),Inv X pins σ H s->(∀ b∈fp,yy X pins H b)->tn i s.heap->J.stop i H ->
  wpAny (model P w) X.A (pyNext (.ref it)) (fun r s1=>r=none/\Inv X pins σ H s1) E s
 self:∀ (A:Around) (i:Nat) (s:Shared) (Q:Value->Shared->Prop) (E:Value->Shared->Prop),tn i s.heap->Q (.ref it) s->wpAny (model P w) A (pyIter (.ref it)) Q E s
abbrev TI:=St->Hp->(It->Hp->Prop)->Prop
def Tp(X:Cx)(pins:List (Addr × Obj))(σ:St)(tg:Expr)(R:It->Hp->Prop)(Py:Value)(s2:Shared):Prop :=
 ∃ (it:Addr) (fp:List Addr) (tn:Nat->Heap->Prop) (J:It) (H':Hp),Py=.ref it/\Inv X pins σ H' s2/\Turn X.prog X.w X.K tg J fp it tn/\tn 0 s2.heap/\(∀ b∈fp,yy X pins H' b)/\R J H'
def PI(X:Cx)(tg iter:Expr)(wi:TI):Prop :=
 ∀ (pins:List (Addr × Obj)) (s:Shared) (σ:St) (H:Hp) (R:It->Hp->Prop),Inv X pins σ H s->wi σ H R ->
  wpAny (model X.prog X.w) X.A (eval iter X.env) (fun v s1=>wpAny (model X.prog X.w) X.A (pyIter v) (Tp X pins σ tg R) X.xe s1) X.xe s
theorem Tq(ho:s.heap.get? it=some o)(hc:o.cls=.type n)(hd:o.data=.fields vs)
  (hn:["enumerate", "zip", "dict_itemiterator", "dict_reverseitemiterator", "odict_iterator", "itertools.zip_longest", "itertools.pairwise"].contains n=false) (hQ:Q () s):wpAny M A (letOwnedTupleGo tg (.ref it) u) Q E s:=by
 unfold letOwnedTupleGo
 cases tg<;>first
  |exact aE hQ
  | (cases u<;>first
     |exact aE hQ
     | (refine ah (wpAny_load ho ?_)
        rw[hc,hd]
        show wpAny M A (if (["enumerate", "zip", "dict_itemiterator", "dict_reverseitemiterator", "odict_iterator", "itertools.zip_longest", "itertools.pairwise"].contains n && vs[0]? == some (rawInt _))=true then _ else _) Q E s
        rw[if_neg (by intro h;rw[hn,Bool.false_and] at h;cases h)]
        exact aE hQ))
def M6(K:PySem.W.Frag)(a:Addr):It :=
 ⟨fun i H=>∃ xs x,eh K H a xs/\xs[i]? = some x,fun i H x H'=>H'=H/\∀ xs,eh K H a xs->xs[i]? = some x,fun i H=>∃ xs,eh K H a xs/\xs.length<=i⟩
def FT(lo:Int)(n:Nat):It:=⟨fun i _=>i<n,fun i H x H'=>H'=H/\x=.int (lo+i),fun i _=>n<=i⟩
theorem XF{P:Program}{K:PySem.W.Frag}(a it:Addr):Turn P w K tg (M6 K a) [it] it (fun i h=>h.IsListIter it a i) where
 mem:=by simp
 obj:=fun i h st b hb=>by
  have e:b=it:=by simpa using hb
  subst e
  obtain⟨o,e,c,d⟩:=st
  exact⟨o,e,fun v z=>by rw[d] at z;cases z⟩
 keep:=fun i h h' st k=>st.at fun o e=>k it (by simp) o e
 item:=by
  intro X hP hw hK hc i pins s σ H E I hf st hg
  subst hP hw hK
  obtain⟨xs,x,hq,hx⟩:=hg
  obtain⟨its,rv,p,hz⟩:=I.list hq
  obtain⟨u,hu,ru⟩:=rv.get hx
  obtain⟨f0,f1,f2,f3,f4,f5⟩:=hf it (by simp)
  refine wpAny_pyNext_list_item st p.isList (x:=u) (by simpa using hu) fun h' ae sb=>?_
  have I1:Inv X pins σ H { s with heap:=h' }:=I.turned (t':=s.toks) (fun b o hb e=>(sb.2 b hb).trans e) f0 f1 f3 f4 f5
  obtain⟨o,e,c,d⟩:=id ae
  exact⟨u,rfl,Tq (s:={ s with heap:=h' }) e c d (by decide) ⟨x,H,I1,ru,⟨rfl,fun ys hy=>by rw[I.Xs hy hq];exact hx⟩,ae,fun b hb=>(hf b hb).1⟩⟩
 done:=by
  intro X hP hw hK hc i pins s σ H E I hf st hg
  subst hP hw hK
  obtain⟨xs,hq,hx⟩:=hg
  obtain⟨its,rv,p,hz⟩:=I.list hq
  obtain⟨f0,f1,f2,f3,f4,f5⟩:=hf it (by simp)
  have hl:=rv.length
  exact wpAny_pyNext_list_end (I.ok.hd hc) st p.isList (by simp;lia) fun h' eb=>⟨rfl,I.turned (t':=s.toks) (fun b o hb e=>eb b o hb e) f0 f1 f3 f4 f5⟩
 self:=fun _ _ _ _ _ st h=>wpAny_pyIter_listiter st h
theorem XG{P:Program}{K:PySem.W.Frag}(it:Addr)(lo:Int)(n:Nat):Turn P w K tg (FT lo n) [it] it (fun i h=>IsRangeIter h it (lo+(i:Nat)*1) ((n:Int)-(i:Nat)) 1) where
 mem:=by simp
 obj:=fun i h st b hb=>by
  have e:b=it:=by simpa using hb
  subst e
  exact⟨_,st,fun v z=>by
   have z':Data.fields _=Data.cell v:=z
   cases z'⟩
 keep:=fun i h h' st k=>k it (by simp) _ st
 item:=by
  intro X hP hw hK hc i pins s σ H E I hf st hg
  subst hP hw hK
  obtain⟨f0,f1,f2,f3,f4,f5⟩:=hf it (by simp)
  have W:=Walks.range (prog:=X.prog) (w:=X.w) (I.ok.hd hc) it lo 1 n
  refine W.item i s _ _ hg st fun v h' tk hv ae kk=>?_
  obtain⟨t,rfl⟩:=hv
  have I1:Inv X pins σ H { s with heap:=h',toks:=tk }:=I.turned (fun b o hb e=>kk b o (by simpa using hb) e) f0 f1 f3 f4 f5
  refine⟨_,rfl,Tq (s:={ s with heap:=h',toks:=tk }) (n := "range_iterator") ae rfl rfl (by decide) ⟨.int (lo+i),H,I1,⟨t,?_⟩,⟨rfl,rfl⟩,ae,fun b hb=>(hf b hb).1⟩⟩
  rw[Int.mul_one]
 done:=by
  intro X hP hw hK hc i pins s σ H E I hf st hg
  subst hP hw hK
  obtain⟨f0,f1,f2,f3,f4,f5⟩:=hf it (by simp)
  exact wpAny_pyNext_range_end (I.ok.hd hc) st (by have:n<=i:=hg;lia) fun h' eb=>⟨rfl,I.turned (t':=s.toks) (fun b o hb e=>eb b o hb e) f0 f1 f3 f4 f5⟩
 self:=fun _ _ _ _ _ st h=>wpAny_pyIter_rangeiter st h
section
variable {X:Cx}{tg:Expr}
def XH(K:PySem.W.Frag)(tl:TE):TI:=fun σ H R=>tl σ H fun x H1=>∃ a,x=.ref a/\(∃ xs,eh K H1 a xs)/\R (M6 K a) H1
theorem Tr(hl:PE X l tl):PI X tg l (XH X.K tl):=by
 intro pins s σ H R I h
 refine ck (hl pins s σ H _ I h) fun v s1 cw=>L2.gi cw fun x H1 I1 r1 q1=>?_
 obtain⟨a,e,⟨xs,hq⟩,q⟩:=q1
 subst e
 cases r1
 obtain⟨its,rv,p,hz⟩:=I1.list hq
 refine wpAny_pyIter_list p.isList ?_
 refine⟨s1.heap.objs.size,[s1.heap.objs.size],_,_,H1,rfl,I1.kept (t':=s1.toks) fun b o e=>eS _ e,XF a _,⟨_,i6 _ rfl,rfl,rfl⟩,fun b hb=>?_,q⟩
 have e:b=s1.heap.objs.size:=by simpa using hb
 subst e
 exact I1.Px (bX _) (I1.bp.fresh (bX _))
theorem XI{R:It->Hp->Prop}{lo hi:Int}(I:Inv X pins σ H s)(h1:-(2 ^ 62)<=lo)(h2:lo<2 ^ 62)(h3:-(2 ^ 62)<=hi)(h4:hi<2 ^ 62)
  (q:R (FT lo (hi-lo).toNat) H):wpAny (model X.prog X.w) X.A (pyIter (.ref s.heap.objs.size)) (Tp X pins σ tg R) E { s with heap:=s.heap.push { cls:=.type "range",data:=.fields #[.int lo t,.int hi u,.int 1 v] },toks:=tk }:=by
 refine wpAny_pyIter_range (IsRange.new ..) (small_one h1 h2 h3 h4) ?_
 have I1:Inv X pins σ H { s with heap:=s.heap.push { cls:=.type "range",data:=.fields #[.int lo t,.int hi u,.int 1 v] },toks:=tk }:=I.kept fun b o e=>eS _ e
 refine⟨(s.heap.push { cls:=.type "range",data:=.fields #[.int lo t,.int hi u,.int 1 v] }).objs.size,[(s.heap.push { cls:=.type "range",data:=.fields #[.int lo t,.int hi u,.int 1 v] }).objs.size],_,_,H,rfl,
  I1.kept (t':=tk) fun b o e=>eS _ e,XG _ lo (hi-lo).toNat,?_,fun b hb=>?_,q⟩
 ·have e1:lo+((0:Nat):Int)*1=lo:=by simp
  have e2:(((hi-lo).toNat:Nat):Int)-((0:Nat):Int)=Builtin.Range.rangeSize lo hi 1:=by rw[rangeSize_one];split<;>lia
  show IsRangeIter _ _ (lo+((0:Nat):Int)*1) ((((hi-lo).toNat:Nat):Int)-((0:Nat):Int)) 1
  rw[e1,e2]
  exact i6 _ rfl
 ·have e:b=(s.heap.push { cls:=.type "range",data:=.fields #[.int lo t,.int hi u,.int 1 v] }).objs.size:=by simpa using hb
  subst e
  exact I1.Px (bX _) (I1.bp.fresh (bX _))
def XJ(ta:TA):TI:=fun σ H R=>ta σ H fun vs H1=>∃ j:Int,vs=[.int j]/\-(2 ^ 62)<=j/\j<2 ^ 62/\R (FT 0 j.toNat) H1
theorem XM (hg:Gl X "range") (hm:X.mg "range" = none) (ha:PA X [a] ta) (hs:starEach [a] X.env=[(false,eval a X.env)]:=by rfl):PI X tg (.Call (.Name "range" p) [a] [] pos) (XJ ta):=by
 intro pins s σ H R I h
 refine Call_ (FL I hg hm boot_range (PyProof.Rows.callWith_type1 (ck (ha pos pins s σ H _ I h) fun us s1 cw=>L2.gi cw fun vs H1 I1 r1 q1=>?_) hs rfl))
 obtain⟨j,e,q1,q2,q⟩:=q1
 subst e
 cases r1 with
 |cons r rr =>
  cases rr
  obtain⟨t,rfl⟩:=r
  exact call_range_1 (XI I1 (by lia) (by lia) q1 q2 (by simpa using q))
def Ts(wi:TI)(g:TG)(tb:TS):TS:=fun D σ H=>wi σ H fun J H1=>∃ W:Nat->Nat->St->Hp->Prop,(∃ m,W 0 m σ H1)/\∀ i m σ H,W i m σ H ->
 (J.stop i H/\D.nx σ H)\/(J.go i H/\∃ N:St->Hp->Prop,(∀ aI H',N aI H'->∃ m',m'<m/\W (i+1) m' aI H')/\∀ x H',J.mS i H x H'->g x σ H' fun fS H2=>tb { D with nx:=N,ct:=N,bk:=D.nx } fS H2)
def Kx(fp:List Addr)(h:Heap):List (Addr × Obj):=fp.filterMap fun b=>(h.get? b).map fun o=>(b,o)
theorem M7(hb:b∈fp)(e:h.get? b=some o):(b,o)∈Kx fp h:=OQ.mpr ⟨b,hb,by rw[e];rfl⟩
theorem XO(hp:p∈Kx fp h):p.1∈fp/\h.get? p.1=some p.2:=by
 obtain⟨b,hb,e⟩:=OQ.mp hp
 cases q:h.get? b with
 |none=>rw[q] at e;cases e
 |some o =>
  rw[q] at e
  have e':(b,o)=p:=Option.some.inj e
  subst e'
  exact⟨hb,q⟩
theorem Inv.pinned(I:Inv X pins σ H s)(hf:∀ b∈fp,yy X pins H b)(ho:∀ b∈fp,∃ o,s.heap.get? b=some o/\∀ v,o.data≠.cell v):Inv X (pins++Kx fp s.heap) σ H s :=
 I.S_ fun p hp=>(dP.mp hp).elim (fun z=>I.pin p (fe _ z)) fun z=>by
  obtain⟨hb,e⟩:=XO z
  obtain⟨f0,f1,f2,_⟩:=hf p.1 hb
  obtain⟨o,e',d⟩:=ho p.1 hb
  rw[e] at e';cases e'
  exact⟨e,f0,f1,f2,d⟩
theorem Inv.M8(I:Inv X (pins++pl) σ H s):Inv X pins σ H s:=I.S_ fun p hp=>I.pin p (fe _ (i5 _ hp))
theorem XQ(hp:PassesOwn (model X.prog X.w) X.A X.env X.xe)(hc:X.calm=true)(hi:PI X tg iter wi)(hg:PG X tg g)(hb:kX X body tb)
  (hs:∀ x,foldedSetIterable iter X.env x=pure x:=by intro _;rfl):PS X (.For tg iter body [] pos) (Ts wi g tb):=by
 intro pins s σ H D I h
 refine wpAny_For (ck (hi pins s σ H _ I h) fun v s1 h1=>ck h1 fun Py s2 h2=>?_) hs
 obtain⟨it,fp,tn,J,H2,e,I2,T,uj,f2,W,⟨m0,w0⟩,turn⟩:=h2
 subst e
 -- what stays true of the iterator's objects through the loop
 have stat:∀ {H':Hp},(∀ b∈fp,H' b=none)->∀ b∈fp,yy X pins H' b:=fun hn b hb=>⟨hn b hb,(f2 b hb).2⟩
 refine codeAny_forLoop_any (fun n s'=>∃ i aI H',Inv X pins aI H' s'/\tn i s'.heap/\(∀ b∈fp,H' b=none)/\W i n aI H') ?_ m0 ⟨0,σ,H2,I2,uj,fun b hb=>(f2 b hb).1,w0⟩
 rintro n s3 ⟨i,oC,H3,I3,uk,Tt,w3⟩
 rcases turn i n oC H3 w3 with⟨stop,qn⟩|⟨go,N,hN,step⟩
 ·refine wpAny_passesOwn hp (ck (T.done X rfl rfl rfl hc i pins s3 oC H3 X.xe I3 (stat Tt) uk stop) fun r s4 df=>?_)
  obtain⟨hr,I4⟩:=df
  subst hr
  exact wpAny_execs_nil ⟨oC,H3,I4,qn⟩
 ·refine wpAny_passesOwn hp (ck (T.item X rfl rfl rfl hc i pins s3 oC H3 X.xe I3 (stat Tt) uk go) fun r s4 df=>?_)
  obtain⟨u,hr,h4⟩:=df
  subst hr
  refine wpAny_passesOwn hp (ck h4 fun _ s5 df=>?_)
  obtain⟨x,H5,I5,r5,y5,DV,M9⟩:=df
  have XR:=I5.pinned (stat M9) (T.obj _ _ DV)
  refine wpAny_passesOwn hp (ck (hg _ s5 oC H5 x u _ XR r5 (step x H5 y5)) fun _ s6 df=>?_)
  obtain⟨XS,H6,I6,q6⟩:=df
  refine wpAny_passesOwn hp (ck (hb _ s6 XS H6 _ I6 q6) fun f s7 q7=>?_)
  have again:∀ {wd:St} {H7:Hp},Inv X (pins++Kx fp s5.heap) wd H7 s7->N wd H7->∃ m,m<n/\∃ i aI H',Inv X pins aI H' s7/\tn i s7.heap/\(∀ b∈fp,H' b=none)/\W i m aI H':=fun {wd H7} I7 n7=>by
   obtain⟨m',hm,w7⟩:=hN wd H7 n7
   refine⟨m',hm,i+1,wd,H7,I7.M8,T.keep _ _ _ DV fun b hb o e=>(I7.pin (b,o) (fe _ (fe _ (M7 hb e)))).1,fun b hb=>?_,w7⟩
   obtain⟨o,e,d⟩:=T.obj _ _ DV b hb
   exact(I7.pin (b,o) (fe _ (fe _ (M7 hb e)))).2.1
  cases f with
  |next=>obtain⟨wd,H7,I7,n7⟩:=q7;exact again I7 n7
  |cont=>obtain⟨wd,H7,I7,n7⟩:=q7;exact again I7 n7
  |brk=>obtain⟨wd,H7,I7,q7⟩:=q7;exact⟨wd,H7,I7.M8,q7⟩
  |ret v=>obtain⟨x7,wd,H7,I7,r7,q7⟩:=q7;exact⟨x7,wd,H7,I7.M8,r7,q7⟩
end
abbrev R2:=V->V->Hp->VK->Prop
def cq(X:Cx)(f:Value->Value->Sem Value)(r:R2):Prop :=
 ∀ (pins:List (Addr × Obj)) (s:Shared) (σ:St) (H:Hp) (x y:V) (v u:Value) (Q:VK),Inv X pins σ H s->RelV x v->RelV y u->r x y H Q ->
  wpAny (model X.prog X.w) X.A (f v u) (EP X pins σ Q) X.xe s
def M_(X:Cx)(f:Value->Sem Value)(r:V->Hp->VK->Prop):Prop :=
 ∀ (pins:List (Addr × Obj)) (s:Shared) (σ:St) (H:Hp) (x:V) (v:Value) (Q:VK),Inv X pins σ H s->RelV x v->r x H Q ->
  wpAny (model X.prog X.w) X.A (f v) (EP X pins σ Q) X.xe s
def iO(X:Cx)(f:Value)(r:List V->Hp->VK->Prop):Prop :=
 ∀ (pins:List (Addr × Obj)) (s:Shared) (σ:St) (H:Hp) (xs:List V) (us:List Value) (Q:VK),Inv X pins σ H s->Vals xs us->r xs H Q ->
  wpAny (model X.prog X.w) X.A (call f us) (EP X pins σ Q) X.xe s
def KG(r:R2)(ta tb:TE):TE:=fun σ H Q=>ta σ H fun x H1=>tb σ H1 fun y H2=>r x y H2 Q
def Tv(r:V->Hp->VK->Prop)(ta:TE):TE:=fun σ H Q=>ta σ H fun x H1=>r x H1 Q
def rI(C:Int->Int->Prop)(g:Int->Int->V):R2:=fun x y H Q=>∃ i j,x=.int i/\y=.int j/\C i j/\Q (g i j) H
def DZ(g:Int->Int->V):R2:=fun x y H Q=>∃ i j,x=.int i/\y=.int j/\Q (g i j) H
def rU(g:Int->V):V->Hp->VK->Prop:=fun x H Q=>∃ i,x=.int i/\Q (g i) H
section
variable {X:Cx}{a b:Expr}{ta tb:TE}{pos:Pos}
theorem Pz(ha:PE X a ta)(hb:PE X b tb){pins:List (Addr × Obj)}{s:Shared}{σ:St}{H:Hp}{R:V->V->Hp->Prop}(I:Inv X pins σ H s)
  (h:ta σ H fun x H1=>tb σ H1 fun y H2=>R x y H2) {Q:Value->Shared->Prop} {f:Value->Value->Sem Value}
  (hf:∀ v u s2 x y H2,Inv X pins σ H2 s2->RelV x v->RelV y u->R x y H2->wpAny (model X.prog X.w) X.A (f v u) Q X.xe s2) :
  wpAny (model X.prog X.w) X.A (eval a X.env) (fun v dv=>wpAny (model X.prog X.w) X.A (eval b X.env) (fun u D1=>wpAny (model X.prog X.w) X.A (f v u) Q X.xe D1) X.xe dv) X.xe s:=by
 refine ck (ha pins s σ H _ I h) fun v s1 cw=>L2.gi cw fun x H1 I1 r1 q1=>?_
 refine ck (hb pins s1 σ H1 _ I1 q1) fun u s2 cw=>L2.gi cw fun y H2 I2 r2 q2=>?_
 exact hf v u s2 x y H2 I2 r1 r2 q2
theorem XT{op:Operator}{r:R2}(ho:cq X (binaryOp op) r)(ha:PE X a ta)(hb:PE X b tb):PE X (.BinOp a op b pos) (KG r ta tb):=by
 intro pins s σ H Q I h
 exact wpAny_BinOp (Pz ha hb I h fun v u s2 x y H2 I2 rx ry q=>ho pins s2 σ H2 x y v u Q I2 rx ry q)
theorem XU(ho:M_ X (unaryOp op) r)(ha:PE X a ta):PE X (.UnaryOp op a pos) (Tv r ta):=by
 intro pins s σ H Q I h
 exact UnaryOp_ (ck (ha pins s σ H _ I h) fun v s1 cw=>L2.gi cw fun x H1 I1 r1 q1=>ho pins s1 σ H1 x v Q I1 r1 q1)
theorem Nb{f:Value->Value->Sem Value}{C:Int->Int->Prop}{g:Int->Int->Int}
  (rule:∀ (i j:Int) (t u:Tok) (s:Shared) (Q:Value->Shared->Prop) (E:Value->Shared->Prop),C i j->Q (.int (g i j) s.toks) { s with toks:=s.toks+1 }->wpAny (model X.prog X.w) X.A (f (.int i t) (.int j u)) Q E s) :
  cq X f (rI C fun i j=>.int (g i j)):=by
 intro pins s σ H x y v u Q I rx ry h
 obtain⟨i,j,rfl,rfl,hc,q⟩:=h
 obtain⟨t,rfl⟩:=rx
 obtain⟨t',rfl⟩:=ry
 exact rule i j t t' s _ _ hc ⟨.int (g i j),H,I.tok _,⟨_,rfl⟩,q⟩
theorem Tw{f:Value->Value->Sem Value}{g:Int->Int->Int}
  (rule:∀ (i j:Int) (t u:Tok) (s:Shared) (Q:Value->Shared->Prop) (E:Value->Shared->Prop),Q (.int (g i j) s.toks) { s with toks:=s.toks+1 }->wpAny (model X.prog X.w) X.A (f (.int i t) (.int j u)) Q E s) :
  cq X f (DZ fun i j=>.int (g i j)):=by
 intro pins s σ H x y v u Q I rx ry h
 obtain⟨i,j,rfl,rfl,q⟩:=h
 obtain⟨t,rfl⟩:=rx
 obtain⟨t',rfl⟩:=ry
 exact rule i j t t' s _ _ ⟨.int (g i j),H,I.tok _,⟨_,rfl⟩,q⟩
theorem PB{f:Value->Value->Sem Value}{g:Int->Int->Bool}
  (rule:∀ (i j:Int) (t u:Tok) (s:Shared) (Q:Value->Shared->Prop) (E:Value->Shared->Prop),Q (.bool (g i j)) s->wpAny (model X.prog X.w) X.A (f (.int i t) (.int j u)) Q E s) :
  cq X f (DZ fun i j=>.bl (g i j)):=by
 intro pins s σ H x y v u Q I rx ry h
 obtain⟨i,j,rfl,rfl,q⟩:=h
 obtain⟨t,rfl⟩:=rx
 obtain⟨t',rfl⟩:=ry
 exact rule i j t t' s _ _ ⟨.bl (g i j),H,I,rfl,q⟩
def XW(i j:Int):Prop:=0<j/\j<1073741824
def FU(i j:Int):Prop:=0<=j/\j<=1000000/\i.natAbs<2 ^ 64
def yA(i j:Int):Prop:=(-(2 ^ 64)<i/\i<2 ^ 64)\/(-(2 ^ 64)<j/\j<2 ^ 64)
theorem yA.ok(h:yA i j):IntMulOk i j:=by
 rcases h with⟨h1,h2⟩|⟨h1,h2⟩
 ·exact .of_left (intBits_le_64 h1 h2)
 ·exact .of_right (intBits_le_64 h1 h2)
theorem XX:cq X (binaryOp .Add) (DZ fun i j=>.int (i+j)):=Tw fun _ _ _ _ _ _ _ q=>add_int q
theorem XY:cq X (binaryOp .Sub) (DZ fun i j=>.int (i-j)):=Tw fun _ _ _ _ _ _ _ q=>sub_int q
theorem XZ:cq X (binaryOp .Mult) (rI yA fun i j=>.int (i*j)):=Nb fun _ _ _ _ _ _ _ hc q=>mul_int q hc.ok
theorem X1:cq X (binaryOp .FloorDiv) (rI XW fun i j=>.int (i / j)):=Nb fun i j _ _ _ _ _ hc q=>by
 have h1:(0:Int)<j:=hc.1
 have h2:j<1073741824:=hc.2
 exact floordiv_int (by lia) (by rw[Int.fdiv_eq_ediv_of_nonneg i (by exact z5 ‹_›)];exact q) (.inl (PyProof.noPylong_small (by lia)))
theorem X2:cq X (binaryOp .Mod) (rI (fun _ j=>0<j) fun i j=>.int (i % j)):=Nb fun i j _ _ _ _ _ hc q=>by
 have h1:(0:Int)<j:=hc
 exact mod_int' (by lia) (by rw[Int.fmod_eq_emod_of_nonneg i (by exact z5 ‹_›)];exact q)
theorem X3:cq X (binaryOp .Pow) (rI FU fun i j=>.int (i ^ j.toNat)):=Nb fun _ _ _ _ _ _ _ hc q=>pow_int_small hc.1 hc.2.1 hc.2.2 q
theorem X4{f:Value->Sem Value}{g:Int->Int}
  (rule:∀ (i:Int) (t:Tok) (s:Shared) (Q:Value->Shared->Prop) (E:Value->Shared->Prop),Q (.int (g i) s.toks) { s with toks:=s.toks+1 }->wpAny (model X.prog X.w) X.A (f (.int i t)) Q E s) :
  M_ X f (rU fun i=>.int (g i)):=by
 intro pins s σ H x v Q I rx h
 obtain⟨i,rfl,q⟩:=h
 obtain⟨t,rfl⟩:=rx
 exact rule i t s _ _ ⟨.int (g i),H,I.tok _,⟨_,rfl⟩,q⟩
theorem X5:M_ X (unaryOp .USub) (rU fun i=>.int (-i)):=X4 fun _ _ _ _ _ q=>neg_int q
end
def Tx:V->V->Bool
 |.non,.non=>true|.non,.int _=>true|.int _,.non=>true|.non,.bl _=>true|.bl _,.non=>true|.non,.str _=>true|.str _,.non=>true
 |.int _,.int _=>true|.bl _,.bl _=>true|.str _,.str _=>true|.sN _,.sN _=>true
 |.int _,.str _=>true|.str _,.int _=>true|.bl _,.str _=>true|.str _,.bl _=>true
 |_,_=>false
def X6:R2:=fun x y H Q=>Tx x y=true/\Q (.bl (decide (x=y))) H
def X7:R2:=fun x y H Q=>Tx x y=true/\Q (.bl (!decide (x=y))) H
theorem Tz:decide (V.int i=V.int j)=(i == j):=by
 rw[BI]
 simp
theorem TB:decide (V.bl i=V.bl j)=(i == j):=by
 rw[BI]
 simp
theorem TC:decide (V.str i=V.str j)=(i == j):=by
 rw[BI]
 simp
theorem TF:decide (V.sN i=V.sN j)=(i.toList == j.toList):=by
 rw[BI]
 cases i
 cases j
 simp
section
variable {X:Cx}{a b c:Expr}{ta tb tc:TE}{pos:Pos}
theorem fI(I:Inv X pins σ H s)(q:Q (.bl k) H)(e:k=k'):EP X pins σ Q (.bool k') s:=by
 subst e
 exact⟨.bl k,H,I,rfl,q⟩
theorem X8:cq X (compareOp .Eq) X6:=by
 intro pins s σ H x y v u Q I rx ry h
 obtain⟨hs,q⟩:=h
 cases x with
 |non =>
  cases rx
  cases y with
  |non=>cases ry;exact PySem.EqNone.eq_none_none (fI I q (by simp))
  |bl j=>cases ry;exact PySem.EqNone.eq_none_bool (fI I q (by simp))
  |int j=>obtain⟨t',rfl⟩:=ry;exact PySem.EqNone.eq_none_int (fI I q (by simp))
  |str j=>obtain⟨t',rfl⟩:=ry;exact PySem.EqNone.eq_none_str (fI I q (by simp))
  |_=>exact absurd (show false=true from hs) gI
 |bl i =>
  cases rx
  cases y with
  |non=>cases ry;exact PySem.EqNone.eq_bool_none (fI I q (by simp))
  |bl j=>cases ry;exact eq_bool (fI I q TB)
  |str j=>obtain⟨t',rfl⟩:=ry;exact PySem.EqMixed.eq_bool_str (fI I q (by simp))
  |_=>exact absurd (show false=true from hs) gI
 |int i =>
  obtain⟨t,rfl⟩:=rx
  cases y with
  |non=>cases ry;exact PySem.EqNone.eq_int_none (fI I q (by simp))
  |int j=>obtain⟨t',rfl⟩:=ry;exact eq_int (fI I q Tz)
  |str j=>obtain⟨t',rfl⟩:=ry;exact PySem.EqMixed.eq_int_str (fI I q (by simp))
  |_=>exact absurd (show false=true from hs) gI
 |str i =>
  obtain⟨t,rfl⟩:=rx
  cases y with
  |non=>cases ry;exact PySem.EqNone.eq_str_none (fI I q (by simp))
  |bl j=>cases ry;exact PySem.EqMixed.eq_str_bool (fI I q (by simp))
  |int j=>obtain⟨t',rfl⟩:=ry;exact PySem.EqMixed.eq_str_int (fI I q (by simp))
  |str j=>obtain⟨t',rfl⟩:=ry;exact eq_str (fI I q TC)
  |_=>exact absurd (show false=true from hs) gI
 |sN i =>
  obtain⟨t,rfl⟩:=rx
  cases y with
  |sN j=>obtain⟨t',rfl⟩:=ry;exact PySem.W.eq_bytes (fI I q TF)
  |_=>exact absurd (show false=true from hs) gI
 |_=>cases y<;>exact absurd (show false=true from hs) gI
theorem X9:cq X (compareOp .NotEq) X7:=by
 intro pins s σ H x y v u Q I rx ry h
 obtain⟨hs,q⟩:=h
 cases x with
 |non =>
  cases rx
  cases y with
  |non=>cases ry;exact PySem.EqNone.ne_none_none (fI I q (by simp))
  |bl j=>cases ry;exact PySem.EqNone.ne_none_bool (fI I q (by simp))
  |int j=>obtain⟨t',rfl⟩:=ry;exact PySem.EqNone.ne_none_int (fI I q (by simp))
  |str j=>obtain⟨t',rfl⟩:=ry;exact PySem.EqNone.ne_none_str (fI I q (by simp))
  |_=>exact absurd (show false=true from hs) gI
 |bl i =>
  cases rx
  cases y with
  |non=>cases ry;exact PySem.EqNone.ne_bool_none (fI I q (by simp))
  |bl j=>cases ry;exact ne_bool (fI I q (congrArg not TB))
  |str j=>obtain⟨t',rfl⟩:=ry;exact PySem.EqMixed.ne_bool_str (fI I q (by simp))
  |_=>exact absurd (show false=true from hs) gI
 |int i =>
  obtain⟨t,rfl⟩:=rx
  cases y with
  |non=>cases ry;exact PySem.EqNone.ne_int_none (fI I q (by simp))
  |int j=>obtain⟨t',rfl⟩:=ry;exact ne_int (fI I q (congrArg not Tz))
  |str j=>obtain⟨t',rfl⟩:=ry;exact PySem.EqMixed.ne_int_str (fI I q (by simp))
  |_=>exact absurd (show false=true from hs) gI
 |str i =>
  obtain⟨t,rfl⟩:=rx
  cases y with
  |non=>cases ry;exact PySem.EqNone.ne_str_none (fI I q (by simp))
  |bl j=>cases ry;exact PySem.EqMixed.ne_str_bool (fI I q (by simp))
  |int j=>obtain⟨t',rfl⟩:=ry;exact PySem.EqMixed.ne_str_int (fI I q (by simp))
  |str j=>obtain⟨t',rfl⟩:=ry;exact ne_str (fI I q (congrArg not TC))
  |_=>exact absurd (show false=true from hs) gI
 |sN i =>
  obtain⟨t,rfl⟩:=rx
  cases y with
  |sN j=>obtain⟨t',rfl⟩:=ry;exact PySem.W.ne_bytes (fI I q (congrArg not TF))
  |_=>exact absurd (show false=true from hs) gI
 |_=>cases y<;>exact absurd (show false=true from hs) gI
theorem X_:cq X (compareOp .Lt) (DZ fun i j=>.bl (decide (i<j))):=PB fun _ _ _ _ _ _ _ q=>lt_int q
theorem Ya:cq X (compareOp .LtE) (DZ fun i j=>.bl (decide (i<=j))):=PB fun _ _ _ _ _ _ _ q=>le_int q
theorem Yb:cq X (compareOp .Gt) (DZ fun i j=>.bl (decide (j<i))):=PB fun _ _ _ _ _ _ _ q=>gt_int q
theorem Yc:cq X (compareOp .Lt) (fun x y H Q=>∃ i j,x=.str i/\y=.str j/\Q (.bl (decide (i.cps.toList<j.cps.toList))) H):=by
 intro pins s σ H x y v u Q I rx ry h
 obtain⟨i,j,rfl,rfl,q⟩:=h
 obtain⟨t,rfl⟩:=rx
 obtain⟨t',rfl⟩:=ry
 exact lt_str (fI I q rfl)
theorem Yd:cq X (compareOp .In) (fun x y H Q=>∃ i j,x=.str i/\y=.str j/\Q (.bl (!(Builtin.Str.occurrences j i 0 j.length 1).isEmpty)) H):=by
 intro pins s σ H x y v u Q I rx ry h
 obtain⟨i,j,rfl,rfl,q⟩:=h
 obtain⟨t,rfl⟩:=rx
 obtain⟨t',rfl⟩:=ry
 exact in_str (fI I q rfl)
theorem cq.or(h:cq X f r)(h':cq X f r'):cq X f (fun x y H Q=>r x y H Q\/r' x y H Q):=by
 intro pins s σ H x y v u Q I rx ry q
 rcases q with q|q
 ·exact h pins s σ H x y v u Q I rx ry q
 ·exact h' pins s σ H x y v u Q I rx ry q
theorem lh(b:Expr)(h:op≠.In:=by decide)(h2:op≠.NotIn:=by decide):behindInMarks op b=false:=by
 have e1:(op == CmpOp.In)=false:=by cases op<;>first|rfl|exact absurd rfl h
 have e2:(op == CmpOp.NotIn)=false:=by cases op<;>first|rfl|exact absurd rfl h2
 cases b<;>simp[behindInMarks,e1,e2]
theorem Ye{op:CmpOp}{r:R2}(ho:cq X (compareOp op) r)(ha:PE X a ta)(hb:PE X b tb)(hm:behindInMarks op b=false):PE X (.Compare a [op] [b] pos) (KG r ta tb):=by
 intro pins s σ H Q I h
 exact wpAny_Compare1 (Pz ha hb I h fun v u s2 x y H2 I2 rx ry q=>ho pins s2 σ H2 x y v u Q I2 rx ry q) hm
def PC(t:TE):TT:=fun σ H Q=>t σ H fun x H'=>∃ k,x=.bl k/\Q k H'
theorem Yf(ho:cq X (compareOp op) r)(ha:PE X a ta)(hb:PE X b tb)(hm:behindInMarks op b=false):PT X (.Compare a [op] [b] pos) (PC (KG r ta tb)):=by
 intro pins s σ H Q I h
 refine wpAny_isTrue_Compare1 (ck (ha pins s σ H _ I h) fun v s1 cw=>L2.gi cw fun x H1 I1 r1 q1=>ck (hb pins s1 σ H1 _ I1 q1) fun u s2 cw=>L2.gi cw fun y H2 I2 r2 q2 =>
  ck (ho pins s2 σ H2 x y v u _ I2 r1 r2 q2) fun c s3 ⟨z,H3,I3,r3,k,e,q3⟩=>?_) hm
 subst e
 cases r3
 exact wpAny_truthy_bool ⟨H3,I3,q3⟩
def TH(r r':R2)(ta tb tc:TE):TE:=fun σ H Q=>ta σ H fun x H1=>tb σ H1 fun y H2=>r x y H2 fun z H3=>∃ k,z=.bl k /\
 (if k=true then tc σ H3 fun w' H4=>r' y w' H4 Q else Q (.bl false) H3)
theorem Yg(ho:cq X (compareOp op) r)(kU:cq X (compareOp op') r')(ha:PE X a ta)(hb:PE X b tb)(hc:PE X c tc)
  (hm:lastMarks [op,op'] [b,c]=false:=by with_unfolding_all rfl):PT X (.Compare a [op,op'] [b,c] pos) (PC (TH r r' ta tb tc)):=by
 intro pins s σ H Q I h
 refine isTrue_chain (ck (ha pins s σ H _ I h) fun v s1 cw=>L2.gi cw fun x H1 I1 r1 q1=>test_link (ck (hb pins s1 σ H1 _ I1 q1) fun u s2 cw=>L2.gi cw fun y H2 I2 r2 q2 =>
  ck (ho pins s2 σ H2 x y v u _ I2 r1 r2 q2) fun d s3 ⟨z,H3,I3,r3,k,e,q3⟩=>?_)) hm
 subst e
 cases r3
 refine wpAny_truthy_bool ?_
 cases k with
 |false =>
  obtain⟨k',e',q'⟩:=q3
  cases e'
  exact ite_ff ⟨H3,I3,q'⟩
 |true =>
  refine ite_tt (test_last (ck (hc pins s3 σ H3 _ I3 q3) fun w' s4 ⟨z',H4,I4,r4,q4⟩=>ck (kU pins s4 σ H4 y z' u w' _ I4 r2 r4 q4) fun d' s5 df=>?_))
  obtain⟨z2,H5,I5,r5,k2,e2,q5⟩:=df
  subst e2
  cases r5
  exact wpAny_truthy_bool ⟨H5,I5,q5⟩
theorem Nc:(sizeLine:Nat)<2 ^ 63:=by rw[sizeLine_eq];decide
theorem Yh:cq X (binaryOp .Add) (fun x y H Q=>∃ i j,x=.str i/\y=.str j/\i.length+j.length<=sizeLine/\Q (.str (i++j)) H):=by
 intro pins s σ H x y v u Q I rx ry h
 obtain⟨i,j,rfl,rfl,hz,q⟩:=h
 obtain⟨t,rfl⟩:=rx
 obtain⟨t',rfl⟩:=ry
 exact add_str (fun t' tk=>⟨.str (i++j),H,I.tok _,⟨_,rfl⟩,q⟩) hz
theorem vals1(r:Vals [x] us):∃ u,us=[u]/\RelV x u:=by
 cases r with
 |cons r1 r2=>cases r2;exact⟨_,rfl,r1⟩
theorem vals2(r:Vals [x,y] us):∃ u w',us=[u,w']/\RelV x u/\RelV y w':=by
 cases r with
 |cons r1 r2 =>
  cases r2 with
  |cons r3 r4=>cases r4;exact⟨_,_,rfl,r1,r3⟩
theorem Yi (hc:X.calm=true):iO X (.builtin "min") (fun xs H Q=>∃ i j,xs=[.int i,.int j]/\Q (.int (if j<i then j else i)) H):=by
 intro pins s σ H xs us Q I r h
 obtain⟨i,j,rfl,q⟩:=h
 obtain⟨u,w',rfl,⟨t,rfl⟩,⟨t',rfl⟩⟩:=vals2 r
 refine min_two_ints (I.ok.hd hc) fun h' tk k=>⟨_,H,I.kept k,?_,q⟩
 by_cases hj:j<i
 ·rw[if_pos hj,if_pos hj];exact⟨_,rfl⟩
 ·rw[if_neg hj,if_neg hj];exact⟨_,rfl⟩
theorem Yj:iO X (.type "int") (fun xs H Q=>(∃ i,xs=[.int i]/\Q (.int i) H)\/∃ k,xs=[.bl k]/\Q (.int (if k then 1 else 0)) H):=by
 intro pins s σ H xs us Q I r h
 rcases h with⟨i,rfl,q⟩|⟨k,rfl,q⟩
 ·obtain⟨u,rfl,t,rfl⟩:=vals1 r
  exact call_int_int ⟨.int i,H,I,⟨_,rfl⟩,q⟩
 ·obtain⟨u,rfl,r1⟩:=vals1 r
  cases r1
  exact call_int_bool ⟨.int (if k then 1 else 0),H,I.tok _,⟨_,rfl⟩,q⟩
def Yk(K:PySem.W.Frag)(x:V)(H:Hp)(n:Nat):Prop :=
 match x with
 |.str y=>y.length<=sizeLine/\n=y.length
 |.sN y=>y.size<=sizeLine/\n=y.size
 |.ref p=>(∃ xs,eh K H p xs/\n=xs.length)\/∃ xs,n4 K H p xs/\n=xs.length
 |_=>False
theorem PD:iO X (.builtin "len") (fun xs H Q=>∃ x n,xs=[x]/\Yk X.K x H n/\Q (.int n) H):=by
 intro pins s σ H xs us Q I r h
 obtain⟨x,n,rfl,e,q⟩:=h
 obtain⟨u,rfl,rx⟩:=vals1 r
 have hl:=Nc
 have hs:sizeLine=16777216:=sizeLine_eq
 cases x with
 |str y =>
  obtain⟨t,rfl⟩:=rx
  obtain⟨hy,e'⟩:y.length<=sizeLine/\n=y.length:=e
  subst e'
  exact len_str (by lia) ⟨.int _,H,I.tok _,⟨_,rfl⟩,q⟩
 |sN y =>
  obtain⟨t,rfl⟩:=rx
  obtain⟨hy,e'⟩:y.size<=sizeLine/\n=y.size:=e
  subst e'
  exact PySem.W.len_bytes (by walk_at "s4") ⟨.int _,H,I.tok _,⟨_,rfl⟩,q⟩
 |ref p =>
  cases rx
  have e':(∃ xs,eh X.K H p xs/\n=xs.length)\/∃ xs,n4 X.K H p xs/\n=xs.length:=e
  rcases e' with⟨xs,hx,e'⟩|⟨xs,hx,e'⟩
  ·subst e'
   obtain⟨its,r',pl,hz⟩:=I.list hx
   have hlen:=r'.length
   exact Calls.call_len_list pl.isList (by simp only[i9];lia) ⟨.int xs.length,H,I.tok _,⟨_,by simp only[i9];rw[hlen]⟩,q⟩
  ·subst e'
   obtain⟨its,r',pl,hz⟩:=I.tuple hx
   have hlen:=r'.length
   exact len_tuple pl (by simp only[i9];lia) ⟨.int xs.length,H,I.tok _,⟨_,by simp only[i9];rw[hlen]⟩,q⟩
 |_=>exact(show False from e).elim
end
structure PF(h:Heap)(x dx C:Addr)(mA:Str->Option Value):Prop where
 obj:h.get? x=some (PySem.W.instObj C dx)
 ns:h.Ns1 dx mA
 ne:dx≠x
theorem lookIn_ns{h:Heap}{dx:Addr}{mA:Str->Option Value}(n:h.Ns1 dx mA):∃ od,h.get? dx=some od/\∀ name,PySem.W.lookIn name od=some (mA name):=by
 obtain⟨o,es,ep,ho,hd,hk,_,hm⟩:=n
 refine⟨o,ho,fun name=>?_⟩
 have e:=hm name
 unfold nsFind findBy at e
 rw[<- Array.find?_toList] at e
 unfold PySem.W.lookIn
 rw[hd]
 dsimp only
 split
 ·rename_i y q
  rw[q] at e
  exact congrArg some e
 ·rename_i q
  rw[q] at e
  have a:es.toList.any (·.refKey)=false:=by
   rw[List.any_eq_false]
   intro y hy
   obtain⟨z,t,Yl⟩:=hk y (Array.mem_toList_iff.mp hy)
   simp[DictEntry.refKey,Yl]
  have a':¬ es.toList.any (·.refKey)=true:=by rw[a];exact gI
  rw[if_neg a']
  exact congrArg some e
theorem PF.look(I:PF h x dx C mA):∃ od,PySem.W.InstAt h x (PySem.W.instObj C dx) C (some od)/\∀ name,PySem.W.lookIn name od=some (mA name) :=
 let ⟨od,ho,hl⟩:=lookIn_ns I.ns
 ⟨od,⟨I.obj,rfl,rfl,ho⟩,hl⟩
theorem vS.some_of(r:vS (some v) o):∃ u,o=some u/\RelV v u:=by
 cases o with
 |none=>exact(show False from r).elim
 |some u=>exact⟨u,rfl,r⟩
section
variable {P:Program}{w:World}{H:Hp}{h:Heap}{a C dx:Addr}{fs:List (Str × V)}
theorem Nf(bp:fo P w H h)(e:H a=some (.ins C dx fs)):∃ mA,PF h a dx C mA/\(∀ f,vS (fs.lookup f) (mA f))/\PySem.Within mA (fs.map (·.1))/\fs.length<=1000/\H dx=some (.own a):=by
 obtain⟨d,z,ne,ob,mA,n,r,q⟩:=(show eR P w H h a (.ins C dx fs) from bp a _ e)
 exact⟨mA,⟨ob,n,ne⟩,r,q,z,d⟩
end
structure PH(K:PySem.W.Frag)(C:Addr):Prop where
 pg:PySem.W.plainGet K C Str.empty=true
 hd:PySem.W.hasDictIn K C=true
 po:PySem.W.plainOver K C=true
 sa:PySem.W.findIn K (.ref C) "__setattr__" = some (some (.builtin "object.__setattr__"))
theorem PH.get{K:PySem.W.Frag}(c:PH K C)(f:Str):PySem.W.plainGet K C f=true:=c.pg
section
variable {X:Cx}{pins:List (Addr × Obj)}{σ:St}{H:Hp}{s:Shared}{A:Around}{E:Value->Shared->Prop}{Q:Value->Shared->Prop}{c:Value}{b:Bool}
inductive uS(K:PySem.W.Frag)(H:Hp):V->Value->Prop where
 |non:uS K H .non (.type "NoneType")
 |bl (x:Bool):uS K H (.bl x) (.type "bool")
 |int (i:Int):uS K H (.int i) (.type "int")
 |str (x:Str):uS K H (.str x) (.type "str")
 |An (x:UInt64):uS K H (.An x) (.type "float")
 |lst {a:Addr} {xs:List V} (e:H a=some (.lst xs)):uS K H (.ref a) (.type "list")
 |kS {a:Addr} {o:Obj} {xs:List V} (e:H a=some (.kS o (.lst xs))):uS K H (.ref a) (.type "list")
 |tup {a:Addr} {xs:List V} (e:H a=some (.tup xs)):uS K H (.ref a) (.type "tuple")
 |dK {a:Addr} {kvs:List (Key × V)} (e:H a=some (.dK kvs)):uS K H (.ref a) (.type "dict")
 |dT {a:Addr} {kvs:List (List Key × V)} (e:H a=some (.dT kvs)):uS K H (.ref a) (.type "dict")
 |ins {a C dx:Addr} {fs:List (Str × V)} (e:H a=some (.ins C dx fs)) (cl:PH K C) (ha:PySem.W.findIn K (.ref C) "__class__" = some (some (.builtin "object.__class__")))
   (hn:PySem.W.specialIn K (.builtin "object.__class__") "__get__" = some (some (.builtin "getset_descriptor.__get__"))) (TJ:PySem.W.takesIn K (.builtin "object.__class__")=some true)
   (hm:PySem.W.mroIn K C (.type "object")=some true):uS K H (.ref a) (.ref C)
theorem KL(I:Inv X pins σ H s)(rx:RelV x u)(ty:uS X.K H x t)(e:PySem.W.kitOne X.K t c=some b)(h:∀ tk,Q (.bool b) { s with toks:=tk }) :
  wpAny (model X.prog X.w) A (call (.builtin "isinstance") [u,c]) Q E s:=by
 cases ty with
 |non=>cases (show u=Value.none from rx);exact PySem.W.kia_one PySem.W.kitx_none I.js True.intro e (fun z=>nomatch z) h
 |bl y=>cases (show u=Value.bool y from rx);exact PySem.W.kia_one PySem.W.kitx_bool I.js True.intro e (fun z=>nomatch z) h
 |int i=>obtain⟨t,q⟩:=(show ∃ t,u=Value.int i t from rx);cases q;exact PySem.W.kia_one PySem.W.kitx_int I.js True.intro e (fun z=>nomatch z) h
 |str y=>obtain⟨t,q⟩:=(show ∃ t,u=Value.str y t from rx);cases q;exact PySem.W.kia_one PySem.W.kitx_str I.js True.intro e (fun z=>nomatch z) h
 |An y=>obtain⟨t,q⟩:=(show ∃ t,u=Value.float y t from rx);cases q;exact PySem.W.kia_one PySem.W.kitx_float I.js True.intro e (fun z=>nomatch z) h
 |@lst a xs ea =>
  cases (show u=Value.ref a from rx)
  obtain⟨_,_,n,_,h1⟩:=(show eR X.prog X.w H s.heap a (.lst xs) from I.bp a _ ea)
  exact PySem.W.kia_one PySem.W.kitx_list I.js ⟨_,h1,rfl⟩ e (fun z=>nomatch z) h
 |@kS a ob xs ea =>
  cases (show u=Value.ref a from rx)
  obtain⟨_,_,_,n,_,h1⟩:=(show eR X.prog X.w H s.heap a (.kS ob (.lst xs)) from I.bp a _ ea)
  exact PySem.W.kia_one PySem.W.kitx_list I.js ⟨_,h1,rfl⟩ e (fun z=>nomatch z) h
 |@tup a xs ea =>
  cases (show u=Value.ref a from rx)
  obtain⟨_,_,_,p⟩:=(show eR X.prog X.w H s.heap a (.tup xs) from I.bp a _ ea)
  obtain⟨o,h1,h2,_⟩:=p
  exact PySem.W.kia_one PySem.W.kitx_tuple I.js ⟨o,h1,h2⟩ e (fun z=>nomatch z) h
 |@dK a kvs ea =>
  cases (show u=Value.ref a from rx)
  obtain⟨_,_,vs,_,p⟩:=(show eR X.prog X.w H s.heap a (.dK kvs) from I.bp a _ ea)
  obtain⟨o,es,ep,h1,h2,_⟩:=p
  exact PySem.W.kia_one PySem.W.kitx_dict I.js ⟨o,h1,h2.1⟩ e (fun z=>nomatch z) h
 |@dT a kvs ea =>
  cases (show u=Value.ref a from rx)
  obtain⟨_,_,xs,_,o,es,ep,h1,h2,_⟩:=(show eR X.prog X.w H s.heap a (.dT kvs) from I.bp a _ ea)
  exact PySem.W.kia_one PySem.W.kitx_dict I.js ⟨o,h1,h2.1⟩ e (fun z=>nomatch z) h
 |@ins a C dx fs ea cl ha hn TJ hm =>
  cases (show u=Value.ref a from rx)
  obtain⟨mA,O,_⟩:=Nf I.bp ea
  obtain⟨od,J,_⟩:=O.look
  exact PySem.W.kia_one (PySem.W.kitx_own (cl.get _) cl.hd ha hn TJ hm) I.js J e (fun z=>nomatch z) h
end
structure i7(k:Nat)(A:Around):Prop where
 hd:A.handled=none
 dp:A.depth+3*k+5<recursionLimit
 un:A.units+16*k+200<cLine
theorem i7.mono(r:i7 k A)(h:j<=k):i7 j A:=⟨r.hd,by have:=r.dp;lia,by have:=r.un;lia⟩
theorem i7.deeper(r:i7 (k+1) A)(env:Env):i7 k (A.deeper env) :=
 ⟨r.hd,by have:=r.dp;show A.depth+1+3*k+5<_;lia,by have:=r.un;show A.units+3+16*k+200<_;lia⟩
theorem i7.depth(r:i7 k A):A.depth<recursionLimit:=by have:=r.dp;lia
theorem i7.units(r:i7 k A):A.units+64<cLine:=by have:=r.un;lia
def TK:TA:=fun _ H Q=>Q [] H
def TL(ta:TE)(tr:TA):TA:=fun σ H Q=>ta σ H fun x H1=>tr σ H1 fun xs H2=>Q (x :: xs) H2
section
variable {X:Cx}{e:Expr}{es:List Expr}{te:TE}{t:TA}{pos:Pos}
theorem rz:PA X [] TK:=fun _ _ _ _ H Q I h=>Calls.spliced_nil ⟨[],H,I,.nil,h⟩
theorem nc(ha:PE X e te)(hr:PA X es t)(hs:starEach (e :: es) X.env=(false,eval e X.env) :: starEach es X.env:=by rfl):PA X (e :: es) (TL te t):=by
 intro pos pins s σ H Q I h
 rw[hs]
 show wpAny _ _ (spliced ((false,eval e X.env) :: backTo pos (starEach es X.env))) _ _ s
 refine Calls.spliced_cons (ck (ha pins s σ H _ I h) fun u s1 cw=>L2.gi cw fun x H1 I1 r1 q1=>?_)
 exact ck (hr pos pins s1 σ H1 _ I1 q1) fun us s2 cw=>L2.gi cw fun xs H2 I2 r2 q2=>⟨x :: xs,H2,I2,.cons r1 r2,q2⟩
def Ym(t:TA):TE:=fun σ H Q=>t σ H fun xs H1=>xs.length<=sizeLine/\∀ p,H1 p=none->Q (.ref p) (upd H1 p (.tup xs))
def Yn(t:TA):TE:=fun σ H Q=>t σ H fun xs H1=>xs.length<=sizeLine/\∀ p,H1 p=none->Q (.ref p) (upd H1 p (.lst xs))
theorem TN{x1}(h:PA X es t):PE X (.Tuple es x1 pos) (Ym t):=by
 intro pins s σ H Q I hq
 refine wpAny_Tuple_spliced (ck (h pos pins s σ H _ I hq) fun us s1 ⟨xs,H1,I1,r,z,q⟩=>⟨by rw[<- r.length];exact z,?_⟩)
 have hf:H1 s1.heap.objs.size=none:=I1.bp.fresh (bX _)
 refine⟨.ref s1.heap.objs.size,upd H1 s1.heap.objs.size (.tup xs),I1.laid (t':=s1.toks) (fun b u e=>eS _ e) (bX _) ?_,rfl,q _ hf⟩
 exact⟨z,us,r,⟨_,i6 _ rfl,rfl,_,rfl⟩⟩
theorem Yo(h:PA X es t):PE X (.List es pos) (Yn t):=by
 intro pins s σ H Q I hq
 refine wpAny_List_spliced (ck (h pos pins s σ H _ I hq) fun us s1 ⟨xs,H1,I1,r,z,q⟩=>⟨by rw[<- r.length];exact z,?_⟩)
 have hf:H1 s1.heap.objs.size=none:=I1.bp.fresh (bX _)
 refine⟨.ref s1.heap.objs.size,upd H1 s1.heap.objs.size (.lst xs),I1.laid (t':=s1.toks) (fun b u e=>eS _ e) (bX _) ?_,rfl,q _ hf⟩
 exact⟨z,us,0,r,i6 _ rfl⟩
end
abbrev Sp:=List V->Hp->VK->XK->Prop
abbrev AG:=List Env->Hp->Shared->XK->Value->Shared->Prop
structure Ng(P:Program)(w:World)(K:PySem.W.Frag)(mg:Str->Option Value)(base:Heap)(A:Around)(outer:List Env)(s:Shared)(H:Hp):Prop where
 frames:A.frames=some outer
 mod:Mod K mg base
 bs:∀ b o,base.get? b=some o->s.heap.get? b=some o/\H b=none
 sQ:base.objs.size<=s.heap.objs.size
 oB:s.heap.FunFrames base outer
 wa:∀ b∈eK outer,H b=none
 bp:fo P w H s.heap
 bare:AllBare s.gens
def CE(outer:List Env)(P:Program)(w:World)(H:Hp)(s:Shared)(Q:VK)(u:Value)(s':Shared):Prop :=
 ∃ v H',s'.os=s.os/\AllBare s'.gens/\Un (eK outer) [] H H' s.heap s'.heap/\fo P w H' s'.heap/\RelV v u/\Q v H'
def CR(CX:AG)(outer:List Env)(P:Program)(w:World)(H:Hp)(s:Shared)(Q:VK)(E:XK)(r:Result)(s':Shared):Prop :=
 match r with
 |.ok (.ret u)=>CE outer P w H s Q u s'
 |.ok _=>False
 |.error e=>CX outer H s E e s'
structure hJ(P:Program)(w:World)(K:PySem.W.Frag)(mg:Str->Option Value)(base:Heap)(CX:AG)(k:Nat)(f:Addr)(fd:FuncData)(ps:List Str)(sp:Sp):Prop where
 len:∀ vs H Q E,sp vs H Q E->vs.length=ps.length
 run:∀ (A:Around) (outer:List Env) (s:Shared) (H:Hp) (args:Args) (us:List Value) (vs:List V) (Q:VK) (E:XK),i7 k A->Ng P w K mg base A outer s H->BindsTo s fd args (ps.zip us)->Vals vs us->sp vs H Q E ->
  codeAny (model P w) A (.call (.ref f) args) (CR CX outer P w H s Q E) s
section
variable {X:Cx}{pins:List (Addr × Obj)}{σ:St}{H:Hp}{s s':Shared}
theorem Inv.Yp(I:Inv X pins σ H s):Ng X.prog X.w X.K X.mg X.base X.A X.stack s H :=
 ⟨I.ok.frames,I.ok.mod,I.bs,hG I.ok.sQ I.sz,I.stack,I.Pa,I.bp,I.bare⟩
theorem Inv.after(I:Inv X pins σ H s)(h:CE X.stack X.prog X.w H s Q u s'):EP X pins σ Q u s':=by
 obtain⟨v,H',os,bare,un,bp,r,q⟩:=h
 obtain⟨hh,g,d,t,PJ⟩:=s'
 obtain rfl:PJ=s.os:=os
 exact⟨v,H',I.call (h':=hh) (g':=g) (d':=d) (t':=t) (ch:=[]) un bp bare (fun b z=>absurd z (by simp)),r,q⟩
end
def KP(sp:Sp)(B1:List V)(E:XK)(t:TA):TE:=fun σ H Q=>t σ H fun vs H1=>sp (vs++B1) H1 Q E
def Binds(K:PySem.W.Frag)(fd:FuncData)(ps:List Str)(ds:List Value):Prop :=
 ∀ (s:Shared) (us:List Value),K.In s.heap->(us++ds).length=ps.length->BindsTo s fd ⟨us,[]⟩ (ps.zip (us++ds))
theorem Binds.all{K:PySem.W.Frag}{ps:List Str}(h:∀ us:List Value,us.length=ps.length->bindArgs fd ⟨us,[]⟩=pure (ps.zip us)):Binds K fd ps []:=fun s us _ hl=>by
 rw[nV] at hl ⊢
 exact .of_eq (h us hl)
def Passes(CX:AG)(X:Cx)(E:XK):Prop:=∀ (pins:List (Addr × Obj)) (σ:St) (H:Hp) (s:Shared) (e:Value) (s':Shared),Inv X pins σ H s->CX X.stack H s E e s'->X.xe e s'
section
variable {X:Cx}{CX:AG}{k:Nat}{f:Addr}{fd:FuncData}{ps:List Str}{sp:Sp}{B1:List V}{ds:List Value}{E:XK}{x:Str}{p pos:Pos}{e:Expr}{es:List Expr}{t:TA}
theorem Yq(F:hJ X.prog X.w X.K X.mg X.base CX k f fd ps sp)(hr:i7 k X.A)(hb:Binds X.K fd ps ds)(hd:Vals B1 ds)(hx:Passes CX X E)
  (I:Inv X pins σ H s) (r:Vals vs us) (h:sp (vs++B1) H Q E):wpAny (model X.prog X.w) X.A (call (.ref f) us) (EP X pins σ Q) X.xe s:=by
 have r2:Vals (vs++B1) (us++ds):=r.append hd
 have hl:(us++ds).length=ps.length:=by rw[<- r2.length];exact F.len _ _ _ _ h
 refine wpAny_call (codeAny_mono (F.run X.A X.stack s H ⟨us,[]⟩ (us++ds) (vs++B1) Q E hr I.Yp (hb s us I.js hl) r2 h) fun r s' hq=>?_)
 cases r with
 |error e=>exact hx pins σ H s e s' I hq
 |ok fl =>
  cases fl with
  |ret u=>exact I.after hq
  |next=>exact False.elim hq
  |brk=>exact False.elim hq
  |cont=>exact False.elim hq
theorem TQ(F:hJ X.prog X.w X.K X.mg X.base CX k f fd ps sp)(hr:i7 k X.A)(hg:Gl X x)(hm:X.mg x=some (.ref f))(hk:PySem.W.keepIn X.K (.ref f)=true)(hb:Binds X.K fd ps ds)(hd:Vals B1 ds)(hx:Passes CX X E)
  (ha:PA X (e :: es) t) (ip:(x == ("__debug__" : Str))=false:=by decide) (he:starEach (e :: es) X.env=(false,eval e X.env) :: starEach es X.env:=by rfl) (fq:(backTo pos (starEach es X.env)).any (·.1)=false:=by rfl) :
  PE X (.Call (.Name x p) (e :: es) [] pos) (KP sp B1 E t):=by
 intro pins s σ H Q I h
 refine wpAny_Call_Name_kw (MZ I hg hm ?_ ip)
 refine PySem.W.callWith_K (h₀:=X.base) I.ok.mod.MX hk (ck (ha pos pins s σ H _ I h) fun us s1 cw=>L2.gi cw fun vs H1 I1 r q=>⟨I1.js,?_⟩) he fq
 exact Yq F hr hb hd hx I1 r q
end
structure mr(N P:List Str)(sc:Scope):Prop where
 kind:sc.kind=.function
 co:sc.isCoroutine=false
 gen:sc.isGenerator=false
 nd:N.Nodup
 pre:N.take P.length=P
 par:∀ x∈P,sc.names.lookup x=some .local\/sc.names.lookup x=some .cell
 Yr:∀ y∈sc.names,y.2≠.free
theorem TR{kindOf:Str->Option NameKind}:∀ {binds:List (Str × Value)} {m:Str->Option Value},(∀ v,(x,v)∉binds)->bindL kindOf binds m x=m x
 |[],_,_=>rfl
 | (n,v) :: r,m,h=>by
  unfold bindL
  rw[TR fun w hw=>h w (b9 _ hw)]
  split
  ·have:x≠n:=by rintro rfl;exact h v cc
   simp[this]
  ·rfl
theorem TV{kindOf:Str->Option NameKind}:∀ {binds:List (Str × Value)} {m:Str->Option Value},(∀ v,(x,v)∉binds)->bindC kindOf binds m x=m x
 |[],_,_=>rfl
 | (n,v) :: r,m,h=>by
  unfold bindC
  rw[TV fun w hw=>h w (b9 _ hw)]
  split
  ·rfl
  ·have:x≠n:=by rintro rfl;exact h v cc
   simp[this]
theorem TX{kindOf:Str->Option NameKind}:∀ {P:List Str} {vs:List Value} {i:Nat} {m:Str->Option Value},P.Nodup->P[i]? = some x->vs[i]? = some v->kindOf x=some .local ->
  bindL kindOf (P.zip vs) m x=some v
 |[],_,_,_,_,h,_,_=>by simp at h
 |_ :: _,[],_,_,_,_,h,_=>by simp at h
 |p :: P,w :: vs,0,m,nd,h1,h2,hk=>by
  simp at h1 h2;subst h1;subst h2
  show bindL kindOf ((p,w) :: P.zip vs) m p=_
  unfold bindL
  rw[TR fun v hv=>(lS.mp nd).1 (List.of_mem_zip hv).1,if_pos hk]
  simp
 |p :: P,w :: vs,i+1,m,nd,h1,h2,hk=>by
  show bindL kindOf ((p,w) :: P.zip vs) m x=_
  unfold bindL
  exact TX (i:=i) (lS.mp nd).2 (by simpa using h1) (by simpa using h2) hk
theorem TY{kindOf:Str->Option NameKind}:∀ {P:List Str} {vs:List Value} {i:Nat} {m:Str->Option Value},P.Nodup->P[i]? = some x->vs[i]? = some v->kindOf x≠some .local ->
  bindC kindOf (P.zip vs) m x=some v
 |[],_,_,_,_,h,_,_=>by simp at h
 |_ :: _,[],_,_,_,_,h,_=>by simp at h
 |p :: P,w :: vs,0,m,nd,h1,h2,hk=>by
  simp at h1 h2;subst h1;subst h2
  show bindC kindOf ((p,w) :: P.zip vs) m p=_
  unfold bindC
  rw[TV fun v hv=>(lS.mp nd).1 (List.of_mem_zip hv).1,if_neg hk]
  simp
 |p :: P,w :: vs,i+1,m,nd,h1,h2,hk=>by
  show bindC kindOf ((p,w) :: P.zip vs) m x=_
  unfold bindC
  exact TY (i:=i) (lS.mp nd).2 (by simpa using h1) (by simpa using h2) hk
def start(N:List Str)(vs:List V):St:=vs.map some++List.replicate (N.length-vs.length) none
def rL(CX:AG)(P:Program)(w:World)(K:PySem.W.Frag)(mg:Str->Option Value)(base:Heap)(N:List Str)(qual:Str)(scope:Scope)(f:Addr)(cd:Value)(A:Around)(outer:List Env)(s:Shared)(H:Hp)(E:XK):Cx where
 prog:=P
 w:=w
 K:=K
 mg:=mg
 base:=base
 A:=A.deeper (envOfC qual scope s.heap.objs.size f cd)
 N:=N
 dz:=s
 vT:=H
 env:=envOfC qual scope s.heap.objs.size f cd
 outer:=outer
 stack:=envOfC qual scope s.heap.objs.size f cd :: outer
 ex:=[]
 calm:=true
 fn:=fun _=>true
 pn:=[]
 xe:=fun e s'=>wpAny (model P w) (A.deeper (envOfC qual scope s.heap.objs.size f cd)) (leaving (envOfC qual scope s.heap.objs.size f cd) e) (fun _ B3=>CX outer H s E e B3) (fun e' B3=>CX outer H s E e' B3) s'
theorem T1{sc:Scope}{n:Nat}{x:Str}(h:sc.names.lookup x=some .cell):∃ c,(cellsFrom n sc.names []).lookup x=some c:=by
 have q:=PySem.W.cellsFrom_some sc.names n [] (.inl h)
 exact Option.isSome_iff_exists.mp q
theorem Ys{CX:AG}{P:Program}{w:World}{K:PySem.W.Frag}{mg:Str->Option Value}{base:Heap}{N ps:List Str}{qual:Str}{scope:Scope}{f:Addr}{cd:Value}{A:Around}{outer:List Env}{s s1:Shared}{H:Hp}{E:XK}{us:List Value}{vs:List V}
  (S:mr N ps scope) (hd:A.handled=none) (e0:Ng P w K mg base A outer s H) (hl:vs.length=ps.length) (r:Vals vs us)
  (x:InCallC s s.heap.objs.size (bindL (envOfC qual scope s.heap.objs.size f cd).kindOf (ps.zip us) fun _=>none) (cellsFrom (s.heap.objs.size+1) scope.names []) (bindC (envOfC qual scope s.heap.objs.size f cd).kindOf (ps.zip us) fun _=>none) s1) :
  Inv (rL CX P w K mg base N qual scope f cd A outer s H E) [] (start N vs) H s1:=by
 have fq:ps.length<=N.length:=by have:=congrArg List.length S.pre;rw[nS] at this;lia
 obtain⟨h1,tk,rfl,hk⟩:=x.done
 have KW:∀ b:Addr,b∉(rL CX P w K mg base N qual scope f cd A outer s H E).ex:=fun b z=>absurd (show b∈([]:List Addr) from z) (by simp)
 refine⟨⟨e0.mod,S.kind,rfl,rfl,bX _,fun y z c h1 h2=>?_,fun y hy=>?_,fun y c _ h=>?_,fun _=>hd,Around.frames_deeper e0.frames,.inr ⟨rfl,rfl⟩,fun b z=>absurd z (KW b),e0.bs,e0.sQ,fun b _ _=>KW b,fun b z=>absurd z (KW b),e0.oB,e0.wa⟩,
  rfl,e0.bare,Un.kept hk,⟨_,x.toInCall.ns,fun i y v h1 h2 h3=>?_⟩,fun y c h=>⟨_,x.cell y c h⟩,e0.bp.fresh (bX _),fun y c h=>?_,fun p hp=>absurd (show p∈([]:List (Addr × Obj)) from hp) (by simp),e0.bp.kept hk,?_⟩
 ·exact name_of_addr x.apart (PySem.mem_of_lookup h1) (PySem.mem_of_lookup h2)
 ·have hy:scope.names.lookup y=some .cell\/scope.names.lookup y=some .free:=hy
  rcases hy with hy|hy
  ·exact T1 hy
  ·exact absurd rfl (S.Yr _ (PySem.mem_of_lookup hy))
 ·exact kc (x.above y c (PySem.mem_of_lookup h))
 ·have hi:i<vs.length:=by
   unfold start at h2
   by_cases hi:i<vs.length
   ·exact hi
   ·rw[xC (by simpa using hi)] at h2
    rw[OB] at h2
    split at h2<;>cases h2
  have ha:vs[i]? = some v:=by
   unfold start at h2
   rw[Dx (by simpa using hi),nL] at h2
   cases e:vs[i]? with
   |none=>rw[e] at h2;cases h2
   |some a=>rw[e] at h2;cases h2;rfl
  obtain⟨u,hu,rv⟩:=r.get ha
  have hp:ps[i]? = some y:=by
   rw[<- S.pre,List.getElem?_take_of_lt (by lia)];exact h1
  have T3:ps.Nodup:=by rw[<- S.pre];exact S.nd.sublist (List.take_sublist _ _)
  refine⟨u,rv,?_⟩
  rcases S.par y (kP hp) with k|k
  ·exact .inl ⟨k,TX T3 hp hu k⟩
  ·obtain⟨c,e⟩:=T1 (n:=s.heap.objs.size+1) k
   refine .inr ⟨.inl k,c,e,?_⟩
   have q:=x.cell y c e
   rw[TY T3 hp hu (by show scope.names.lookup y≠_;rw[k];decide)] at q
   exact q
 ·exact e0.bp.fresh (kc (x.above y c (PySem.mem_of_lookup h)))
 ·unfold start
  show _=N.length
  rw[tS,dc,OG]
  lia
theorem T4{P:Program}{K:PySem.W.Frag}{dV kV doc pm cE ct oc:Value}
  {N ps:List Str} (lk:K.lookup f=some ⟨oc,od,.func (PySem.W.fnOf name qual params body scope dV kV doc pm an cE ct),D2⟩) (nX:PySem.W.codeIn K cE qual=true) (S:mr N ps scope)
  (len:∀ vs H Q E,sp vs H Q E->vs.length=ps.length)
  (AH:∀ (A:Around) (outer:List Env) (s:Shared) (H:Hp) (vs:List V) (Q:VK) (E:XK),i7 k (A.deeper (envOfC qual scope s.heap.objs.size f cE))->sp vs H Q E ->
   ∃ t,kX (rL CX P w K mg base N qual scope f cE A outer s H E) body t/\t { nx:=fun _ H'=>Q .non H',rt:=Q } (start N vs) H) :
  hJ P w K mg base CX (k+1) f (PySem.W.fnOf name qual params body scope dV kV doc pm an cE ct) ps sp:=by
 refine⟨len,fun A outer s H args us vs Q E hr e0 hb r yB=>?_⟩
 have hl:=len _ _ _ _ yB
 have KX:K.In s.heap:=e0.mod.MX.keeps fun b o e=>(e0.bs b o e).1
 have lim:s.heap.NoLimit:=e0.mod.nolimit.keeps fun b o e=>(e0.bs b o e).1
 have Yt:∀ y∈ps.zip us,scope.names.lookup y.1=some .local\/(scope.names.lookup y.1=some .cell/\((cellsFrom (s.heap.objs.size+1) scope.names []).lookup y.1).isSome=true):=fun⟨n,v⟩ hy=>by
  rcases S.par n (List.of_mem_zip hy).1 with q|q
  ·exact .inl q
  ·exact .inr ⟨q,PySem.W.cellsFrom_some _ _ _ (.inl q)⟩
 refine codeAny_call_function hr.depth (KX _ _ lk) rfl S.co S.gen rfl (PySem.W.codeRec_of KX nX) (hb _ _ _ _ ?_)
 refine wpAny_newFunctionEnv_cells S.kind Yt fun env he s1 x=>?_
 subst he
 refine⟨lim.keeps x.toInCall.keep,codeAny_func ?_⟩
 obtain⟨t,ht,hq⟩:=AH A outer s H vs Q E (hr.deeper _) yB
 have I:Inv (rL CX P w K mg base N qual scope f cE A outer s H E) [] (start N vs) H s1:=Ys S hr.hd e0 hl r x
 refine oy (ht [] s1 (start N vs) H _ I hq) (fun fl s' hs=>?_) fun e s' hs=>hs
 have fin:∀ {aI:St} {H':Hp} {v:V} {u:Value},Inv (rL CX P w K mg base N qual scope f cE A outer s H E) [] aI H' s'->RelV v u->Q v H'->CE outer P w H s Q u s' :=
  fun {aI H' v u} J rv q=>⟨v,H',J.os,J.bare,J.base,J.bp,rv,q⟩
 cases fl with
 |ret u =>
  obtain⟨v,aI,H',J,rv,q⟩:=hs
  exact fin J rv q
 |next =>
  obtain⟨aI,H',J,q⟩:=hs
  exact fin (v:=V.non) (u:=Value.none) J rfl q
 |brk =>
  obtain⟨_,_,_,q⟩:=hs
  exact False.elim q
 |cont =>
  obtain⟨_,_,_,q⟩:=hs
  exact False.elim q
section
variable {X:Cx}{x:Str}{p pos:Pos}{e:Expr}{es:List Expr}{t:TA}{id T:String}{r:List V->Hp->VK->Prop}
def PK(r:List V->Hp->VK->Prop)(t:TA):TE:=fun σ H Q=>t σ H fun vs H1=>r vs H1 Q
theorem K0 (hc:iO X (.builtin id) r) (hg:Gl X x) (hm:X.mg x=none) (hv:bootBuiltins x=some (.builtin id)) (ha:PA X (e :: es) t) (hn:x ≠ "__name__" := by decide) (ip:(x == ("__debug__" : Str))=false:=by decide)
  (he:starEach (e :: es) X.env=(false,eval e X.env) :: starEach es X.env:=by rfl) (fq:(backTo pos (starEach es X.env)).any (·.1)=false:=by rfl):PE X (.Call (.Name x p) (e :: es) [] pos) (PK r t):=by
 intro pins s σ H Q I h
 refine wpAny_Call_Name_kw (FL I hg hm hv ?_ hn ip)
 exact PyProof.Rows.callWith_builtin1 (ck (ha pos pins s σ H _ I h) fun us s1 cw=>L2.gi cw fun vs H1 I1 r1 q1=>hc pins s1 σ H1 vs us Q I1 r1 q1) he fq
theorem Yu (hc:iO X (.type T) r) (hg:Gl X x) (hm:X.mg x=none) (hv:bootBuiltins x=some (.type T)) (ha:PA X (e :: es) t) (hn:x ≠ "__name__" := by decide) (ip:(x == ("__debug__" : Str))=false:=by decide)
  (he:starEach (e :: es) X.env=(false,eval e X.env) :: starEach es X.env:=by rfl) (fq:(backTo pos (starEach es X.env)).any (·.1)=false:=by rfl):PE X (.Call (.Name x p) (e :: es) [] pos) (PK r t):=by
 intro pins s σ H Q I h
 refine wpAny_Call_Name_kw (FL I hg hm hv ?_ hn ip)
 exact PyProof.Rows.callWith_type1 (ck (ha pos pins s σ H _ I h) fun us s1 cw=>L2.gi cw fun vs H1 I1 r1 q1=>hc pins s1 σ H1 vs us Q I1 r1 q1) he fq
end
end L2
namespace HT
open PySem PyProof.Rows
section
open PySem.SeqAt
open PySem.AutoSeq1 (wpAny_loadPart')
open PySem.MeetsSeq PySem.MeetsSeq2 PySem.MeetsSeq3
end
section
variable {prog:Program}{w:World}{A:Around}{E:Value->Shared->Prop}{s:Shared}
theorem Yv(ht:IsTup s.heap t vs.toArray)(hb:IsTup s.heap b ws.toArray)(hv:vs≠[])
  (h1:ws=[]->Q (.ref t) s) (h2:ws≠[]->Q (.ref s.heap.objs.size) { s with heap:=s.heap.push { cls:=.type "tuple",data:=.seq (vs++ws).toArray } })
  (hsz:vs.length+ws.length<=sizeLine):wpAny (model prog w) A (binaryOp .Add (.ref t) (.ref b)) Q E s:=by
 obtain⟨⟨cls,dd,data,sl⟩,ho,hc,n,hd⟩:=id ht
 obtain⟨⟨PL,qf,data2,qh⟩,oD,wm,n2,hd2⟩:=id hb
 simp only at hc hd wm hd2
 subst hc hd wm hd2
 have e:vs.toArray++ws.toArray=(vs++ws).toArray:=by simp
 by_cases hw:ws=[]
 ·exact concat_meets ⟨_,ho,rfl⟩ ⟨_,oD,rfl⟩ noFill_tuple_add seq_tuple_add PySem.F.slot_tuple_add PySem.F.entry_tuple_add (PySem.F.args_tuple_add_2 _ _)
   (tuple_addW1 t b vs.toArray ws.toArray n n2 dd qf sl qh (by simpa using hv) (by simp[hw])) ⟨ho,oD,h1 hw⟩
 ·refine concat_meets ⟨_,ho,rfl⟩ ⟨_,oD,rfl⟩ noFill_tuple_add seq_tuple_add PySem.F.slot_tuple_add PySem.F.entry_tuple_add (PySem.F.args_tuple_add_2 _ _)
   (tuple_addW2 t b vs.toArray ws.toArray n n2 dd qf sl qh (by simpa using hv) (by simpa using hw) (by rw[i9,i9];exact hsz)) ⟨ho,oD,?_⟩
  rw[e]
  exact h2 hw
def bq(n d:Nat):Option Int->Nat
 |none=>d
 |some v=>if v<0 then (v+(n:Int)).toNat else min v.toNat n
theorem Yw(n d:Nat)(hd:d<=n)(o:Option Int):bq n d o<=n:=by
 cases o with
 |none=>exact hd
 |some v =>
  show(if v<0 then (v+(n:Int)).toNat else min v.toNat n)<=n
  by_cases hv:v<0
  ·rw[if_pos hv];lia
  ·rw[if_neg hv];exact Nat.min_le_right _ _
theorem T5(v:Int)(n d:Nat):(if v<0 then max (v+(n:Int)) 0 else min v (n:Int))=((bq n d (some v):Nat):Int):=by
 show(if v<0 then max (v+(n:Int)) 0 else min v (n:Int))=(((if v<0 then (v+(n:Int)).toNat else min v.toNat n):Nat):Int)
 by_cases hv:v<0
 ·simp only[if_pos hv];lia
 ·simp only[if_neg hv];lia
theorem Yx(lo hi:Option Int)(n:Nat):Builtin.Slice.sliceAdjust lo hi 1 (n:Int)=(((bq n 0 lo:Nat):Int),((bq n n hi:Nat):Int)):=by
 have h1:¬ ((1:Int)<0):=by decide
 unfold Builtin.Slice.sliceAdjust
 simp only[h1,if_false]
 refine Prod.ext ?_ ?_
 ·cases lo with
  |none=>rfl
  |some v=>exact T5 v n 0
 ·cases hi with
  |none=>rfl
  |some v=>exact T5 v n n
theorem Yy(i j:Nat):Builtin.Slice.slicePlaces (i:Int) (j:Int) 1=j-i:=by
 unfold Builtin.Slice.slicePlaces
 have h1:(1:Int)>0:=by exact ua _
 simp only[h1,if_true,Int.ediv_one]
 split<;>lia
theorem T6(p:IsPart v o)(h:Q o s):wpAny (model prog w) A (Builtin.Slice.slicePartIndex v) Q E s:=by
 cases p with
 |none=>exact slicePart_none h
 |int i t=>exact slicePart_int h
theorem Yz{sl:Addr}{vl vu:Value}{lo hi:Option Int}{n:Nat}{Q:Int × Int × Nat->Shared->Prop}(hs:s.heap.IsSliceOf sl vl vu .none)(pl:IsPart vl lo)(pu:IsPart vu hi)
  (h:Q (((bq n 0 lo:Nat):Int),1,bq n n hi-bq n 0 lo) s):wpAny (model prog w) A (Builtin.Slice.sliceApplied (.ref sl) (pure (n:Int))) Q E s:=by
 obtain⟨os,K2,n5,Nh⟩:=id hs
 unfold Builtin.Slice.sliceApplied Builtin.Slice.sliceFields
 refine ah (ah (wpAny_field K2 Nh (x:=vl) rfl (ah (wpAny_field K2 Nh (x:=vu) rfl (ah (wpAny_field K2 Nh (x:=.none) rfl (aE ?_)))))))
 refine ah (slicePart_none ?_)
 show wpAny _ _ (if ((1:Int) == 0)=true then _ else _) _ _ s
 rw[if_neg (by decide)]
 refine ah (T6 pl (ah (T6 pu (ah (aE ?_)))))
 show wpAny _ _ (match Builtin.Slice.sliceAdjust lo hi 1 (n:Int) with|(lo,hi)=>pure (lo,(1:Int),Builtin.Slice.slicePlaces lo hi 1)) _ _ s
 rw[Yx lo hi n]
 show wpAny _ _ (pure (((bq n 0 lo:Nat):Int),(1:Int),Builtin.Slice.slicePlaces ((bq n 0 lo:Nat):Int) ((bq n n hi:Nat):Int) 1)) _ _ s
 rw[Yy]
 exact aE h
theorem YB(xs:Array Value)(i k:Nat):((List.range k).filterMap fun(m:Nat)=>xs[((i:Int)+(m:Int)*1).toNat]?).toArray=((xs.toList.drop i).take k).toArray:=by
 have e:(fun(m:Nat)=>xs[((i:Int)+(m:Int)*1).toNat]?)=fun m=>xs[i+m]? := by
  funext m
  have:((i:Int)+(m:Int)*1).toNat=i+m:=by exact(Nat.add_assoc ..).symm
  rw[this]
 rw[e]
 have:=pick_run xs i k
 rw[OS] at this
 have e2:((fun x=>xs[x]?) ∘ fun x=>i+x)=fun m=>xs[i+m]? := rfl
 rw[e2] at this
 rw[this]
theorem YC{lo hi:Option Int}(ht:IsTup s.heap t items)(hs:s.heap.IsSliceOf sl vl vu .none)(pl:IsPart vl lo)(pu:IsPart vu hi)
  (hw:¬ (bq items.size 0 lo=0/\bq items.size items.size hi=items.size))
  (h:Q (.ref s.heap.objs.size) { s with heap:=s.heap.push { cls:=.type "tuple",data:=.seq ((items.toList.drop (bq items.size 0 lo)).take (bq items.size items.size hi-bq items.size 0 lo)).toArray } })
  (hsz:items.size<=sizeLine):wpAny (model prog w) A (getItem (.ref t) (.ref sl)) Q E s:=by
 have Ni:sizeOk (.seq ((items.toList.drop (bq items.size 0 lo)).take (bq items.size items.size hi-bq items.size 0 lo)).toArray):=by
  show((items.toList.drop (bq items.size 0 lo)).take (bq items.size items.size hi-bq items.size 0 lo)).toArray.size<=sizeLine
  rw[i9,nS,BH,zS]
  lia
 have hj:bq items.size items.size hi<=items.size:=Yw _ _ (bX _) hi
 obtain⟨os,K2,n5,Nh⟩:=id hs
 have YD:s.TypeIs (.ref sl) "slice" := ⟨os,K2,n5⟩
 unfold getItem
 try with_reducible refine wpAny_holding ?_
 first|refine ah (aE ?_)|skip
 refine ah (wpAny_sequenceKey ht.typeIs (by decide) ?_)
 refine ah (wpAny_callSpecial?_slot (name:=Str.ofString "__getitem__") ht.typeIs PyProof.Rows.slot_tuple_getitem
  (wpAny_call_entry PyProof.Rows.slot_tuple_getitem ht.typeIs entry_tuple_getitem ?_ (args_tuple_getitem _ _)))
 show wpAny _ _ (Builtin.Tuple.tupleItemsOf (.ref t) >>= _) _ _ s
 refine ah (tupleItemsOf_ ht ?_)
 refine ah (wpAny_typeOf YD ?_)
 rw[if_pos (by decide)]
 refine ah (Yz hs pl pu ?_)
 have B4:¬ ((((bq items.size 0 lo:Nat):Int) == 0 && (1:Int) == 1 && (bq items.size items.size hi-bq items.size 0 lo) == items.size)=true):=by
  intro q
  rw[kQ,kQ] at q
  have q1:((bq items.size 0 lo:Nat):Int)=0:=eq_of_beq q.1.1
  have q2:bq items.size items.size hi-bq items.size 0 lo=items.size:=eq_of_beq q.2
  exact hw ⟨by lia,by lia⟩
 show wpAny _ _ (if (((bq items.size 0 lo:Nat):Int) == 0 && (1:Int) == 1 && (bq items.size items.size hi-bq items.size 0 lo) == items.size)=true then _ else _) _ _ s
 rw[if_neg B4,YB]
 first
  |exact ah (m:=Builtin.Tuple.tupleExact _) (wpAny_newObj_type (aE ⟨_,rfl,aE h⟩) Ni)
  |exact ah (m:=Builtin.Tuple.tupleExact _) (wpAny_newObj_type (ah (aE (aE ⟨_,rfl,aE h⟩))) Ni)
  |exact ah (ah (m:=Builtin.Tuple.tupleExact _) (wpAny_newObj_type (aE (aE ⟨_,rfl,aE h⟩)) Ni))
  |exact ah (ah (m:=Builtin.Tuple.tupleExact _) (wpAny_newObj_type (aE ⟨_,rfl,aE h⟩) Ni))
end
end HT
namespace L2
open PySem PySem.Spec PyProof.Rows
abbrev TO:=St->Hp->(Option Int->Hp->Prop)->Prop
def PO(X:Cx)(e:Option Expr)(t:TO):Prop :=
 ∀ (pins:List (Addr × Obj)) (s:Shared) (σ:St) (H:Hp) (Q:Option Int->Hp->Prop),Inv X pins σ H s->t σ H Q ->
  wpAny (model X.prog X.w) X.A (evalPart e X.env) (fun u s'=>∃ o H',Inv X pins σ H' s'/\IsPart u o/\Q o H') X.xe s
def YF(t:TE):TO:=fun σ H Q=>t σ H fun x H1=>∃ i,x=.int i/\Q (some i) H1
section
variable {X:Cx}{e:Expr}{te:TE}{lo hi:Option Expr}{tl th:TO}{pos p2:Pos}
theorem YG(h:PE X e te):PO X (some e) (YF te):=by
 intro pins s σ H Q I hw
 rw[evalPart_some]
 refine ck (h pins s σ H _ I hw) fun u s1 cw=>L2.gi cw fun x H1 I1 r1 q1=>?_
 obtain⟨i,rfl,q⟩:=q1
 obtain⟨t,rfl⟩:=r1
 exact⟨some i,H1,I1,.int i t,q⟩
def FV(X:Cx)(r:V->Option Int->Option Int->Hp->VK->Prop):Prop :=
 ∀ (pins:List (Addr × Obj)) (s:Shared) (σ:St) (H:Hp) (x:V) (v vl vu:Value) (lo hi:Option Int) (sl:Addr) (Q:VK),Inv X pins σ H s->RelV x v->s.heap.IsSliceOf sl vl vu .none->IsPart vl lo->IsPart vu hi->r x lo hi H Q ->
  ∃ T id,typeLookup (.type T) "__getitem__" = pure (some (.builtin id))/\s.TypeIs v T/\wpAny (model X.prog X.w) X.A (getItem v (.ref sl)) (EP X pins σ Q) X.xe s
def YH(r:V->Option Int->Option Int->Hp->VK->Prop)(te:TE)(tl th:TO):TE:=fun σ H Q=>te σ H fun x H1=>tl σ H1 fun l H2=>th σ H2 fun u H3=>r x l u H3 Q
theorem YJ(hr:FV X r)(he:PE X e te)(hl:PO X lo tl)(hu:PO X hi th):PE X (.Subscript e (.Slice lo hi none p2) pos) (YH r te tl th):=by
 intro pins s σ H Q I h
 refine Subscript_ (ck (he pins s σ H _ I h) fun v s1 cw=>L2.gi cw fun x H1 I1 r1 q1=>?_)
 refine wpAny_Slice (ck (hl pins s1 σ H1 _ I1 q1) fun vl s2 cw=>L2.gi cw fun l H2 I2 pl q2=>ck (hu pins s2 σ H2 _ I2 q2) fun vu s3 cw=>L2.gi cw fun u H3 I3 pu q3=>?_)
 rw[evalPart_none]
 refine aE ?_
 have I4:Inv X pins σ H3 { s3 with heap:=s3.heap.push { cls:=.type "slice",data:=.fields #[vl,vu,.none] } }:=I3.kept (t':=s3.toks) fun b ob q=>eS _ q
 obtain⟨T,id,hT,ht,hg⟩:=hr pins { s3 with heap:=s3.heap.push { cls:=.type "slice",data:=.fields #[vl,vu,.none] } } σ H3 x v vl vu l u s3.heap.objs.size Q I4 r1 (Heap.IsSliceOf.new ..) pl pu q3
 show wpAny (model X.prog X.w) X.A (subscriptTail e (.Slice lo hi none p2) v (.ref s3.heap.objs.size)) (EP X pins σ Q) X.xe { s3 with heap:=s3.heap.push { cls:=.type "slice",data:=.fields #[vl,vu,.none] } }
 exact tail_any (ops:=[.ref s3.heap.objs.size,v]) ht hT hg (by with_unfolding_all rfl)
def AI(xs:List V)(lo hi:Option Int):List V:=(xs.drop (HT.bq xs.length 0 lo)).take (HT.bq xs.length xs.length hi-HT.bq xs.length 0 lo)
theorem T7(xs:List V)(lo hi:Option Int):(AI xs lo hi).length<=xs.length:=by
 unfold AI
 rw[nS,BH]
 lia
def T8(K:PySem.W.Frag):V->Option Int->Option Int->Hp->VK->Prop:=fun x lo hi H Q=>∃ a xs,x=.ref a/\n4 K H a xs /\
 ¬ (HT.bq xs.length 0 lo=0/\HT.bq xs.length xs.length hi=xs.length)/\∀ p,H p=none->Q (.ref p) (upd H p (.tup (AI xs lo hi)))
theorem YK:FV X (T8 X.K):=by
 intro pins s σ H x v vl vu lo hi sl Q I rx hs pl pu h
 obtain⟨a,xs,rfl,hx,hw,q⟩:=h
 cases rx
 obtain⟨its,r,ht,hz⟩:=I.tuple hx
 have hlen:its.toArray.size=xs.length:=by rw[i9];exact r.length.symm
 refine⟨"tuple",_,PyProof.Rows.slot_tuple_getitem.lookup,ht.typeIs,?_⟩
 refine HT.YC ht hs pl pu (by rw[hlen];exact hw) ?_ (by rw[hlen];exact hz)
 rw[hlen]
 refine⟨.ref s.heap.objs.size,_,I.laid (t':=s.toks) (o:=.tup (AI xs lo hi)) (fun b ob q=>eS _ q) (bX _) ?_,rfl,q _ (I.bp.fresh (bX _))⟩
 exact⟨hG (T7 xs lo hi) hz,_,(r.drop (HT.bq xs.length 0 lo)).take (HT.bq xs.length xs.length hi-HT.bq xs.length 0 lo),IsTup.new _ _⟩
def PN(K:PySem.W.Frag):R2:=fun x y H Q=>∃ a b xs ys,x=.ref a/\y=.ref b/\n4 K H a xs/\n4 K H b ys/\xs≠[]/\xs.length+ys.length<=sizeLine /\
 (ys=[]->Q (.ref a) H)/\(ys≠[]->∀ p,H p=none->Q (.ref p) (upd H p (.tup (xs++ys))))
theorem Vals.PQ(r:Vals xs us):us=[]↔xs=[]:=by
 cases r with
 |nil=>simp
 |cons _ _=>simp
theorem YL:cq X (binaryOp .Add) (PN X.K):=by
 intro pins s σ H x y v u Q I rx ry h
 obtain⟨a,b,xs,ys,rfl,rfl,ha,hb,hx,hz,q1,q2⟩:=h
 cases rx
 cases ry
 obtain⟨its,r1,p1,_⟩:=I.tuple ha
 obtain⟨Nj,r2,p2,_⟩:=I.tuple hb
 refine HT.Yv p1 p2 (fun z=>hx (r1.PQ.mp z)) (fun z=>⟨.ref a,H,I,rfl,q1 (r2.PQ.mp z)⟩) (fun z=>?_) (by rw[<- r1.length,<- r2.length];exact hz)
 refine⟨.ref s.heap.objs.size,_,I.laid (t':=s.toks) (o:=.tup (xs++ys)) (fun b ob q=>eS _ q) (bX _) ?_,rfl,q2 (fun w=>z (r2.PQ.mpr w)) _ (I.bp.fresh (bX _))⟩
 exact⟨by rw[tS];exact hz,_,r1.append r2,IsTup.new _ _⟩
end
def kB(n:Nat)(i:Int):Option Nat:=if 0<=i then (if i<n then some i.toNat else none) else if -(n:Int)<=i then some (i+n).toNat else none
def eu{α:Type}(xs:List α)(i:Int):Option α:=(kB xs.length i).bind fun j=>xs[j]?
theorem YM(h:kB n i=some j):seqIndex? i n=some j/\j<n/\-(n:Int)<=i/\i<n:=by
 unfold kB at h
 by_cases h0:0<=i
 ·rw[if_pos h0] at h
  by_cases h1:i<n
  ·rw[if_pos h1] at h
   have e:i.toNat=j:=Option.some.inj h
   exact⟨by rw[seqIndex_of h0 h1,e],by lia,by lia,h1⟩
  ·rw[if_neg h1] at h;cases h
 ·rw[if_neg h0] at h
  by_cases h1:-(n:Int)<=i
  ·rw[if_pos h1] at h
   have e:(i+n).toNat=j:=Option.some.inj h
   exact⟨by rw[seqIndex_neg (by lia) h1,e],by lia,h1,by lia⟩
  ·rw[if_neg h1] at h;cases h
theorem PR{α:Type}{xs:List α}{i:Int}{v:α}(h:eu xs i=some v):∃ j,seqIndex? i xs.length=some j/\xs[j]? = some v/\j<xs.length/\-(xs.length:Int)<=i/\i<xs.length:=by
 unfold eu at h
 cases e:kB xs.length i with
 |none=>rw[e] at h;cases h
 |some j =>
  rw[e] at h
  obtain⟨h1,h2,h3,h4⟩:=YM e
  exact⟨j,h1,h,h2,h3,h4⟩
theorem FX{α:Type}{xs:List α}{j:Nat}{v:α}(h:xs[j]? = some v):eu xs (j:Int)=some v:=by
 have hj:j<xs.length:=(hX.mp h).1
 have e:kB xs.length (j:Int)=some j:=by
  unfold kB
  rw[if_pos (by walk_at "s1"),if_pos (by lia)];simp
 unfold eu;rw[e];exact h
theorem YN{α:Type}(xs:List α)(v:α):eu (xs++[v]) (-1)=some v:=by
 have hl:(xs++[v]).length=xs.length+1:=by simp
 have e:kB (xs++[v]).length (-1)=some xs.length:=by
  unfold kB
  rw[hl,if_neg (by decide),if_pos (by lia)]
  congr 1
  lia
 unfold eu
 rw[e]
 show(xs++[v])[xs.length]? = some v
 simp
def Nk(b:Expr):Prop:=∀ o i,subscripted b false o i=operate [o,i] (getItem o i)
def sR(X:Cx)(r:R2):Prop :=
 ∀ (value slice:Expr) (pins:List (Addr × Obj)) (s:Shared) (σ:St) (H:Hp) (x y:V) (v u:Value) (Q:VK),Inv X pins σ H s->RelV x v->RelV y u->r x y H Q ->
  subscripted slice false v u=operate [v,u] (getItem v u)->wpAny (model X.prog X.w) X.A (subscriptTail value slice v u) (EP X pins σ Q) X.xe s
def PX(X:Cx)(id:String)(r:V->List V->Hp->VK->Prop):Prop :=
 ∀ (pins:List (Addr × Obj)) (s:Shared) (σ:St) (H:Hp) (x:V) (xs:List V) (v:Value) (us:List Value) (Q:VK),Inv X pins σ H s->RelV x v->Vals xs us->r x xs H Q ->
  wpAny (model X.prog X.w) X.A (call (.builtin id) (v :: us)) (EP X pins σ Q) X.xe s
section
variable {X:Cx}{a b:Expr}{ta tb:TE}{pos:Pos}
theorem sR.or(h:sR X r)(h':sR X r'):sR X (fun x y H Q=>r x y H Q\/r' x y H Q):=by
 intro value slice pins s σ H x y v u Q I rx ry q hs
 rcases q with q|q
 ·exact h value slice pins s σ H x y v u Q I rx ry q hs
 ·exact h' value slice pins s σ H x y v u Q I rx ry q hs
theorem PY{r:R2}(hr:sR X r)(ha:PE X a ta)(hb:PE X b tb)(hs:Nk b):PE X (.Subscript a b pos) (KG r ta tb):=by
 intro pins s σ H Q I h
 exact Subscript_ (Pz ha hb I h fun v u s2 x y H2 I2 rx ry q=>hr a b pins s2 σ H2 x y v u Q I2 rx ry q (hs _ _))
def T9(K:PySem.W.Frag):R2:=fun x y H Q=>∃ p xs i v,x=.ref p/\y=.int i/\eh K H p xs/\eu xs i=some v/\Q v H
def T_(K:PySem.W.Frag):R2:=fun x y H Q=>∃ p xs i v,x=.ref p/\y=.int i/\n4 K H p xs/\eu xs i=some v/\Q v H
def Ua:R2:=fun x y H Q=>∃ z i c,x=.str z/\y=.int i/\z.length<=sizeLine/\eu z.cps.toList i=some c/\Q (.str ⟨#[c]⟩) H
theorem YQ:sR X (T9 X.K):=by
 intro value slice pins s σ H x y v u Q I rx ry h hs
 obtain⟨p,xs,i,z,rfl,rfl,hq,he,q⟩:=h
 cases rx
 obtain⟨t,rfl⟩:=ry
 obtain⟨its,r,pl,hz⟩:=I.list hq
 obtain⟨j,h1,h2,h3,h4,h5⟩:=PR he
 obtain⟨w,ew,ng⟩:=r.get h2
 have hl:=r.length
 have hn:=Nc
 have fin:EP X pins σ Q w s:=⟨z,H,I,ng,q⟩
 by_cases h0:0<=i
 ·have hj:i.toNat=j:=by
   rw[seqIndex_of h0 h5] at h1
   exact Option.some.inj h1
  exact item_listR pl.isList h0 (by lia) (by rw[hj];simpa using ew) fin hs
 ·have hj:(i+(its.toArray.size:Int)).toNat=j:=by
   rw[seqIndex_neg (by exact Int.not_le.mp ‹_›) h4] at h1
   rw[i9,<- hl]
   exact Option.some.inj h1
  exact subscriptTail_builtinR (x:=w) pl.isList.typeIs slot_list_getitem.lookup
   (wpAny_getItem_list_neg (Q:=fun r s'=>r=w/\EP X pins σ Q r s') pl.isList (by exact Int.not_le.mp ‹_›) (by rw[i9]<;>lia) (by lia) (by rw[hj];simpa using ew) ⟨rfl,fin⟩) hs
theorem YR:sR X (T_ X.K):=by
 intro value slice pins s σ H x y v u Q I rx ry h hs
 obtain⟨p,xs,i,z,rfl,rfl,hq,he,q⟩:=h
 cases rx
 obtain⟨t,rfl⟩:=ry
 obtain⟨its,r,pl,hz⟩:=I.tuple hq
 obtain⟨j,h1,h2,h3,h4,h5⟩:=PR he
 obtain⟨w,ew,ng⟩:=r.get h2
 have hl:=r.length
 have hn:=Nc
 have fin:EP X pins σ Q w s:=⟨z,H,I,ng,q⟩
 exact subscriptTail_builtinR (x:=w) pl.typeIs slot_tuple_getitem.lookup
  (getItem_tuple (j:=j) (Q:=fun r s'=>r=w/\EP X pins σ Q r s') pl (by lia) (by lia) (by rw[i9,<- hl];exact h1) (by simpa using ew) ⟨rfl,fin⟩) hs
theorem YS:sR X Ua:=by
 intro value slice pins s σ H x y v u Q I rx ry h hs
 obtain⟨z,i,c,rfl,rfl,hz,he,q⟩:=h
 obtain⟨t,rfl⟩:=rx
 obtain⟨t',rfl⟩:=ry
 obtain⟨j,h1,h2,h3,h4,h5⟩:=PR he
 have hl:z.cps.toList.length=z.length:=by simp[Str.length]
 rw[hl] at h1 h4 h5
 have hn:=Nc
 exact tail_any (typeIs_str s z t) slot_str_getitem.lookup (getItem_str (c:=c) (by
  have e1:decide (i < -(2 ^ 63:Int))=false:=decide_eq_false (by lia)
  have e2:decide (i >= 2 ^ 63)=false:=decide_eq_false (by lia)
  rw[e1,e2,Bool.or_false]) (by rw[h1];simpa using h2) ⟨.str ⟨#[c]⟩,H,I.tok _,⟨_,rfl⟩,q⟩) hs
def YT(K:PySem.W.Frag):R2:=fun x y H Q=>T9 K x y H Q\/T_ K x y H Q\/Ua x y H Q
theorem YV:sR X (YT X.K):=YQ.or (YR.or YS)
theorem YW(lo hi:Option Int)(n:Nat):(sliceBounds lo hi none n).1=((HT.bq n 0 lo:Nat):Int)/\(sliceBounds lo hi none n).2.1=((HT.bq n n hi:Nat):Int)/\(sliceBounds lo hi none n).2.2=1:=by
 refine⟨?_,?_,rfl⟩
 ·cases lo with
  |none=>simp[sliceBounds,HT.bq]
  |some i =>
   simp only[sliceBounds,HT.bq,Option.getD_none,show(1:Int)>0 by decide,if_true]
   by_cases h:i<0
   ·simp only[h,if_true]<;>lia
   ·simp only[h,if_false]<;>lia
 ·cases hi with
  |none=>simp[sliceBounds,HT.bq]
  |some i =>
   simp only[sliceBounds,HT.bq,Option.getD_none,show(1:Int)>0 by decide,if_true]
   by_cases h:i<0
   ·simp only[h,if_true]<;>lia
   ·simp only[h,if_false]<;>lia
theorem YX(its:List Value)(lo hi:Option Int):slicePick its.toArray lo hi none=((its.drop (HT.bq its.length 0 lo)).take (HT.bq its.length its.length hi-HT.bq its.length 0 lo)).toArray:=by
 obtain⟨h1,h2,h3⟩:=YW lo hi its.toArray.size
 unfold slicePick
 rw[h1,h2,h3]
 simp only[sliceRange_one,pick_run,i9]<;>rfl
def YY(K:PySem.W.Frag):V->Option Int->Option Int->Hp->VK->Prop:=fun x lo hi H Q=>∃ a xs,x=.ref a/\eh K H a xs/\∀ p,H p=none->Q (.ref p) (upd H p (.lst (AI xs lo hi)))
theorem YZ:FV X (YY X.K):=by
 intro pins s σ H x v vl vu lo hi sl Q I rx hs pl pu h
 obtain⟨a,xs,rfl,hx,q⟩:=h
 cases rx
 obtain⟨its,r,ht,hz⟩:=I.list hx
 have hlen:=r.length
 refine⟨"list",_,slot_list_getitem.lookup,ht.isList.typeIs,?_⟩
 refine wpAny_getItem_list_slice ht.isList hs pl pu .none (by simp) ?_ (by rw[i9]<;>lia)
 rw[YX,<- hlen]
 refine⟨.ref s.heap.objs.size,_,I.laid (t':=s.toks) (o:=.lst (AI xs lo hi)) (fun b ob q=>eS _ q) (bX _) ?_,rfl,q _ (I.bp.fresh (bX _))⟩
 exact⟨hG (T7 xs lo hi) hz,_,0,(r.drop (HT.bq xs.length 0 lo)).take (HT.bq xs.length xs.length hi-HT.bq xs.length 0 lo),i6 _ rfl⟩
def AJ:V->Bool
 |.non=>true
 |.bl _=>true
 |.int _=>true
 |.str _=>true
 |_=>false
def B5:V->V->Bool
 |.non,.non=>true
 |.bl a,.bl b=>a == b
 |.bl a,.int b=>(if a then 1 else 0) == b
 |.int a,.bl b=>a == (if b then 1 else 0)
 |.int a,.int b=>a == b
 |.str a,.str b=>a == b
 |_,_=>false
theorem Y0(ry:RelV y u)(rx:RelV x v)(fy:AJ y=true)(fx:AJ x=true):SeqAt.EqAt A s u v (B5 y x):=by
 cases y with
 |non =>
  cases ry
  cases x with
  |non=>cases rx;exact SeqAt.EqAt.same _
  |bl b=>cases rx;exact SeqAt.EqAt.none_bool b
  |int b=>obtain⟨t,rfl⟩:=rx;exact SeqAt.EqAt.none_int b t
  |str b=>obtain⟨t,rfl⟩:=rx;exact SeqAt.EqAt.none_str b t
  |_=>exact absurd (show false=true from fx) gI
 |bl a =>
  cases ry
  cases x with
  |non=>cases rx;exact SeqAt.EqAt.bool_none a
  |bl b=>cases rx;exact SeqAt.EqAt.bool_bool a b
  |int b=>obtain⟨t,rfl⟩:=rx;exact SeqAt.EqAt.bool_int a b t
  |str b=>obtain⟨t,rfl⟩:=rx;exact SeqAt.EqAt.bool_str a b t
  |_=>exact absurd (show false=true from fx) gI
 |int a =>
  obtain⟨t',rfl⟩:=ry
  cases x with
  |non=>cases rx;exact SeqAt.EqAt.int_none a t'
  |bl b=>cases rx;exact SeqAt.EqAt.int_bool a t' b
  |int b=>obtain⟨t,rfl⟩:=rx;exact SeqAt.EqAt.int_int a t' b t
  |str b=>obtain⟨t,rfl⟩:=rx;exact SeqAt.EqAt.int_str a t' b t
  |_=>exact absurd (show false=true from fx) gI
 |str a =>
  obtain⟨t',rfl⟩:=ry
  cases x with
  |non=>cases rx;exact SeqAt.EqAt.str_none a t'
  |bl b=>cases rx;exact SeqAt.EqAt.str_bool a t' b
  |int b=>obtain⟨t,rfl⟩:=rx;exact SeqAt.EqAt.str_int a t' b t
  |str b=>obtain⟨t,rfl⟩:=rx;exact SeqAt.EqAt.str_str a t' b t
  |_=>exact absurd (show false=true from fx) gI
 |_=>exact absurd (show false=true from fy) gI
def AK(x:V)(u:Value):Bool:=match u with
 |.none=>B5 .non x
 |.bool b=>B5 (.bl b) x
 |.int i _=>B5 (.int i) x
 |.str z _=>B5 (.str z) x
 |_=>false
theorem Ub(r:RelV y u)(f:AJ y=true):AK x u=B5 y x:=by
 cases y with
 |non=>cases r;rfl
 |bl b=>cases r;rfl
 |int i=>obtain⟨t,rfl⟩:=r;rfl
 |str z=>obtain⟨t,rfl⟩:=r;rfl
 |_=>exact absurd (show false=true from f) gI
theorem PZ:∀ {xs:List V} {us:List Value},Vals xs us->xs.all AJ=true->us.any (AK x)=xs.any fun y=>B5 y x
 |_,_,.nil,_=>rfl
 |y :: xs,u :: us,.cons r t,f=>by
  rw[DH,kQ] at f
  rw[DI,DI,Ub r f.1,PZ t f.2]
theorem P0(rx:RelV x v)(fx:AJ x=true):∀ {xs:List V} {us:List Value},Vals xs us->xs.all AJ=true->∀ u∈us,SeqAt.EqAt A s u v (AK x u)
 |_,_,.nil,_=>fun u hu=>by cases hu
 |y :: xs,u :: us,.cons r t,f=>fun u' hu=>by
  rw[DH,kQ] at f
  rcases cK.mp hu with rfl|hu
  ·rw[Ub r f.1];exact Y0 r rx f.1 fx
  ·exact P0 rx fx t f.2 u' hu
def Uc(x:V)(xs:List V):Bool:=xs.any fun y=>B5 y x
def Ud(K:PySem.W.Frag)(neg:Bool):R2:=fun x y H Q=>∃ p xs,y=.ref p/\(eh K H p xs\/n4 K H p xs)/\AJ x=true/\xs.all AJ=true/\Q (.bl (if neg then !Uc x xs else Uc x xs)) H
theorem Y1:cq X (compareOp .In) (Ud X.K false):=by
 intro pins s σ H x y v u Q I rx ry h
 obtain⟨p,xs,rfl,hq,fx,fs,q⟩:=h
 cases ry
 rcases hq with hq|hq
 ·obtain⟨its,r,pl,hz⟩:=I.list hq
  refine SeqAt.in_listAt (AK x) pl.isList (fun w hw=>P0 rx fx r fs w (by simpa using hw)) ⟨.bl _,H,I,rfl,?_⟩
  rw[show its.toArray.any (AK x)=its.any (AK x) by simp,PZ r fs]
  exact q
 ·obtain⟨its,r,pl,hz⟩:=I.tuple hq
  refine SeqAt.in_tupleAt (AK x) pl (fun w hw=>P0 rx fx r fs w (by simpa using hw)) ⟨.bl _,H,I,rfl,?_⟩
  rw[show its.toArray.any (AK x)=its.any (AK x) by simp,PZ r fs]
  exact q
theorem iO.or(h:iO X f r)(h':iO X f r'):iO X f (fun xs H Q=>r xs H Q\/r' xs H Q):=by
 intro pins s σ H xs us Q I rs q
 rcases q with q|q
 ·exact h pins s σ H xs us Q I rs q
 ·exact h' pins s σ H xs us Q I rs q
theorem Y2:iO X (.type "list") (fun xs H Q=>∃ p ys,xs=[.ref p]/\(eh X.K H p ys\/n4 X.K H p ys)/\∀ l,H l=none->Q (.ref l) (upd H l (.lst ys))):=by
 intro pins s σ H xs us Q I r h
 obtain⟨p,ys,rfl,hq,q⟩:=h
 obtain⟨u,rfl,rx⟩:=vals1 r
 cases rx
 have fin:∀ (its:List Value),Vals ys its->ys.length<=sizeLine->∀ (h':Heap) (c':Nat),(∀ b o',s.heap.get? b=some o'->h'.get? b=some o') ->
   h'.get? s.heap.objs.size=some { cls:=.type "list",dict:=none,data:=.seq its.toArray c',slots:=#[] }->EP X pins σ Q (.ref s.heap.objs.size) { s with heap:=h' }:=fun its r' hz h' c' kp e =>
  ⟨.ref s.heap.objs.size,_,I.laid (t':=s.toks) kp (bX _) (show eR X.prog X.w _ h' _ (.lst ys) from⟨hz,its,c',r',e⟩),rfl,q _ (I.bp.fresh (bX _))⟩
 rcases hq with hq|hq
 ·obtain⟨its,r',pl,hz⟩:=I.list hq
  have hlen:=r'.length
  obtain⟨o,ho,hc,n,hd⟩:=pl.isList
  exact call_list_seq p (.inl rfl) ho hc hd (fun h' c' kp e=>fin its r' hz h' c' kp e) (by simp only[i9]<;>lia)
 ·obtain⟨its,r',pl,hz⟩:=I.tuple hq
  have hlen:=r'.length
  obtain⟨o,ho,hc,n,hd⟩:=pl
  exact call_list_seq p (.inr rfl) ho hc hd (fun h' c' kp e=>fin its r' hz h' c' kp e) (by simp only[i9]<;>lia)
def Ue(K:PySem.W.Frag)(T:String)(x:V)(H:Hp):Prop:=match x with
 |.str _=>T = "str"
 |.int _=>T = "int"
 |.ref p=>(T = "list"/\∃ xs,eh K H p xs)\/(T = "tuple"/\∃ o,K.lookup p=some o/\o.cls=.type "tuple"/\o.dict=none) \/
   (T = "dict"/\((∃ kvs,H p=some (.dK kvs))\/∃ kvs,H p=some (.dT kvs)))\/(T = "set"/\∃ S n,H p=some (.set S n))
 |_=>False
theorem Y3{T:String}(I:Inv X pins σ H s)(r:RelV x v)(ty:Ue X.K T x H) :
  s.TypeIs v T/\∀ a,v=.ref a->∃ ob,s.heap.get? a=some ob/\ob.dict=none:=by
 cases x with
 |str z =>
  obtain⟨t,rfl⟩:=r
  cases (show T = "str" from ty)
  exact⟨typeIs_str s z t,fun _ e=>nomatch e⟩
 |int i =>
  obtain⟨t,rfl⟩:=r
  cases (show T = "int" from ty)
  exact⟨typeIs_int s i t,fun _ e=>nomatch e⟩
 |ref p =>
  cases r
  rcases ty with⟨rfl,xs,hq⟩|⟨rfl,o,hk,hc,hd⟩|⟨rfl,hk⟩|⟨rfl,S,n,hk⟩
  ·obtain⟨its,_,pl,_⟩:=I.list hq
   refine⟨pl.isList.typeIs,fun a e=>?_⟩
   cases e
   obtain⟨o,n,e,c,hd,_⟩:=pl
   exact⟨o,e,hd⟩
  ·refine⟨⟨o,I.js p o hk,hc⟩,fun a e=>?_⟩
   cases e
   exact⟨o,I.js _ o hk,hd⟩
  ·have z:∃ o,s.heap.get? p=some o/\o.ExactDict:=by
    rcases hk with⟨kvs,hk⟩|⟨kvs,hk⟩
    ·obtain⟨_,_,_,_,o,_,_,e,ex,_⟩:=I.bp p _ hk
     exact⟨o,e,ex⟩
    ·obtain⟨_,_,_,_,o,_,_,e,ex,_⟩:=I.bp p _ hk
     exact⟨o,e,ex⟩
   obtain⟨o,e,ex⟩:=z
   refine⟨⟨o,e,ex.1⟩,fun a e2=>?_⟩
   cases e2
   exact⟨o,e,ex.2.1⟩
  ·obtain⟨o,_,_,_,e,ex,_⟩:=I.bp p _ hk
   refine⟨⟨o,e,ex.1⟩,fun a e2=>?_⟩
   cases e2
   exact⟨o,e,ex.2.1⟩
 |_=>exact False.elim ty
def Y4(K:PySem.W.Frag)(T:String)(r:V->List V->Hp->VK->Prop)(to:TE)(t:TA):TE:=fun σ H Q=>to σ H fun x H1=>Ue K T x H1/\t σ H1 fun xs H2=>r x xs H2 Q
variable {o e:Expr}{es:List Expr}{to:TE}{t:TA}{name:Str}{apos ft:Pos}{T id:String}{r:V->List V->Hp->VK->Prop}
theorem Nm (pa:PlainAttrs T) (slot:Slot T name id) (Y5:typeOf (.builtin id)=pure (.type "method_descriptor")) (hm:PX X id r) (ho:PE X o to) (ha:PA X (e :: es) t)
  (D3:attributeBase o name X.env (eval o X.env)=eval o X.env:=by rfl)
  (AO:((backTo ft (starEach (e :: es) X.env)).all (fun x=>!x.1) && (backToKw ft (keywordEach [] X.env)).all (fun x=>x.1.isSome)
   && decide ((e :: es).length+([]:List Keyword).length+(if ([]:List Keyword).isEmpty then 0 else 1)<30))=true:=by rfl)
  (hline:(apos.endLine == ft.line)=true:=by rfl) (hs:starEach (e :: es) X.env=(false,eval e X.env) :: starEach es X.env:=by rfl) (D4:(backTo ft (starEach es X.env)).any (·.1)=false:=by rfl) :
  PE X (.Call (.Attribute o name apos) (e :: es) [] ft) (Y4 X.K T r to t):=by
 intro pins s σ H Q I h
 refine wpAny_Call_method_late D3 AO hline rfl (ck (ho pins s σ H _ I h) fun v s1 df=>?_)
 obtain⟨x,H1,I1,r1,ty,q1⟩:=df
 obtain⟨h1,h2⟩:=Y3 I1 r1 ty
 refine⟨T,id,pa,slot,Y5,h1,h2,?_⟩
 have hA:=ha ft pins s1 σ H1 _ I1 q1
 rw[hs] at hA ⊢
 refine Calls.callWith_builtin (by show(false || (backTo ft (starEach es X.env)).any (·.1))=false;rw[D4]<;>rfl) (Calls.evalArgs_plain ?_)
 exact ck hA fun us s2 cw=>L2.gi cw fun vs H2 I2 r2 q2=>hm pins s2 σ H2 x vs v us Q I2 r1 r2 q2
end
def Y6(X:Cx)(id:String)(r:V->List V->Hp->VK->Prop):Prop :=
 ∀ (pins:List (Addr × Obj)) (s:Shared) (σ:St) (H:Hp) (x:V) (xs:List V) (v:Value) (us:List Value) (Q:VK),Inv X pins σ H s->RelV x v->Vals xs us->r x xs H Q ->
  wpAny (model X.prog X.w) X.A (call (.builtin id) (v :: us)) (EP X pins σ Q) X.xe s
theorem Vals.one{x:V}{us:List Value}(h:Vals [x] us):∃ u,us=[u]/\RelV x u:=by
 cases h
 rename_i r h
 cases h
 exact⟨_,rfl,‹_›⟩
theorem Vals.two{x y:V}{us:List Value}(h:Vals [x,y] us):∃ u v,us=[u,v]/\RelV x u/\RelV y v:=by
 cases h
 rename_i r h
 cases h
 rename_i q h
 cases h
 exact⟨_,_,rfl,‹_›,‹_›⟩
theorem Vals.rep(h:Vals xs us):∀ k:Nat,Vals (List.replicate k xs).flatten (List.replicate k us).flatten
 |0=>.nil
 |k+1=>by
  rw[xI,xI,zC,zC]
  exact Vals.append h (Vals.rep h k)
section
variable {X:Cx}{pins:List (Addr × Obj)}{σ:St}{H:Hp}{s:Shared}{l:Addr}{xs ys:List V}
theorem Inv.Y7{its its':List Value}{n:Nat}{f:Array Value->Array Value}{t':Nat}(I:Inv X pins σ H s)(hH:H l=some (.lst xs))
  (e:s.heap.get? l=some { cls:=.type "list",data:=.seq its.toArray n }) (hf:f its.toArray=its'.toArray) (hv:Vals ys its') (hz:ys.length<=sizeLine) :
  Inv X pins σ (upd H l (.lst ys)) { s with heap:=s.heap.update l (Obj.mapSeq f),toks:=t' }:=by
 have q:=PySem.IsL.update e f
 rw[hf] at q
 refine I.write (x:=l) (e:=l) (by rw[hH];exact trivial) (.inl rfl) (fun b' u hb hu=>(IX s.heap (Obj.mapSeq f) (Ne.symm hb)).trans hu) ⟨_,q⟩ ?_
 exact⟨hz,its',_,hv,q⟩
theorem Inv.P1(I:Inv X pins σ H s)(hv:Vals ys its)(hz:ys.length<=sizeLine) :
  Inv X pins σ (upd H s.heap.objs.size (.lst ys)) { s with heap:=s.heap.push { cls:=.type "list",data:=.seq its.toArray },toks:=t' } :=
 I.laid (fun _ _ q=>eS _ q) (bX _) ⟨hz,its,0,hv,i6 _ rfl⟩
theorem Inv.fresh(I:Inv X pins σ H s):H s.heap.objs.size=none:=I.bp.fresh (bX _)
theorem Inv.Y8 (I:Inv X pins σ H s) (hH:H l=some (.lst xs)):xs.length<=sizeLine/\∃ (its:List Value) (n:Nat),Vals xs its/\xs.length=its.length/\s.heap.get? l=some { cls:=.type "list",data:=.seq its.toArray n }:=by
 obtain⟨z,its,n,r,e⟩:=I.bp l _ hH
 exact⟨z,its,n,r,r.length,e⟩
end
section
variable {X:Cx}
def Y9:V->List V->Hp->VK->Prop:=fun x vs H Q=>∃ l xs y,x=.ref l/\vs=[y]/\H l=some (.lst xs)/\xs.length<sizeLine/\Q .non (upd H l (.lst (xs++[y])))
theorem P4:Y6 X "list.append" Y9:=by
 intro pins s σ H x vs v us Q I rx rv h
 obtain⟨l,xs,y,rfl,rfl,hH,hz,q⟩:=h
 cases rx
 obtain⟨u,rfl,ru⟩:=rv.one
 obtain⟨z,its,n,r,hl,e⟩:=I.Y8 hH
 refine call_meets F.slot_list_append ⟨_,e,rfl⟩ F.entry_list_append (F.args_list_append_2 _ _) (PySem.list_append l its.toArray n u (by rw[i9];lia)) ⟨e,?_⟩
 refine⟨.non,_,I.Y7 (its':=its++[u]) hH e (by simp) (r.append (.cons ru .nil)) ?_,rfl,q⟩
 rw[tS,List.length_singleton]
 assumption
end
section
set_option maxRecDepth 100000 in
end
section
variable {κ:Type}[DecidableEq κ]
def oI(kvs:List (κ × V))(k:κ):Option V:=(kvs.find? fun kv=>decide (kv.1=k)).map (·.2)
def putK(kvs:List (κ × V))(k:κ)(v:V):List (κ × V) :=
 if (kvs.any fun kv=>decide (kv.1=k))=true then kvs.map (fun kv=>if kv.1=k then (kv.1,v) else kv) else kvs++[(k,v)]
theorem Nn{p:κ × V}{r:List (κ × V)}{k:κ}(e:p.1=k):oI (p :: r) k=some p.2:=by simp[oI,DE,e]
theorem Np{p:κ × V}{r:List (κ × V)}{k:κ}(e:¬ p.1=k):oI (p :: r) k=oI r k:=by simp[oI,DE,e]
theorem Ug(k:κ):∀ kvs:List (κ × V),(kvs.any fun kv=>decide (kv.1=k))=(oI kvs k).isSome
 |[]=>rfl
 |p :: r=>by
  rw[DI]
  by_cases e:p.1=k
  ·simp only[Nn e,decide_eq_true e,Bool.true_or,Option.isSome_some]
  ·rw[Np e,decide_eq_false e,Bool.false_or];exact Ug k r
theorem Uh(kvs:List (κ × V))(k:κ)(v:V):(putK kvs k v).length<=kvs.length+1:=by
 unfold putK
 split
 ·rw[dc];exact O1 _ _
 ·rw[tS,qc,List.length_nil];exact bX _
theorem vS.P5(r:vS o u):o.isSome=u.isSome:=by
 cases o with
 |none=>cases u with
  |none=>rfl
  |some _=>exact(show False from r).elim
 |some _=>cases u with
  |none=>exact(show False from r).elim
  |some _=>rfl
theorem KV.val{kvs:List (κ × V)}{vs:List (κ × Value)}(r:KV kvs vs)(k:κ):vS (oI kvs k) (valueAt vs k):=by
 unfold KV at r
 induction r with
 |nil=>exact True.intro
 |@cons p q ps qs h t ih =>
  obtain⟨h1,h2⟩:=h
  by_cases e:p.1=k
  ·have e':q.1=k:=h1.symm.trans e
   have b:valueAt (q :: qs) k=some q.2:=by simp[valueAt,DE,e']
   rw[Nn e,b];exact h2
  ·have e':¬ q.1=k:=fun z=>e (h1.trans z)
   have b:valueAt (q :: qs) k=valueAt qs k:=by simp[valueAt,DE,e']
   rw[Np e,b];exact ih
theorem KV.any(r:KV kvs vs)(k:κ):(kvs.any fun kv=>decide (kv.1=k))=vs.any fun kv=>decide (kv.1=k):=by
 unfold KV at r
 induction r with
 |nil=>rfl
 |cons h t ih=>rw[DI,DI,ih,h.1]
theorem KV.repl(r:KV kvs vs)(k:κ)(ry:RelV y u) :
  KV (kvs.map fun kv=>if kv.1=k then (kv.1,y) else kv) (vs.map fun kv=>if kv.1=k then (kv.1,u) else kv):=by
 unfold KV at r ⊢
 induction r with
 |nil=>exact .nil
 |@cons p q ps qs h t ih =>
  rw[fm,fm]
  refine .cons ?_ ih
  obtain⟨h1,h2⟩:=h
  by_cases e:p.1=k
  ·rw[if_pos e,if_pos (h1.symm.trans e)];exact⟨h1,ry⟩
  ·rw[if_neg e,if_neg (fun z=>e (h1.trans z))];exact⟨h1,h2⟩
theorem KV.put(r:KV kvs vs)(k:κ)(ry:RelV y u):KV (putK kvs k y) (stored vs k u):=by
 unfold putK stored
 rw[r.any k]
 by_cases e:(vs.any fun kv=>decide (kv.1=k))=true
 ·rw[if_pos e,if_pos e];exact r.repl k ry
 ·rw[if_neg e,if_neg e];exact Paired.snoc r ⟨rfl,ry⟩
theorem KV.length(r:KV kvs vs):kvs.length=vs.length:=Paired.length r
end
theorem Nq{P:Program}(r:RelV (kV k) u):(lT P w).is k u=true:=by
 cases k with
 |inl i=>obtain⟨t,e⟩:=(show ∃ t,u=Value.int i t from r);subst e;exact WX P w i t
 |inr x=>obtain⟨t,e⟩:=(show ∃ t,u=Value.str x t from r);subst e;exact WY P w x t
theorem P6{P:Program}:∀ {ks:List Key} {us:List Value},Vals (ks.map kV) us->ItemsAre (lT P w) ks us
 |[],_,r=>by rw[List.map_nil] at r;cases r;exact .nil
 |k :: ks,_,r=>by
  rw[fm] at r
  cases r with
  |cons h t=>exact .cons (Nq h) (P6 t)
abbrev KT(H:Hp):List (List Key × V)->List (List Key × Addr × Value)->Prop:=Paired fun p q=>p.1=q.1/\H q.2.1=some (.tup (p.1.map kV))/\RelV p.2 q.2.2
theorem KT.val{H:Hp}{kvs:List (List Key × V)}{xs:List (List Key × Addr × Value)}(r:KT H kvs xs)(k:List Key):vS (oI kvs k) ((atKey xs k).map (·.2)):=by
 induction r with
 |nil=>exact True.intro
 |@cons p q ps qs h t ih =>
  obtain⟨h1,_,h2⟩:=h
  by_cases e:p.1=k
  ·have e':q.1=k:=h1.symm.trans e
   have b:atKey (q :: qs) k=some q.2:=by simp[atKey,DE,e']
   rw[Nn e,b];exact h2
  ·have e':¬ q.1=k:=fun z=>e (h1.trans z)
   have b:atKey (q :: qs) k=atKey qs k:=by simp[atKey,DE,e']
   rw[Np e,b];exact ih
theorem KT.repl(r:KT H kvs xs)(k:List Key)(ry:RelV y u) :
  KT H (kvs.map fun kv=>if kv.1=k then (kv.1,y) else kv) (xs.map (putAt k u)):=by
 induction r with
 |nil=>exact .nil
 |@cons p q ps qs h t ih =>
  rw[fm,fm]
  refine .cons ?_ ih
  obtain⟨h1,h2,h3⟩:=h
  unfold putAt
  by_cases e:p.1=k
  ·rw[if_pos e,if_pos (h1.symm.trans e)];exact⟨h1,h2,ry⟩
  ·rw[if_neg e,if_neg (fun z=>e (h1.trans z))];exact⟨h1,h2,h3⟩
theorem KT.put(r:KT H kvs xs)(k:List Key)(hb:H b=some (.tup (k.map kV)))(ry:RelV y u) :
  KT H (putK kvs k y) (storedH xs k b u):=by
 have e:(kvs.any fun kv=>decide (kv.1=k))=(atKey xs k).isSome:=by
  rw[Ug,(r.val k).P5,Option.isSome_map]
 unfold putK storedH
 rw[e]
 by_cases q:(atKey xs k).isSome=true
 ·rw[if_pos q,if_pos q];exact r.repl k ry
 ·rw[if_neg q,if_neg q];exact Paired.snoc r ⟨rfl,hb,ry⟩
theorem KT.keeps(r:KT H kvs xs)(ht:∀ b ys,H b=some (.tup ys)->H' b=some (.tup ys)):KT H' kvs xs :=
 Paired.O9 r fun _ _ z=>⟨z.1,ht _ _ z.2.1,z.2.2⟩
section
variable {P:Program}{w:World}{H:Hp}{h:Heap}{a:Addr}
theorem Ui(ok:fo P w H h)(e:Rd H a u):eR P w H h a u:=e.ok ok
theorem K4(ok:fo P w H h)(e:Rd H a (.dK kvs)):kvs.length<=sizeLine/\(a == sysModules)=false/\∃ vs,KV kvs vs/\h.DictOf (lT P w) a vs :=
 show eR P w H h a (.dK kvs) from Ui ok e
theorem Y_(ok:fo P w H h)(e:H a=some (.dK kvs)):kvs.length<=sizeLine/\(a == sysModules)=false/\∃ vs,KV kvs vs/\h.DictOf (lT P w) a vs:=K4 ok (.inl e)
theorem Nr(ok:fo P w H h)(e:H a=some (.tup (ks.map kV))):(tupleKind (lT P w)).is h ks a:=by
 obtain⟨_,its,r,o,h1,h2,n,h3⟩:=(show eR P w H h a (.tup (ks.map kV)) from ok a _ e)
 exact⟨o,its.toArray,n,h1,h2,h3,by simpa using P6 r⟩
theorem Nt(ok:fo P w H h)(e:Rd H a (.dT kvs)):kvs.length<=sizeLine/\(a == sysModules)=false /\
  ∃ xs,KT H kvs xs/\h.DictOfH (tupleKind (lT P w)) a xs:=by
 obtain⟨z,y,xs,r,o,es,ep,h1,h2,h3,h4,h5⟩:=(show eR P w H h a (.dT kvs) from Ui ok e)
 refine⟨z,y,xs,r,o,es,ep,h1,h2,h3,h4,fun x hx=>?_,h5⟩
 have all:∀ {l:List (List Key × V)} {m:List (List Key × Addr × Value)},KT H l m->∀ x∈m,(tupleKind (lT P w)).is h x.1 x.2.1:=by
  intro l m q
  induction q with
  |nil=>intro x hx;exact nomatch hx
  |@cons p q ps qs hq t ih =>
   intro x hx
   rcases cK.mp hx with e|hx
   ·subst e
    exact Nr ok (by rw[<- hq.1];exact hq.2.1)
   ·exact ih x hx
 exact all r x hx
theorem Za(ok:fo P w H h)(e:H a=some (.dT kvs)):kvs.length<=sizeLine/\(a == sysModules)=false /\
  ∃ xs,KT H kvs xs/\h.DictOfH (tupleKind (lT P w)) a xs:=Nt ok (.inl e)
end
def qk(H:Hp)(a:Addr)(y:V)(r:Option V):Prop :=
 (∃ kvs k,Rd H a (.dK kvs)/\y=kV k/\r=oI kvs k)\/∃ kvs k b,Rd H a (.dT kvs)/\y=.ref b/\H b=some (.tup (k.map kV))/\r=oI kvs k
def B6(H:Hp)(a:Addr)(y v:V)(H':Hp):Prop :=
 (∃ kvs k,H a=some (.dK kvs)/\y=kV k/\kvs.length<sizeLine/\H'=upd H a (.dK (putK kvs k v))) \/
 ∃ kvs k b,H a=some (.dT kvs)/\y=.ref b/\H b=some (.tup (k.map kV))/\kvs.length<sizeLine/\H'=upd H a (.dT (putK kvs k v))
theorem qk.k{H:Hp}{a:Addr}{kvs:List (Key × V)}{k:Key}(e:H a=some (.dK kvs)):qk H a (kV k) (oI kvs k):=.inl ⟨kvs,k,.inl e,rfl,rfl⟩
theorem qk.t{H:Hp}{a b:Addr}{kvs:List (List Key × V)}{k:List Key}(e:H a=some (.dT kvs))(eb:H b=some (.tup (k.map kV))):qk H a (.ref b) (oI kvs k):=.inr ⟨kvs,k,b,.inl e,rfl,eb,rfl⟩
theorem B6.k{H:Hp}{a:Addr}{kvs:List (Key × V)}{k:Key}{v:V}(e:H a=some (.dK kvs))(hl:kvs.length<sizeLine):B6 H a (kV k) v (upd H a (.dK (putK kvs k v))):=.inl ⟨kvs,k,e,rfl,hl,rfl⟩
theorem B6.t{H:Hp}{a b:Addr}{kvs:List (List Key × V)}{k:List Key}{v:V}(e:H a=some (.dT kvs))(eb:H b=some (.tup (k.map kV)))(hl:kvs.length<sizeLine) :
  B6 H a (.ref b) v (upd H a (.dT (putK kvs k v))):=.inr ⟨kvs,k,b,e,rfl,eb,hl,rfl⟩
section
variable {X:Cx}{pins:List (Addr × Obj)}{σ:St}{H:Hp}{s:Shared}{a:Addr}{y v:V}{u r:Value}{o:Option V}{A:Around}{E:Value->Shared->Prop}
theorem Inv.big(I:Inv X pins σ H s):sysModules<s.heap.objs.size:=by
 have h:mainGlobals<s.heap.objs.size:=(I.mod.glob.keeps I.bk).lt
 exact O3 (by decide) h
theorem Zb(hu:A.units+1<cLine)(I:Inv X pins σ H s)(g:qk H a y (some v))(ry:RelV y u)(h:∀ w' s',Inv X pins σ H s'->RelV v w'->Q w' s') :
  wpAny (model X.prog X.w) A (getItem (.ref a) u) Q E s:=by
 rcases g with⟨kvs,k,e,ey,l⟩|⟨kvs,k,b,e,ey,eb,l⟩
 ·subst ey
  obtain⟨z,hd,vs,rel,dd⟩:=K4 I.bp e
  obtain⟨w',hw,ng⟩:=vS.some_of (v:=v) (o:=valueAt vs k) (by rw[l];exact rel.val k)
  exact wpAny_getItem_of (Nq ry) dd.mapOf hw (h w' _ (I.tok _) ng)
 ·subst ey
  cases (show u=Value.ref b from ry)
  obtain⟨z,hd,xs,rel,dd⟩:=Nt I.bp e
  obtain⟨w',hw,ng⟩:=vS.some_of (v:=v) (o:=(atKey xs k).map (·.2)) (by rw[l];exact rel.val k)
  obtain⟨p,hp,Zc⟩:=Option.map_eq_some_iff.mp hw
  refine wpAny_getItem_heap (tupleKind_room_in1 hu) (Nr I.bp eb) dd hp ?_
  rw[Zc]
  exact h w' _ (I.tok _) ng
theorem Zd(hu:A.units+1<cLine)(I:Inv X pins σ H s)(g:qk H a y o)(ry:RelV y u)(h:∀ s',Inv X pins σ H s'->Q (.bool o.isSome) s') :
  wpAny (model X.prog X.w) A (compareOp .In u (.ref a)) Q E s:=by
 rcases g with⟨kvs,k,e,ey,l⟩|⟨kvs,k,b,e,ey,eb,l⟩
 ·subst ey
  obtain⟨z,hd,vs,rel,dd⟩:=K4 I.bp e
  refine wpAny_in_of (Nq ry) hd dd.mapOf ?_
  rw[<- (rel.val k).P5,<- l]
  exact h _ (I.tok _)
 ·subst ey
  cases (show u=Value.ref b from ry)
  obtain⟨z,hd,xs,rel,dd⟩:=Nt I.bp e
  refine wpAny_in_heap (tupleKind_room_in1 hu) (Nr I.bp eb) hd dd ?_
  have q:=(rel.val k).P5
  rw[Option.isSome_map] at q
  rw[<- q,<- l]
  exact h _ (I.tok _)
theorem Uj(I:Inv X pins σ H s)(mu:JY (H a))(hs:Heap.SameBut a s.heap h')(he:∃ q,h'.get? a=some q)(new:eR X.prog X.w (upd H a ob) h' a ob) :
  Inv X pins σ (upd H a ob) { s with heap:=h',toks:=t' } :=
 I.write (x:=a) (e:=a) mu (.inl rfl) (fun b q hb z=>(hs.2 b hb).trans z) he new
theorem Ze{P:Program}(z:kvs.length<=sizeLine)(hd:(a == sysModules)=false)(rel:KV kvs vs)(dd:h'.DictOf (lT P w) a vs) :
  eR P w H' h' a (.dK kvs):=⟨z,hd,vs,rel,dd⟩
theorem Zf(hu:A.units+1<cLine)(I:Inv X pins σ H s)(g:B6 H a y v H')(ry:RelV y u)(rv:RelV v r)(h:∀ s',Inv X pins σ H' s'->Q () s') :
  wpAny (model X.prog X.w) A (setItem (.ref a) u r) Q E s:=by
 rcases g with⟨kvs,k,e,ey,l,eH⟩|⟨kvs,k,b,e,ey,eb,l,eH⟩
 ·subst ey eH
  obtain⟨z,hd,vs,rel,dd⟩:=Y_ I.bp e
  have hz:vs.length<=sizeLine:=by rw[<- rel.length];exact z
  have hl:(putK kvs k v).length<=sizeLine:=by have:=Uh kvs k v;lia
  refine wpAny_setItem_pairs (hsz:=hz) (Nq ry) dd fun h' Nu hs=>h _ ?_
  have he:∃ q,h'.get? a=some q:=let ⟨q,_,_,hq,_⟩:=Nu;⟨q,hq⟩
  exact Uj I (by rw[e];exact True.intro) hs he (Ze hl hd (rel.put k rv) Nu)
 ·subst ey eH
  cases (show u=Value.ref b from ry)
  obtain⟨z,hd,xs,rel,dd⟩:=Za I.bp e
  have hz:xs.length<=sizeLine:=by rw[<- Paired.length rel];exact z
  have hl:(putK kvs k v).length<=sizeLine:=by have:=Uh kvs k v;lia
  refine wpAny_setItem_heap (hsz:=hz) (tupleKind_room_in1 hu) (Nr I.bp eb) dd fun h' Nu hs=>h _ ?_
  obtain⟨q,es,ep,hq,h2,h3,h4,_,h5⟩:=Nu
  refine Uj I (by rw[e];exact True.intro) hs ⟨q,hq⟩ ⟨hl,hd,_,(rel.put k eb rv).keeps fun c ys ec=>?_,q,es,ep,hq,h2,h3,h4,h5⟩
  rw[fw (WZ ec e (fun z=>nomatch z))]
  exact ec
end
section
variable {X:Cx}{pins:List (Addr × Obj)}{σ:St}{H:Hp}{s:Shared}{a:Addr}{kvs:List (Key × V)}{A:Around}{E:Value->Shared->Prop}
theorem Zg (I:Inv X pins σ H s) (e:Rd H a (.dK kvs)) (h:∀ t s',Inv X pins σ H s'->Q (.int kvs.length t) s'):wpAny (model X.prog X.w) A (call (.builtin "len") [.ref a]) Q E s:=by
 obtain⟨z,hd,vs,rel,dd⟩:=K4 I.bp e
 refine call_len_dict hd dd (by rw[<- rel.length];rw[sizeLine_eq] at z;lia) ?_
 rw[<- rel.length]
 exact h _ _ (I.tok _)
end
theorem Zh {X:Cx} (I:Inv X pins σ H s) (g:qk H a y o):s.TypeIs (.ref a) "dict" := by
 rcases g with⟨kvs,k,e,_,_⟩|⟨kvs,k,b,e,_,_,_⟩
 ·obtain⟨_,_,vs,_,dd⟩:=K4 I.bp e
  exact dd.typeIs
 ·obtain⟨_,_,xs,_,dd⟩:=Nt I.bp e
  exact dd.typeIs
def Zi(td ty tv:TE):TS:=fun D σ H=>tv σ H fun v H1=>td σ H1 fun x H2=>ty σ H2 fun y H3=>∃ a H4,x=.ref a/\B6 H3 a y v H4/\D.nx σ H4
section
variable {X:Cx}{o i value:Expr}{pos pos':Pos}{td ty tv:TE}
theorem Zj(hu:X.A.units+1<cLine)(ho:PE X o td)(hi:PE X i ty)(hv:PE X value tv)(hs:swapsWith value (some (.Subscript o i pos')) pos.line X.env=pure false) :
  PS X (.Assign [.Subscript o i pos'] value pos) (Zi td ty tv):=by
 intro pins s σ H D I h
 refine wpAny_Assign_Subscript (ck (hv pins s σ H _ I h) fun r s1 cw=>L2.gi cw fun v H1 I1 rv q1=>ck (ho pins s1 σ H1 _ I1 q1) fun u s2 cw=>L2.gi cw fun x H2 I2 rx q2=>ck (hi pins s2 σ H2 _ I2 q2) fun iv s3 df=>?_) hs
 obtain⟨y,H3,I3,ry,a,H4,ex,g,q3⟩:=df
 subst ex
 obtain rfl:u=Value.ref a:=rx
 exact Zf hu I3 g ry rv fun s4 I4=>⟨σ,H4,I4,q3⟩
end
theorem Zk {P:Program} (h:Heap) (hb:sysModules<h.objs.size):eR P w H (h.push { cls:=.type "dict",data:=.dict #[] }) h.objs.size (.dT []) :=
 ⟨dQ _,beq_eq_false_iff_ne.mpr (Ne.symm (eP hb)),[],.nil,_,#[],0,i6 _ rfl,⟨rfl,rfl,rfl⟩,rfl,rfl,oz⟩
def Zm:TE:=fun _ H Q=>∀ p,H p=none->Q (.ref p) (upd H p (.dT []))
section
variable {X:Cx}{pos:Pos}
theorem Zn:PE X (.Dict [] [] pos) Zm:=fun pins s σ H Q I h =>
 wpAny_Dict_empty ⟨.ref s.heap.objs.size,_,I.laid (a:=s.heap.objs.size) (o:=.dT []) (t':=s.toks) (fun _ _ q=>eS _ q) (bX _) (Zk s.heap I.big),rfl,h _ (I.bp.fresh (bX _))⟩
end
structure M1(X:Cx)(o:Expr)(m:Str)(apos:Pos)(e:Expr)(ft:Pos):Prop where
 base:attributeBase o m X.env (eval o X.env)=eval o X.env
 few:((backTo ft (starEach [e] X.env)).all (fun x=>!x.1) && (backToKw ft (keywordEach [] X.env)).all (fun x=>x.1.isSome)
  && decide (([e]:List Expr).length+([]:List Keyword).length+(if ([]:List Keyword).isEmpty then 0 else 1)<30))=true
 line:(apos.endLine == ft.line)=true
 trees:backTo ft (starEach [e] X.env)=[(false,eval e X.env)]
end L2
namespace Uk
open PySem PySem.W PySem.Calls PyProof.Rows
theorem Zo{P:Params}:∀ (ns:List Int) (vs:List Value),WellAll P h vs (ns.map WData.int)->IntsAre vs ns:=by
 intro ns
 induction ns with
 |nil =>
  intro vs w
  rw[List.map_nil] at w
  cases w
  exact .nil
 |cons n ns ih =>
  intro vs w
  rw[fm] at w
  cases w with
  |cons a b =>
   cases a
   exact .cons _ _ (ih _ b)
theorem Zq{l:OpenLaw}{n:Nat}(hn:l.most=some n){P:Params}{h:Heap}{args:List WData}{vals:List Value}
  (B7:l.row.toRowW.claim.pre args=true) (P7:WellAll P h vals args) :
  ∃ a vs ns,vals=[Value.ref a]/\args=[WData.list (ns.map WData.int)]/\h.get? a=some { cls:=.type "list",data:=.seq vs.toArray }/\IntsAre vs ns/\ns.length<=n:=by
 have FY:WShape.hasAll [] args [.list .int]=true:=(pre_splitW B7).1
 have hc:l.pre.holds [] { args:=args }=true:=(pre_splitW B7).2
 obtain⟨d,r,rfl,h1,h2⟩:=hasAllW_cons FY
 obtain rfl:=hasAllW_nil h2
 obtain⟨xs,rfl,h3⟩:=hasW_list h1
 obtain⟨ns,rfl⟩:=items_int h3
 have hlen:ns.length<=n:=by
  unfold OpenLaw.pre at hc
  have h4:(WTm.not (.lt (.lit (.int (n:Int))) (.len (.arg 0)))).holds [] { args:=[.list (ns.map .int)] }=true:=by
   have h4:=(holds_andW hc).1
   rw[hn] at h4
   exact h4
  have h5:=condW_of h4 (w_not (w_lt w_lit (w_len_list (w_arg rfl))))
  rw[dc] at h5
  refine IZ fun q=>?_
  have q':(n:Int)<((ns.length:Nat):Int):=by lia
  first
   | (rw[decide_eq_true q'] at h5;exact absurd h5 (by decide))
   | (simp at h5;lia)
 cases P7 with
 |cons w1 w2 =>
  cases w2
  cases w1 with
  |list ho n9=>exact⟨_,_,ns,rfl,rfl,ho,Zo ns _ n9,hlen⟩
theorem Zr(l:OpenLaw)(args:List WData):l.row.toRowW.claim.post args (.bool true) args=true :=
 postW_of (r:=l.row.toRowW) (X:=(true == true))
  (show WShape.has [] (.bool true) .bool=true by first|rfl|decide|simp[WShape.has,WShape.arms,WShape.armsAll])
  (show(WTm.eq .res (.lit (.bool true))).value [] { args:=args,res:=some (.bool true),after:=args }=some (.bool (true == true)) from w_eq_bool (w_res rfl) w_lit) rfl
theorem Zt{l:OpenLaw}{n:Nat}{q:Program}{loose:List Str}{XP:(Str->Option Value)->Heap->Prop}{YP:World->Heap->Prop}{d:DefRec}
  (hn:l.most=some n) (K5:d.params.defaults=[])
  (call:∀ (w:World) (dz dv:Shared) (mg mb:Str->Option Value) (fa:Addr) (o:Obj) (pm cd doc:Value) (a:Addr) (vs:List Value) (ns:List Int),
   Ground q loose [] XP w dz mg mb dv.heap->YP w dv.heap ->
   dv.heap.get? fa=some o->o.data=.func (docDef d.name d.params d.body d.scope pm cd doc)->dv.heap.CodeRec cd d.name->mg d.name=some (.ref fa) ->
   dv.heap.get? a=some { cls:=.type "list",data:=.seq vs.toArray }->IntsAre vs ns->ns.length<=n->dv.gens = #[] ->
   codeAny (model l.prog w) callerA (.call (.ref fa) ⟨[.ref a],[]⟩) (fun r s'=>r=.ok (.ret (.bool true))/\OldK dv.heap s'.heap/\s'.os=dv.os/\AllBare s'.gens) dv) :
  WalkO q loose XP YP l.row.toRowW d [] (fun f vs=>PySem.call f vs):=by
 intro w dz dv mg mb G Y fa o pm cd doc dV kV ho hd nX hD K6 hg args vals as B7 hlay hrd P7 B8
 obtain rfl:dV=.none:=Dflts.none hD K5
 obtain rfl:kV=.none:=Dflts.noKw hD
 obtain⟨a,vs,ns,rfl,rfl,P8,hints,hlen⟩:=Zq hn B7 P7
 refine enter_call (codeAny_mono (call w dz dv mg mb fa o pm cd doc a vs ns G Y ho (fd_plain hd) nX K6 P8 hints hlen hg) fun r s' hq=>?_)
 obtain⟨rfl,h2,h3,h4⟩:=hq
 exact⟨.inl ⟨.bool true,.bool true,[],rfl,fun _=>rfl,.bool true,Zr l _,fun _=>⟨List.Pairwise.nil,fun _ hm=>(nomatch hm)⟩⟩,h2,h3,h4⟩
end Uk
namespace L2
open PySem PySem.Spec PyProof.Rows
theorem Ul:∀ {vs:List Value} {ns:List Int},IntsAre vs ns->Vals (ns.map V.int) vs
 |_,_,.nil=>.nil
 |_,_,.cons n t h=>.cons ⟨t,rfl⟩ (Ul h)
def Only(H:Hp):Prop:=∀ b,H b=none\/∃ o xs,H b=some (.kS o (.lst xs))
theorem Zu{P:Program}{K:PySem.W.Frag}
  (KX:K.In dv.heap) (Um:dv.heap.Ns mainGlobals mg) (hb:dv.heap.Ns builtinsNs mb) (yT:∀ x:Str,x ≠ "__name__"->mb x=bootBuiltins x) (Zv:dv.heap.NoLimit) (hg:dv.gens = #[])
  (ha:dv.heap.get? a=some { cls:=.type "list",data:=.seq vs.toArray }) (hi:IntsAre vs ns) (hl:ns.length<=sizeLine) (hr:i7 k callerA)
  (F:∀ base:Heap,K.In base->base.Ns mainGlobals mg->hJ P w K mg base CX k fa fd [x] sp) (Zw:∀ (s:Shared) (u:Value),BindsTo s fd ⟨[u],[]⟩ [(x,u)])
  (yB:∀ H:Hp,Only H->eh K H a (ns.map V.int)->sp [.ref a] H (fun v _=>v=.bl true) fun _ _ _=>False)
  (P9:∀ H e s',CX [] H dv (fun _ _ _=>False) e s'->False) :
  codeAny (model P w) callerA (.call (.ref fa) ⟨[.ref a],[]⟩) (fun r s'=>r=.ok (.ret (.bool true))/\OldK dv.heap s'.heap/\s'.os=dv.os/\AllBare s'.gens) dv:=by
 have rv:=Ul hi
 have Zx:=hi.length
 -- from an abstract heap in which nothing but the script may be tracked
 have core:∀ H:Hp,Only H->eh K H a (ns.map V.int)->fo P w H dv.heap->(∀ b,H b≠none->b=a)->(H a≠none->K.lookup a=none) ->
   codeAny (model P w) callerA (.call (.ref fa) ⟨[.ref a],[]⟩) (fun r s'=>r=.ok (.ret (.bool true))/\OldK dv.heap s'.heap/\s'.os=dv.os/\AllBare s'.gens) dv:=by
  intro H hO hS bp hA hK
  have Uo:∀ {b:Addr} {o:Obj},dv.heap.get? b=some o->H b=none->(Ap dv.heap H).get? b=some o:=fun e n=>W4 e n
  have KW:∀ {b:Addr} {o:Obj} {es:Array DictEntry} {ep:Nat},dv.heap.get? b=some o->o.data=.dict es ep->H b=none:=fun {b o es ep} e d=>by
   cases q:H b with
   |none=>rfl
   |some u =>
    have e':b=a:=hA b (by rw[q];simp)
    subst e'
    rw[ha] at e;cases e
    have d':Data.seq vs.toArray _=Data.dict es ep:=d
    cases d'
  have Nv:∀ {b:Addr} {m:Str->Option Value},dv.heap.Ns b m->(Ap dv.heap H).Ns b m:=fun {b m} ⟨o,es,ep,e,d,r⟩=>⟨o,es,ep,Uo e (KW e d),d,r⟩
  have Uq:K.In (Ap dv.heap H):=fun b o e=>Uo (KX b o e) (by
   cases q:H b with
   |none=>rfl
   |some u =>
    have e':b=a:=hA b (by rw[q];simp)
    subst e'
    rw[hK (by rw[q];simp)] at e;cases e)
  have hM:Mod K mg (Ap dv.heap H):=⟨Uq,Nv Um,⟨mb,Nv hb,yT⟩,let ⟨mc,h1,h2⟩:=Zv;⟨mc,Nv h1,h2⟩⟩
  have e0:Ng P w K mg (Ap dv.heap H) callerA [] dv H:=⟨rfl,hM,fun b o e=>W5 e,JA (W3 _ _),trivial,fun b hb=>absurd (show b∈([]:List Addr) from hb) (by simp),bp,.of_eq hg⟩
  refine codeAny_mono ((F _ Uq (Nv Um)).run callerA [] dv H ⟨[.ref a],[]⟩ [.ref a] [.ref a] _ _ hr e0 (Zw dv (.ref a)) (.cons rfl .nil) (yB H hO hS)) fun r s' h=>?_
  cases r with
  |error e=>exact(P9 H e s' h).elim
  |ok fl =>
   cases fl with
   |next=>exact False.elim h
   |brk=>exact False.elim h
   |cont=>exact False.elim h
   |ret u =>
    obtain⟨v,H',os,bare,un,Zy,r',q⟩:=h
    have q':v=.bl true:=q
    subst q'
    obtain rfl:u=Value.bool true:=r'
    refine⟨rfl,OldK.of_keep fun b o e=>?_,os,bare⟩
    cases q:H b with
    |none=>exact un.keep b o e q (by intro z;exact absurd (show b∈([]:List Addr) from z) (by simp)) (by simp)
    |some u =>
     rcases hO b with z|⟨ob,xs,z⟩
     ·rw[q] at z;cases z
     ·have z2:=un.rq b ob _ z
      obtain⟨e1,_⟩:=bp b _ z
      obtain⟨e2,_⟩:=Zy b _ z2
      rw[e] at e1;cases e1
      exact e2
 cases hk:K.lookup a with
 |some o =>
  -- the script is one of the module's own objects
  have e:=KX a o hk
  rw[ha] at e
  cases e
  refine core (fun _=>none) (fun _=>.inl rfl) (.inr ⟨_,vs.toArray,_,hk,rfl,rfl,rfl,by rw[i9,Zx];exact hl,by simpa using rv⟩) (fun b u z=>by have z':(none:Option HO)=some u:=z;cases z') (fun b z=>absurd rfl z) fun z=>absurd rfl z
 |none =>
  refine core (fun b=>if b=a then some (.kS { cls:=.type "list",data:=.seq vs.toArray } (.lst (ns.map V.int))) else none) (fun b=>?_) (.inl (.inr ⟨{ cls:=.type "list",data:=.seq vs.toArray },if_pos rfl⟩)) (fun b u z=>?_) (fun b z=>?_) fun _=>hk
  ·by_cases hb:b=a
   ·exact .inr ⟨_,_,if_pos hb⟩
   ·exact .inl (if_neg hb)
  ·by_cases hb:b=a
   ·have z':=(if_pos hb).symm.trans z
    cases z'
    subst hb
    exact⟨ha,by rw[dc];exact hl,vs,_,rv,ha⟩
   ·have z':=(if_neg hb).symm.trans z
    cases z'
  ·by_cases hb:b=a
   ·exact hb
   ·exact absurd (if_neg hb) z
theorem Zz{l:PySem.W.OpenLaw}{n k:Nat}{q:Program}{loose:List Str}{XP:(Str->Option Value)->Heap->Prop}{YP:World->Heap->Prop}{d:DefRec}{K:Params->PySem.W.Frag}{CX:World->AG}{sp:World->Sp}{x:Str}
  (hn:l.most=some n) (GA:n<=sizeLine) (K5:d.params.defaults=[]) (hr:i7 k callerA)
  (hY:∀ (w:World) (h:Heap),YP w h->(K w.params).In h)
  (F:∀ (w:World) (mg:Str->Option Value) (fa:Addr) (h:Heap),(K w.params).In h->h.Ns mainGlobals mg->mg d.name=some (.ref fa) ->
   ∃ fd:FuncData,(∀ (s:Shared) (u:Value),BindsTo s fd ⟨[u],[]⟩ [(x,u)]) /\
    ∀ base:Heap,(K w.params).In base->base.Ns mainGlobals mg->hJ l.prog w (K w.params) mg base (CX w) k fa fd [x] (sp w))
  (yB:∀ (w:World) (H:Hp) (a:Addr) (ns:List Int),ns.length<=n->Only H->eh (K w.params) H a (ns.map V.int)->sp w [.ref a] H (fun v _=>v=.bl true) fun _ _ _=>False)
  (P9:∀ (w:World) (H:Hp) (s:Shared) (e:Value) (s':Shared),CX w [] H s (fun _ _ _=>False) e s'->False) :
  PySem.W.WalkO q loose XP YP l.row.toRowW d [] (fun f vs=>PySem.call f vs):=by
 refine Uk.Zt hn K5 fun w dz dv mg mb fa o pm cd doc a vs ns G Y ho hd nX K6 P8 hints hlen hg=>?_
 have KX:=hY w _ Y
 obtain⟨fd,hb,hF⟩:=F w mg fa _ KX G.T.g K6
 exact Zu KX G.T.g G.T.b G.T.builtins G.T.nolimit hg P8 hints (hG hlen GA) hr hF hb (fun H hO hS=>yB w H a ns hlen hO hS) fun H e s'=>P9 w H dv e s'
def kC(s:Stmt):Arguments:=match s with
 |.FunctionDef _ a _ _ _ _ _ _ _ _=>a
 |_=>{ posonlyargs:=[],args:=[],vararg:=none,kwonlyargs:=[],kw_defaults:=[],kwarg:=none,defaults:=[] }
def iP(s:Stmt):List Stmt:=match s with
 |.FunctionDef _ _ b _ _ _ _ _ _ _=>b
 |_=>[]
def cy(s:Stmt):Scope:=match s with
 |.FunctionDef _ _ _ _ _ _ sc _ _ _=>sc
 |_=>{ kind:=.function,names:=[],isGenerator:=false,isCoroutine:=false }
abbrev ke:AG:=fun _ _ _ _ _ _=>False
abbrev E0:XK:=fun _ _ _=>False
theorem ZC{X:Cx}:Passes ke X E0:=fun _ _ _ _ _ _ _ h=>h.elim
structure iq(K:PySem.W.Frag)(x qual:Str)(st:Stmt)(f:Addr)(fd:FuncData):Prop where
 ex:∃ (oc:Value) (od:Option Addr) (kV doc pm:Value) (an:Option Addr) (cE ct:Value) (D2:Array (Option Value)),
  fd=PySem.W.fnOf x qual (kC st) (iP st) (cy st) .none kV doc pm an cE ct/\K.lookup f=some ⟨oc,od,.func fd,D2⟩/\PySem.W.codeIn K cE qual=true
 kp:PySem.W.keepIn K (.ref f)=true
section
variable {P:Program}{w:World}{K:PySem.W.Frag}{mg:Str->Option Value}{base:Heap}
theorem iq.ok{st:Stmt}{N ps:List Str}(F:iq K x qual st f fd)(S:mr N ps (cy st))(len:∀ vs H Q E,sp vs H Q E->vs.length=ps.length)
  (AH:∀ (cE:Value) (A:Around) (outer:List Env) (s:Shared) (H:Hp) (vs:List V) (Q:VK) (E:XK),i7 k (A.deeper (envOfC qual (cy st) s.heap.objs.size f cE))->sp vs H Q E ->
   ∃ t,kX (rL ke P w K mg base N qual (cy st) f cE A outer s H E).Kk (iP st) t/\t { nx:=fun _ H'=>Q .non H',rt:=Q } (start N vs) H):hJ P w K mg base ke (k+1) f fd ps sp:=by
 obtain⟨oc,od,kV,doc,pm,an,cE,ct,D2,rfl,lk,nX⟩:=F.ex
 refine T4 lk nX S len fun A outer s H vs Q E hr yB=>?_
 obtain⟨t,h,q⟩:=AH cE A outer s H vs Q E hr yB
 exact⟨t,h.Kk,q⟩
theorem iq.binds{st:Stmt}{ps:List Str}(F:iq K x qual st f fd)
  (h:∀ (kV doc pm:Value) (an:Option Addr) (cE ct:Value) (us:List Value),us.length=ps.length->bindArgs (PySem.W.fnOf x qual (kC st) (iP st) (cy st) .none kV doc pm an cE ct) ⟨us,[]⟩=pure (ps.zip us)):Binds K fd ps []:=by
 obtain⟨oc,od,kV,doc,pm,an,cE,ct,D2,rfl,lk,nX⟩:=F.ex
 exact .all (h kV doc pm an cE ct)
theorem rS{st:Stmt}{kV doc pm cE ct:Value}(l:K.lookup f=some ⟨oc,od,.func (PySem.W.fnOf x qual (kC st) (iP st) (cy st) .none kV doc pm an cE ct),D2⟩)
  (c:PySem.W.codeIn K cE qual=true) (k:PySem.W.keepIn K (.ref f)=true):iq K x qual st f (PySem.W.fnOf x qual (kC st) (iP st) (cy st) .none kV doc pm an cE ct):=⟨⟨oc,od,kV,doc,pm,an,cE,ct,D2,rfl,l,c⟩,k⟩
end
section
variable {X:Cx}
theorem pv (i:Nat) (hN:X.N[i]? = some x:=by rfl) (hv:FK X.env.scope x:=by first|exact Or.inl rfl|exact Or.inr (Or.inl rfl)|exact Or.inr (Or.inr rfl)) (hd:(x == ("__debug__" : Str))=false:=by decide)
  (nX:(x == ("__classdict__" : Str))=false:=by decide):PE X (.Name x pos) (AB i):=Pl hN hv hd nX
end
def ax(H H':Hp):Prop:=∀ b o,H b=some o->H' b=some o
theorem ax.refl(H:Hp):ax H H:=fun _ _ h=>h
theorem ax.trans(a:ax H H1)(b:ax H1 H2):ax H H2:=fun c o h=>b c o (a c o h)
theorem ax.free(e:ax H H')(h:H' l=Option.none):H l=Option.none:=by
 cases q:H l with
 |none=>rfl
 |some o =>
  rw[e l o q] at h
  cases h
theorem ax.seq{K:PySem.W.Frag}(e:ax H H')(h:eh K H a xs):eh K H' a xs:=by
 rcases h with(h|⟨o,h⟩)|h
 ·exact .inl (.inl (e _ _ h))
 ·exact .inl (.inr ⟨o,e _ _ h⟩)
 ·exact .inr h
end L2
set_option maxHeartbeats 4000000
namespace L2
open PySem PySem.Spec PyProof.Rows
def qo(env:Env):List (Str × NameKind)->List (Str × Addr)->List (Str × Addr)
 |[],cs=>cs
 | (n,k) :: r,cs=>qo env r (if k == NameKind.free then (n,(env.cells.lookup n).getD 0) :: cs else cs)
theorem fL(env:Env):∀ (names:List (Str × NameKind)) (cs:List (Str × Addr)),(∀ y∈names,y.2=.free->∃ c,env.cells.lookup y.1=some c) ->
  (forIn names cs fun x r=>match x with
   | (name,kind)=>if (kind == NameKind.free)=true then do let a <- cellOf env name;pure (ForInStep.yield ((name,a) :: r)) else pure (ForInStep.yield r):Sem (List (Str × Addr)))=pure (qo env names cs)
 |[],cs,_=>rfl
 | (n,k) :: r,cs,h=>by
  rw[List.forIn_cons]
  have ih:=fL env r
  by_cases hk:k=.free
  ·subst hk
   obtain⟨c,e⟩:=h (n,.free) cc rfl
   have e:env.cells.lookup n=some c:=e
   have e2:cellOf env n=pure c:=by unfold cellOf;rw[e]
   have e3:qo env ((n,.free) :: r) cs=qo env r ((n,c) :: cs):=by
    show qo env r (if (NameKind.free == NameKind.free)=true then (n,(env.cells.lookup n).getD 0) :: cs else cs)=_
    rw[e];rfl
   rw[e3,<- ih ((n,c) :: cs) fun y hy=>h y (b9 _ hy)]
   simp only[beq_self_eq_true,if_true,e2]
   rfl
  ·have hb:(k == NameKind.free)=false:=by simpa using hk
   have e3:qo env ((n,k) :: r) cs=qo env r cs:=by
    show qo env r (if (k == NameKind.free)=true then _ else cs)=_
    rw[hb];rfl
   rw[e3,<- ih cs fun y hy=>h y (b9 _ hy)]
   simp only[hb,gL,if_false]
   rfl
theorem lO(h:∀ y∈scope.names,y.2=.free->∃ c,env.cells.lookup y.1=some c):closureFor scope env=pure (qo env scope.names []):=by
 have:=fL env scope.names [] h
 unfold closureFor
 rw[<- bind_pure (forIn scope.names [] _)] at this
 exact this
theorem lD:∀ {names:List (Str × NameKind)} {cs:List (Str × Addr)},(∀ y∈names,y.2=.free->∃ c,env.cells.lookup y.1=some c)->(∀ y d,cs.lookup y=some d->env.cells.lookup y=some d) ->
  (qo env names cs).lookup x=some c->env.cells.lookup x=some c
 |[],cs,_,h,e=>h x c e
 | (n,k) :: r,cs,hf,h,e=>by
  refine lD (names:=r) (fun y hy=>hf y (b9 _ hy)) ?_ e
  intro y d hd
  by_cases hk:k=.free
  ·subst hk
   obtain⟨c',e'⟩:=hf (n,.free) cc rfl
   have e':env.cells.lookup n=some c':=e'
   simp only[beq_self_eq_true,if_true,e',Option.getD_some,OX] at hd
   cases hb:y == n with
   |true=>rw[hb] at hd;have:y=n:=eq_of_beq hb;subst this;rw[e'];exact hd
   |false=>rw[hb] at hd;exact h y d hd
  ·have hb:(k == NameKind.free)=false:=by simpa using hk
   simp only[hb,gL,if_false] at hd
   exact h y d hd
theorem iY:∀ {names:List (Str × NameKind)} {cs:List (Str × Addr)},((x,NameKind.free)∈names\/∃ c,cs.lookup x=some c)->∃ c,(qo env names cs).lookup x=some c
 |[],cs,h=>by
  rcases h with h|h
  ·exact nomatch h
  ·exact h
 | (n,k) :: r,cs,h=>by
  refine iY (names:=r) ?_
  rcases h with h|⟨c,h⟩
  ·rcases cK.mp h with e|h
   ·cases e
    refine .inr ⟨(env.cells.lookup x).getD 0,?_⟩
    simp only[beq_self_eq_true,if_true,OX]
   ·exact .inl h
  ·refine .inr ?_
   by_cases hk:(k == NameKind.free)=true
   ·simp only[hk,if_true,OX]
    cases hb:x == n with
    |true=>exact⟨_,rfl⟩
    |false=>exact⟨c,h⟩
   ·simp only[hk,if_false]
    exact⟨c,h⟩
def aU(X:Cx)(scope:Scope)(C:Addr)(N:List Str)(fp:List Addr)(fz:Shared)(gp:Hp):Cx :=
 { X with N:=N,dz:=fz,vT:=gp,env:=compEnvC scope (qo X.env scope.names []) C X.env,outer:=X.stack,stack:=X.stack,ex:=fp,fn:=fun _=>false,pn:=[],xe:=fun _ _=>False }
def AQ(X:Cx)(ifs:List Expr)(t:TT):Prop :=
 ∀ (pins:List (Addr × Obj)) (s:Shared) (σ:St) (H:Hp) (Q:Bool->Hp->Prop),Inv X pins σ H s->t σ H Q ->
  wpAny (model X.prog X.w) X.A (forIn ifs true fun c r=>if r=true then do let ok <- isTrue c X.env (eval c X.env);pure (ForInStep.yield ok) else pure (ForInStep.yield r)) (TP X pins σ Q) X.xe s
def ZD:TT:=fun _ H Q=>Q true H
theorem Ah{X:Cx}:AQ X [] ZD:=fun _ _ _ H _ I h=>wpAny_tests_nil ⟨H,I,h⟩
theorem fc{R:Result->Shared->Prop}(I:Nat->Shared->Prop)(E:Value->Shared->Prop)
  (turn:∀ n s,I n s->wpAny (model prog w) A (pyNext it) (fun r dv=>match r with
   |none=>R (.ok .next) dv
   |some v=>wpAny (model prog w) A (letOwnedTupleGo target it v) (fun _ dz=>wpAny (model prog w) A (assign target env v) (fun _ D1 =>
     wpAny (model prog w) A (forIn ifs true fun c r=>if r=true then do let ok <- isTrue c env (eval c env);pure (ForInStep.yield ok) else pure (ForInStep.yield r)) (fun ok fz =>
      if ok=true then wpAny (model prog w) A (eval elt env) (fun x Ur =>
       wpAny (model prog w) A (call (.builtin "list.append") [acc,x]) (fun _ Us=>∃ m,m<n/\I m Us) E Ur) E fz
      else ∃ m,m<n/\I m fz) E D1) E dz) E dv) E s)
  (hE:∀ e s',E e s'->notedBy (model prog w) A env (fun e s'=>R (.error e) s') e s')
  (n:Nat) (h:I n s) :
  codeAny (model prog w) A (.compLoop (.ListComp elt [⟨target,iter,ifs,0⟩] scope pos) 0 it acc env) R s:=by
 refine codeAny_loop rfl I (fun n s hI=>?_) n h
 show wpAny _ A ((compTurn (.ListComp elt [⟨target,iter,ifs,0⟩] scope pos) 0 it acc env).onRaise (fun x=>do noteFrame x env;theTreesLotGoes x)) _ _ s
 refine wpAny_noted ?_
 rw[compTurn_list]
 refine oy (Q:=_) (E:=E) ?_ (fun _ _ q=>q) hE
 refine ah (wpAny_standAt (ah (oy (turn n s hI) (fun r dv K7=>?_) fun _ _ h'=>h')))
 cases r with
 |none=>exact aE K7
 |some v =>
  refine ah (oy K7 (fun _ dz h₀=>?_) fun _ _ h'=>h')
  refine ah (oy h₀ (fun _ D1 ZE=>ah (oy ZE (fun ok fz Ut=>?_) fun _ _ h'=>h')) fun _ _ h'=>h')
  cases ok with
  |false=>exact aE ⟨rfl,Ut⟩
  |true =>
   exact ah (ah (oy Ut (fun x Ur ZF=>ah (oy ZF (fun _ Us ZG=>aE (aE ⟨rfl,ZG⟩)) fun _ _ h'=>h')) fun _ _ h'=>h'))
def mO(tn:Nat)(ix:List Nat)(σ:St):St:=List.replicate tn none++ix.map fun j=>(σ[j]?).join
def uw(wi:TI)(g:TG)(tc:TT)(te:TE)(tn:Nat)(ix:List Nat):TE:=fun σ H Q=>wi σ H fun J H1=>∀ D,H1 D=none ->
 ∃ W:Nat->Nat->St->Hp->Prop,(∃ m,W 0 m (mO tn ix σ) (upd H1 D (.lst [])))/\∀ i m τ H,W i m τ H ->
  (J.stop i H/\Q (.ref D) H)\/(J.go i H/\∃ (N1:St->V->Hp->Prop) (N2:St->Hp->Prop),
   (∀ kD v H4,N1 kD v H4->∃ ys m',H4 D=some (.lst ys)/\ys.length<sizeLine/\m'<m/\W (i+1) m' kD (upd H4 D (.lst (ys++[v])))) /\
   (∀ kD H3,N2 kD H3->∃ m',m'<m/\W (i+1) m' kD H3) /\
   ∀ x H',J.mS i H x H'->g x τ H' fun kD H2=>tc kD H2 fun b H3=>if b=true then te kD H3 (N1 kD) else N2 kD H3)
section
variable {X:Cx}{tg iter elt:Expr}{ifs:List Expr}{scope:Scope}{pos:Pos}{wi:TI}{g:TG}{tc:TT}{te:TE}{tn cn:List Str}{ix:List Nat}
structure bV(X:Cx)(scope:Scope)(tn cn:List Str)(ix:List Nat):Prop where
 kind:scope.kind=.function
 ZH:∀ y∈scope.names,y.2≠.cell
 free:∀ y∈scope.names,y.2=.free->X.env.scope.names.lookup y.1=some .cell\/X.env.scope.names.lookup y.1=some .free
 names:∀ y∈scope.names,y.2=.local->scope.names.lookup y.1=some .local
 len:ix.length=cn.length
 cap:∀ (k j:Nat),ix[k]? = some j->∃ y,cn[k]? = some y/\X.N[j]? = some y/\(X.env.scope.names.lookup y=some .cell\/X.env.scope.names.lookup y=some .free)/\(y,NameKind.free)∈scope.names /\
  ((relabel scope X.env).names.lookup y=some .cell\/(relabel scope X.env).names.lookup y=some .free)
 all:∀ x,(relabel scope X.env).names.lookup x=some .cell\/(relabel scope X.env).names.lookup x=some .free->(x,NameKind.free)∈scope.names
theorem tO(O:bV X scope tn cn ix)(I:Inv X pins σ H s)(hf:∀ b∈fp,yy X pins H b)(ZI:∀ b∈fp,b<s.heap.objs.size)(hC:s.heap.objs.size<=C) :
  (aU X scope C (tn++cn) fp s H).Ok:=by
 have nh:∀ y∈scope.names,y.2=.free->∃ c,X.env.cells.lookup y.1=some c:=fun y hy hk=>I.ok.has y.1 (O.free y hy hk)
 have sub:∀ x c,(qo X.env scope.names []).lookup x=some c->X.env.cells.lookup x=some c:=fun x c e=>lD nh (fun y d h=>by simp at h) e
 refine⟨I.ok.mod,O.kind,I.ok.glob,I.ok.blt,hC,fun x y c h1 h2=>I.ok.inj x y c (sub x c h1) (sub y c h2),fun x hx=>iY (.inl (O.all x hx)),(fun x c h _=>nomatch h),I.ok.hd,I.ok.frames,.inl rfl,fun b hb=>⟨?_,fun x c e=>?_⟩,
  I.bs,hG I.ok.sQ I.sz,fun b o e hb=>?_,fun b hb=>?_,I.stack,I.Pa⟩
 ·exact eP (kA (ZI b hb) hC)
 ·exact(hf b hb).2.2.2.2.1 x c (sub x c e)
 ·rcases (hf b hb).2.2.2.1 with z|z
  ·exact I.ok.yi b o e z
  ·exact absurd (kA (dn e) (hG I.ok.sQ z)) (rj _)
 ·intro hz
  rcases cK.mp (I.O_ b hz) with e|e
  ·exact(hf b hb).2.1 e
  ·exact(hf b hb).2.2.1 e
theorem qL{P:Value->Shared->Prop}(hc:X.calm=true)(hi:PI X tg iter wi)(O:bV X scope tn cn ix)
  (hg:∀ C fp fz gp,PG (aU X scope C (tn++cn) fp fz gp) tg g) (n5:∀ C fp fz gp,AQ (aU X scope C (tn++cn) fp fz gp) ifs tc) (he:∀ C fp fz gp,PE (aU X scope C (tn++cn) fp fz gp) elt te)
  (hs:∀ x,foldedSetIterable iter X.env x=pure x) (I:Inv X pins σ H s) (h:uw wi g tc te tn.length ix σ H Q)
  (fin:∀ (C D:Addr) (m:Str->Option Value) (H5:Hp) (s6:Shared) (r:Flow),Inv X pins σ H5 s6->s6.heap.Ns C m->H5 C=none->yy X pins H5 C->Q (.ref D) H5->compPost (model X.prog X.w) X.A X.xe use P (.ref D) C (.ok r) s6) :
  wpAny (model X.prog X.w) X.A (comprehension (.ListComp elt [⟨tg,iter,ifs,0⟩] scope pos) scope X.env eC' (newList []) false (eval iter X.env) use) P X.xe s:=by
 have nh:∀ y∈scope.names,y.2=.free->∃ c,X.env.cells.lookup y.1=some c:=fun y hy hk=>I.ok.has y.1 (O.free y hy hk)
 have sub:∀ x c,(qo X.env scope.names []).lookup x=some c->X.env.cells.lookup x=some c:=fun x c e=>lD nh (fun y d h=>by simp at h) e
 refine wpAny_comprehension_free (use:=use) rfl hs (lO nh) O.kind O.names (ck (hi pins s σ H _ I h) fun v s1 h1=>ck h1 fun Py s2 h2=>?_)
 obtain⟨it,fp,Nx,J,H2,e,I2,T,uj,f2,h2⟩:=h2
 subst e
 obtain⟨W,⟨m0,w0⟩,turn⟩:=h2 s2.heap.objs.size (I2.bp.fresh (bX _))
 refine wpAny_newObj_type ?_
 have I3:Inv X pins σ (upd H2 s2.heap.objs.size (.lst [])) { s2 with heap:=s2.heap.push { cls:=.type "list",data:=.seq ([]:List Value).toArray } }:=I2.P1 (its:=[]) (t':=s2.toks) .nil (dQ _)
 generalize hD:s2.heap.objs.size=D at *
 generalize Uu:({ s2 with heap:=s2.heap.push { cls:=.type "list",data:=.seq ([]:List Value).toArray } }:Shared)=s3 at *
 have ZJ:∀ b o,s2.heap.get? b=some o->s3.heap.get? b=some o:=fun b o e=>by rw[<- Uu];exact eS _ e
 have sz3:s3.heap.objs.size=D+1:=by rw[<- Uu,<- hD];exact Heap.size_push ..
 have f3:∀ b∈fp,yy X pins (upd H2 D (.lst [])) b:=fun b hb=>by
  obtain⟨f0,fr⟩:=f2 b hb
  obtain⟨o,ho,_⟩:=T.obj _ _ uj b hb
  refine⟨?_,fr⟩
  rw[fw (eP (by rw[<- hD];exact dn ho))]
  exact f0
 have uk:Nx 0 s3.heap:=T.keep _ _ _ uj fun b hb o e=>ZJ b o e
 have ZK:∀ b∈fp,b<s3.heap.objs.size:=fun b hb=>by
  obtain⟨o,ho,_⟩:=T.obj _ _ uk b hb
  exact dn ho
 refine wpAny_newFunctionEnv O.ZH (by intro y hy;simp at hy) (fun K7 ZL ZM=>?_) O.kind
 have D5:∀ b o,s3.heap.get? b=some o->K7.get? b=some o:=fun b o e=>ZM.extBut b o (eP (dn e)) (eS _ e)
 -- the block's context
 have Ny:=tO (C:=s3.heap.objs.size) O I3 f3 ZK (bX _)
 have I4:Inv (aU X scope s3.heap.objs.size (tn++cn) fp s3 (upd H2 D (.lst []))) [] (mO tn.length ix σ) (upd H2 D (.lst [])) { s3 with heap:=K7,toks:=s3.toks+([]:List (Str × Value)).length }:=by
  refine⟨Ny,rfl,I3.bare,Un.kept D5,⟨_,ZL,fun i x v e1 e2 e3=>?_⟩,fun x c e=>?_,I3.bp.fresh (bX _),fun x c e=>I3.mh x c (sub x c e),fun p hp=>absurd hp (by simp[aU]),I3.bp.kept D5,?_⟩
  ·have iA:tn.length<=i:=by
    by_cases q:i<tn.length
    ·unfold mO at e2
     rw[Dx (by simpa using q),OB] at e2
     simp[q] at e2
    ·lia
   unfold mO at e2
   rw[xC (by simpa using iA),OG,nL] at e2
   have e1:(tn++cn)[i]? = some x:=e1
   rw[xC iA] at e1
   cases q:ix[i-tn.length]? with
   |none=>rw[q] at e2;cases e2
   |some j =>
    rw[q] at e2
    obtain⟨y,c1,c2,c3,c4,c5⟩:=O.cap _ _ q
    rw[c1] at e1;cases e1
    have e2:σ[j]?.join=some v:=Option.some.inj e2
    have ej:σ[j]? = some (some v):=by
     cases z:σ[j]? with
     |none=>rw[z] at e2;cases e2
     |some o=>rw[z] at e2;exact congrArg some e2
    obtain⟨m,hn,hl⟩:=I3.loc
    obtain⟨u,r,l⟩:=hl j x v c2 ej (c3.elim (fun z=>.inr (.inl z)) fun z=>.inr (.inr z))
    refine⟨u,r,.inr ⟨c5,?_⟩⟩
    rcases l with⟨hk,_⟩|⟨hk,c,wc,ZN⟩
    ·have hk:X.env.scope.names.lookup x=some .local:=hk
     rcases c3 with z|z
     ·rw[z] at hk;cases hk
     ·rw[z] at hk;cases hk
    ·obtain⟨c',DU⟩:=iY (env:=X.env) (cs:=[]) (Or.inl c4)
     have:=sub x c' DU
     rw[wc] at this;cases this
     obtain⟨o,ho,hd⟩:=ZN
     exact⟨c,DU,o,D5 _ _ ho,hd⟩
  ·obtain⟨v,o,ho,hd⟩:=I3.cell x c (sub x c e)
   exact⟨v,o,D5 _ _ ho,hd⟩
  ·show(mO tn.length ix σ).length=(tn++cn).length
   unfold mO
   simp[O.len]
 -- from the block back to the body
 have back:∀ {τ:St} {H':Hp} {s':Shared},Inv (aU X scope s3.heap.objs.size (tn++cn) fp s3 (upd H2 D (.lst []))) [] τ H' s'->Inv X pins σ H' s':=fun {τ H' s'} I' =>
  Inv.Xb (ch:=fp) I3 I'.os I'.base I'.bp I'.bare fun b hb=>by
   obtain⟨_,f1,_,ZO,f4,f5⟩:=f3 b hb
   exact⟨ZO,f1,f4,f5⟩
 have P_:∀ {H':Hp},(∀ b∈fp,H' b=none)->∀ b∈fp,yy (aU X scope s3.heap.objs.size (tn++cn) fp s3 (upd H2 D (.lst []))) [] H' b:=fun hn b hb =>
  ⟨hn b hb,(Ny.AA b hb).1,Ny.yk b hb,.inl hb,(Ny.AA b hb).2,fun p hp=>absurd hp (by simp[aU])⟩
 have loop:∀ s4:Shared,Inv (aU X scope s3.heap.objs.size (tn++cn) fp s3 (upd H2 D (.lst []))) [] (mO tn.length ix σ) (upd H2 D (.lst [])) s4->Nx 0 s4.heap ->
   codeAny (model X.prog X.w) X.A (.compLoop (.ListComp elt [⟨tg,iter,ifs,0⟩] scope pos) 0 (.ref it) (.ref D) (compEnvC scope (qo X.env scope.names []) s3.heap.objs.size X.env))
    (compPost (model X.prog X.w) X.A X.xe use P (.ref D) s3.heap.objs.size) s4:=by
  intro s4 I4 sT
  refine fc (fun n s'=>∃ i τ H',Inv (aU X scope s3.heap.objs.size (tn++cn) fp s3 (upd H2 D (.lst []))) [] τ H' s'/\Nx i s'.heap/\(∀ b∈fp,H' b=none)/\W i n τ H') (fun _ _=>False) ?_ (fun _ _ z=>z.elim) m0
   ⟨0,_,_,I4,sT,fun b hb=>(f3 b hb).1,w0⟩
  rintro n s5 ⟨i,τ,H5,I5,DV,M9,w5⟩
  rcases turn i n τ H5 w5 with⟨stop,qn⟩|⟨go,N1,N2,ZP,oa,step⟩
  ·refine ck (T.done (aU X scope s3.heap.objs.size (tn++cn) fp s3 (upd H2 D (.lst []))) rfl rfl rfl hc i [] s5 τ H5 (fun _ _=>False) I5 (P_ M9) DV stop) fun r s6 df=>?_
   obtain⟨hr,I6⟩:=df
   subst hr
   have J6:=back I6
   obtain⟨m,hn,_⟩:=I6.loc
   exact fin _ D m H5 s6 _ J6 hn I6.free (I3.Px (b:=s3.heap.objs.size) (H':=H5) (bX _) I6.free) qn
  ·refine ck (T.item (aU X scope s3.heap.objs.size (tn++cn) fp s3 (upd H2 D (.lst []))) rfl rfl rfl hc i [] s5 τ H5 (fun _ _=>False) I5 (P_ M9) DV go) fun r s6 df=>?_
   obtain⟨u,hr,h6⟩:=df
   subst hr
   refine ck h6 fun _ s7 df=>?_
   obtain⟨x,H7,I7,r7,y7,Qa,ZQ⟩:=df
   have ZR:=I7.pinned (P_ ZQ) (T.obj _ _ Qa)
   refine ck (hg _ _ _ _ _ s7 τ H7 x u _ ZR r7 (step x H7 y7)) fun _ s8 df=>?_
   obtain⟨GB,H8,I8,q8⟩:=df
   refine ck (n5 _ _ _ _ _ s8 GB H8 _ I8 q8) fun ok s9 df=>?_
   obtain⟨H9,I9,q9⟩:=df
   have again:∀ {s':Shared} {H':Hp} {m':Nat},Inv (aU X scope s3.heap.objs.size (tn++cn) fp s3 (upd H2 D (.lst []))) ([]++Kx fp s7.heap) GB H' s'->m'<n->W (i+1) m' GB H' ->
     ∃ m,m<n/\∃ i τ H',Inv (aU X scope s3.heap.objs.size (tn++cn) fp s3 (upd H2 D (.lst []))) [] τ H' s'/\Nx i s'.heap/\(∀ b∈fp,H' b=none)/\W i m τ H':=fun {s' H' m'} J hm w'=>by
    refine⟨m',hm,i+1,GB,H',J.M8,T.keep _ _ _ Qa fun b hb o e=>(J.pin (b,o) (fe _ (fe _ (M7 hb e)))).1,fun b hb=>?_,w'⟩
    obtain⟨o,e,d⟩:=T.obj _ _ Qa b hb
    exact(J.pin (b,o) (fe _ (fe _ (M7 hb e)))).2.1
   cases ok with
   |false =>
    rw[if_neg gI] at q9 ⊢
    obtain⟨m',hm,w'⟩:=oa _ _ q9
    exact again I9 hm w'
   |true =>
    rw[if_pos rfl] at q9 ⊢
    refine ck (he _ _ _ _ _ s9 GB H9 _ I9 q9) fun x9 Uv cw=>L2.gi cw fun v10 Uw ZS Qb ZT=>?_
    obtain⟨ys,m',hH,hz,hm,w'⟩:=ZP _ _ _ ZT
    refine ck (P4 _ Uv GB Uw (.ref D) [v10] (.ref D) [x9] (fun _ H'=>H'=upd Uw D (.lst (ys++[v10]))) ZS rfl (.cons Qb .nil) ⟨D,ys,v10,rfl,rfl,hH,hz,rfl⟩) fun _ s11 cw=>L2.gi cw fun _ H11 ZU _ ZV=>?_
    subst ZV
    exact again ZU hm w'
 exact codeAny_compStart_list (loop _ I4 (T.keep _ _ _ uk fun b hb o e=>D5 b o e)) (T.self _ 0 _ _ _ (T.keep _ _ _ uk fun b hb o e=>D5 b o e) (loop _ I4 (T.keep _ _ _ uk fun b hb o e=>D5 b o e)))
theorem zu(hc:X.calm=true)(hi:PI X tg iter wi)(O:bV X scope tn cn ix)
  (hg:∀ C fp fz gp,PG (aU X scope C (tn++cn) fp fz gp) tg g) (n5:∀ C fp fz gp,AQ (aU X scope C (tn++cn) fp fz gp) ifs tc) (he:∀ C fp fz gp,PE (aU X scope C (tn++cn) fp fz gp) elt te)
  (hs:∀ x,foldedSetIterable iter X.env x=pure x:=by intro _;rfl):PE X (.ListComp elt [⟨tg,iter,ifs,0⟩] scope pos) (uw wi g tc te tn.length ix):=by
 intro pins s σ H Q I h
 rw[eval_ListComp]
 refine qL (use:=none) (P:=EP X pins σ Q) hc hi O hg n5 he hs I h fun C D m H5 s6 r J6 hn hf ⟨_,g1,_,g3,g4,g5⟩ qn=>⟨m,hn,fun h' Qc=>⟨.ref D,H5,?_,rfl,qn⟩⟩
 exact J6.turned (t':=s6.toks) (fun b o hb e=>Qc.extBut b o hb e) hf g1 g3 g4 g5
theorem q_(hN:X.N.Nodup)(tf:X.N[i]? = some x)(hx:Loc X.env.scope x)(hc:X.calm=true)(hi:PI X tg iter wi)(O:bV X scope tn cn ix)
  (hg:∀ C fp fz gp,PG (aU X scope C (tn++cn) fp fz gp) tg g) (n5:∀ C fp fz gp,AQ (aU X scope C (tn++cn) fp fz gp) ifs tc) (he:∀ C fp fz gp,PE (aU X scope C (tn++cn) fp fz gp) elt te)
  (K8:swapsWith (.ListComp elt [⟨tg,iter,ifs,0⟩] scope pos) (some (.Name x pos')) Qe.line X.env=pure true)
  (hs:∀ x,foldedSetIterable iter X.env x=pure x:=by intro _;rfl) (hf:X.fn x=true\/X.env.scope.names.lookup x=some .local:=by first|exact .inl rfl|exact .inr rfl|assumption) :
  PS X (.Assign [.Name x pos'] (.ListComp elt [⟨tg,iter,ifs,0⟩] scope pos) Qe) (Pu (uw wi g tc te tn.length ix) (Pp i)):=by
 intro pins s σ H D0 I h
 rw[exec_Assign_Name_used _ _ _ _ K8]
 refine ah (wpAny_standAt (ah ?_))
 show wpAny _ _ (do let _ <- comprehension (.ListComp elt [⟨tg,iter,ifs,0⟩] scope pos) scope X.env _ (newList []) false (eval iter X.env) (some (assign (.Name x pos') X.env))) _ _ s
 refine ah (oy (qL (use:=some (assign (.Name x pos') X.env)) (P:=fun _ s'=>SP X pins D0 .next s') hc hi O hg n5 he hs I h fun C D m H5 s6 r J6 hn B9 ⟨_,g1,_,g3,g4,g5⟩ qn=>?_) (fun _ s' hq=>aE (aE hq)) fun _ _ e=>e)
 refine(show wpAny _ _ (assign (.Name x pos') X.env (.ref D)) _ _ s6 from wpAny_assign_Name (Ph J6 hN tf hx (v:=.ref D) rfl (fun s7 I7 df=>?_) hf))
 obtain⟨a,sb,ha⟩:=df
 have ZW:C≠a:=by
  rcases ha with rfl|ha
  ·exact g1
  ·exact Ne.symm (g4 _ a ha)
 refine⟨m,hn.sameBut sb ZW,fun h' Qc=>⟨_,H5,?_,qn⟩⟩
 exact I7.turned (t':=s7.toks) (fun b o hb e=>Qc.extBut b o hb e) B9 g1 g3 g4 g5
end
def GH (a b:String):Bool:=a == b || (a == "bool" && b == "int")
def Qf (b:String):Bool:=["str", "int", "bool", "list", "tuple", "dict"].contains b
theorem gR (K:PySem.W.Frag) (a b:String) (ha:a∈["NoneType", "bool", "int", "str", "list", "tuple", "dict"]) (hb:b∈["str", "int", "bool", "list", "tuple", "dict"]):PySem.W.kitOne K (.type a) (.type b)=some (GH a b):=by
 simp only[cK,zD,or_false] at ha hb
 rcases ha with rfl|rfl|rfl|rfl|rfl|rfl|rfl<;>rcases hb with rfl|rfl|rfl|rfl|rfl|rfl<;>kernel_rfl
section
variable {X:Cx}
theorem cq.imp(h:cq X f r)(hi:∀ x y H Q,r' x y H Q->r x y H Q):cq X f r' :=
 fun pins s σ H x y v u Q I rx ry q=>h pins s σ H x y v u Q I rx ry (hi x y H Q q)
def GC(K:PySem.W.Frag):R2:=fun x y H Q=>∃ l b xs zs,x=.ref l/\y=.ref b/\eh K H l xs/\eh K H b zs/\xs.length+zs.length<=sizeLine/\∀ p,H p=none->Q (.ref p) (upd H p (.lst (xs++zs)))
theorem Ae:cq X (binaryOp .Add) (GC X.K):=by
 intro pins s σ H x y v u Q I rx ry h
 obtain⟨l,b,xs,zs,rfl,rfl,hH,hB,hz,q⟩:=h
 cases rx
 cases ry
 obtain⟨its,r,pl,z⟩:=I.list hH
 obtain⟨Nj,r2,ZX,z2⟩:=I.list hB
 have hl:=r.length
 have ve:=r2.length
 obtain⟨⟨cls,dd,data,sl⟩,ho,hc,n,hd⟩:=id pl.isList
 obtain⟨⟨PL,qf,data2,qh⟩,oD,wm,n2,hd2⟩:=id ZX.isList
 simp only at hc hd wm hd2
 subst hc hd wm hd2
 have ea:its.toArray++Nj.toArray=(its++Nj).toArray:=by simp
 refine concat_meets ⟨_,ho,rfl⟩ ⟨_,oD,rfl⟩ noFill_list_add seq_list_add PySem.F.slot_list_add PySem.F.entry_list_add (PySem.F.args_list_add_2 _ _) (list_addW l b its.toArray Nj.toArray n n2 dd qf sl qh (by simp only[i9];lia)) ⟨ho,oD,?_⟩
 rw[ea]
 exact⟨.ref _,_,I.P1 (t':=s.toks) (r.append r2) (by rw[tS];lia),rfl,q _ I.fresh⟩
def wZ(K:PySem.W.Frag):R2:=fun x y H Q=>match x,y with
 |.int i,.int j=>Q (.int (i+j)) H
 |.str i,.str j=>i.length+j.length<=sizeLine/\Q (.str (i++j)) H
 |.ref a,.ref b=>∃ xs zs,eh K H a xs/\eh K H b zs/\xs.length+zs.length<=sizeLine/\∀ p,H p=none->Q (.ref p) (upd H p (.lst (xs++zs)))
 |_,_=>False
theorem zY:cq X (binaryOp .Add) (wZ X.K):=by
 refine(XX.or (Yh.or Ae)).imp fun x y H Q h=>?_
 unfold wZ at h
 split at h
 ·exact .inl ⟨_,_,rfl,rfl,h⟩
 ·exact .inr (.inl ⟨_,_,rfl,rfl,h.1,h.2⟩)
 ·obtain⟨xs,zs,h1,h2,h3,h4⟩:=h
  exact .inr (.inr ⟨_,_,xs,zs,rfl,rfl,h1,h2,h3,h4⟩)
 ·exact h.elim
def Cv:R2:=fun x y H Q=>match x,y with
 |.int i,.int j=>Q (.int (i-j)) H
 |_,_=>False
theorem Bh:cq X (binaryOp .Sub) Cv:=XY.imp fun x y H Q h=>by
 unfold Cv at h
 split at h
 ·exact⟨_,_,rfl,rfl,h⟩
 ·exact h.elim
def Ao:R2:=fun x y H Q=>match x,y with
 |.int i,.int j=>yA i j/\Q (.int (i*j)) H
 |_,_=>False
theorem Cy:cq X (binaryOp .Mult) Ao:=XZ.imp fun x y H Q h=>by
 unfold Ao at h
 split at h
 ·exact⟨_,_,rfl,rfl,h.1,h.2⟩
 ·exact h.elim
def BR:R2:=fun x y H Q=>match x,y with
 |.int i,.int j=>(0<j/\j<1073741824)/\Q (.int (i / j)) H
 |_,_=>False
theorem zN:cq X (binaryOp .FloorDiv) BR:=X1.imp fun x y H Q h=>by
 unfold BR at h
 split at h
 ·exact⟨_,_,rfl,rfl,h.1,h.2⟩
 ·exact h.elim
def zT:R2:=fun x y H Q=>match x,y with
 |.int i,.int j=>0<j/\Q (.int (i % j)) H
 |_,_=>False
theorem Cu:cq X (binaryOp .Mod) zT:=X2.imp fun x y H Q h=>by
 unfold zT at h
 split at h
 ·exact⟨_,_,rfl,rfl,h.1,h.2⟩
 ·exact h.elim
def Ca:R2:=fun x y H Q=>match x,y with
 |.int i,.int j=>FU i j/\Q (.int (i ^ j.toNat)) H
 |_,_=>False
theorem Az:cq X (binaryOp .Pow) Ca:=X3.imp fun x y H Q h=>by
 unfold Ca at h
 split at h
 ·exact⟨_,_,rfl,rfl,h.1,h.2⟩
 ·exact h.elim
def og(x y:Str):Bool:=decide (x.cps.toList<y.cps.toList)
def Qg:R2:=fun x y H Q=>match x,y with
 |.int i,.int j=>Q (.bl (decide (i<j))) H
 |.str i,.str j=>Q (.bl (og i j)) H
 |_,_=>False
theorem yL:cq X (compareOp .Lt) Qg:=(X_.or Yc).imp fun x y H Q h=>by
 unfold Qg at h
 split at h
 ·exact .inl ⟨_,_,rfl,rfl,h⟩
 ·exact .inr ⟨_,_,rfl,rfl,h⟩
 ·exact h.elim
theorem wu:cq X (compareOp .LtE) (fun x y H Q=>∃ i j,x=.str i/\y=.str j/\Q (.bl (!og j i)) H):=by
 intro pins s σ H x y v u Q I rx ry h
 obtain⟨i,j,rfl,rfl,q⟩:=h
 obtain⟨t,rfl⟩:=rx
 obtain⟨t',rfl⟩:=ry
 exact PySem.P.le_str ⟨.bl _,H,I,rfl,q⟩
def Qh:R2:=fun x y H Q=>match x,y with
 |.int i,.int j=>Q (.bl (decide (i<=j))) H
 |.str i,.str j=>Q (.bl (!og j i)) H
 |_,_=>False
theorem E_:cq X (compareOp .LtE) Qh:=(Ya.or wu).imp fun x y H Q h=>by
 unfold Qh at h
 split at h
 ·exact .inl ⟨_,_,rfl,rfl,h⟩
 ·exact .inr ⟨_,_,rfl,rfl,h⟩
 ·exact h.elim
def Qi:R2:=fun x y H Q=>match x,y with
 |.int i,.int j=>Q (.bl (decide (j<i))) H
 |_,_=>False
theorem Dj:cq X (compareOp .Gt) Qi:=Yb.imp fun x y H Q h=>by
 unfold Qi at h
 split at h
 ·exact⟨_,_,rfl,rfl,h⟩
 ·exact h.elim
theorem Inv.rd(I:Inv X pins σ H s)(e:Rd H a u):eR X.prog X.w H s.heap a u:=e.elim (I.bp a _) fun⟨o,e⟩=>(show eR X.prog X.w H s.heap a (.kS o u) from I.bp a _ e).2
def Nz(K:PySem.W.Frag):List V->Hp->VK->Prop:=fun xs H Q=>match xs with
 |[.str y]=>y.length<=sizeLine/\Q (.int y.length) H
 |[.ref p]=>(∃ ys,eh K H p ys/\Q (.int ys.length) H)\/(∃ ys,n4 K H p ys/\Q (.int ys.length) H)\/∃ kvs,Rd H p (.dK kvs)/\Q (.int kvs.length) H
 |_=>False
theorem uI:iO X (.builtin "len") (Nz X.K):=by
 intro pins s σ H xs us Q I r h
 unfold Nz at h
 split at h
 ·exact PD pins s σ H _ us Q I r ⟨_,_,rfl,⟨h.1,rfl⟩,h.2⟩
 ·rcases h with⟨ys,h1,h2⟩|⟨ys,h1,h2⟩|⟨kvs,h1,h2⟩
  ·exact PD pins s σ H _ us Q I r ⟨_,_,rfl,.inl ⟨ys,h1,rfl⟩,h2⟩
  ·exact PD pins s σ H _ us Q I r ⟨_,_,rfl,.inr ⟨ys,h1,rfl⟩,h2⟩
  ·obtain⟨u,rfl,ru⟩:=vals1 r
   cases ru
   exact Zg I h1 fun t s' I'=>⟨.int kvs.length,H,I',⟨t,rfl⟩,h2⟩
 ·exact h.elim
def NB(K:PySem.W.Frag):R2:=fun x y H Q=>match x,y with
 |.ref p,.int i=>(∃ xs v,eh K H p xs/\eu xs i=some v/\Q v H)\/∃ xs v,n4 K H p xs/\eu xs i=some v/\Q v H
 |.str z,.int i=>z.length<=sizeLine/\∃ c,eu z.cps.toList i=some c/\Q (.str ⟨#[c]⟩) H
 |_,_=>False
theorem yU:sR X (NB X.K):=by
 intro value slice pins s σ H x y v u Q I rx ry h hs
 refine YV value slice pins s σ H x y v u Q I rx ry ?_ hs
 unfold NB at h
 split at h
 ·rcases h with⟨xs,w,h1,h2,h3⟩|⟨xs,w,h1,h2,h3⟩
  ·exact .inl ⟨_,xs,_,w,rfl,rfl,h1,h2,h3⟩
  ·exact .inr (.inl ⟨_,xs,_,w,rfl,rfl,h1,h2,h3⟩)
 ·obtain⟨h1,c,h2,h3⟩:=h
  exact .inr (.inr ⟨_,_,c,rfl,rfl,h1,h2,h3⟩)
 ·exact h.elim
def wo(z:Str)(lo hi:Option Int):Str:=⟨((z.cps.toList.drop (HT.bq z.length 0 lo)).take (HT.bq z.length z.length hi-HT.bq z.length 0 lo)).toArray⟩
end
theorem vN(l:List Nat)(lo hi:Option Int)(h:((l.drop (HT.bq l.length 0 lo)).take (HT.bq l.length l.length hi-HT.bq l.length 0 lo)).length=l.length) :
  (l.drop (HT.bq l.length 0 lo)).take (HT.bq l.length l.length hi-HT.bq l.length 0 lo)=l:=by
 generalize HT.bq l.length 0 lo=a at *
 generalize HT.bq l.length l.length hi=b at *
 by_cases hl:l.length=0
 ·have:l=[]:=Mq.mp hl
  subst this;simp
 ·rw[nS,BH] at h
  have h1:a=0:=by lia
  subst h1
  rw[List.drop_zero]
  exact Ms (by lia)
theorem vL(lo hi:Option Int)(n:Nat):Builtin.Str.strSliceIndices lo hi 1 n=(List.range (HT.bq n n hi-HT.bq n 0 lo)).map (HT.bq n 0 lo + ·):=by
 unfold Builtin.Str.strSliceIndices
 have e1:(match lo with|none=>(0:Int)|some i=>max 0 (min (if i<0 then i+n else i) n))=((HT.bq n 0 lo:Nat):Int):=by
  cases lo with
  |none=>simp[HT.bq]
  |some i =>
   simp only[HT.bq]
   by_cases h:i<0
   ·simp only[h,if_true]<;>lia
   ·simp only[h,if_false]<;>lia
 have e2:(match hi with|none=>(n:Int)|some i=>max 0 (min (if i<0 then i+n else i) n))=((HT.bq n n hi:Nat):Int):=by
  cases hi with
  |none=>simp[HT.bq]
  |some i =>
   simp only[HT.bq]
   by_cases h:i<0
   ·simp only[h,if_true]<;>lia
   ·simp only[h,if_false]<;>lia
 rw[<- sliceRange_one,<- e1,<- e2]
 simp only[show(1:Int)>0 by decide,if_true]
 cases lo<;>cases hi<;>rfl
section
variable {X:Cx}
theorem part_of(h:IsPart v o):∃ p:Option (Int × Tok),v=partValue p/\p.map (·.1)=o:=by
 cases h with
 |none=>exact⟨none,rfl,rfl⟩
 |int i t=>exact⟨some (i,t),rfl,rfl⟩
def Qj(K:PySem.W.Frag):V->Option Int->Option Int->Hp->VK->Prop:=fun x lo hi H Q=>match x with
 |.str z=>z.length<=sizeLine/\Q (.str (wo z lo hi)) H
 |.ref a=>∃ xs,eh K H a xs/\∀ p,H p=none->Q (.ref p) (upd H p (.lst (AI xs lo hi)))
 |_=>False
theorem Ep:FV X (fun x lo hi H Q=>∃ z,x=.str z/\z.length<=sizeLine/\Q (.str (wo z lo hi)) H):=by
 intro pins s σ H x v vl vu lo hi sl Q I rx hs pl pu h
 obtain⟨z,rfl,hz,q⟩:=h
 obtain⟨t,rfl⟩:=rx
 obtain⟨p1,rfl,e1⟩:=part_of pl
 obtain⟨p2,rfl,e2⟩:=part_of pu
 refine⟨"str",_,F.slot_str_getitem.lookup,typeIs_str s z t,wpAny_getItem_str_slice (l:=p1) (u:=p2) (st:=none) hs rfl ?_⟩
 have hl:z.cps.toList.length=z.length:=by simp[Str.length]
 have ep:slicePicked z p1 p2 none=(List.range (HT.bq z.length z.length hi-HT.bq z.length 0 lo)).map (HT.bq z.length 0 lo + ·):=by
  unfold slicePicked
  rw[e1,e2]
  exact vL lo hi z.length
 have ef:(slicePicked z p1 p2 none).filterMap (z.cps[·]?)=(z.cps.toList.drop (HT.bq z.length 0 lo)).take (HT.bq z.length z.length hi-HT.bq z.length 0 lo):=by
  rw[ep];exact pick_run z.cps _ _
 unfold sliceMade
 split
 ·rename_i hc
  have hw:(slicePicked z p1 p2 none).length=z.length:=by simpa using hc
  have:wo z lo hi=z:=by
   unfold wo
   have e3:((z.cps.toList.drop (HT.bq z.cps.toList.length 0 lo)).take (HT.bq z.cps.toList.length z.cps.toList.length hi-HT.bq z.cps.toList.length 0 lo)).length=z.cps.toList.length:=by
    rw[hl,nS,BH,hl]
    rw[ep,dc,OV] at hw
    have h0:HT.bq z.length 0 lo<=z.length:=by
     cases lo with
     |none=>simp[HT.bq]
     |some i=>simp only[HT.bq];split<;>lia
    have h1:HT.bq z.length z.length hi<=z.length:=by
     cases hi with
     |none=>simp[HT.bq]
     |some i=>simp only[HT.bq];split<;>lia
    lia
   have:=vN z.cps.toList lo hi e3
   rw[hl] at this
   rw[this]
  rw[this] at q
  exact⟨.str z,H,I,⟨t,rfl⟩,q⟩
 ·rw[ef]
  exact⟨by
   show(wo z lo hi).length<=sizeLine
   unfold wo Str.length
   simp only[i9,nS,BH,hl]
   have:z.cps.toList.length=z.length:=hl
   lia,⟨.str (wo z lo hi),H,I.tok _,⟨_,rfl⟩,q⟩⟩
theorem Eh:FV X (Qj X.K):=by
 intro pins s σ H x v vl vu lo hi sl Q I rx hs pl pu h
 unfold Qj at h
 split at h
 ·exact Ep pins s σ H _ v vl vu lo hi sl Q I rx hs pl pu ⟨_,rfl,h.1,h.2⟩
 ·obtain⟨xs,h1,h2⟩:=h
  exact YZ pins s σ H _ v vl vu lo hi sl Q I rx hs pl pu ⟨_,xs,rfl,h1,h2⟩
 ·exact h.elim
end
structure n6(J:It)(its:List V)(cond:Hp->Prop):Prop where
 go:∀ i H,cond H->i<its.length->J.go i H
 mS:∀ i H x H',cond H->i<its.length->J.mS i H x H'->H'=H/\its[i]? = some x
 stop:∀ H,cond H->J.stop its.length H
theorem wV(K:PySem.W.Frag)(a:Addr)(xs:List V):n6 (M6 K a) xs (fun H=>eh K H a xs) where
 go:=fun i H h hi=>⟨xs,xs[i],h,by simp[hi]⟩
 mS:=fun i H x H' h _ y=>⟨y.1,y.2 xs h⟩
 stop:=fun H h=>⟨xs,h,bX _⟩
def tH(lo:Int)(n:Nat):List V:=(List.range n).map fun i=>.int (lo+(i:Nat))
theorem zX(lo:Int)(n:Nat):n6 (FT lo n) (tH lo n) (fun _=>True) where
 go:=fun i H _ h=>by simpa[tH,FT] using h
 mS:=fun i H x H' _ hi h=>by
  have hi:i<n:=by simpa[tH] using hi
  obtain⟨rfl,rfl⟩:=h
  refine⟨rfl,?_⟩
  simp[tH,hi]
 stop:=fun H _=>by simp[tH,FT]
def ZY(J:It)(g:TG)(tb:TS)(D:Ends)(σ:St)(H:Hp):Prop :=
 ∃ W:Nat->Nat->St->Hp->Prop,(∃ m,W 0 m σ H)/\∀ i m σ H,W i m σ H ->
   (J.stop i H/\D.nx σ H)\/(J.go i H/\∃ N:St->Hp->Prop,(∀ aI H',N aI H'->∃ m',m'<m/\W (i+1) m' aI H')/\∀ x H',J.mS i H x H'->g x σ H' fun fS H2=>tb { D with nx:=N,ct:=N,bk:=D.nx } fS H2)
theorem zR(wi:TI)(g:TG)(tb:TS)(D:Ends)(σ:St)(H:Hp):Ts wi g tb D σ H=wi σ H fun J H1=>ZY J g tb D σ H1:=rfl
def Hk(J:It)(g:TG)(tc:TT)(te:TE)(ZZ:St)(H1:Hp)(D:Addr)(Q:VK):Prop :=
 ∃ W:Nat->Nat->St->Hp->Prop,(∃ m,W 0 m ZZ (upd H1 D (.lst [])))/\∀ i m τ H,W i m τ H ->
  (J.stop i H/\Q (.ref D) H)\/(J.go i H/\∃ (N1:St->V->Hp->Prop) (N2:St->Hp->Prop),
   (∀ kD v H4,N1 kD v H4->∃ ys m',H4 D=some (.lst ys)/\ys.length<sizeLine/\m'<m/\W (i+1) m' kD (upd H4 D (.lst (ys++[v])))) /\
   (∀ kD H3,N2 kD H3->∃ m',m'<m/\W (i+1) m' kD H3) /\
   ∀ x H',J.mS i H x H'->g x τ H' fun kD H2=>tc kD H2 fun b H3=>if b=true then te kD H3 (N1 kD) else N2 kD H3)
theorem xK(wi:TI)(g:TG)(tc:TT)(te:TE)(tn:Nat)(ix:List Nat)(σ:St)(H:Hp)(Q:VK):uw wi g tc te tn ix σ H Q=wi σ H fun J H1=>∀ D,H1 D=none->Hk J g tc te (mO tn ix σ) H1 D Q:=rfl
mutual
inductive Rep(K:PySem.W.Frag)(H:Hp):PyData->V->Prop
 |none:Rep K H .none .non
 |bool (b:Bool):Rep K H (.bool b) (.bl b)
 |int (i:Int):Rep K H (.int i) (.int i)
 |str (x:Str):Rep K H (.str x) (.str x)
 |list {a:Addr} {vs:List V} {ds:List PyData}:eh K H a vs->ay K H ds vs->Rep K H (.list ds) (.ref a)
 |tuple {a:Addr} {vs:List V} {ds:List PyData}:n4 K H a vs->ay K H ds vs->Rep K H (.tuple ds) (.ref a)
inductive ay(K:PySem.W.Frag)(H:Hp):List PyData->List V->Prop
 |nil:ay K H [] []
 |cons {d:PyData} {v:V} {ds:List PyData} {vs:List V}:Rep K H d v->ay K H ds vs->ay K H (d :: ds) (v :: vs)
end
section
variable {X:Cx}{pins:List (Addr × Obj)}{σ:St}{H:Hp}{s:Shared}
mutual
theorem Rep.reads(I:Inv X pins σ H s):∀ {d:PyData} {v:V} {u:Value},Rep X.K H d v->RelV v u->∃ as,Reads s.heap u d as
 |_,_,_,.none,r=>by cases (show _=Value.none from r);exact⟨_,.none⟩
 |_,_,_,.bool b,r=>by cases (show _=Value.bool b from r);exact⟨_,.bool b⟩
 |_,_,_,.int i,r=>by obtain⟨t,e⟩:=r;subst e;exact⟨_,.int i t⟩
 |_,_,_,.str x,r=>by obtain⟨t,e⟩:=r;subst e;exact⟨_,.str x t⟩
 |_,_,_,.list h hs,r=>by
  cases r
  obtain⟨its,rv,pl,_⟩:=I.list h
  obtain⟨o,e,c,n,d⟩:=pl.isList
  obtain⟨as,q⟩:=ay.reads I hs rv
  exact⟨_,.list e c d q⟩
 |_,_,_,.tuple h hs,r=>by
  cases r
  obtain⟨its,rv,⟨o,e,c,n,d⟩,_⟩:=I.tuple h
  obtain⟨as,q⟩:=ay.reads I hs rv
  exact⟨_,.tuple e c d q⟩
theorem ay.reads(I:Inv X pins σ H s):∀ {ds:List PyData} {vs:List V} {us:List Value},ay X.K H ds vs->Vals vs us->∃ as,ReadsAll s.heap us ds as
 |_,_,_,.nil,.nil=>⟨_,.nil⟩
 |_,_,_,.cons h hs,.cons r rs=>by
  obtain⟨as,q⟩:=Rep.reads I h r
  obtain⟨bs,q'⟩:=ay.reads I hs rs
  exact⟨_,.cons q q'⟩
end
def Qk(K:PySem.W.Frag):R2:=fun x y H Q=>∃ d e,Rep K H d x/\Rep K H e y/\d.canLay0=true/\e.canLay0=true/\d.depth<=60/\Q (.bl (PyData.eqv d e)) H
def Ql(K:PySem.W.Frag):R2:=fun x y H Q=>∃ d e,Rep K H d x/\Rep K H e y/\d.canLay0=true/\e.canLay0=true/\d.depth<=60/\Q (.bl (!PyData.eqv d e)) H
theorem El(hu:X.A.units+64<cLine):cq X (compareOp .Eq) (Qk X.K):=by
 intro pins s σ H x y v u Q I rx ry h
 obtain⟨d,e,h1,h2,h3,h4,h5,q⟩:=h
 obtain⟨as,r1⟩:=h1.reads I rx
 obtain⟨bs,r2⟩:=h2.reads I ry
 exact PySem.SeqAt.rcAt_reads r1 r2 h3 h4 (by lia) X.prog X.w X.xe _ ⟨.bl _,H,I,rfl,q⟩
theorem Ef(hu:X.A.units+64<cLine):cq X (compareOp .NotEq) (Ql X.K):=by
 intro pins s σ H x y v u Q I rx ry h
 obtain⟨d,e,h1,h2,h3,h4,h5,q⟩:=h
 obtain⟨as,r1⟩:=h1.reads I rx
 obtain⟨bs,r2⟩:=h2.reads I ry
 exact PySem.SeqAt.rcNeAt_reads r1 r2 h3 h4 (by lia) X.prog X.w X.xe _ ⟨.bl _,H,I,rfl,q⟩
def NC(K:PySem.W.Frag):R2:=fun x y H Q=>match x,y with
 |.int i,.int j=>Q (.bl (decide (i=j))) H
 |.str i,.str j=>Q (.bl (decide (i=j))) H
 |.bl i,.bl j=>Q (.bl (decide (i=j))) H
 |_,_=>Qk K x y H Q
theorem Dw(hu:X.A.units+64<cLine):cq X (compareOp .Eq) (NC X.K):=(X8.or (El hu)).imp fun x y H Q h=>by
 unfold NC at h
 split at h
 ·refine .inl ⟨rfl,?_⟩;simpa using h
 ·refine .inl ⟨rfl,?_⟩;simpa using h
 ·refine .inl ⟨rfl,?_⟩;simpa using h
 ·exact .inr h
def ND(K:PySem.W.Frag):R2:=fun x y H Q=>match x,y with
 |.int i,.int j=>Q (.bl (!decide (i=j))) H
 |.str i,.str j=>Q (.bl (!decide (i=j))) H
 |.bl i,.bl j=>Q (.bl (!decide (i=j))) H
 |_,_=>Ql K x y H Q
theorem CZ(hu:X.A.units+64<cLine):cq X (compareOp .NotEq) (ND X.K):=(X9.or (Ef hu)).imp fun x y H Q h=>by
 unfold ND at h
 split at h
 ·refine .inl ⟨rfl,?_⟩;simpa using h
 ·refine .inl ⟨rfl,?_⟩;simpa using h
 ·refine .inl ⟨rfl,?_⟩;simpa using h
 ·exact .inr h
end
end L2
namespace L2
open PySem PySem.Spec PyProof.Rows
def K9(sc:Scope)(names:List (Str × NameKind)):List (Str × NameKind):=names.map fun y=>if (y.2 == NameKind.free && sc.kind == .function && sc.names.lookup y.1 == some .cell)=true then (y.1,NameKind.cell) else (y.1,y.2)
def K_(o:Option NameKind):Bool:=o == some .cell || o == some .free
def DP(sc scope:Scope)(N cn:List Str)(ix:List Nat):Bool :=
 scope.kind == .function && scope.names.all (fun y=>y.2 != .cell) && scope.names.all (fun y=>y.2 != .free || K_ (sc.names.lookup y.1)) && scope.names.all (fun y=>y.2 != .local || scope.names.lookup y.1 == some .local) &&
 ix.length == cn.length && (List.range ix.length).all (fun k=>match ix[k]?,cn[k]? with
  |some j,some y=>N[j]? == some y && K_ (sc.names.lookup y) && scope.names.contains (y,NameKind.free) && K_ ((K9 sc scope.names).lookup y)
  |_,_=>false) &&
 (K9 sc scope.names).all (fun y=>!(y.2 == .cell || y.2 == .free) || scope.names.contains (y.1,NameKind.free))
theorem pX(h:K_ o=true):o=some .cell\/o=some .free:=by
 unfold K_ at h
 simpa using h
theorem bV.of{X:Cx}(AR:X.env.scope=sc)(hN:X.N=N)(h:DP sc scope N cn ix=true):bV X scope tn cn ix:=by
 unfold DP at h
 simp only[kQ] at h
 obtain⟨⟨⟨⟨⟨⟨h1,h2⟩,h3⟩,h4⟩,h5⟩,h6⟩,h7⟩:=h
 rw[IQ] at h2 h3 h4 h6 h7
 have Ux:(relabel scope X.env).names=K9 sc scope.names:=by
  unfold relabel K9
  rw[<- AR]
  rfl
 refine⟨by simpa using h1,fun y hy=>by simpa using h2 y hy,fun y hy hk=>?_,fun y hy hk=>?_,by simpa using h5,fun k j hk=>?_,fun x hx=>?_⟩
 ·have:=h3 y hy
  rw[hk] at this
  rw[AR]
  exact pX (by simpa using this)
 ·have:=h4 y hy
  rw[hk] at this
  simpa using this
 ·have iE:k<ix.length:=(hX.mp hk).1
  have:=h6 k (rh.mpr iE)
  rw[hk] at this
  cases e:cn[k]? with
  |none=>rw[e] at this;cases this
  |some y =>
   rw[e] at this
   simp only[kQ] at this
   obtain⟨⟨⟨a1,a2⟩,a3⟩,a4⟩:=this
   refine⟨y,rfl,by rw[hN];simpa using a1,by rw[AR];exact pX a2,by simpa using a3,by rw[Ux];exact pX a4⟩
 ·rw[Ux] at hx
  have mem:∃ k,(x,k)∈K9 sc scope.names/\(k=.cell\/k=.free):=by
   rcases hx with hx|hx
   ·exact⟨_,PySem.mem_of_lookup hx,.inl rfl⟩
   ·exact⟨_,PySem.mem_of_lookup hx,.inr rfl⟩
  obtain⟨k,hm,hk⟩:=mem
  have:=h7 _ hm
  rcases hk with rfl|rfl<;>simpa using this
structure fP(P:Program)(w:World)(K:PySem.W.Frag)(mg:Str->Option Value)(base:Heap)(k:Nat)(x:Str)(ps:List Str)(sp:Sp):Prop where
 ex:∃ (g:Addr) (fd:FuncData),mg x=some (.ref g)/\PySem.W.keepIn K (.ref g)=true/\Binds K fd ps []/\hJ P w K mg base ke k g fd ps sp
section
variable {X:Cx}{k:Nat}{x:Str}{ps:List Str}{sp:Sp}{p pos:Pos}{e:Expr}{es:List Expr}{t:TA}
theorem EY (C:fP X.prog X.w X.K X.mg X.base k x ps sp) (hr:i7 k X.A) (ha:PA X (e :: es) t) (hg:Gl X x:=by rfl) (ip:(x == ("__debug__" : Str))=false:=by decide) (he:starEach (e :: es) X.env=(false,eval e X.env) :: starEach es X.env:=by rfl)
  (fq:(backTo pos (starEach es X.env)).any (·.1)=false:=by rfl):PE X (.Call (.Name x p) (e :: es) [] pos) (KP sp [] E0 t):=by
 obtain⟨g,fd,hm,hk,hb,F⟩:=C.ex
 exact TQ F hr hg hm hk hb .nil ZC ha ip he fq
end
theorem iq.wq{P:Program}{K:PySem.W.Frag}{st:Stmt}{ps:List Str}(F:iq K x qual st f fd)(hm:mg x=some (.ref f))
  (G:hJ P w K mg base ke k f fd ps sp)
  (h:∀ (kV doc pm:Value) (an:Option Addr) (cE ct:Value) (us:List Value),us.length=ps.length->bindArgs (PySem.W.fnOf x qual (kC st) (iP st) (cy st) .none kV doc pm an cE ct) ⟨us,[]⟩=pure (ps.zip us)):fP P w K mg base k x ps sp :=
 ⟨f,fd,hm,F.kp,F.binds h,G⟩
theorem yQ:bootBuiltins "int" = some (.type "int"):=by decide +kernel
theorem Ab:bootBuiltins "bool" = some (.type "bool"):=by decide +kernel
theorem zF:bootBuiltins "list" = some (.type "list"):=by decide +kernel
theorem dH:bootBuiltins "isinstance" = some (.builtin "isinstance"):=by decide +kernel
theorem vU:bootBuiltins "len" = some (.builtin "len"):=by decide +kernel
theorem Dd {X:Cx} {T:String} (hm:X.mg x=none) (hv:bootBuiltins x=some (.type T)) (hg:Gl X x:=by rfl) (hn:x ≠ "__name__" := by decide) (hd:(x == ("__debug__" : Str))=false:=by decide):PE X (.Name x pos) (tC (.ty T)) :=
 Xg hg hm hv rfl hn hd
def Uy(i j:Str):Bool:=!(Builtin.Str.occurrences j i 0 j.length 1).isEmpty
def Qm(K:PySem.W.Frag)(neg:Bool):R2:=fun x y H Q=>match x,y with
 |.str i,.str j=>Q (.bl (if neg then !Uy i j else Uy i j)) H
 |_,.ref p=>(∃ o,qk H p x o/\Q (.bl (if neg then !o.isSome else o.isSome)) H)\/Ud K neg x y H Q
 |_,_=>False
theorem CV{X:Cx}(hu:X.A.units+64<cLine):cq X (compareOp .In) (Qm X.K false):=by
 intro pins s σ H x y v u Q I rx ry h
 unfold Qm at h
 split at h
 ·exact Yd pins s σ H _ _ v u Q I rx ry ⟨_,_,rfl,rfl,h⟩
 ·rcases h with⟨o,g,q⟩|h
  ·cases ry
   exact Zd (by lia) I g rx fun s3 I3=>⟨.bl o.isSome,H,I3,rfl,q⟩
  ·exact Y1 pins s σ H _ _ v u Q I rx ry h
 ·exact h.elim
theorem ax.upd(h:ax H H')(hp:H' p=none):ax H (upd H' p o):=fun b u e=>by
 have e':=h b u e
 rw[fw (FH e' hp)]
 exact e'
theorem ax.lst{K:PySem.W.Frag}(e:ax H H')(h:eh K H a xs):eh K H' a xs:=e.seq h
theorem ax.tup{K:PySem.W.Frag}(e:ax H H')(h:n4 K H a xs):n4 K H' a xs:=by
 rcases h with(h|⟨o,h⟩)|h
 ·exact .inl (.inl (e _ _ h))
 ·exact .inl (.inr ⟨o,e _ _ h⟩)
 ·exact .inr h
mutual
theorem Rep.same{K:PySem.W.Frag}(s:ax H H'):∀ {d:PyData} {v:V},Rep K H d v->Rep K H' d v
 |_,_,.none=>.none
 |_,_,.bool b=>.bool b
 |_,_,.int i=>.int i
 |_,_,.str x=>.str x
 |_,_,.list h hs=>.list (s.lst h) (ay.same s hs)
 |_,_,.tuple h hs=>.tuple (s.tup h) (ay.same s hs)
theorem ay.same{K:PySem.W.Frag}(s:ax H H'):∀ {ds:List PyData} {vs:List V},ay K H ds vs->ay K H' ds vs
 |_,_,.nil=>.nil
 |_,_,.cons h hs=>.cons (Rep.same s h) (ay.same s hs)
end
section
variable {X:Cx}{K:PySem.W.Frag}
theorem Z0(hK:X.K=K:=by rfl):sR X (NB K):=by subst hK;exact yU
theorem rV(hu:X.A.units+64<cLine)(hK:X.K=K:=by rfl):cq X (compareOp .Eq) (NC K):=by subst hK;exact Dw hu
theorem Uz(hu:X.A.units+64<cLine)(hK:X.K=K:=by rfl):cq X (compareOp .NotEq) (ND K):=by subst hK;exact CZ hu
theorem js(hu:X.A.units+64<cLine)(hK:X.K=K:=by rfl):cq X (compareOp .In) (Qm K false):=by subst hK;exact CV hu
end
theorem J2{α:Type}{a:α}{p:α->Prop}:(∃ v,a=v/\p v)↔p a:=⟨fun⟨_,e,h⟩=>e ▸ h,fun h=>⟨a,rfl,h⟩⟩
end L2
namespace L2
open PySem PySem.Spec PyProof.Rows
abbrev Qn:=Array DictEntry
def rX(h:Heap)(d:Addr)(es:Qn)(ep:Nat):Prop:=∃ o,h.get? d=some o/\o.ExactDict/\o.data=.dict es ep
theorem rX.typ {s:Shared} {d:Addr} {es:Qn} {ep:Nat} (x:rX s.heap d es ep):s.TypeIs (.ref d) "dict" := let ⟨o,e,c,_⟩:=x;⟨o,e,c.1⟩
section
variable {prog:Program}{w:World}{A:Around}{E:Value->Shared->Prop}{s:Shared}{d it:Addr}{es:Qn}{ep i:Nat}
theorem xm{Q:Value->Shared->Prop}(lo:(d == sysModules)=false)(x:rX s.heap d es ep)
  (q:Q (.ref s.heap.objs.size) { s with heap:=s.heap.push { cls:=.type "dict_keyiterator",data:=.fields #[.ref d,.int 0 0,.int es.size 0,.int ep 0] } }):wpAny (model prog w) A (pyIter (.ref d)) Q E s:=by
 obtain⟨o,ho,hc,NF⟩:=id x
 refine wpAny_pyIter_slot x.typ F.slot_dict_iter (wpAny_call_entry F.slot_dict_iter x.typ F.entry_dict_iter ?_ (F.args_dict_iter_1 _))
 unfold Builtin.«dict.__iter__»
 refine ah ?_
 unfold Builtin.Dict.dictSlotNone
 refine ah (wpAny_notOrdered_dict x.typ ?_)
 refine(show wpAny _ _ (pure (Value.ref d)) _ _ s from aE ?_)
 refine(show wpAny _ _ (Builtin.Dict.showsAll d >>= _) _ _ s from ?_)
 unfold Builtin.Dict.showsAll
 rw[if_neg (by rw[lo];decide)]
 refine ah (aE (ah (wpAny_dictEntries ho NF (ah (wpAny_dictEpoch ho NF (ah (wpAny_newObj_type (aE ⟨_,rfl, "dict_keyiterator",_,⟨_,i6 _ rfl,rfl⟩,F.slot_dict_keyiterator_next.lookup,?_⟩))))))))
 simpa[rawInt] using q
theorem wG(hit:s.heap.IsKeyIter it d i es.size ep)(x:rX s.heap d es ep)(hx:i<es.size)
  (q:∀ h',h'.IsKeyIter it d (i+1) es.size ep->Heap.SameBut it s.heap h'->Q (some es[i].key) { s with heap:=h' }):wpAny (model prog w) A (pyNext (.ref it)) Q E s:=by
 obtain⟨o,ho,hc,hd⟩:=id hit
 obtain⟨od,La,nX,Lb⟩:=id x
 have ty:=hit.typeIs
 unfold pyNext
 refine ah (wpAny_attempt (wpAny_callSpecial?_slot (name:=Str.ofString "__next__") ty F.slot_dict_keyiterator_next (wpAny_call_entry F.slot_dict_keyiterator_next ty F.entry_dict_keyiterator_next ?_ (F.args_dict_keyiterator_next_1 _))))
 refine ah (aE (ah (ah ?_)))
 first|refine ah (wpAny_typeNameOfWhole_keyiter ty (aE ?_))|refine ah (wpAny_typeNameOf_keyiter ty (aE ?_))
 refine ah (wpAny_fieldsOf ho hd ?_)
 simp only[show Builtin.Dict_items.ownsTuple "dict_keyiterator" = false by decide,gL,if_false]
 refine(show wpAny _ _ (if (Value.ref d == Value.none)=true then _ else _) _ _ s from ?_)
 rw[if_neg (show ¬ ((Value.ref d == Value.none)=true) by intro h;cases h)]
 refine ah (aE (ah (wpAny_dictEntries La Lb ?_)))
 rw[if_neg (by intro h;simp at h)]
 refine ah (aE (ah (wpAny_dictEpoch La Lb ?_)))
 rw[if_neg (by intro h;simp at h)]
 refine aE ?_
 simp only[show ¬ ((i:Int)<0) by lia,if_false,FE,x8 hx]
 refine ah ?_
 first|refine ah (wpAny_typeNameOfWhole_keyiter ty (aE ?_))|refine ah (wpAny_typeNameOf_keyiter ty (aE ?_))
 refine ah (wpAny_isOneOf_keyiter ty ?_)
 refine(show wpAny _ _ (setField (.ref it) 1 (rawInt ((i:Int)+1)) >>= _) _ _ s from ah (wpAny_setField ho hd (by simp) ?_))
 have UA:(s.heap.update it (Obj.mapFields (·.setIfInBounds 1 (rawInt ((i:Int)+1))))).IsKeyIter it d (i+1) es.size ep :=
  ⟨_,IY _ ho (Obj.isFreed_of_fields (Obj.data_mapFields hd _)),(Obj.cls_mapFields ..).trans hc,by rw[Obj.data_mapFields hd];simp[rawInt]⟩
 refine ah (wpAny_holding (ah (wpAny_isOneOf_keyiter (s:={ s with heap:=s.heap.update it (Obj.mapFields (·.setIfInBounds 1 (rawInt ((i:Int)+1)))) }) UA.typeIs ?_)))
 refine(show wpAny _ _ (pure es[i].key) _ _ _ from aE (aE ⟨_,rfl,aE (q _ UA (Heap.SameBut.update ..))⟩))
theorem xX(hh:A.handled=none)(hit:s.heap.IsKeyIter it d es.size es.size ep)(x:rX s.heap d es ep)(q:∀ h',Heap.ExtBut it s.heap h'->Q none { s with heap:=h' }) :
  wpAny (model prog w) A (pyNext (.ref it)) Q E s:=by
 obtain⟨o,ho,hc,hd⟩:=id hit
 obtain⟨od,La,nX,Lb⟩:=id x
 have ty:=hit.typeIs
 unfold pyNext
 refine ah (wpAny_attempt (wpAny_callSpecial?_slot (name:=Str.ofString "__next__") ty F.slot_dict_keyiterator_next (wpAny_call_entry F.slot_dict_keyiterator_next ty F.entry_dict_keyiterator_next ?_ (F.args_dict_keyiterator_next_1 _))))
 refine ah (aE (ah (ah ?_)))
 first|refine ah (wpAny_typeNameOfWhole_keyiter ty (aE ?_))|refine ah (wpAny_typeNameOf_keyiter ty (aE ?_))
 refine ah (wpAny_fieldsOf ho hd ?_)
 simp only[show Builtin.Dict_items.ownsTuple "dict_keyiterator" = false by decide,gL,if_false]
 refine(show wpAny _ _ (if (Value.ref d == Value.none)=true then _ else _) _ _ s from ?_)
 rw[if_neg (show ¬ ((Value.ref d == Value.none)=true) by intro h;cases h)]
 refine ah (aE (ah (wpAny_dictEntries La Lb ?_)))
 rw[if_neg (by intro h;simp at h)]
 refine ah (aE (ah (wpAny_dictEpoch La Lb ?_)))
 rw[if_neg (by intro h;simp at h)]
 refine aE ?_
 simp only[show ¬ ((es.size:Int)<0) by lia,if_false,FE,BO (bX es.size)]
 refine ah ?_
 first|refine ah (wpAny_typeNameOfWhole_keyiter ty (aE ?_))|refine ah (wpAny_typeNameOf_keyiter ty (aE ?_))
 refine(show wpAny _ _ (setField (.ref it) 0 .none >>= _) _ _ s from ah (wpAny_setField ho hd (by simp) ?_))
 refine(show wpAny _ _ (newExc (.type "StopIteration") [] >>= _) _ _ _ from ah ?_)
 simp only[newExc,newTuple]
 refine ah (wpAny_newObj_type ?_ (by size_fits))
 refine ah (m:=firstArgMember _ _) (wpAny_of_eq (a:=Value.none) (by first|rfl|(simp only[firstArgMember];rfl)) (wpAny_newObj_type ?_ (by size_fits)))
 simp only[raiseNew]
 refine ah (wpAny_handled ?_)
 rw[show A.in1.handled=none from hh]
 refine ah (aE (wpAny_throw ?_))
 refine ah (wpAny_isInstance (b:=true) (T := "StopIteration") ⟨_,i6 _ rfl,rfl⟩ isSubtype_stop ?_)
 exact aE (q _ (((Heap.SameBut.update ..).extBut.push _).push _))
theorem rX.at(x:rX h d es ep)(e:∀ o,h.get? d=some o->h'.get? d=some o):rX h' d es ep:=let ⟨o,ho,r⟩:=x;⟨o,e o ho,r⟩
theorem rX.lt(x:rX h d es ep):d<h.objs.size:=let ⟨_,e,_⟩:=x;dn e
theorem tV(hh:A.handled=none)(I:Addr)(jI:d≠I):Walks prog w A I [I,d] [I] es.size (fun i v=>∃ e,es[i]? = some e/\v=e.key) (fun i h=>h.IsKeyIter I d i es.size ep/\rX h d es ep) where
 sub:=fun b hb=>by simp at hb;simp[hb]
 frame:=fun _ _ _ st hk=>⟨st.1.at fun o e=>hk I (by simp) o e,st.2.at fun o e=>hk d (by simp) o e⟩
 item:=fun i s Q E hi st hQ=>wG st.1 st.2 hi fun h' a b=>hQ _ h' s.toks ⟨es[i],by simp[hi],rfl⟩ ⟨a,st.2.at fun o e=>b.extBut d o jI e⟩ fun c o hb e=>b.extBut c o (fun h=>hb (by simp[h])) e
 done:=fun s Q E st hQ=>xX hh st.1 st.2 fun h' NH=>hQ h' s.toks fun b o hb e=>NH b o (fun h=>hb (by simp[h])) e
 self:=fun _ _ _ _ st hQ=>wpAny_pyIter_keyiter st.1 hQ
theorem uU (lo:(d == sysModules)=false):PySem.W.KdlSrc prog w "dict" d d es.size (fun i v=>∃ e,es[i]? = some e/\v=e.key) (fun h=>rX h d es ep) where
 type:=fun _ x=>x.typ
 there:=fun _ x=>⟨x.lt,x.lt⟩
 keep:=fun _ _ x hk=>x.at fun o e=>hk d (.inl rfl) o e
 notList:=by decide
 notTuple:=by decide
 hint:=fun _ _ _ _ x hq=>PySem.W.kdl_hint_dict x.typ hq
 iter:=fun _ _ hh x=>⟨_,_,(fun _ _ hq=>xm lo x hq),tV hh _ (eP x.lt),⟨⟨_,i6 _ rfl,rfl,rfl⟩,x.at fun o e=>eS _ e⟩⟩
end
theorem Paired.n0{α β:Type}{R:α->β->Prop}{bs:List β}(h:Paired R [] bs):bs=[]:=by cases h;rfl
theorem Paired.c{α β:Type}{R:α->β->Prop}{a:α}{as:List α}{bs:List β}(h:Paired R (a :: as) bs):∃ b cs,bs=b :: cs/\R a b/\Paired R as cs:=by
 cases h with
 |cons r t=>exact⟨_,_,rfl,r,t⟩
def cu(H:Hp)(ys:List V)(ks:List (List Key)):Prop:=Paired (fun(v:V) (k:List Key)=>∃ b,v=.ref b/\H b=some (.tup (k.map kV))) ys ks
section
variable {X:Cx}
def qt:List V->Hp->VK->Prop:=fun xs H Q=>match xs with
 |[.ref p]=>∃ kvs,Rd H p (.dT kvs)/\∀ ys l,cu H ys (kvs.map (·.1))->H l=none->Q (.ref l) (upd H l (.lst ys))
 |_=>False
theorem uH
  (h:Paired (fun(p:List Key × V) (q:List Key × Addr × Value)=>p.1=q.1/\H q.2.1=some (.tup (p.1.map kV))/\RelV p.2 q.2.2) kvs xs) :
  cu H (xs.map fun q=>.ref q.2.1) (kvs.map (·.1))/\Vals (xs.map fun q=>.ref q.2.1) ((xs.map (entryOfKey (tupleKind (lT prog w)))).map (·.key)):=by
 induction h with
 |nil=>exact⟨.nil,.nil⟩
 |cons r t ih=>exact⟨.cons ⟨_,rfl,r.2.1⟩ ih.1,.cons rfl ih.2⟩
theorem rW (hc:X.calm=true):iO X (.type "list") qt:=by
 intro pins s σ H xs us Q I r h
 unfold qt at h
 split at h
 ·rename_i p
  obtain⟨kvs,e,q⟩:=h
  obtain⟨u,rfl,ru⟩:=Vals.one r
  cases ru
  obtain⟨z,y,ps,rel,o,es,ep,h1,h2,h3,h4,h5⟩:=(show eR X.prog X.w H s.heap p (.dT kvs) from I.rd e)
  obtain⟨ta,va⟩:=uH (prog:=X.prog) (w:=X.w) rel
  have hlen:es.size=kvs.length:=by
   have:=congrArg List.length h4
   rw[zS,dc] at this
   rw[this];exact rel.length.symm
  refine PySem.W.kdl_call (uU (es:=es) (ep:=ep) y) (I.ok.hd hc) ⟨o,h1,h2,h3⟩ (by lia) fun h' tk acc c kp eo AU=>?_
  have hv:acc.toList=(ps.map (entryOfKey (tupleKind (lT X.prog X.w)))).map (·.key):=by
   apply BG
   intro i
   by_cases hi:i<es.size
   ·have gV:i<acc.size:=by rw[AU.1];exact hi
    obtain⟨en,e1,e2⟩:=AU.2 i acc[i] (by simp[gV])
    rw[<- h4,nL,kR,kR,e1]
    simp[gV,e2]
   ·rw[<- h4,nL,kR,kR,BO (by rw[AU.1];lia),BO (by lia)]
    rfl
  refine⟨.ref s.heap.objs.size,_,I.laid (t':=tk) kp (bX _) (show eR X.prog X.w _ h' _ (.lst (ps.map fun q=>.ref q.2.1)) from⟨?_,acc.toList,c,?_,?_⟩),rfl,q _ _ ta (I.bp.fresh (bX _))⟩
  ·rw[dc,<- rel.length];exact z
  ·rw[hv];exact va
  ·rw[MQ];exact eo
 ·exact h.elim
end
end L2
namespace wt
open PySem PyProof.Rows
def R(r:Value->Int)(xs:Array Keyed)(i:Nat):Int:=match xs[i]? with
 |some p=>r p.1
 |none=>0
theorem cH(h:xs[i]? = ys[j]?):R r xs i=R r ys j:=by unfold R;rw[h]
def kE(prog:Program)(w:World)(A:Around)(s:Shared)(κ:SortKind)(r:Value->Int)(P:Value->Prop):Prop :=
 ∀ x y,P x->P y->∀ (Q:Bool->Shared->Prop) (E:Value->Shared->Prop),Q (decide (r x<r y)) s->wpAny (model prog w) A (keyLt' κ x y) Q E s
def AllP(P:Value->Prop)(xs:Array Keyed):Prop:=∀ p∈xs.toList,P p.1
theorem AllP.perm{P:Value->Prop}(h:AllP P xs)(hp:ys.Perm xs):AllP P ys:=fun p hm=>h p ((O5.mp hp).mem_iff.mp hm)
theorem AllP.at{P:Value->Prop}{xs:Array Keyed}(h:AllP P xs){i:Nat}{p:Keyed}(e:xs[i]? = some p):P p.1:=h p (by
 obtain⟨hi,rfl⟩:=FD.mp e
 simp)
structure kf(lo hi:Nat)(st ae:SortSt):Prop where
 kind:kindOf ae=kindOf st
 failed:failedOf ae=failedOf st
 pend:pendingOf ae=pendingOf st
 perm:(arrOf ae).Perm (arrOf st)
 out:∀ k,k<lo\/hi<=k->(arrOf ae)[k]? = (arrOf st)[k]?
theorem kf.refl(lo hi:Nat)(st:SortSt):kf lo hi st st:=⟨rfl,rfl,rfl,Array.Perm.refl _,fun _ _=>rfl⟩
theorem kf.trans{lo hi:Nat}(h:kf lo hi a b)(g:kf lo hi b c):kf lo hi a c :=
 ⟨g.kind.trans h.kind,g.failed.trans h.failed,g.pend.trans h.pend,g.perm.trans h.perm,fun k hk=>(g.out k hk).trans (h.out k hk)⟩
theorem kf.mono{lo hi D6 iA:Nat}(h:kf lo hi a b)(h1:D6<=lo)(h2:hi<=iA):kf D6 iA a b :=
 ⟨h.kind,h.failed,h.pend,h.perm,fun k hk=>h.out k (by lia)⟩
theorem kf.size{lo hi:Nat}(h:kf lo hi a b):(arrOf b).size=(arrOf a).size:=h.perm.size_eq
def Up(r:Value->Int)(xs:Array Keyed)(lo hi:Nat):Prop:=∀ i j,lo<=i->i<=j->j<hi->R r xs i<=R r xs j
def Down(r:Value->Int)(xs:Array Keyed)(lo hi:Nat):Prop:=∀ i j,lo<=i->i<=j->j<hi->R r xs j<=R r xs i
theorem qO(hs:src<xs.size)(hd:d<=src)(k:Nat) :
  R r (bubble xs src d) k=if k=src-d then R r xs src else if src-d<k/\k<=src then R r xs (k-1) else R r xs k:=by
 have e:=getElem?_bubble hs d hd k
 by_cases h1:k=src-d
 ·rw[if_pos h1] at e ⊢;exact cH e
 ·rw[if_neg h1] at e ⊢
  by_cases h2:src-d<k/\k<=src
  ·rw[if_pos h2] at e ⊢;exact cH e
  ·rw[if_neg h2] at e ⊢;exact cH e
theorem mH(hj:j<=xs.size)(k:Nat) :
  R r (mirror xs i j ((j-i) / 2)) k=if i<=k/\k<j then R r xs (i+j-1-k) else R r xs k:=by
 have e:=getElem?_mirror_all (i:=i) hj k
 by_cases h1:i<=k/\k<j
 ·rw[if_pos h1] at e ⊢;exact cH e
 ·rw[if_neg h1] at e ⊢;exact cH e
theorem bC(hj:j<=xs.size)(heq:∀ k,i<=k->k<j->R r xs k=R r xs (j-1))(k:Nat) :
  R r (mirror xs i j ((j-i) / 2)) k=R r xs k:=by
 rw[mH hj]
 split
 ·rw[heq _ (by lia) (by lia),heq k (by lia) (by lia)]
 ·rfl
section
variable {prog:Program}{w:World}{A:Around}{E:Value->Shared->Prop}{s:Shared}{κ:SortKind}{r:Value->Int}{P:Value->Prop}
theorem oM{st:SortSt}(C:kE prog w A s κ r P)(hk:kindOf st=κ)(hx:P x.1)(hy:P y.1)(h:Q (some (decide (r x.1<r y.1))) st) :
  wpS (model prog w) A E s (lt' x y) Q st:=by
 rw[lt'_eq]
 refine wpS_bind (wpS_get ?_)
 rw[hk]
 refine wpS_bind (wpS_lift (wpAny_attempt (C x.1 y.1 hx hy _ _ ⟨rfl,?_⟩)))
 exact wpS_pure h
theorem aF{st:SortSt}(hi:i<xs.size)(h:∀ p,xs[i]? = some p->Q p st):wpS (model prog w) A E s (elem' xs i) Q st:=by
 rw[elem'_eq,getElem?_pos xs i hi]
 exact wpS_pure (h _ (getElem?_pos xs i hi))
theorem jF{st:SortSt}{i j:Nat}{Q:Option Bool->SortSt->Prop}(C:kE prog w A s κ r P)(hk:kindOf st=κ)(hP:AllP P (arrOf st))(hi:i<(arrOf st).size)(hj:j<(arrOf st).size)
  (h:Q (some (decide (R r (arrOf st) i<R r (arrOf st) j))) st):wpS (model prog w) A E s (ltAt' i j) Q st:=by
 rw[ltAt'_eq]
 refine wpS_bind (wpS_get ?_)
 show wpS _ _ _ _ (do let x <- elem' (arrOf st) i;let y <- elem' (arrOf st) j;lt' x y) Q st
 refine wpS_bind (aF hi fun p ep=>wpS_bind (aF hj fun q eq=>oM C hk (hP.at ep) (hP.at eq) ?_))
 have e1:R r (arrOf st) i=r p.1:=by unfold R;rw[ep]
 have e2:R r (arrOf st) j=r q.1:=by unfold R;rw[eq]
 rw[<- e1,<- e2]
 exact h
theorem cR{st:SortSt}(h:Q () (setArr st (mirror (arrOf st) i j ((j-i) / 2)))) :
  wpS (model prog w) A E s (reverseSlice' i j) Q st:=by
 rw[reverseSlice'_eq];exact wpS_modify h
theorem eZ{st:SortSt}(hj:j<=(arrOf st).size):kf i j st (setArr st (mirror (arrOf st) i j ((j-i) / 2))) :=
 ⟨rfl,rfl,rfl,mirror_perm _ _ _ _,fun k hk=>by
  have e:=getElem?_mirror_all (i:=i) hj k
  rw[if_neg (by lia)] at e
  exact e⟩
theorem sW{st:SortSt}{lo src d:Nat}(hs:src<(arrOf st).size)(hd:lo+d<=src):kf lo (src+1) st (setArr st (bubble (arrOf st) src d)) :=
 ⟨rfl,rfl,rfl,bubble_perm _ _ _,fun k hk=>by
  have e:=getElem?_bubble hs d (by walk_at "s4") k
  rw[if_neg (by lia),if_neg (by lia)] at e
  exact e⟩
theorem wpS_binarySort{st:SortSt}{lo n ok:Nat}(C:kE prog w A s κ r P)(hk:kindOf st=κ)(hP:AllP P (arrOf st))(hn:lo+n<=(arrOf st).size)(bp:ok<=n)(hs:Up r (arrOf st) lo (lo+ok))
  (h:∀ ae,kf lo (lo+n) st ae->Up r (arrOf ae) lo (lo+n)->Q true ae):wpS (model prog w) A E s (binarySort' lo n ok) Q st:=by
 rw[binarySort'_eq]
 refine wpS_bind (wpS_mono (wpS_forRange (I:=fun k c ae=>c=(none,())/\kf lo (lo+n) st ae/\Up r (arrOf ae) lo (lo+min k n))
  (Q:=fun c ae=>c=(none,())/\kf lo (lo+n) st ae/\Up r (arrOf ae) lo (lo+n)) ?step ?fin ?init) ?post)
 case post =>
  rintro c ae ⟨rfl,gX,gu⟩
  exact wpS_pure (h ae gX gu)
 case init =>
  refine⟨rfl,.refl _ _ _,fun i j hl fA hj=>?_⟩
  by_cases h1:ok=0
  ·have:i=j:=by lia
   subst this;exact ua _
  ·exact hs i j hl fA (by lia)
 case fin =>
  rintro c ae ⟨hc,gX,gu⟩
  refine⟨hc,gX,?_⟩
  rwa[show min (max (max ok 1) n) n=n by lia] at gu
 case step =>
  rintro k c ae hak hkn ⟨rfl,gX,gu⟩
  rw[show min k n=k by lia] at gu
  have hsz:=gX.size
  have iE:kindOf ae=κ:=gX.kind.trans hk
  have oP:=hP.perm gX.perm
  refine wpS_bind (wpS_mono (wpS_forRange (I:=fun x c wx=>wx=ae/\∃ l r',c=(none,l,r')/\l<=r'/\r'<=k/\r'-l<=k-x /\
    (∀ i,lo<=i->i<lo+l->R r (arrOf ae) i<=R r (arrOf ae) (lo+k))/\(∀ i,lo+r'<=i->i<lo+k->R r (arrOf ae) (lo+k)<R r (arrOf ae) i))
   (Q:=fun c wx=>wx=ae/\∃ l r',c=(none,l,r')/\l<=k /\
    (∀ i,lo<=i->i<lo+l->R r (arrOf ae) i<=R r (arrOf ae) (lo+k))/\(∀ i,lo+l<=i->i<lo+k->R r (arrOf ae) (lo+k)<R r (arrOf ae) i)) ?Z1 ?Z2 ?Z3) ?Z4)
  case Z3=>exact⟨rfl,0,k,rfl,by lia,by lia,by lia,fun i _ hi=>by lia,fun i h1 h2=>by lia⟩
  case Z2 =>
   rintro c wx ⟨rfl,l,r',rfl,Z5,D7,hm,B8,y3⟩
   have:l=r':=by lia
   subst this
   exact⟨rfl,l,l,rfl,D7,B8,y3⟩
  case Z1 =>
   rintro x c wx _ hxk ⟨rfl,l,r',rfl,Z5,D7,hm,B8,y3⟩
   dsimp only
   by_cases oi:l >= r'
   ·rw[if_pos oi]
    have:l=r':=by lia
    subst this
    exact wpS_pure ⟨rfl,l,l,rfl,D7,B8,y3⟩
   ·rw[if_neg oi]
    refine wpS_bind (jF C iE oP (by lia) (by lia) ?_)
    by_cases ti:R r (arrOf wx) (lo+k)<R r (arrOf wx) (lo+(l+r') / 2)
    ·simp only[ti,decide_true,if_true]
     refine wpS_pure ⟨rfl,l,(l+r') / 2,rfl,by lia,by lia,by lia,B8,fun i h1 h2=>?_⟩
     exact Int.lt_of_lt_of_le ti (gu _ _ (by lia) h1 h2)
    ·simp only[ti,decide_false,gL,if_false]
     refine wpS_pure ⟨rfl,(l+r') / 2+1,r',rfl,by lia,by lia,by lia,fun i h0 h1=>?_,y3⟩
     exact tT (gu i (lo+(l+r') / 2) h0 (by lia) (by lia)) (Int.not_lt.mp ti)
  case Z4 =>
   rintro c wx ⟨rfl,l,r',rfl,hlk,B8,y3⟩
   show wpS _ _ _ _ (do moveDown' (lo+k) (lo+l);pure (ForInStep.yield (none,()))) _ _
   rw[moveDown'_eq]
   have Qo:lo+k<(arrOf wx).size:=by lia
   refine wpS_bind (wpS_modify (wpS_pure ⟨rfl,gX.trans ((sW (lo:=lo) Qo (by lia)).mono (bX _) (by lia)),?_⟩))
   rw[show min (k+1) n=k+1 by lia]
   intro i j hl fA hj
   show R r (bubble (arrOf wx) (lo+k) (lo+k-(lo+l))) i<=R r (bubble (arrOf wx) (lo+k) (lo+k-(lo+l))) j
   rw[qO Qo (by lia),qO Qo (by lia),show lo+k-(lo+k-(lo+l))=lo+l by lia]
   repeat' split
   all_goals first
    | (exfalso;lia)
    |exact ua _
    |exact B8 _ (by lia) (by lia)
    |exact z5 (y3 _ (by lia) (by lia))
    |exact gu _ _ (by lia) (by lia) (by lia)
end
def ascL(lo a nrem:Nat):StateT SortSt Sem AscSt :=
 forIn [a:nrem] ((none,a):AscSt) fun _ __s=>do
  let __x ← ltAt' (lo + __s.snd) (lo + __s.snd - 1)
  match __x with
  |some smaller=>if smaller=true then pure (ForInStep.done (none,__s.snd)) else pure (ForInStep.yield (none,__s.snd+1))
  |_=>pure (ForInStep.done (some none,__s.snd))
def nT(lo n nrem:Nat):StateT SortSt Sem (Option Nat):=do
 reverseSlice' lo (lo+n)
 let __s ← ascL lo n nrem
 match __s.fst with
 |some r=>pure r
 |none=>pure (some __s.snd)
def wH(lo n nrem:Nat):StateT SortSt Sem DescSt :=
 forIn [n:nrem] ((none,n,0):DescSt) fun _ __s=>do
  let __x ← ltAt' (lo + __s.snd.fst) (lo + __s.snd.fst - 1)
  match __x with
  |some smaller =>
   if smaller=true then
    if __s.snd.snd>0 then do
     reverseSlice' (lo+__s.snd.fst-(__s.snd.snd+1)) (lo+__s.snd.fst)
     pure (ForInStep.yield (none,__s.snd.fst+1,0))
    else pure (ForInStep.yield (none,__s.snd.fst+1,0))
   else do
    let __x ← ltAt' (lo+__s.snd.fst - 1) (lo+__s.snd.fst)
    match __x with
    |some larger =>
     if larger=true then pure (ForInStep.done (none,__s.snd.fst,__s.snd.snd))
     else pure (ForInStep.yield (none,__s.snd.fst+1,__s.snd.snd+1))
    |_=>pure (ForInStep.done (some none,__s.snd.fst,__s.snd.snd))
  |_=>pure (ForInStep.done (some none,__s.snd.fst,__s.snd.snd))
def eG(lo n nrem:Nat):StateT SortSt Sem (Option Nat):=do
 liftM (rule "list.sort.descending-run")
 let __s ← wH lo (n+1) nrem
 match __s.fst with
 |some r=>pure r
 |none =>
  if __s.snd.snd>0 then do
   reverseSlice' (lo+__s.snd.fst-(__s.snd.snd+1)) (lo+__s.snd.fst)
   nT lo __s.snd.fst nrem
  else nT lo __s.snd.fst nrem
theorem m9(lo nrem:Nat):countRun' lo nrem=(do
  let __s ← ascL lo 1 nrem
  match __s.fst with
  |some r=>pure r
  |none =>
   if (__s.snd == nrem)=true then pure (some __s.snd)
   else if __s.snd>1 then do
    let __x ← ltAt' lo (lo+__s.snd - 1)
    match __x with
    |some UB=>if UB=true then pure (some __s.snd) else do
      reverseSlice' lo (lo+__s.snd)
      eG lo __s.snd nrem
    |_=>pure none
   else eG lo __s.snd nrem):=by
 rw[countRun'_eq]
 dsimp only
 unfold eG nT wH ascL
 congr 1
 funext __s
 obtain⟨r,n⟩:=__s
 cases r with
 |some r=>rfl
 |none =>
  dsimp only
  split
  ·rfl
  ·split
   ·congr 1
    funext x
    cases x with
    |none=>rfl
    |some UB =>
     dsimp only
     split
     ·rfl
     ·congr 1
      funext _r
      (congr 1;funext _u;congr 1;congr 1;funext s2;obtain⟨r2,n2,q2⟩:=s2;cases r2 with
       |some r2=>rfl
       |none=>(dsimp only;split;(congr 1;funext _v;(congr 1;funext _w;congr 1;(funext s3;obtain⟨r3,n3⟩:=s3;cases r3<;>rfl)));(congr 1;funext _w;congr 1;(funext s3;obtain⟨r3,n3⟩:=s3;cases r3<;>rfl))))
   ·(congr 1;funext _u;congr 1;congr 1;funext s2;obtain⟨r2,n2,q2⟩:=s2;cases r2 with
     |some r2=>rfl
     |none=>(dsimp only;split;(congr 1;funext _v;(congr 1;funext _w;congr 1;(funext s3;obtain⟨r3,n3⟩:=s3;cases r3<;>rfl)));(congr 1;funext _w;congr 1;(funext s3;obtain⟨r3,n3⟩:=s3;cases r3<;>rfl))))
section
variable {prog:Program}{w:World}{A:Around}{E:Value->Shared->Prop}{s:Shared}{κ:SortKind}{r:Value->Int}{P:Value->Prop}
theorem qi{st:SortSt}{lo a nrem:Nat}(C:kE prog w A s κ r P)(hk:kindOf st=κ)(hP:AllP P (arrOf st))(hn:lo+nrem<=(arrOf st).size)(ha:1<=a)(Z6:a<=nrem)
  (hs:Up r (arrOf st) lo (lo+a))
  (h:∀ n,a<=n->n<=nrem->Up r (arrOf st) lo (lo+n)->(n=nrem\/R r (arrOf st) (lo+n)<R r (arrOf st) (lo+n-1))->Q (none,n) st) :
  wpS (model prog w) A E s (ascL lo a nrem) Q st:=by
 unfold ascL
 refine wpS_forRange (I:=fun x c ae=>ae=st/\c=(none,x)/\Up r (arrOf st) lo (lo+x)) ?step ?fin ⟨rfl,rfl,hs⟩
 case fin =>
  rintro c ae ⟨rfl,rfl,gu⟩
  rw[show max a nrem=nrem by lia] at gu ⊢
  exact h nrem Z6 (bX _) gu (.inl rfl)
 case step =>
  rintro x c ae Qp Z7 ⟨rfl,rfl,gu⟩
  dsimp only
  refine wpS_bind (jF C hk hP (by lia) (by lia) ?_)
  by_cases ti:R r (arrOf ae) (lo+x)<R r (arrOf ae) (lo+x-1)
  ·simp only[ti,decide_true,if_true]
   exact wpS_pure (h x Qp (by lia) gu (.inr ti))
  ·simp only[ti,decide_false,gL,if_false]
   refine wpS_pure ⟨rfl,rfl,fun i j hl fA hj=>?_⟩
   by_cases Lc:j<lo+x
   ·exact gu i j hl fA Lc
   ·have qq:j=lo+x:=by lia
    subst qq
    by_cases iA:i=lo+x
    ·subst iA;exact ua _
    ·exact tT (gu i (lo+x-1) hl (by lia) (by lia)) (Int.not_lt.mp ti)
theorem kI{st:SortSt}{lo n nrem:Nat}(C:kE prog w A s κ r P)(hk:kindOf st=κ)(hP:AllP P (arrOf st))(hn:lo+nrem<=(arrOf st).size)(h1:1<=n)(AV:n<=nrem)
  (hs:Down r (arrOf st) lo (lo+n)) (h:∀ m ae,kf lo (lo+nrem) st ae->1<=m->m<=nrem->Up r (arrOf ae) lo (lo+m)->Q (some m) ae) :
  wpS (model prog w) A E s (nT lo n nrem) Q st:=by
 unfold nT
 have hsz:lo+n<=(arrOf st).size:=by lia
 refine wpS_bind (cR ?_)
 have gX:=eZ (i:=lo) hsz
 refine wpS_bind (qi C (gX.kind.trans hk) (hP.perm gX.perm) (by rw[gX.size];exact hn) h1 AV ?_ fun m w4 vi Qq _=>wpS_pure (h m _ (gX.mono (bX _) (by lia)) (by lia) vi Qq))
 intro i j hl fA hj
 show R r (mirror (arrOf st) lo (lo+n) ((lo+n-lo) / 2)) i<=R r (mirror (arrOf st) lo (lo+n) ((lo+n-lo) / 2)) j
 rw[mH hsz,mH hsz,if_pos (by lia),if_pos (by lia)]
 exact hs _ _ (by lia) (by lia) (by lia)
theorem tR{st:SortSt}{lo n nrem:Nat}(C:kE prog w A s κ r P)(hk:kindOf st=κ)(hP:AllP P (arrOf st))(hn:lo+nrem<=(arrOf st).size)(h1:1<=n)(AV:n<=nrem)
  (hs:Down r (arrOf st) lo (lo+n))
  (h:∀ m oQ ae,kf lo (lo+nrem) st ae->n<=m->m<=nrem->Down r (arrOf ae) lo (lo+m)->oQ+1<=m->(∀ i,lo+m-(oQ+1)<=i->i<lo+m->R r (arrOf ae) i=R r (arrOf ae) (lo+m-1))->Q (none,m,oQ) ae) :
  wpS (model prog w) A E s (wH lo n nrem) Q st:=by
 unfold wH
 refine wpS_forRange (I:=fun x c ae=>∃ oQ,c=(none,x,oQ)/\kf lo (lo+nrem) st ae/\Down r (arrOf ae) lo (lo+x)/\oQ+1<=x /\
   (∀ i,lo+x-(oQ+1)<=i->i<lo+x->R r (arrOf ae) i=R r (arrOf ae) (lo+x-1))) ?step ?fin ⟨0,rfl,.refl _ _ _,hs,by lia,fun i h1 h2=>by congr 1;lia⟩
 case fin =>
  rintro c ae ⟨oQ,rfl,gX,gu,hq,he⟩
  rw[show max n nrem=nrem by lia] at gu hq he ⊢
  exact h nrem oQ ae gX AV (bX _) gu hq he
 case step =>
  rintro x c ae Qp Z7 ⟨oQ,rfl,gX,gu,hq,he⟩
  dsimp only
  have hz:=gX.size
  have hsz:lo+x<=(arrOf ae).size:=by lia
  have iE:=gX.kind.trans hk
  have oP:=hP.perm gX.perm
  refine wpS_bind (jF C iE oP (by lia) (by lia) ?_)
  by_cases ti:R r (arrOf ae) (lo+x)<R r (arrOf ae) (lo+x-1)
  ·simp only[ti,decide_true,if_true]
   have UC:∀ xs:Array Keyed,(∀ k,R r xs k=R r (arrOf ae) k)->Down r xs lo (lo+(x+1)):=by
    intro xs UD i j hl fA hj
    rw[UD,UD]
    by_cases Lc:j<lo+x
    ·exact gu i j hl fA Lc
    ·have qq:j=lo+x:=by lia
     subst qq
     by_cases iA:i=lo+x
     ·subst iA;exact ua _
     ·exact tT (z5 ti) (gu i (lo+x-1) hl (by lia) (by lia))
   by_cases Ld:oQ>0
   ·rw[if_pos Ld]
    refine wpS_bind (cR (wpS_pure ⟨0,rfl,gX.trans ((eZ hsz).mono (by lia) (by lia)),UC _ (bC hsz he),by lia,fun i h1 h2=>by congr 1;lia⟩))
   ·rw[if_neg Ld]
    exact wpS_pure ⟨0,rfl,gX,UC _ (fun _=>rfl),by lia,fun i h1 h2=>by congr 1;lia⟩
  ·simp only[ti,decide_false,gL,if_false]
   refine wpS_bind (jF C iE oP (by lia) (by lia) ?_)
   by_cases UE:R r (arrOf ae) (lo+x-1)<R r (arrOf ae) (lo+x)
   ·simp only[UE,decide_true,if_true]
    exact wpS_pure (h x oQ ae gX Qp (by lia) gu hq he)
   ·simp only[UE,decide_false,gL,if_false]
    have UG:R r (arrOf ae) (lo+x)=R r (arrOf ae) (lo+x-1):=by lia
    refine wpS_pure ⟨oQ+1,rfl,gX,fun i j hl fA hj=>?_,by lia,fun i h1 h2=>?_⟩
    ·by_cases Lc:j<lo+x
     ·exact gu i j hl fA Lc
     ·have qq:j=lo+x:=by lia
      subst qq
      by_cases iA:i=lo+x
      ·subst iA;exact ua _
      ·rw[UG];exact gu i (lo+x-1) hl (by lia) (by lia)
    ·rw[show lo+(x+1)-1=lo+x by lia]
     by_cases vj:i=lo+x
     ·subst vj;rfl
     ·rw[UG];exact he i (by lia) (by lia)
theorem fZ{st:SortSt}{lo n nrem:Nat}(C:kE prog w A s κ r P)(hk:kindOf st=κ)(hP:AllP P (arrOf st))(hn:lo+nrem<=(arrOf st).size)(AV:n+1<=nrem)
  (hs:Down r (arrOf st) lo (lo+(n+1))) (h:∀ m ae,kf lo (lo+nrem) st ae->1<=m->m<=nrem->Up r (arrOf ae) lo (lo+m)->Q (some m) ae) :
  wpS (model prog w) A E s (eG lo n nrem) Q st:=by
 unfold eG
 refine wpS_bind (wpS_lift (wpAny_rule ⟨rfl,?_⟩))
 refine wpS_bind (tR C hk hP hn (by lia) AV hs fun m oQ ae gX w4 vi gu hq he=>?_)
 dsimp only
 have hz:=gX.size
 have hsz:lo+m<=(arrOf ae).size:=by lia
 have iE:=gX.kind.trans hk
 have oP:=hP.perm gX.perm
 by_cases Ld:oQ>0
 ·rw[if_pos Ld]
  have hW:=eZ (i:=lo+m-(oQ+1)) hsz
  refine wpS_bind (cR (kI C (hW.kind.trans iE) (oP.perm hW.perm) (by rw[hW.size,hz];exact hn) (by lia) vi ?_ fun m2 uj Lf=>h m2 uj ((gX.trans (hW.mono (by lia) (by lia))).trans Lf)))
  intro i j hl fA hj
  show R r (mirror (arrOf ae) _ _ _) j<=R r (mirror (arrOf ae) _ _ _) i
  rw[bC hsz he,bC hsz he]
  exact gu i j hl fA hj
 ·rw[if_neg Ld]
  exact kI C iE oP (by rw[hz];exact hn) (by lia) vi gu fun m2 uj Lf=>h m2 uj (gX.trans Lf)
theorem wpS_countRun{st:SortSt}{lo nrem:Nat}(C:kE prog w A s κ r P)(hk:kindOf st=κ)(hP:AllP P (arrOf st))(hn:lo+nrem<=(arrOf st).size)(h1:1<=nrem)
  (h:∀ m ae,kf lo (lo+nrem) st ae->1<=m->m<=nrem->Up r (arrOf ae) lo (lo+m)->Q (some m) ae) :
  wpS (model prog w) A E s (countRun' lo nrem) Q st:=by
 rw[m9]
 refine wpS_bind (qi C hk hP hn (bX 1) h1 (fun i j hl fA hj=>by
  have:i=j:=by lia
  subst this;exact ua _) fun n UH GA oj Z8=>?_)
 dsimp only
 by_cases AV:n=nrem
 ·rw[if_pos (by simpa using AV)]
  exact wpS_pure (h n st (.refl _ _ _) UH GA oj)
 ·rw[if_neg (by simpa using AV)]
  have cS:R r (arrOf st) (lo+n)<R r (arrOf st) (lo+n-1):=Z8.resolve_left AV
  by_cases UI:n>1
  ·rw[if_pos UI]
   refine wpS_bind (jF C hk hP (by lia) (by lia) ?_)
   by_cases UJ:R r (arrOf st) lo<R r (arrOf st) (lo+n-1)
   ·simp only[UJ,decide_true,if_true]
    exact wpS_pure (h n st (.refl _ _ _) UH GA oj)
   ·simp only[UJ,decide_false,gL,if_false]
    have hsz:lo+n<=(arrOf st).size:=by lia
    have n9:∀ k,lo<=k->k<lo+n->R r (arrOf st) k=R r (arrOf st) (lo+n-1):=by
     intro k hl hk
     have a1:=oj lo k (by lia) hl hk
     have a2:=oj k (lo+n-1) hl (by lia) (by lia)
     lia
    have hW:=eZ (i:=lo) hsz
    refine wpS_bind (cR (fZ C (hW.kind.trans hk) (hP.perm hW.perm) (by rw[hW.size];exact hn) (by lia) ?_ fun m2 uj Lf=>h m2 uj ((hW.mono (bX _) (by lia)).trans Lf)))
    intro i j hl fA hj
    show R r (mirror (arrOf st) _ _ _) j<=R r (mirror (arrOf st) _ _ _) i
    rw[bC hsz n9,bC hsz n9]
    by_cases Z9:j<lo+n
    ·rw[n9 i hl (by lia),n9 j (by lia) Z9];exact ua _
    ·have qq:j=lo+n:=by lia
     subst qq
     by_cases iA:i=lo+n
     ·subst iA;exact ua _
     ·rw[n9 i hl (by lia)];exact z5 cS
  ·rw[if_neg UI]
   have Z_:n=1:=by lia
   subst Z_
   refine fZ C hk hP hn (by lia) ?_ h
   intro i j hl fA hj
   by_cases iA:i=j
   ·subst iA;exact ua _
   ·have tf:i=lo:=by lia
    have w_:j=lo+1:=by lia
    subst tf;subst w_
    exact z5 cS
end
def u_(left:Bool)(key:Keyed)(arr:Array Keyed)(base i:Nat):StateT SortSt Sem (Option Bool):=do
 let x ← elem' arr (base+i)
 if left then lt' x key else return (<- lt' key x).map (!·)
def jE:Bool->Keyed->Array Keyed->Nat->Nat->Nat->StateT SortSt Sem (Option Nat):=sortPriv% PySem.Builtin.gallop
section
variable {prog:Program}{w:World}{A:Around}{E:Value->Shared->Prop}{s:Shared}{κ:SortKind}{r:Value->Int}{P:Value->Prop}
def eB(r:Value->Int)(left:Bool)(key:Keyed)(arr:Array Keyed)(base i:Nat):Bool :=
 if left then decide (R r arr (base+i)<r key.1) else !decide (r key.1<R r arr (base+i))
theorem du{st:SortSt}(C:kE prog w A s κ r P)(hk:kindOf st=κ)(hP:AllP P arr)(hy:P key.1)(hi:base+i<arr.size)
  (h:Q (some (eB r left key arr base i)) st):wpS (model prog w) A E s (u_ left key arr base i) Q st:=by
 unfold u_
 refine wpS_bind (aF hi fun p ep=>?_)
 have e1:R r arr (base+i)=r p.1:=by unfold R;rw[ep]
 unfold eB at h
 rw[e1] at h
 cases left with
 |true =>
  simp only[if_true] at h ⊢
  exact oM C hk (hP.at ep) hy h
 |false =>
  simp only[gL,if_false] at h ⊢
  exact wpS_bind (oM C hk hy (hP.at ep) (wpS_pure h))
theorem yF(hu:Up r arr base (base+n))(fA:i<=j)(hj:j<n)(h:eB r left key arr base j=true):eB r left key arr base i=true:=by
 have q:=hu (base+i) (base+j) (by lia) (by lia) (by lia)
 unfold eB at h ⊢
 cases left with
 |true=>simp only[if_true,decide_eq_true_eq] at h ⊢;lia
 |false=>simp only[gL,if_false,O4,decide_eq_false_iff_not] at h ⊢;lia
theorem cF{st:SortSt}{base n hint:Nat}(C:kE prog w A s κ r P)(hk:kindOf st=κ)(hP:AllP P arr)(hy:P key.1)(hn:base+n<=arr.size)(hh:hint<n)
  (hu:Up r arr base (base+n))
  (h:∀ k,k<=n->(∀ i,i<k->eB r left key arr base i=true)->(∀ i,k<=i->i<n->eB r left key arr base i=false)->Q (some k) st):wpS (model prog w) A E s (jE left key arr base n hint) Q st:=by
 have mono:∀ {i j},i<=j->j<n->eB r left key arr base j=true->eB r left key arr base i=true:=fun a b c=>yF hu a b c
 have NJ:∀ {i j},i<=j->j<n->eB r left key arr base i=false->eB r left key arr base j=false:=fun {i j} a b c=>by
  cases q:eB r left key arr base j with
  |false=>rfl
  |true=>rw[mono a b q] at c;cases c
 refine wpS_bind (du C hk hP hy (by lia) ?_)
 dsimp only
 cases q0:eB r left key arr base hint with
 |true =>
  simp only[if_true]
  refine wpS_bind (wpS_mono (wpS_forRange (I:=fun x c ae=>ae=st/\∃ lst dS,c=(none,lst,dS)/\lst<dS/\lst<n-hint/\x+1<=dS/\eB r left key arr base (hint+lst)=true)
   (Q:=fun c ae=>ae=st/\∃ lst dS,c=(none,lst,dS)/\lst<dS/\lst<n-hint/\eB r left key arr base (hint+lst)=true/\(n-hint<=dS\/eB r left key arr base (hint+dS)=false)) ?step ?fin ?init) ?post)
  case init=>exact⟨rfl,0,1,rfl,by lia,by lia,by lia,q0⟩
  case fin =>
   rintro c ae ⟨rfl,lst,dS,rfl,h1,h2,h3,h4⟩
   exact⟨rfl,lst,dS,rfl,h1,h2,h4,.inl (by lia)⟩
  case step =>
   rintro x c ae _ hx ⟨rfl,lst,dS,rfl,h1,h2,h3,h4⟩
   dsimp only
   by_cases oi:dS >= n-hint
   ·rw[if_pos oi]
    exact wpS_pure ⟨rfl,lst,dS,rfl,h1,h2,h4,.inl oi⟩
   ·rw[if_neg oi]
    refine wpS_bind (du C hk hP hy (by lia) ?_)
    cases q:eB r left key arr base (hint+dS) with
    |true =>
     simp only[MK,gL,if_false]
     exact wpS_pure ⟨rfl,_,_,rfl,by lia,by lia,by lia,q⟩
    |false =>
     simp only[Bool.not_false,if_true]
     exact wpS_pure ⟨rfl,lst,dS,rfl,h1,h2,h4,.inr q⟩
  case post =>
   rintro c ae ⟨rfl,lst,dS,rfl,h1,h2,h4,h5⟩
   dsimp only
   generalize ae=st at *
   have hl:∀ i,i<hint+lst+1->eB r left key arr base i=true:=fun i hi=>mono (j:=hint+lst) (by lia) (by lia) h4
   have y3:∀ i,hint+min dS (n-hint)<=i->i<n->eB r left key arr base i=false:=fun i hi aT=>by
    rcases h5 with h5|h5
    ·lia
    ·by_cases z:n-hint<=dS
     ·lia
     ·exact NJ (i:=hint+dS) (by lia) aT h5
   have Qr:hint+lst+1<=hint+min dS (n-hint):=by lia
   have Qs:hint+min dS (n-hint)<=n:=by lia
   generalize hint+lst+1=lo at *
   generalize hint+min dS (n-hint)=hi at *
   refine wpS_bind (wpS_mono (wpS_forRange (I:=fun x c ae=>ae=st/\∃ l u,c=(none,l,u)/\l<=u/\u<=n/\u-l<=n-x/\(∀ i,i<l->eB r left key arr base i=true)/\(∀ i,u<=i->i<n->eB r left key arr base i=false))
    (Q:=fun c ae=>ae=st/\∃ l,c=(none,l,l)/\l<=n/\(∀ i,i<l->eB r left key arr base i=true)/\(∀ i,l<=i->i<n->eB r left key arr base i=false)) ?aa' ?ab' ?ac') ?postA)
   case ac'=>exact⟨rfl,lo,hi,rfl,Qr,Qs,by lia,hl,y3⟩
   case ab' =>
    rintro c ae ⟨rfl,l,u,rfl,h1,h2,h3,h4,h5⟩
    have:l=u:=by lia
    subst this
    exact⟨rfl,l,rfl,h2,h4,h5⟩
   case aa' =>
    rintro x c ae _ hx ⟨rfl,l,u,rfl,h1,h2,h3,h4,h5⟩
    dsimp only
    by_cases oi:l >= u
    ·rw[if_pos oi]
     have:l=u:=by lia
     subst this
     exact wpS_pure ⟨rfl,l,rfl,h2,h4,h5⟩
    ·rw[if_neg oi]
     refine wpS_bind (du C hk hP hy (by lia) ?_)
     cases q:eB r left key arr base (l+(u-l) / 2) with
     |true =>
      simp only[if_true]
      exact wpS_pure ⟨rfl,_,_,rfl,by lia,by lia,by lia,fun i hi=>mono (j:=l+(u-l) / 2) (by lia) (by lia) q,h5⟩
     |false =>
      simp only[gL,if_false]
      exact wpS_pure ⟨rfl,_,_,rfl,by lia,by lia,by lia,h4,fun i hi aT=>NJ (i:=l+(u-l) / 2) (by lia) aT q⟩
   case postA =>
    rintro c ae ⟨rfl,l,rfl,h2,h4,h5⟩
    exact wpS_pure (h l h2 h4 h5)
 |false =>
  simp only[gL,if_false]
  refine wpS_bind (wpS_mono (wpS_forRange (I:=fun x c ae=>ae=st/\∃ lst dS,c=(none,lst,dS)/\lst<dS/\lst<hint+1/\x+1<=dS/\eB r left key arr base (hint-lst)=false)
   (Q:=fun c ae=>ae=st/\∃ lst dS,c=(none,lst,dS)/\lst<dS/\lst<hint+1/\eB r left key arr base (hint-lst)=false/\(hint+1<=dS\/eB r left key arr base (hint-dS)=true)) ?ad' ?fin2 ?ae') ?af')
  case ae'=>exact⟨rfl,0,1,rfl,by lia,by lia,by lia,q0⟩
  case fin2 =>
   rintro c ae ⟨rfl,lst,dS,rfl,h1,h2,h3,h4⟩
   exact⟨rfl,lst,dS,rfl,h1,h2,h4,.inl (by lia)⟩
  case ad' =>
   rintro x c ae _ hx ⟨rfl,lst,dS,rfl,h1,h2,h3,h4⟩
   dsimp only
   by_cases oi:dS >= hint+1
   ·rw[if_pos oi]
    exact wpS_pure ⟨rfl,lst,dS,rfl,h1,h2,h4,.inl oi⟩
   ·rw[if_neg oi]
    refine wpS_bind (du C hk hP hy (by lia) ?_)
    cases q:eB r left key arr base (hint-dS) with
    |true =>
     simp only[if_true]
     exact wpS_pure ⟨rfl,lst,dS,rfl,h1,h2,h4,.inr q⟩
    |false =>
     simp only[gL,if_false]
     exact wpS_pure ⟨rfl,_,_,rfl,by lia,by lia,by lia,q⟩
  case af' =>
   rintro c ae ⟨rfl,lst,dS,rfl,h1,h2,h4,h5⟩
   dsimp only
   generalize ae=st at *
   have hl:∀ i,i<hint+1-min dS (hint+1)->eB r left key arr base i=true:=fun i hi=>by
    rcases h5 with h5|h5
    ·lia
    ·by_cases z:hint+1<=dS
     ·lia
     ·exact mono (j:=hint-dS) (by lia) (by lia) h5
   have y3:∀ i,hint-lst<=i->i<n->eB r left key arr base i=false:=fun i hi aT=>NJ (i:=hint-lst) (by lia) aT h4
   have Qr:hint+1-min dS (hint+1)<=hint-lst:=by lia
   have Qs:hint-lst<=n:=by lia
   generalize hint+1-min dS (hint+1)=lo at *
   generalize hint-lst=hi at *
   refine wpS_bind (wpS_mono (wpS_forRange (I:=fun x c ae=>ae=st/\∃ l u,c=(none,l,u)/\l<=u/\u<=n/\u-l<=n-x/\(∀ i,i<l->eB r left key arr base i=true)/\(∀ i,u<=i->i<n->eB r left key arr base i=false))
    (Q:=fun c ae=>ae=st/\∃ l,c=(none,l,l)/\l<=n/\(∀ i,i<l->eB r left key arr base i=true)/\(∀ i,l<=i->i<n->eB r left key arr base i=false)) ?ag' ?ah' ?ai') ?aj')
   case ai'=>exact⟨rfl,lo,hi,rfl,Qr,Qs,by lia,hl,y3⟩
   case ah' =>
    rintro c ae ⟨rfl,l,u,rfl,h1,h2,h3,h4,h5⟩
    have:l=u:=by lia
    subst this
    exact⟨rfl,l,rfl,h2,h4,h5⟩
   case ag' =>
    rintro x c ae _ hx ⟨rfl,l,u,rfl,h1,h2,h3,h4,h5⟩
    dsimp only
    by_cases oi:l >= u
    ·rw[if_pos oi]
     have:l=u:=by lia
     subst this
     exact wpS_pure ⟨rfl,l,rfl,h2,h4,h5⟩
    ·rw[if_neg oi]
     refine wpS_bind (du C hk hP hy (by lia) ?_)
     cases q:eB r left key arr base (l+(u-l) / 2) with
     |true =>
      simp only[if_true]
      exact wpS_pure ⟨rfl,_,_,rfl,by lia,by lia,by lia,fun i hi=>mono (j:=l+(u-l) / 2) (by lia) (by lia) q,h5⟩
     |false =>
      simp only[gL,if_false]
      exact wpS_pure ⟨rfl,_,_,rfl,by lia,by lia,by lia,h4,fun i hi aT=>NJ (i:=l+(u-l) / 2) (by lia) aT q⟩
   case aj' =>
    rintro c ae ⟨rfl,l,rfl,h2,h4,h5⟩
    exact wpS_pure (h l h2 h4 h5)
end
abbrev Le(r:Value->Int)(x y:Keyed):Prop:=r x.1<=r y.1
theorem mw(e:xs[i]? = some p):R r xs i=r p.1:=by unfold R;rw[e]
theorem CJ(h:i<xs.size):R r xs i=r xs[i].1:=mw (getElem?_pos xs i h)
structure MI(r:Value->Int)(a b out:Array Keyed)(ia ib:Nat):Prop where
 ha:ia<=a.size
 hb:ib<=b.size
 perm:out.toList.Perm (a.toList.take ia++b.toList.take ib)
 up:out.toList.Pairwise (Le r)
 la:∀ x∈out.toList,∀ i,ia<=i->i<a.size->r x.1<=R r a i
 lb:∀ x∈out.toList,∀ j,ib<=j->j<b.size->r x.1<=R r b j
section
variable {r:Value->Int}{a b out:Array Keyed}{ia ib:Nat}
theorem kW{α:Type}{l:List α}{i:Nat}{x:α}(h:l[i]? = some x):l.take (i+1)=l.take i++[x]:=by
 rw[E8,h];rfl
theorem MI.nj(M:MI r a b out ia ib)(hA:Up r a 0 a.size)(hB:Up r b 0 b.size){y:Keyed}(e:b[ib]? = some y)(hl:ia<a.size->R r b ib<=R r a ia):MI r a b (out.push y) ia (ib+1):=by
 have UK:ib<b.size:=(FD.mp e).1
 have ey:=mw (r:=r) e
 refine⟨M.ha,UK,?_,?_,?_,?_⟩
 ·rw[mP,kW (x:=y) (by simpa using e),<- vF]
  exact M.perm.append_right _
 ·rw[mP,IL]
  refine⟨M.up,by simp,fun x hx z hz=>?_⟩
  have:z=y:=by simpa using hz
  subst this
  show r x.1<=r z.1
  rw[<- ey]
  exact M.lb x hx ib (bX _) UK
 ·intro x hx i hi GL
  rw[mP] at hx
  rcases dP.mp hx with hx|hx
  ·exact M.la x hx i hi GL
  ·have:x=y:=by simpa using hx
   subst this
   rw[<- ey]
   exact tT (hl (by walk_at "s1")) (hA ia i (dQ _) hi GL)
 ·intro x hx j hj Lh
  rw[mP] at hx
  rcases dP.mp hx with hx|hx
  ·exact M.lb x hx j (by exact kc ‹_›) Lh
  ·have:x=y:=by simpa using hx
   subst this
   rw[<- ey]
   exact hB ib j (dQ _) (by exact kc ‹_›) Lh
theorem MI.nY(M:MI r a b out ia ib)(hA:Up r a 0 a.size)(hB:Up r b 0 b.size){y:Keyed}(e:a[ia]? = some y)(hl:ib<b.size->R r a ia<=R r b ib):MI r a b (out.push y) (ia+1) ib:=by
 have GL:ia<a.size:=(FD.mp e).1
 have ey:=mw (r:=r) e
 refine⟨GL,M.hb,?_,?_,?_,?_⟩
 ·rw[mP,kW (x:=y) (by simpa using e),vF]
  refine(M.perm.append_right [y]).trans ?_
  rw[vF]
  exact List.Perm.append_left _ OJ
 ·rw[mP,IL]
  refine⟨M.up,by simp,fun x hx z hz=>?_⟩
  have:z=y:=by simpa using hz
  subst this
  show r x.1<=r z.1
  rw[<- ey]
  exact M.la x hx ia (bX _) GL
 ·intro x hx i hi gV
  rw[mP] at hx
  rcases dP.mp hx with hx|hx
  ·exact M.la x hx i (by exact kc ‹_›) gV
  ·have:x=y:=by simpa using hx
   subst this
   rw[<- ey]
   exact hA ia i (dQ _) (by exact kc ‹_›) gV
 ·intro x hx j hj Lh
  rw[mP] at hx
  rcases dP.mp hx with hx|hx
  ·exact M.lb x hx j hj Lh
  ·have:x=y:=by simpa using hx
   subst this
   rw[<- ey]
   exact tT (hl (by walk_at "s1")) (hB ib j (dQ _) hj Lh)
theorem eN{xs:Array Keyed}{i k:Nat}(h:i+k<xs.size):xs.extract i (i+(k+1))=(xs.extract i (i+k)).push xs[i+k]:=by
 apply MR.mp
 rw[mP]
 simp only[O6,Oz]
 rw[show i+(k+1)-i=k+1 by exact Nat.add_sub_cancel_left ..,show i+k-i=k by exact Nat.add_sub_cancel_left ..,E8]
 congr 1
 rw[List.getElem?_drop]
 simp[h]
theorem MI.AW(hA:Up r a 0 a.size)(hB:Up r b 0 b.size):∀ (k:Nat) {out:Array Keyed} {ia:Nat},MI r a b out ia ib->ia+k<=a.size->(ib<b.size->∀ i,i<k->R r a (ia+i)<=R r b ib)->MI r a b (out++a.extract ia (ia+k)) (ia+k) ib
 |0,out,ia,M,h1,h2=>by
  have:a.extract ia (ia+0) = #[]:=MN (by simp only[DM];lia)
  rw[this]
  simpa using M
 |k+1,out,ia,M,h1,h2=>by
  have q:=MI.AW hA hB k M (by exact kc ‹_›) fun hb i hi=>h2 hb i (by exact sM ‹_›)
  have e:a[ia+k]? = some a[ia+k]:=getElem?_pos a (ia+k) (by assumption)
  have z:=q.nY hA hB e fun hb=>h2 hb k (by exact bX _)
  rw[eN (by assumption),Array.append_push]
  exact z
theorem MI.AX(hA:Up r a 0 a.size)(hB:Up r b 0 b.size):∀ (k:Nat) {out:Array Keyed} {ib:Nat},MI r a b out ia ib->ib+k<=b.size->(ia<a.size->∀ i,i<k->R r b (ib+i)<=R r a ia)->MI r a b (out++b.extract ib (ib+k)) ia (ib+k)
 |0,out,ib,M,h1,h2=>by
  have:b.extract ib (ib+0) = #[]:=MN (by simp only[DM];lia)
  rw[this]
  simpa using M
 |k+1,out,ib,M,h1,h2=>by
  have q:=MI.AX hA hB k M (by exact kc ‹_›) fun ha i hi=>h2 ha i (by exact sM ‹_›)
  have e:b[ib+k]? = some b[ib+k]:=getElem?_pos b (ib+k) (by assumption)
  have z:=q.nj hA hB e fun ha=>h2 ha k (by exact bX _)
  rw[eN (by assumption),Array.append_push]
  exact z
def bU(r:Value->Int)(a b out:Array Keyed):Prop:=out.toList.Perm (a.toList++b.toList)/\out.toList.Pairwise (Le r)
theorem MI.whole(M:MI r a b out a.size b.size):bU r a b out:=by
 refine⟨?_,M.up⟩
 have h:=M.perm
 rw[Ms (by simp),Ms (by simp)] at h
 exact h
theorem MI.Gd(M:MI r a b out ia b.size)(hA:Up r a 0 a.size)(hB:Up r b 0 b.size):bU r a b (out++a.extract ia a.size++b.extract b.size b.size):=by
 have e:b.extract b.size b.size = #[]:=by simp
 rw[e,O7]
 have ha:=M.ha
 have q:=MI.AW hA hB (a.size-ia) M (by lia) fun hb=>absurd hb (rj _)
 rw[show ia+(a.size-ia)=a.size by exact I0 ‹_›] at q
 exact q.whole
theorem MI.Gs(M:MI r a b out a.size ib)(hA:Up r a 0 a.size)(hB:Up r b 0 b.size):bU r a b (out++a.extract a.size a.size++b.extract ib b.size):=by
 have e:a.extract a.size a.size = #[]:=by simp
 rw[e,O7]
 have hb:=M.hb
 have q:=MI.AX hA hB (b.size-ib) M (by lia) fun ha=>absurd ha (rj _)
 rw[show ib+(b.size-ib)=b.size by exact I0 ‹_›] at q
 exact q.whole
theorem MI.GN(M:MI r a b out ia ib)(hA:Up r a 0 a.size)(hB:Up r b 0 b.size)(e:ib=b.size):bU r a b (out++a.extract ia a.size++b.extract ib b.size):=by subst e;exact M.Gd hA hB
theorem MI.GO(M:MI r a b out ia ib)(hA:Up r a 0 a.size)(hB:Up r b 0 b.size)(e:ia=a.size):bU r a b (out++a.extract ia a.size++b.extract ib b.size):=by subst e;exact M.Gs hA hB
theorem MI.F_(M:MI r a b out ia ib)(hA:Up r a 0 a.size)(hB:Up r b 0 b.size)(GL:ia+1=a.size)(hg:∀ j,j<b.size->R r b j<=R r a ia):bU r a b (out++b.extract ib b.size++a.extract ia a.size):=by
 have hb:=M.hb
 have q:=MI.AX hA hB (b.size-ib) M (by lia) fun ha i hi=>hg _ (by lia)
 rw[show ib+(b.size-ib)=b.size by exact I0 ‹_›] at q
 have z:=MI.AW hA hB (a.size-ia) q (by lia) fun hb=>absurd hb (rj _)
 rw[show ia+(a.size-ia)=a.size by lia] at z
 exact z.whole
theorem MI.start(hA:Up r a 0 a.size)(hB:Up r b 0 b.size):MI r a b #[] 0 0:=⟨dQ _,dQ _,by simp,by simp,fun x hx=>by simp at hx,fun x hx=>by simp at hx⟩
end
def bz:Nat->StateT SortSt Sem Unit:=sortPriv% PySem.Builtin.setMinGallop
def ql:Array Keyed->Array Keyed->StateT SortSt Sem (Array Keyed):=sortPriv% PySem.Builtin.mergeLo
def qM:Array Keyed->Array Keyed->StateT SortSt Sem (Array Keyed):=sortPriv% PySem.Builtin.mergeHi
theorem ir(g:Nat):bz g=modify fun s=>SortSt.mk' (kindOf s) (arrOf s) (pendingOf s) g (failedOf s):=rfl
def Mg(st ae:SortSt):Prop:=∃ g,ae=SortSt.mk' (kindOf st) (arrOf st) (pendingOf st) g (failedOf st)
theorem Mg.refl(st:SortSt):Mg st st:=⟨gallopOf st,rfl⟩
theorem Mg.kind{st ae:SortSt}(h:Mg st ae):kindOf ae=kindOf st:=by obtain⟨g,rfl⟩:=h;rfl
theorem Mg.set{st ae:SortSt}(h:Mg st ae)(g:Nat):Mg st (SortSt.mk' (kindOf ae) (arrOf ae) (pendingOf ae) g (failedOf ae)):=by obtain⟨g',rfl⟩:=h;exact⟨g,rfl⟩
section
variable {prog:Program}{w:World}{A:Around}{E:Value->Shared->Prop}{s:Shared}{r:Value->Int}
theorem fY{st:SortSt}(h:Q () (SortSt.mk' (kindOf st) (arrOf st) (pendingOf st) g (failedOf st))):wpS (model prog w) A E s (bz g) Q st:=by
 rw[ir];exact wpS_modify h
theorem yt(h:eB r false key arr base i=true):R r arr (base+i)<=r key.1:=by
 unfold eB at h;simp only[gL,if_false,O4,decide_eq_false_iff_not] at h;lia
theorem ug(h:eB r false key arr base i=false):r key.1<R r arr (base+i):=by
 unfold eB at h;simp only[gL,if_false,Bool.not_eq_false',decide_eq_true_eq] at h;exact h
theorem Bf(h:eB r true key arr base i=true):R r arr (base+i)<r key.1:=by
 unfold eB at h;simp only[if_true,decide_eq_true_eq] at h;exact h
theorem qW(h:eB r true key arr base i=false):r key.1<=R r arr (base+i):=by
 unfold eB at h;simp only[if_true,decide_eq_false_iff_not] at h;lia
end
theorem Mg.trans(h:Mg a b)(g:Mg b c):Mg a c:=by obtain⟨x,rfl⟩:=h;obtain⟨y,rfl⟩:=g;exact⟨y,rfl⟩
theorem Bl{K G:Prop}(pk:K)(h:K->G):G:=h pk
abbrev SM:=StateT SortSt Sem
abbrev L1:=Option (Array Keyed) × Array Keyed × Nat × Nat × Nat
abbrev D8:=Option (Array Keyed) × Array Keyed × Nat × Nat × Nat × Nat
abbrev L3:=Option (Array Keyed) × Array Keyed × Nat × Nat × Nat × Nat × Nat
def Cb(a b out:Array Keyed)(ia ib:Nat):Array Keyed:=out++a.extract ia a.size++b.extract ib b.size
def Li(a b out:Array Keyed)(ia ib:Nat):Array Keyed:=out++b.extract ib b.size++a.extract ia a.size
def Qt(a b:Array Keyed)(mg ac bc ia ib:Nat)(out:Array Keyed):SM (ForInStep L3):=elem' a ia >>= fun p =>
 if (ia+1+1 == a.size)=true then pure (.done (some (Li a b (out.push p) (ia+1) ib),out.push p,ia+1,ib,mg,ac,bc))
 else if (decide (ac<7) && decide (bc<7))=true then pure (.done (none,out.push p,ia+1,ib,mg,ac,bc)) else pure (.yield (none,out.push p,ia+1,ib,mg,ac,bc))
def D9(a b:Array Keyed)(mg ac bc ia ib:Nat)(out:Array Keyed):SM (ForInStep L3):=elem' a ia >>= fun p=>jE true p b ib (b.size-ib) 0 >>= fun x=>match x with
 |some k=>if k>0 then
   if (ib+k == b.size)=true then pure (.done (some (Cb a b (out++b.extract ib (ib+k)) ia (ib+k)),out++b.extract ib (ib+k),ia,ib+k,mg,ac,k))
   else Qt a b mg ac k ia (ib+k) (out++b.extract ib (ib+k))
  else Qt a b mg ac k ia ib out
 |_=>pure (.done (some (Cb a b out ia ib),out,ia,ib,mg,ac,bc))
def lo1(a b:Array Keyed)(mg ac bc ia ib:Nat)(out:Array Keyed):SM (ForInStep L3):=elem' b ib >>= fun p =>
 if (ib+1 == b.size)=true then pure (.done (some (Cb a b (out.push p) ia (ib+1)),out.push p,ia,ib+1,mg,ac,bc)) else D9 a b mg ac bc ia (ib+1) (out.push p)
def Qu(a b:Array Keyed)(mg ac bc ia ib:Nat)(out:Array Keyed):SM (ForInStep L3):=bz mg >>= fun _=>elem' b ib >>= fun p=>jE false p a ia (a.size-ia) 0 >>= fun x=>match x with
 |some k=>if k>0 then
   if (ia+k+1 == a.size)=true then pure (.done (some (Li a b (out++a.extract ia (ia+k)) (ia+k) ib),out++a.extract ia (ia+k),ia+k,ib,mg,k,bc))
   else if (ia+k == a.size)=true then pure (.done (some (Cb a b (out++a.extract ia (ia+k)) (ia+k) ib),out++a.extract ia (ia+k),ia+k,ib,mg,k,bc))
   else lo1 a b mg k bc (ia+k) ib (out++a.extract ia (ia+k))
  else lo1 a b mg k bc ia ib out
 |_=>pure (.done (some (Cb a b out ia ib),out,ia,ib,mg,ac,bc))
def UL(a b:Array Keyed)(_:Nat)(s:L3):SM (ForInStep L3) :=
 if s.2.2.2.2.1>1 then Qu a b (s.2.2.2.2.1-1) s.2.2.2.2.2.1 s.2.2.2.2.2.2 s.2.2.1 s.2.2.2.1 s.2.1 else Qu a b s.2.2.2.2.1 s.2.2.2.2.2.1 s.2.2.2.2.2.2 s.2.2.1 s.2.2.2.1 s.2.1
def UM(a b:Array Keyed)(mg bc ia ib:Nat)(out:Array Keyed):SM (ForInStep D8):=elem' b ib >>= fun p =>
 if (ib+1 == b.size)=true then pure (.done (some (Cb a b (out.push p) ia (ib+1)),out.push p,ia,ib+1,0,bc+1))
 else if bc+1 >= mg then pure (.done (none,out.push p,ia,ib+1,0,bc+1)) else pure (.yield (none,out.push p,ia,ib+1,0,bc+1))
def UN(a b:Array Keyed)(mg ac ia ib:Nat)(out:Array Keyed):SM (ForInStep D8):=elem' a ia >>= fun p =>
 if (ia+1+1 == a.size)=true then pure (.done (some (Li a b (out.push p) (ia+1) ib),out.push p,ia+1,ib,ac+1,0))
 else if ac+1 >= mg then pure (.done (none,out.push p,ia+1,ib,ac+1,0)) else pure (.yield (none,out.push p,ia+1,ib,ac+1,0))
def UO(a b:Array Keyed)(mg:Nat)(_:Nat)(s:D8):SM (ForInStep D8):=elem' b s.2.2.2.1 >>= fun pb=>elem' a s.2.2.1 >>= fun pa=>lt' pb pa >>= fun x=>match x with
 |some w=>if w=true then UM a b mg s.2.2.2.2.2 s.2.2.1 s.2.2.2.1 s.2.1 else UN a b mg s.2.2.2.2.1 s.2.2.1 s.2.2.2.1 s.2.1
 |_=>pure (.done (some (Cb a b s.2.1 s.2.2.1 s.2.2.2.1),s.2.1,s.2.2.1,s.2.2.2.1,s.2.2.2.2.1,s.2.2.2.2.2))
def UQ (a b:Array Keyed) (mg:Nat) (t:D8):SM (ForInStep L1):=(liftM (rule "list.sort.gallop"):SM Unit) >>= fun _ =>
 forIn [:a.size+b.size] ((none,t.2.1,t.2.2.1,t.2.2.2.1,mg+1,t.2.2.2.2.1,t.2.2.2.2.2):L3) (UL a b) >>= fun u=>match u.1 with
 |some r=>pure (.done (some r,u.2.1,u.2.2.1,u.2.2.2.1,u.2.2.2.2.1))
 |none=>bz (u.2.2.2.2.1+1) >>= fun _=>pure (.yield (none,u.2.1,u.2.2.1,u.2.2.2.1,u.2.2.2.2.1+1))
def UR(a b:Array Keyed)(_:Nat)(s:L1):SM (ForInStep L1):=forIn [:a.size+b.size] ((none,s.2.1,s.2.2.1,s.2.2.2.1,0,0):D8) (UO a b s.2.2.2.2) >>= fun t=>match t.1 with
 |some r=>pure (.done (some r,t.2.1,t.2.2.1,t.2.2.2.1,s.2.2.2.2))
 |none=>UQ a b s.2.2.2.2 t
def loM (a b:Array Keyed):SM (Array Keyed):=(liftM (rule "list.sort.merge-lo"):SM Unit) >>= fun _=>elem' b 0 >>= fun y =>
 if (1 == b.size)=true then pure (Cb a b #[y] 0 1)
 else if (0+1 == a.size)=true then pure (Li a b #[y] 0 1)
 else get >>= fun st=>forIn [:a.size+b.size] ((none,#[y],0,1,gallopOf st):L1) (UR a b) >>= fun t=>match t.1 with
 |some r=>pure r
 |none=>(liftM (unsupported (α:=Array Keyed) "internal:list.sort.merge-bound"):SM (Array Keyed))
set_option smartUnfolding false in
theorem rT:ql=loM:=rfl
section
variable {prog:Program}{w:World}{A:Around}{E:Value->Shared->Prop}{s:Shared}{κ:SortKind}{r:Value->Int}{P:Value->Prop}{a b out:Array Keyed}{mg ac bc ia ib N:Nat}{st:SortSt}
structure MC(prog:Program)(w:World)(A:Around)(s:Shared)(κ:SortKind)(r:Value->Int)(P:Value->Prop)(a b:Array Keyed):Prop where
 C:kE prog w A s κ r P
 pa:AllP P a
 pb:AllP P b
 hA:Up r a 0 a.size
 hB:Up r b 0 b.size
 hl:∀ i,i<a.size->R r b 0<=R r a i
 hg:∀ j,j<b.size->R r b j<=R r a (a.size-1)
def HS(r:Value->Int)(a b:Array Keyed)(c:Option (Array Keyed) × β):Prop:=∃ out rest,c=(some out,rest)/\bU r a b out
def LY(r:Value->Int)(a b:Array Keyed)(N:Nat)(c:L3):Prop:=∃ out ia ib mg ac bc,c=(none,out,ia,ib,mg,ac,bc)/\MI r a b out ia ib/\ia+1<a.size/\ib<b.size/\N<=ia+ib
def LI(r:Value->Int)(a b:Array Keyed)(N:Nat)(c:D8):Prop:=∃ out ia ib ac bc,c=(none,out,ia,ib,ac,bc)/\MI r a b out ia ib/\ia+1<a.size/\ib<b.size/\N<=ia+ib
theorem MC.last(c:MC prog w A s κ r P a b)(M:MI r a b out ia ib)(z:ia+1=a.size):bU r a b (Li a b out ia ib):=M.F_ c.hA c.hB z fun j hj=>by
 have:=c.hg j hj
 rwa[show a.size-1=ia by lia] at this
theorem zm(c:MC prog w A s κ r P a b)(M:MI r a b out ia ib)(h1:ia+1<a.size)(lt:R r a ia<=R r b ib)(h2:ib<b.size)(hN:N<=ia+ib)(D:∀ c,HS r a b c->Q (.done c) st)(Y:∀ c,LY r a b N c->Q (.done c) st/\Q (.yield c) st):wpS (model prog w) A E s (Qt a b mg ac bc ia ib out) Q st:=by
 refine wpS_bind (aF (by lia) fun p e=>?_)
 have M2:=M.nY c.hA c.hB e fun _=>lt
 by_cases z:ia+1+1=a.size
 ·rw[if_pos (by simpa using z)]
  exact wpS_pure (D _ ⟨_,_,rfl,c.last M2 z⟩)
 ·rw[if_neg (by simpa using z)]
  have y:=Y _ ⟨_,_,_,mg,ac,bc,rfl,M2,by lia,h2,by lia⟩
  split
  ·exact wpS_pure y.1
  ·exact wpS_pure y.2
theorem DG(c:MC prog w A s κ r P a b)(hk:kindOf st=κ)(M:MI r a b out ia ib)(h1:ia+1<a.size)(h2:ib<b.size)(hN:N<=ia+ib)(D:∀ c,HS r a b c->Q (.done c) st)(Y:∀ c,LY r a b N c->Q (.done c) st/\Q (.yield c) st):wpS (model prog w) A E s (D9 a b mg ac bc ia ib out) Q st:=by
 refine wpS_bind (aF (by lia) fun p e=>wpS_bind (cF c.C hk c.pb (c.pa.at e) (by lia) (by lia) (fun i j u v w=>c.hB i j (by lia) v (by lia)) fun l vk ve GP=>?_))
 have ra:=mw (r:=r) e
 dsimp only
 have lt:ib+l<b.size->R r a ia<=R r b (ib+l):=fun z=>by have:=qW (GP l (bX _) (by lia));lia
 by_cases l0:l>0
 ·have M5:=MI.AX c.hA c.hB l M (by lia) fun _ i hi=>by have:=Bf (ve i hi);lia
  rw[if_pos l0]
  by_cases z:ib+l=b.size
  ·rw[if_pos (by simpa using z)]
   exact wpS_pure (D _ ⟨_,_,rfl,M5.GN c.hA c.hB z⟩)
  ·rw[if_neg (by simpa using z)]
   exact zm c M5 h1 (lt (by lia)) (by lia) (by lia) D Y
 ·rw[if_neg l0]
  obtain rfl:l=0:=by lia
  exact zm c M h1 (lt h2) h2 hN D Y
theorem zf(c:MC prog w A s κ r P a b)(hk:kindOf st=κ)(M:MI r a b out ia ib)(h1:ia+1<a.size)(lt:R r b ib<=R r a ia)(h2:ib<b.size)(hN:N<=ia+ib)(D:∀ c,HS r a b c->Q (.done c) st)(Y:∀ c,LY r a b N c->Q (.done c) st/\Q (.yield c) st):wpS (model prog w) A E s (lo1 a b mg ac bc ia ib out) Q st:=by
 refine wpS_bind (aF h2 fun p e=>?_)
 have M4:=M.nj c.hA c.hB e fun _=>lt
 by_cases z:ib+1=b.size
 ·rw[if_pos (by simpa using z)]
  exact wpS_pure (D _ ⟨_,_,rfl,M4.GN c.hA c.hB z⟩)
 ·rw[if_neg (by simpa using z)]
  exact DG c hk M4 h1 (by lia) (by lia) D Y
theorem Dy(c:MC prog w A s κ r P a b)(hk:kindOf st=κ)(M:MI r a b out ia ib)(h1:ia+1<a.size)(h2:ib<b.size)(hN:N<=ia+ib)(D:∀ ae,Mg st ae->∀ c,HS r a b c->Q (.done c) ae)(Y:∀ ae,Mg st ae->∀ c,LY r a b N c->Q (.done c) ae/\Q (.yield c) ae):wpS (model prog w) A E s (Qu a b mg ac bc ia ib out) Q st:=by
 have g:=(Mg.refl st).set mg
 refine wpS_bind (fY ?_)
 refine wpS_bind (aF h2 fun p e=>wpS_bind (cF c.C (g.kind.trans hk) c.pa (c.pb.at e) (by lia) (by lia) (fun i j u v w=>c.hA i j (by lia) v (by lia)) fun k UT y6 Ee=>?_))
 have rb:=mw (r:=r) e
 dsimp only
 have lt:ia+k<a.size->R r b ib<=R r a (ia+k):=fun z=>by have:=ug (Ee k (bX _) (by lia));lia
 by_cases k0:k>0
 ·have M3:=MI.AW c.hA c.hB k M (by lia) fun _ i hi=>by have:=yt (y6 i hi);lia
  rw[if_pos k0]
  by_cases z:ia+k+1=a.size
  ·rw[if_pos (by simpa using z)]
   exact wpS_pure (D _ g _ ⟨_,_,rfl,c.last M3 z⟩)
  ·rw[if_neg (by simpa using z)]
   by_cases z2:ia+k=a.size
   ·rw[if_pos (by simpa using z2)]
    exact wpS_pure (D _ g _ ⟨_,_,rfl,M3.GO c.hA c.hB z2⟩)
   ·rw[if_neg (by simpa using z2)]
    exact zf c (g.kind.trans hk) M3 (by lia) (lt (by lia)) h2 (by lia) (D _ g) (Y _ g)
 ·rw[if_neg k0]
  obtain rfl:k=0:=by lia
  exact zf c (g.kind.trans hk) M h1 (lt (by lia)) h2 hN (D _ g) (Y _ g)
theorem DQ(c:MC prog w A s κ r P a b)(M:MI r a b out ia ib)(h1:ia+1<a.size)(lt:R r b ib<=R r a ia)(h2:ib<b.size)(hN:N<=ia+ib+1)(D:∀ c,HS r a b c->Q (.done c) st)(Y:∀ c,LI r a b N c->Q (.done c) st/\Q (.yield c) st):wpS (model prog w) A E s (UM a b mg bc ia ib out) Q st:=by
 refine wpS_bind (aF h2 fun p e=>?_)
 have M2:=M.nj c.hA c.hB e fun _=>lt
 by_cases z:ib+1=b.size
 ·rw[if_pos (by simpa using z)]
  exact wpS_pure (D _ ⟨_,_,rfl,M2.GN c.hA c.hB z⟩)
 ·rw[if_neg (by simpa using z)]
  have y:=Y _ ⟨_,_,_,0,bc+1,rfl,M2,h1,by lia,hN⟩
  split
  ·exact wpS_pure y.1
  ·exact wpS_pure y.2
theorem D_(c:MC prog w A s κ r P a b)(M:MI r a b out ia ib)(h1:ia+1<a.size)(lt:R r a ia<=R r b ib)(h2:ib<b.size)(hN:N<=ia+ib+1)(D:∀ c,HS r a b c->Q (.done c) st)(Y:∀ c,LI r a b N c->Q (.done c) st/\Q (.yield c) st):wpS (model prog w) A E s (UN a b mg ac ia ib out) Q st:=by
 refine wpS_bind (aF (by lia) fun p e=>?_)
 have M2:=M.nY c.hA c.hB e fun _=>lt
 by_cases z:ia+1+1=a.size
 ·rw[if_pos (by simpa using z)]
  exact wpS_pure (D _ ⟨_,_,rfl,c.last M2 z⟩)
 ·rw[if_neg (by simpa using z)]
  have y:=Y _ ⟨_,_,_,ac+1,0,rfl,M2,by lia,h2,by lia⟩
  split
  ·exact wpS_pure y.1
  ·exact wpS_pure y.2
theorem Ez(c:MC prog w A s κ r P a b)(hk:kindOf st=κ)(M:MI r a b out ia ib)(h1:ia+1<a.size)(h2:ib<b.size)(hN:N<=ia+ib+1)(D:∀ c,HS r a b c->Q (.done c) st)(Y:∀ c,LI r a b N c->Q (.done c) st/\Q (.yield c) st):wpS (model prog w) A E s (UO a b mg x (none,out,ia,ib,ac,bc)) Q st:=by
 refine wpS_bind (aF h2 fun pb eb=>wpS_bind (aF (show ia<a.size by lia) fun pa ea=>wpS_bind (oM c.C hk (c.pb.at eb) (c.pa.at ea) ?_)))
 have rb:R r b ib=r pb.1:=mw eb
 have ra:R r a ia=r pa.1:=mw ea
 dsimp only
 by_cases hw:r pb.1<r pa.1
 ·rw[if_pos (decide_eq_true hw)]
  exact DQ c M h1 (by lia) h2 hN D Y
 ·rw[if_neg (by simpa using hw)]
  exact D_ c M h1 (by lia) h2 hN D Y
theorem Fl(c:MC prog w A s κ r P a b)(hk:kindOf st=κ)(M:MI r a b out ia ib)(h1:ia+1<a.size)(h2:ib<b.size)(hN:N<=ia+ib)(D:∀ ae,Mg st ae->∀ c,HS r a b c->Q (.done c) ae)
  (Y:∀ ae,Mg st ae->∀ out ia ib mg,MI r a b out ia ib->ia+1<a.size->ib<b.size->N<=ia+ib->Q (.yield (none,out,ia,ib,mg)) ae):wpS (model prog w) A E s (UQ a b mg (none,out,ia,ib,ac,bc)) Q st:=by
 refine wpS_bind (wpS_lift (wpAny_rule ⟨rfl,?_⟩))
 refine wpS_bind (wpS_mono (wpS_forRange (I:=fun _ c ae=>Mg st ae/\LY r a b N c) (Q:=fun c ae=>Mg st ae/\(HS r a b c\/LY r a b N c)) ?step ?fin ⟨.refl st,_,_,_,_,_,_,rfl,M,h1,h2,hN⟩) ?post)
 case fin =>
  rintro c ae ⟨hm,q⟩
  exact⟨hm,.inr q⟩
 case step =>
  rintro y c1 AY _ _ ⟨hm,out,ia,ib,mg,ac,bc,rfl,M,h1,h2,hN⟩
  unfold UL
  dsimp only
  split<;>exact Dy c (hm.kind.trans hk) M h1 h2 hN (fun ae g c q=>⟨hm.trans g,.inl q⟩) fun ae g c q=>⟨⟨hm.trans g,.inr q⟩,hm.trans g,q⟩
 case post =>
  rintro c ae ⟨hm,⟨o,rest,rfl,hM⟩|⟨out,ia,ib,mg,ac,bc,rfl,M,h1,h2,hN⟩⟩
  ·exact wpS_pure (D _ hm _ ⟨_,_,rfl,hM⟩)
  ·exact wpS_bind (fY (wpS_pure (Y _ (hm.set _) _ _ _ _ M h1 h2 hN)))
theorem Et(c:MC prog w A s κ r P a b)(hk:kindOf st=κ)(M:MI r a b out ia ib)(h1:ia+1<a.size)(h2:ib<b.size)(hN:N<=ia+ib)(D:∀ ae,Mg st ae->∀ c,HS r a b c->Q (.done c) ae)
  (Y:∀ ae,Mg st ae->∀ out ia ib mg,MI r a b out ia ib->ia+1<a.size->ib<b.size->N+1<=ia+ib->Q (.yield (none,out,ia,ib,mg)) ae):wpS (model prog w) A E s (UR a b x (none,out,ia,ib,mg)) Q st:=by
 refine wpS_bind (wpS_mono (wpS_forRange (I:=fun y c ae=>ae=st/\LI r a b (N+y) c) (Q:=fun c ae=>ae=st/\(HS r a b c\/LI r a b (N+1) c)) ?step ?fin ⟨rfl,_,_,_,_,_,rfl,M,h1,h2,hN⟩) ?post)
 case fin =>
  rintro c ae ⟨rfl,o,ia',ib',ac,bc,rfl,M',q1,q2,q3⟩
  exact⟨rfl,.inr ⟨_,_,_,_,_,rfl,M',q1,q2,by lia⟩⟩
 case step =>
  rintro y c1 AY _ hy ⟨rfl,o,ia',ib',ac,bc,rfl,M',q1,q2,q3⟩
  exact Ez (N:=N+y+1) c hk M' q1 q2 (by lia) (fun c q=>⟨rfl,.inl q⟩) fun c q=>by
   obtain⟨o,ia,ib,ac,bc,rfl,M,h1,h2,h3⟩:=q
   exact⟨⟨rfl,.inr ⟨_,_,_,_,_,rfl,M,h1,h2,by lia⟩⟩,rfl,_,_,_,_,_,rfl,M,h1,h2,by lia⟩
 case post =>
  rintro c1 ae ⟨rfl,⟨o,rest,rfl,hM⟩|⟨o,ia,ib,ac,bc,rfl,M',q1,q2,q3⟩⟩
  ·exact wpS_pure (D _ (.refl _) _ ⟨_,_,rfl,hM⟩)
  ·exact Fl c hk M' q1 q2 q3 D Y
theorem pB{st:SortSt}(C:kE prog w A s κ r P)(hk:kindOf st=κ)(Qw:AllP P a)(Qx:AllP P b)(hA:Up r a 0 a.size)(hB:Up r b 0 b.size)(na:1<=a.size)(nb:1<=b.size)
  (h0:R r b 0<=R r a 0) (hg:∀ j,j<b.size->R r b j<=R r a (a.size-1)) (h:∀ out ae,bU r a b out->Mg st ae->Q out ae):wpS (model prog w) A E s (ql a b) Q st:=by
 have c:MC prog w A s κ r P a b:=⟨C,Qw,Qx,hA,hB,fun i hi=>tT h0 (hA 0 i (bX _) (dQ _) hi),hg⟩
 rw[rT]
 refine wpS_bind (wpS_lift (wpAny_rule ⟨rfl,?_⟩))
 refine wpS_bind (aF nb fun y0 e0=>?_)
 have M1:MI r a b #[y0] 0 1:=(MI.start hA hB).nj hA hB e0 fun _=>h0
 by_cases c1:1=b.size
 ·rw[if_pos (by simpa using c1)]
  exact wpS_pure (h _ _ (M1.GN hA hB c1) (.refl st))
 ·rw[if_neg (by simpa using c1)]
  by_cases c2:0+1=a.size
  ·rw[if_pos (by simpa using c2)]
   exact wpS_pure (h _ _ (c.last M1 c2) (.refl st))
  ·rw[if_neg (by simpa using c2)]
   refine wpS_bind (wpS_get ?_)
   refine wpS_bind (wpS_mono (wpS_forRange (I:=fun x c ae=>Mg st ae/\∃ out ia ib mg,c=(none,out,ia,ib,mg)/\MI r a b out ia ib/\ia+1<a.size/\ib<b.size/\x+1<=ia+ib)
    (Q:=fun c ae=>Mg st ae/\HS r a b c) ?step ?fin ⟨.refl st,_,_,_,_,rfl,M1,by lia,by lia,by lia⟩) ?post)
   case fin =>
    rintro c ae ⟨_,out,ia,ib,mg,rfl,M,h1,h2,h3⟩
    lia
   case post =>
    rintro c ae ⟨hm,out,rest,rfl,hM⟩
    exact wpS_pure (h out ae hM hm)
   case step =>
    rintro x c1 AY _ hx ⟨w4,out,ia,ib,mg,rfl,M,h1,h2,h3⟩
    exact Et (N:=x+1) c (w4.kind.trans hk) M h1 h2 h3 (fun ae g c q=>⟨w4.trans g,q⟩) fun ae g out ia ib mg M h1 h2 h3=>⟨w4.trans g,_,_,_,_,rfl,M,h1,h2,h3⟩
end
abbrev Ge(r:Value->Int)(x y:Keyed):Prop:=r y.1<=r x.1
structure MH(r:Value->Int)(a b out:Array Keyed)(na nb:Nat):Prop where
 ha:na<=a.size
 hb:nb<=b.size
 perm:out.toList.Perm (a.toList.drop na++b.toList.drop nb)
 down:out.toList.Pairwise (Ge r)
 ga:∀ x∈out.toList,∀ i,i<na->R r a i<=r x.1
 gb:∀ x∈out.toList,∀ j,j<nb->R r b j<=r x.1
section
variable {r:Value->Int}{a b out:Array Keyed}{na nb:Nat}
theorem nq{α:Type}{l:List α}{i:Nat}{x:α}(h0:0<i)(h:l[i-1]? = some x):l.drop (i-1)=x :: l.drop i:=by
 obtain⟨hi,e⟩:=hX.mp h
 rw[vE hi,e,show i-1+1=i by exact Nat.sub_add_cancel ‹_›]
theorem MH.nY(M:MH r a b out na nb)(hA:Up r a 0 a.size)(hB:Up r b 0 b.size)(h0:0<na){y:Keyed}(e:a[na-1]? = some y)(hl:0<nb->R r b (nb-1)<=R r a (na-1)):MH r a b (out.push y) (na-1) nb:=by
 have ey:=mw (r:=r) e
 have ha:=M.ha
 have hb:=M.hb
 refine⟨by lia,M.hb,?_,?_,?_,?_⟩
 ·rw[mP,nq (x:=y) h0 (by simpa using e)]
  refine(M.perm.append_right [y]).trans ?_
  exact OJ
 ·rw[mP,IL]
  refine⟨M.down,by simp,fun x hx z hz=>?_⟩
  have:z=y:=by simpa using hz
  subst this
  show r z.1<=r x.1
  rw[<- ey]
  exact M.ga x hx (na-1) (by exact DL ‹_› DJ)
 ·intro x hx i hi
  rw[mP] at hx
  rcases dP.mp hx with hx|hx
  ·exact M.ga x hx i (by walk_at "s4")
  ·have:x=y:=by simpa using hx
   subst this
   rw[<- ey]
   exact hA i (na-1) (dQ _) (by exact kc ‹_›) (by lia)
 ·intro x hx j hj
  rw[mP] at hx
  rcases dP.mp hx with hx|hx
  ·exact M.gb x hx j hj
  ·have:x=y:=by simpa using hx
   subst this
   rw[<- ey]
   exact tT (hB j (nb-1) (dQ _) (by lia) (by lia)) (hl (by lia))
theorem MH.nj(M:MH r a b out na nb)(hA:Up r a 0 a.size)(hB:Up r b 0 b.size)(h0:0<nb){y:Keyed}(e:b[nb-1]? = some y)(hl:0<na->R r a (na-1)<=R r b (nb-1)):MH r a b (out.push y) na (nb-1):=by
 have ey:=mw (r:=r) e
 have ha:=M.ha
 have hb:=M.hb
 refine⟨M.ha,by lia,?_,?_,?_,?_⟩
 ·rw[mP,nq (x:=y) h0 (by simpa using e)]
  refine(M.perm.append_right [y]).trans ?_
  rw[vF]
  exact List.Perm.append_left _ OJ
 ·rw[mP,IL]
  refine⟨M.down,by simp,fun x hx z hz=>?_⟩
  have:z=y:=by simpa using hz
  subst this
  show r z.1<=r x.1
  rw[<- ey]
  exact M.gb x hx (nb-1) (by exact DL ‹_› DJ)
 ·intro x hx i hi
  rw[mP] at hx
  rcases dP.mp hx with hx|hx
  ·exact M.ga x hx i hi
  ·have:x=y:=by simpa using hx
   subst this
   rw[<- ey]
   exact tT (hA i (na-1) (dQ _) (by lia) (by lia)) (hl (by lia))
 ·intro x hx j hj
  rw[mP] at hx
  rcases dP.mp hx with hx|hx
  ·exact M.gb x hx j (by walk_at "s4")
  ·have:x=y:=by simpa using hx
   subst this
   rw[<- ey]
   exact hB j (nb-1) (dQ _) (by exact kc ‹_›) (by lia)
theorem jt{xs:Array Keyed}{i n:Nat}(h:i<n)(hn:n<=xs.size):(xs.extract i n).reverse = #[xs[n-1]'(by lia)]++(xs.extract i (n-1)).reverse:=by
 obtain⟨k,rfl⟩:∃ k,n=i+(k+1):=⟨n-1-i,by lia⟩
 have e3:i+(k+1)-1=i+k:=by rfl
 simp only[e3]
 rw[eN (by assumption),Array.reverse_push]
theorem MH.AW(hA:Up r a 0 a.size)(hB:Up r b 0 b.size):∀ (k:Nat) {out:Array Keyed} {na p:Nat},MH r a b out na nb->p+k=na->(0<nb->∀ i,p<=i->i<na->R r b (nb-1)<=R r a i)->MH r a b (out++(a.extract p na).reverse) p nb
 |0,out,na,p,M,h1,h2=>by
  have:a.extract p na = #[]:=MN (by simp only[DM];lia)
  have e:na=p:=by walk_at "s1"
  subst e
  rw[this]
  simpa using M
 |k+1,out,na,p,M,h1,h2=>by
  have ha:=M.ha
  have e:a[na-1]? = some (a[na-1]'(by lia)):=getElem?_pos a (na-1) (by lia)
  have q:=M.nY hA hB (by lia) e fun hb=>h2 hb _ (by lia) (by lia)
  have z:=MH.AW hA hB k (p:=p) q (by lia) fun hb i gv gV=>h2 hb i gv (by walk_at "s4")
  rw[jt (by lia) ha,<- JJ]
  simpa using z
theorem MH.AX(hA:Up r a 0 a.size)(hB:Up r b 0 b.size):∀ (k:Nat) {out:Array Keyed} {nb p:Nat},MH r a b out na nb->p+k=nb->(0<na->∀ i,p<=i->i<nb->R r a (na-1)<=R r b i)->MH r a b (out++(b.extract p nb).reverse) na p
 |0,out,nb,p,M,h1,h2=>by
  have:b.extract p nb = #[]:=MN (by simp only[DM];lia)
  have e:nb=p:=by walk_at "s1"
  subst e
  rw[this]
  simpa using M
 |k+1,out,nb,p,M,h1,h2=>by
  have hb:=M.hb
  have e:b[nb-1]? = some (b[nb-1]'(by lia)):=getElem?_pos b (nb-1) (by lia)
  have q:=M.nj hA hB (by lia) e fun ha=>h2 ha _ (by lia) (by lia)
  have z:=MH.AX hA hB k (p:=p) q (by lia) fun ha i gv gV=>h2 ha i gv (by walk_at "s4")
  rw[jt (by lia) hb,<- JJ]
  simpa using z
theorem MH.whole(M:MH r a b out 0 0):bU r a b out.reverse:=by
 refine⟨?_,?_⟩
 ·have h:=M.perm
  rw[List.drop_zero,List.drop_zero] at h
  rw[Array.toList_reverse]
  exact(List.reverse_perm _).trans h
 ·rw[Array.toList_reverse,List.pairwise_reverse]
  exact M.down
theorem mC(x y:Array Keyed):(x++y.reverse).reverse=y++x.reverse:=by
 apply MR.mp
 simp
theorem MH.GO(M:MH r a b out na nb)(hA:Up r a 0 a.size)(hB:Up r b 0 b.size)(e:na=0):bU r a b (a.extract 0 na++b.extract 0 nb++out.reverse):=by
 subst e
 have z:=MH.AX hA hB nb (p:=0) M (by exact MD ..) fun ha=>absurd ha (rj _)
 have q:=z.whole
 rw[mC] at q
 have e2:a.extract 0 0 = #[]:=by simp
 rw[e2,Array.empty_append]
 exact q
theorem MH.GN(M:MH r a b out na nb)(hA:Up r a 0 a.size)(hB:Up r b 0 b.size)(e:nb=0):bU r a b (a.extract 0 na++b.extract 0 nb++out.reverse):=by
 subst e
 have z:=MH.AW hA hB na (p:=0) M (by exact MD ..) fun hb=>absurd hb (rj _)
 have q:=z.whole
 rw[mC] at q
 have e2:b.extract 0 0 = #[]:=by simp
 rw[e2,O7]
 exact q
theorem MH.qu(M:MH r a b out na nb)(hA:Up r a 0 a.size)(hB:Up r b 0 b.size)(e:nb=1)(hl:∀ i,i<a.size->R r b 0<=R r a i):bU r a b (b.extract 0 nb++a.extract 0 na++out.reverse):=by
 subst e
 have ha:=M.ha
 have z:=MH.AW hA hB na (p:=0) M (by exact MD ..) fun _ i _ hi=>hl i (by walk_at "s1")
 have z2:=MH.AX hA hB 1 (p:=0) z (by exact MD ..) fun h=>absurd h (rj _)
 have q:=z2.whole
 rw[mC,mC] at q
 rw[JJ]
 exact q
theorem MH.start:MH r a b #[] a.size b.size:=⟨bX _,bX _,by simp,by simp,fun x hx=>by simp at hx,fun x hx=>by simp at hx⟩
end
abbrev S1:=Option (Array Keyed) × Nat × Nat × Array Keyed × Nat
abbrev S2:=Option (Array Keyed) × Nat × Nat × Array Keyed × Nat × Nat
abbrev S3:=Option (Array Keyed) × Nat × Nat × Array Keyed × Nat × Nat × Nat
def Ct(a b out:Array Keyed)(na nb:Nat):Array Keyed:=a.extract 0 na++b.extract 0 nb++out.reverse
def NK(a b out:Array Keyed)(na nb:Nat):Array Keyed:=b.extract 0 nb++a.extract 0 na++out.reverse
def Qy(a b:Array Keyed)(mg ac bc na nb:Nat)(out:Array Keyed):SM (ForInStep S3):=elem' a (na-1) >>= fun p =>
 if (na-1 == 0)=true then pure (.done (some (Ct a b (out.push p) (na-1) nb),na-1,nb,out.push p,mg,ac,bc))
 else if (decide (ac<7) && decide (bc<7))=true then pure (.done (none,na-1,nb,out.push p,mg,ac,bc)) else pure (.yield (none,na-1,nb,out.push p,mg,ac,bc))
def gV(a b:Array Keyed)(mg ac bc na nb:Nat)(out:Array Keyed):SM (ForInStep S3):=elem' a (na-1) >>= fun p=>jE true p b 0 nb (nb-1) >>= fun x=>match x with
 |some k=>if nb-k>0 then
   if (k == 1)=true then pure (.done (some (NK a b (out++(b.extract k nb).reverse) na k),na,k,out++(b.extract k nb).reverse,mg,ac,nb-k))
   else if (k == 0)=true then pure (.done (some (Ct a b (out++(b.extract k nb).reverse) na k),na,k,out++(b.extract k nb).reverse,mg,ac,nb-k))
   else Qy a b mg ac (nb-k) na k (out++(b.extract k nb).reverse)
  else Qy a b mg ac (nb-k) na nb out
 |_=>pure (.done (some (Ct a b out na nb),na,nb,out,mg,ac,bc))
def gv(a b:Array Keyed)(mg ac bc na nb:Nat)(out:Array Keyed):SM (ForInStep S3):=elem' b (nb-1) >>= fun p =>
 if (nb-1 == 1)=true then pure (.done (some (NK a b (out.push p) na (nb-1)),na,nb-1,out.push p,mg,ac,bc)) else gV a b mg ac bc na (nb-1) (out.push p)
def tf(a b:Array Keyed)(mg ac bc na nb:Nat)(out:Array Keyed):SM (ForInStep S3):=bz mg >>= fun _=>elem' b (nb-1) >>= fun p=>jE false p a 0 na (na-1) >>= fun x=>match x with
 |some k=>if na-k>0 then
   if (k == 0)=true then pure (.done (some (Ct a b (out++(a.extract k na).reverse) k nb),k,nb,out++(a.extract k na).reverse,mg,na-k,bc))
   else gv a b mg (na-k) bc k nb (out++(a.extract k na).reverse)
  else gv a b mg (na-k) bc na nb out
 |_=>pure (.done (some (Ct a b out na nb),na,nb,out,mg,ac,bc))
def UU(a b:Array Keyed)(_:Nat)(s:S3):SM (ForInStep S3) :=
 if s.2.2.2.2.1>1 then tf a b (s.2.2.2.2.1-1) s.2.2.2.2.2.1 s.2.2.2.2.2.2 s.2.1 s.2.2.1 s.2.2.2.1 else tf a b s.2.2.2.2.1 s.2.2.2.2.2.1 s.2.2.2.2.2.2 s.2.1 s.2.2.1 s.2.2.2.1
def UW(a b:Array Keyed)(mg ac na nb:Nat)(out:Array Keyed):SM (ForInStep S2):=elem' a (na-1) >>= fun p =>
 if (na-1 == 0)=true then pure (.done (some (Ct a b (out.push p) (na-1) nb),na-1,nb,out.push p,ac+1,0))
 else if ac+1 >= mg then pure (.done (none,na-1,nb,out.push p,ac+1,0)) else pure (.yield (none,na-1,nb,out.push p,ac+1,0))
def UX(a b:Array Keyed)(mg bc na nb:Nat)(out:Array Keyed):SM (ForInStep S2):=elem' b (nb-1) >>= fun p =>
 if (nb-1 == 1)=true then pure (.done (some (NK a b (out.push p) na (nb-1)),na,nb-1,out.push p,0,bc+1))
 else if bc+1 >= mg then pure (.done (none,na,nb-1,out.push p,0,bc+1)) else pure (.yield (none,na,nb-1,out.push p,0,bc+1))
def UY(a b:Array Keyed)(mg:Nat)(_:Nat)(s:S2):SM (ForInStep S2):=elem' b (s.2.2.1-1) >>= fun pb=>elem' a (s.2.1-1) >>= fun pa=>lt' pb pa >>= fun x=>match x with
 |some w=>if w=true then UW a b mg s.2.2.2.2.1 s.2.1 s.2.2.1 s.2.2.2.1 else UX a b mg s.2.2.2.2.2 s.2.1 s.2.2.1 s.2.2.2.1
 |_=>pure (.done (some (Ct a b s.2.2.2.1 s.2.1 s.2.2.1),s.2.1,s.2.2.1,s.2.2.2.1,s.2.2.2.2.1,s.2.2.2.2.2))
def UZ (a b:Array Keyed) (mg:Nat) (t:S2):SM (ForInStep S1):=(liftM (rule "list.sort.gallop"):SM Unit) >>= fun _ =>
 forIn [:a.size+b.size] ((none,t.2.1,t.2.2.1,t.2.2.2.1,mg+1,t.2.2.2.2.1,t.2.2.2.2.2):S3) (UU a b) >>= fun u=>match u.1 with
 |some r=>pure (.done (some r,u.2.1,u.2.2.1,u.2.2.2.1,u.2.2.2.2.1))
 |none=>bz (u.2.2.2.2.1+1) >>= fun _=>pure (.yield (none,u.2.1,u.2.2.1,u.2.2.2.1,u.2.2.2.2.1+1))
def U0(a b:Array Keyed)(_:Nat)(s:S1):SM (ForInStep S1):=forIn [:a.size+b.size] ((none,s.2.1,s.2.2.1,s.2.2.2.1,0,0):S2) (UY a b s.2.2.2.2) >>= fun t=>match t.1 with
 |some r=>pure (.done (some r,t.2.1,t.2.2.1,t.2.2.2.1,s.2.2.2.2))
 |none=>UZ a b s.2.2.2.2 t
def hiM (a b:Array Keyed):SM (Array Keyed):=(liftM (rule "list.sort.merge-hi"):SM Unit) >>= fun _=>elem' a (a.size-1) >>= fun y =>
 if (a.size-1 == 0)=true then pure (Ct a b #[y] (a.size-1) b.size)
 else if (b.size == 1)=true then pure (NK a b #[y] (a.size-1) b.size)
 else get >>= fun st=>forIn [:a.size+b.size] ((none,a.size-1,b.size,#[y],gallopOf st):S1) (U0 a b) >>= fun t=>match t.1 with
 |some r=>pure r
 |none=>(liftM (unsupported (α:=Array Keyed) "internal:list.sort.merge-bound"):SM (Array Keyed))
set_option smartUnfolding false in
theorem rN:qM=hiM:=rfl
section
variable {prog:Program}{w:World}{A:Around}{E:Value->Shared->Prop}{s:Shared}{κ:SortKind}{r:Value->Int}{P:Value->Prop}{a b out:Array Keyed}{mg ac bc na nb N:Nat}{st:SortSt}{Q:ForInStep S3->SortSt->Prop}
def HD(r:Value->Int)(a b:Array Keyed)(Q:ForInStep S3->SortSt->Prop)(st:SortSt):Prop:=∀ o rest,bU r a b o->Q (.done (some o,rest)) st
def HY(r:Value->Int)(a b:Array Keyed)(N:Nat)(Q:ForInStep S3->SortSt->Prop)(st:SortSt):Prop :=
 ∀ o na nb mg ac bc,MH r a b o na nb->1<=na->2<=nb->na+nb<=N->Q (.done (none,na,nb,o,mg,ac,bc)) st/\Q (.yield (none,na,nb,o,mg,ac,bc)) st
theorem yJ(c:MC prog w A s κ r P a b)(M:MH r a b out na nb)(h1:0<na)(lt:R r b (nb-1)<=R r a (na-1))(h2:2<=nb)(hN:na+nb<=N)(D:HD r a b Q st)(Y:HY r a b N Q st):wpS (model prog w) A E s (Qy a b mg ac bc na nb out) Q st:=by
 have ha:=M.ha
 refine wpS_bind (aF (by lia) fun p e=>?_)
 have M2:=M.nY c.hA c.hB h1 e fun _=>lt
 by_cases z:na-1=0
 ·rw[if_pos (by simpa using z)]
  exact wpS_pure (D _ _ (M2.GO c.hA c.hB z))
 ·rw[if_neg (by simpa using z)]
  have y:=Y _ _ _ mg ac bc M2 (by lia) h2 (by lia)
  split
  ·exact wpS_pure y.1
  ·exact wpS_pure y.2
theorem Dl(c:MC prog w A s κ r P a b)(hk:kindOf st=κ)(M:MH r a b out na nb)(h1:0<na)(h2:2<=nb)(hN:na+nb<=N)(D:HD r a b Q st)(Y:HY r a b N Q st):wpS (model prog w) A E s (gV a b mg ac bc na nb out) Q st:=by
 have ha:=M.ha
 have hb:=M.hb
 refine wpS_bind (aF (by lia) fun p e=>wpS_bind (cF c.C hk c.pb (c.pa.at e) (by lia) (by lia) (fun i j u v w=>c.hB i j u v (by lia)) fun l vk ve GP=>?_))
 have ra:=mw (r:=r) e
 dsimp only
 have lt:0<l->R r b (l-1)<=R r a (na-1):=fun z=>by have:=Bf (ve (l-1) (by exact DL ‹_› DJ));rw[rp] at this;lia
 by_cases l0:nb-l>0
 ·have M5:=MH.AX c.hA c.hB (nb-l) (p:=l) M (by exact I0 ‹_›) fun _ i gv gV=>by have:=qW (GP i gv gV);rw[rp] at this;lia
  rw[if_pos l0]
  by_cases z4:l=1
  ·rw[if_pos (by simpa using z4)]
   exact wpS_pure (D _ _ (M5.qu c.hA c.hB z4 c.hl))
  ·rw[if_neg (by simpa using z4)]
   by_cases z6:l=0
   ·rw[if_pos (by simpa using z6)]
    exact wpS_pure (D _ _ (M5.GN c.hA c.hB z6))
   ·rw[if_neg (by simpa using z6)]
    exact yJ c M5 h1 (lt (by lia)) (by lia) (by lia) D Y
 ·rw[if_neg l0]
  obtain rfl:l=nb:=by lia
  exact yJ c M h1 (lt (by exact O0 ‹_›)) h2 hN D Y
theorem zj(c:MC prog w A s κ r P a b)(hk:kindOf st=κ)(M:MH r a b out na nb)(h1:0<na)(h2:2<=nb)(lt:R r a (na-1)<=R r b (nb-1))(hN:na+nb<=N)(D:HD r a b Q st)(Y:HY r a b N Q st):wpS (model prog w) A E s (gv a b mg ac bc na nb out) Q st:=by
 have hb:=M.hb
 refine wpS_bind (aF (by lia) fun p e=>?_)
 have M4:=M.nj c.hA c.hB (by exact O0 ‹_›) e fun _=>lt
 by_cases z:nb-1=1
 ·rw[if_pos (by simpa using z)]
  exact wpS_pure (D _ _ (M4.qu c.hA c.hB z c.hl))
 ·rw[if_neg (by simpa using z)]
  exact Dl c hk M4 h1 (by lia) (by lia) D Y
theorem Ey(c:MC prog w A s κ r P a b)(hk:kindOf st=κ)(M:MH r a b out na nb)(h1:0<na)(h2:2<=nb)(hN:na+nb<=N)(D:∀ ae,Mg st ae->HD r a b Q ae)(Y:∀ ae,Mg st ae->HY r a b N Q ae):wpS (model prog w) A E s (tf a b mg ac bc na nb out) Q st:=by
 have ha:=M.ha
 have hb:=M.hb
 have g:=(Mg.refl st).set mg
 refine wpS_bind (fY ?_)
 refine wpS_bind (aF (by lia) fun p e=>wpS_bind (cF c.C (g.kind.trans hk) c.pa (c.pb.at e) (by lia) (by exact DL ‹_› DJ) (fun i j u v w=>c.hA i j u v (by lia)) fun k UT y6 Ee=>?_))
 have rb:=mw (r:=r) e
 dsimp only
 have lt:0<k->R r a (k-1)<=R r b (nb-1):=fun z=>by have:=yt (y6 (k-1) (by exact DL ‹_› DJ));rw[rp] at this;lia
 by_cases k0:na-k>0
 ·have M3:=MH.AW c.hA c.hB (na-k) (p:=k) M (by exact I0 ‹_›) fun _ i gv gV=>by have:=ug (Ee i gv gV);rw[rp] at this;lia
  rw[if_pos k0]
  by_cases z:k=0
  ·rw[if_pos (by simpa using z)]
   exact wpS_pure (D _ g _ _ (M3.GO c.hA c.hB z))
  ·rw[if_neg (by simpa using z)]
   exact zj c (g.kind.trans hk) M3 (by lia) h2 (lt (by lia)) (by lia) (D _ g) (Y _ g)
 ·rw[if_neg k0]
  obtain rfl:k=na:=by lia
  exact zj c (g.kind.trans hk) M h1 h2 (lt h1) hN (D _ g) (Y _ g)
def HI(r:Value->Int)(a b:Array Keyed)(N:Nat)(c:S2):Prop:=∃ na nb out ac bc,c=(none,na,nb,out,ac,bc)/\MH r a b out na nb/\1<=na/\2<=nb/\na+nb<=N
theorem Fd{Q:ForInStep S2->SortSt->Prop}(c:MC prog w A s κ r P a b)(M:MH r a b out na nb)(h1:0<na)(lt:R r b (nb-1)<=R r a (na-1))(h2:2<=nb)(hN:na+nb<=N+1)(D:∀ c,HS r a b c->Q (.done c) st)(Y:∀ c,HI r a b N c->Q (.done c) st/\Q (.yield c) st):wpS (model prog w) A E s (UW a b mg ac na nb out) Q st:=by
 have ha:=M.ha
 refine wpS_bind (aF (by lia) fun p e=>?_)
 have M2:=M.nY c.hA c.hB h1 e fun _=>lt
 by_cases z:na-1=0
 ·rw[if_pos (by simpa using z)]
  exact wpS_pure (D _ ⟨_,_,rfl,M2.GO c.hA c.hB z⟩)
 ·rw[if_neg (by simpa using z)]
  have y:=Y _ ⟨_,_,_,ac+1,0,rfl,M2,by lia,h2,by lia⟩
  split
  ·exact wpS_pure y.1
  ·exact wpS_pure y.2
theorem Dt{Q:ForInStep S2->SortSt->Prop}(c:MC prog w A s κ r P a b)(M:MH r a b out na nb)(h1:0<na)(lt:R r a (na-1)<=R r b (nb-1))(h2:2<=nb)(hN:na+nb<=N+1)(D:∀ c,HS r a b c->Q (.done c) st)(Y:∀ c,HI r a b N c->Q (.done c) st/\Q (.yield c) st):wpS (model prog w) A E s (UX a b mg bc na nb out) Q st:=by
 have hb:=M.hb
 refine wpS_bind (aF (by lia) fun p e=>?_)
 have M2:=M.nj c.hA c.hB (by exact O0 ‹_›) e fun _=>lt
 by_cases z:nb-1=1
 ·rw[if_pos (by simpa using z)]
  exact wpS_pure (D _ ⟨_,_,rfl,M2.qu c.hA c.hB z c.hl⟩)
 ·rw[if_neg (by simpa using z)]
  have y:=Y _ ⟨_,_,_,0,bc+1,rfl,M2,h1,by lia,by lia⟩
  split
  ·exact wpS_pure y.1
  ·exact wpS_pure y.2
theorem CW{Q:ForInStep S2->SortSt->Prop}{x:Nat}(c:MC prog w A s κ r P a b)(hk:kindOf st=κ)(M:MH r a b out na nb)(h1:0<na)(h2:2<=nb)(hN:na+nb<=N+1)(D:∀ c,HS r a b c->Q (.done c) st)(Y:∀ c,HI r a b N c->Q (.done c) st/\Q (.yield c) st):wpS (model prog w) A E s (UY a b mg x (none,na,nb,out,ac,bc)) Q st:=by
 have ha:=M.ha
 have hb:=M.hb
 refine wpS_bind (aF (show nb-1<b.size by lia) fun pb eb=>wpS_bind (aF (show na-1<a.size by lia) fun pa ea=>wpS_bind (oM c.C hk (c.pb.at eb) (c.pa.at ea) ?_)))
 have rb:R r b (nb-1)=r pb.1:=mw eb
 have ra:R r a (na-1)=r pa.1:=mw ea
 dsimp only
 by_cases hw:r pb.1<r pa.1
 ·rw[if_pos (decide_eq_true hw)]
  exact Fd c M h1 (by lia) h2 hN D Y
 ·rw[if_neg (by simpa using hw)]
  exact Dt c M h1 (by lia) h2 hN D Y
theorem Di{Q:ForInStep S1->SortSt->Prop}(c:MC prog w A s κ r P a b)(hk:kindOf st=κ)(M:MH r a b out na nb)(h1:0<na)(h2:2<=nb)(hN:na+nb<=N)(D:∀ ae,Mg st ae->∀ c,HS r a b c->Q (.done c) ae)
  (Y:∀ ae,Mg st ae->∀ out na nb mg,MH r a b out na nb->1<=na->2<=nb->na+nb<=N->Q (.yield (none,na,nb,out,mg)) ae):wpS (model prog w) A E s (UZ a b mg (none,na,nb,out,ac,bc)) Q st:=by
 refine wpS_bind (wpS_lift (wpAny_rule ⟨rfl,?_⟩))
 refine wpS_bind (wpS_mono (wpS_forRange (I:=fun _ c ae=>Mg st ae/\∃ na nb out mg ac bc,c=(none,na,nb,out,mg,ac,bc)/\MH r a b out na nb/\1<=na/\2<=nb/\na+nb<=N)
  (Q:=fun c ae=>Mg st ae/\(HS r a b c\/∃ na nb out mg ac bc,c=(none,na,nb,out,mg,ac,bc)/\MH r a b out na nb/\1<=na/\2<=nb/\na+nb<=N)) ?step ?fin ⟨.refl st,_,_,_,_,_,_,rfl,M,h1,h2,hN⟩) ?post)
 case fin =>
  rintro c ae ⟨hm,q⟩
  exact⟨hm,.inr q⟩
 case step =>
  rintro y c1 AY _ _ ⟨hm,na,nb,out,mg,ac,bc,rfl,M,h1,h2,hN⟩
  unfold UU
  dsimp only
  split<;>exact Ey c (hm.kind.trans hk) M h1 h2 hN (fun ae g o rest hM=>⟨hm.trans g,.inl ⟨o,rest,rfl,hM⟩⟩) fun ae g o na nb mg ac bc M h1 h2 hN=>⟨⟨hm.trans g,.inr ⟨_,_,_,_,_,_,rfl,M,h1,h2,hN⟩⟩,hm.trans g,_,_,_,_,_,_,rfl,M,h1,h2,hN⟩
 case post =>
  rintro c ae ⟨hm,⟨o,rest,rfl,hM⟩|⟨na,nb,out,mg,ac,bc,rfl,M,h1,h2,hN⟩⟩
  ·exact wpS_pure (D _ hm _ ⟨_,_,rfl,hM⟩)
  ·exact wpS_bind (fY (wpS_pure (Y _ (hm.set _) _ _ _ _ M h1 h2 hN)))
theorem DW{Q:ForInStep S1->SortSt->Prop}{x:Nat}(c:MC prog w A s κ r P a b)(hk:kindOf st=κ)(M:MH r a b out na nb)(h1:0<na)(h2:2<=nb)(hN:na+nb<=N+1)(D:∀ ae,Mg st ae->∀ c,HS r a b c->Q (.done c) ae)
  (Y:∀ ae,Mg st ae->∀ out na nb mg,MH r a b out na nb->1<=na->2<=nb->na+nb<=N->Q (.yield (none,na,nb,out,mg)) ae):wpS (model prog w) A E s (U0 a b x (none,na,nb,out,mg)) Q st:=by
 have ha:=M.ha
 have hb:=M.hb
 refine wpS_bind (wpS_mono (wpS_forRange (I:=fun y c ae=>ae=st/\HI r a b (N+1-y) c) (Q:=fun c ae=>ae=st/\(HS r a b c\/HI r a b N c)) ?step ?fin ⟨rfl,_,_,_,_,_,rfl,M,h1,h2,hN⟩) ?post)
 case fin =>
  rintro c ae ⟨rfl,na',mz,o,ac,bc,rfl,M',q1,q2,q3⟩
  exact⟨rfl,.inr ⟨_,_,_,_,_,rfl,M',q1,q2,by lia⟩⟩
 case step =>
  rintro y c1 AY _ hy ⟨rfl,na',mz,o,ac,bc,rfl,M',q1,q2,q3⟩
  exact CW (N:=N-y) c hk M' q1 q2 (by lia) (fun c q=>⟨rfl,.inl q⟩) fun c q=>by
   obtain⟨na,nb,o,ac,bc,rfl,M,h1,h2,h3⟩:=q
   exact⟨⟨rfl,.inr ⟨_,_,_,_,_,rfl,M,h1,h2,by walk_at "s4"⟩⟩,rfl,_,_,_,_,_,rfl,M,h1,h2,by lia⟩
 case post =>
  rintro c1 ae ⟨rfl,⟨o,rest,rfl,hM⟩|⟨na,nb,o,ac,bc,rfl,M',q1,q2,q3⟩⟩
  ·exact wpS_pure (D _ (.refl _) _ ⟨_,_,rfl,hM⟩)
  ·exact Di c hk M' q1 q2 q3 D Y
theorem pJ{st:SortSt}{a b:Array Keyed}{Q:Array Keyed->SortSt->Prop}(C:kE prog w A s κ r P)(hk:kindOf st=κ)(Qw:AllP P a)(Qx:AllP P b)(hA:Up r a 0 a.size)(hB:Up r b 0 b.size)(na:1<=a.size)(nb:1<=b.size)
  (h0:R r b 0<=R r a 0) (hg:∀ j,j<b.size->R r b j<=R r a (a.size-1)) (h:∀ out ae,bU r a b out->Mg st ae->Q out ae):wpS (model prog w) A E s (qM a b) Q st:=by
 have c:MC prog w A s κ r P a b:=⟨C,Qw,Qx,hA,hB,fun i hi=>tT h0 (hA 0 i (bX _) (dQ _) hi),hg⟩
 rw[rN]
 refine wpS_bind (wpS_lift (wpAny_rule ⟨rfl,?_⟩))
 refine wpS_bind (aF (by exact DL ‹_› DJ) fun y0 e0=>?_)
 have M1:MH r a b #[y0] (a.size-1) b.size:=MH.start.nY hA hB na e0 fun _=>hg _ (by exact DL ‹_› DJ)
 by_cases c1:a.size-1=0
 ·rw[if_pos (by simpa using c1)]
  exact wpS_pure (h _ _ (M1.GO hA hB c1) (.refl st))
 ·rw[if_neg (by simpa using c1)]
  by_cases c2:b.size=1
  ·rw[if_pos (by simpa using c2)]
   exact wpS_pure (h _ _ (M1.qu hA hB c2 c.hl) (.refl st))
  ·rw[if_neg (by simpa using c2)]
   refine wpS_bind (wpS_get ?_)
   refine wpS_bind (wpS_mono (wpS_forRange (I:=fun x c ae=>Mg st ae/\∃ na nb out mg,c=(none,na,nb,out,mg)/\MH r a b out na nb/\1<=na/\2<=nb/\na+nb<=a.size+b.size-x)
    (Q:=fun c ae=>Mg st ae/\HS r a b c) ?step ?fin ⟨.refl st,_,_,_,_,rfl,M1,by lia,by lia,by lia⟩) ?post)
   case fin =>
    rintro c ae ⟨_,na,nb,out,mg,rfl,M,h1,h2,h3⟩
    lia
   case post =>
    rintro c ae ⟨hm,out,rest,rfl,hM⟩
    exact wpS_pure (h out ae hM hm)
   case step =>
    rintro x c1 AY _ hx ⟨w4,na,nb,out,mg,rfl,M,h1,h2,h3⟩
    exact DW (N:=a.size+b.size-(x+1)) c (w4.kind.trans hk) M h1 h2 (by lia) (fun ae g c q=>⟨w4.trans g,q⟩) fun ae g out na nb mg M h1 h2 h3=>⟨w4.trans g,_,_,_,_,rfl,M,h1,h2,h3⟩
end
def wr(p:Nat)(m:List Keyed)(n:Nat)(xs:Array Keyed):Array Keyed:=(m.zipIdx n).foldl (fun a (q:Keyed × Nat)=>a.setIfInBounds (p+q.2) q.1) xs
theorem tD(p:Nat):∀ (m:List Keyed) (n:Nat) (xs:Array Keyed),p+n+m.length<=xs.size->∀ k:Nat,(wr p m n xs)[k]? = if p+n<=k/\k<p+n+m.length then m[k-(p+n)]? else xs[k]?
 |[],n,xs,h,k=>by
  rw[if_neg (by simp only[List.length_nil];lia)];rfl
 |q :: m,n,xs,h,k=>by
  have ih:=tD p m (n+1) (xs.setIfInBounds (p+n) q) (by rw[Array.size_setIfInBounds];simp only[qc] at h;lia) k
  have e:wr p (q :: m) n xs=wr p m (n+1) (xs.setIfInBounds (p+n) q):=by unfold wr;rw[List.zipIdx_cons,List.foldl_cons]
  simp only[qc] at h ⊢
  rw[e,ih]
  by_cases h1:p+(n+1)<=k/\k<p+(n+1)+m.length
  ·rw[if_pos h1,if_pos (by lia),show k-(p+n)=(k-(p+(n+1)))+1 by lia,List.getElem?_cons_succ]
  ·rw[if_neg h1]
   by_cases h2:k=p+n
   ·subst h2
    rw[if_pos (by walk_at "s4"),Nat.sub_self,List.getElem?_cons_zero,Array.getElem?_setIfInBounds_self_of_lt (by lia)]
   ·rw[if_neg (by lia),Array.getElem?_setIfInBounds_ne (by walk_at "s1")]
theorem Ce(h:p+m.length<=xs.size):(wr p m 0 xs).toList=xs.toList.take p++m++xs.toList.drop (p+m.length):=by
 have hl:xs.toList.length=xs.size:=by simp
 apply BG
 intro k
 have e:=tD p m 0 xs h k
 rw[Fs] at e
 rw[kR,e]
 by_cases h1:k<p
 ·rw[if_neg (by lia),vF,Dx (by rw[nS];lia),List.getElem?_take_of_lt h1,kR]
 ·by_cases h2:k<p+m.length
  ·rw[if_pos (by lia),vF,xC (by rw[nS];lia),nS,show min p xs.toList.length=p by lia,Dx (by lia)]
  ·rw[if_neg (by lia),vF,xC (by rw[nS];lia),nS,show min p xs.toList.length=p by lia,xC (by lia),List.getElem?_drop,
    show p+m.length+(k-p-m.length)=k by lia,kR]
theorem Dn{p q:Nat}{xs:Array Keyed}(h:p<=q)(h2:q<=xs.size):xs.toList=xs.toList.take p++(xs.extract p q).toList++xs.toList.drop q:=by
 rw[O6,Oz]
 have e1:xs.toList.take p++(xs.toList.drop p).take (q-p)=xs.toList.take q:=by
  rw[<- Mt p (xs.toList.take q),List.take_take,List.drop_take,Nat.min_eq_left h]
 rw[e1,Mt]
theorem zO{p q:Nat}{m:List Keyed}{xs:Array Keyed}(h:p<=q)(h2:q<=xs.size)(hm:m.Perm (xs.extract p q).toList):(wr p m 0 xs).Perm xs:=by
 have hl:m.length=q-p:=by rw[hm.length_eq];simp;lia
 rw[O5,Ce (by lia),show p+m.length=q by lia]
 have e:=Dn (xs:=xs) h h2
 exact(List.Perm.append_right _ (List.Perm.append_left _ hm)).trans (by rw[<- e])
def Runs(r:Value->Int)(xs:Array Keyed):List (Nat × Nat × Nat)->Nat->Nat->Prop
 |[],a,b=>a=b
 | (s,n,_) :: rest,a,b=>s=a/\1<=n/\Up r xs s (s+n)/\Runs r xs rest (s+n) b
section
variable {r:Value->Int}{xs ys:Array Keyed}
theorem Runs.le:∀ {ps:List (Nat × Nat × Nat)} {a b:Nat},Runs r xs ps a b->a+ps.length<=b
 |[],a,b,h=>by simp only[Runs] at h;simp;lia
 | (s,n,p) :: rest,a,b,h=>by
  obtain⟨rfl,h1,_,h3⟩:=h
  have:=Runs.le h3
  simp only[qc];lia
theorem Runs.append:∀ {ps qs:List (Nat × Nat × Nat)} {a b:Nat},Runs r xs (ps++qs) a b↔∃ c,Runs r xs ps a c/\Runs r xs qs c b
 |[],qs,a,b=>by simp[Runs]
 | (s,n,p) :: rest,qs,a,b=>by
  simp only[List.cons_append,Runs]
  constructor
  ·rintro⟨h1,h2,h3,h4⟩
   obtain⟨c,h5,h6⟩:=Runs.append.mp h4
   exact⟨c,⟨h1,h2,h3,h5⟩,h6⟩
  ·rintro⟨c,⟨h1,h2,h3,h5⟩,h6⟩
   exact⟨h1,h2,h3,Runs.append.mpr ⟨c,h5,h6⟩⟩
theorem Up.congr(h:Up r xs a b)(e:∀ k,a<=k->k<b->ys[k]? = xs[k]?):Up r ys a b:=fun i j h1 h2 h3=>by
 rw[cH (e i h1 (by lia)),cH (e j (by lia) h3)];exact h i j h1 h2 h3
theorem Runs.congr:∀ {ps:List (Nat × Nat × Nat)} {a b:Nat},Runs r xs ps a b->(∀ k,a<=k->k<b->ys[k]? = xs[k]?)->Runs r ys ps a b
 |[],a,b,h,_=>h
 | (s,n,p) :: rest,a,b,h,e=>by
  obtain⟨rfl,h1,h2,h3⟩:=h
  have l:=h3.le
  exact⟨rfl,h1,h2.congr fun k u v=>e k u (by lia),Runs.congr h3 fun k u v=>e k (by walk_at "s4") v⟩
theorem Up.glue(h1:Up r xs a b)(h2:Up r xs b c)(h:∀ i j,a<=i->i<b->b<=j->j<c->R r xs i<=R r xs j):Up r xs a c:=fun i j u v w=>by
 by_cases hj:j<b
 ·exact h1 i j u v hj
 ·by_cases hi:i<b
  ·exact h i j u hi (by lia) w
  ·exact h2 i j (by lia) v w
end
section
variable {prog:Program}{w:World}{A:Around}{E:Value->Shared->Prop}{s:Shared}{κ:SortKind}{r:Value->Int}{P:Value->Prop}
theorem AllP.extract(h:AllP P xs)(i j:Nat):AllP P (xs.extract i j):=fun p hp=>h p (by
 rw[O6,Oz] at hp
 exact OL (Mu hp))
theorem dw(h:i+k<j)(hj:j<=xs.size):R r (xs.extract i j) k=R r xs (i+k):=by
 apply cH
 rw[MP,if_pos (by lia)]
theorem Up.extract(h:Up r xs i j)(fA:i<=j)(hj:j<=xs.size):Up r (xs.extract i j) 0 (xs.extract i j).size:=fun a b _ h2 h3=>by
 have e:(xs.extract i j).size=j-i:=by simp only[DM];lia
 rw[e] at h3
 rw[dw (by lia) hj,dw (by lia) hj]
 exact h _ _ (by lia) (by lia) (by lia)
theorem wj(hz:sa+na+nb<=xs.size)(hk:k<na)(hnb:mz<=nb)(hA:Up r xs sa (sa+na))(hB:Up r xs (sa+na) (sa+na+nb))
  (lo1:∀ i,i<k->R r xs (sa+i)<=R r xs (sa+na)) (D9:R r xs (sa+na)<R r xs (sa+k)) (gv:∀ i,i<mz->R r xs (sa+na+i)<R r xs (sa+na-1)) (gV:∀ i,mz<=i->i<nb->R r xs (sa+na-1)<=R r xs (sa+na+i))
  (hm:bU r (xs.extract (sa+k) (sa+na)) (xs.extract (sa+na) (sa+na+mz)) m) :
  Up r (wr (sa+k) m.toList 0 xs) sa (sa+na+nb)/\(wr (sa+k) m.toList 0 xs).Perm xs/\∀ j,j<sa\/sa+na+nb<=j->(wr (sa+k) m.toList 0 xs)[j]? = xs[j]? := by
 obtain⟨mp,mu⟩:=hm
 have eab:(xs.extract (sa+k) (sa+na)).toList++(xs.extract (sa+na) (sa+na+mz)).toList=(xs.extract (sa+k) (sa+na+mz)).toList:=by
  rw[<- Array.toList_append,Array.extract_append_extract,show min (sa+k) (sa+na)=sa+k by lia,show max (sa+na) (sa+na+mz)=sa+na+mz by lia]
 rw[eab] at mp
 have ml:m.toList.length=na+mz-k:=by rw[mp.length_eq];simp;lia
 have hw:sa+k+m.toList.length<=xs.size:=by lia
 have get:=tD (sa+k) m.toList 0 xs (by lia)
 rw[Fs,ml] at get
 -- every merged item is one of the eL'
 have mem:∀ (j:Nat) (p:Keyed),m.toList[j]? = some p->∃ i,sa+k<=i/\i<sa+na+mz/\r p.1=R r xs i:=fun j p e=>by
  have hp:p∈(xs.extract (sa+k) (sa+na+mz)).toList:=mp.mem_iff.mp (kP e)
  obtain⟨i,hi⟩:=List.getElem?_of_mem hp
  rw[kR,MP] at hi
  split at hi
  ·exact⟨sa+k+i,by lia,by lia,(mw hi).symm⟩
  ·cases hi
 have low:∀ i,sa+k<=i->i<sa+na+mz->R r xs (sa+na)<=R r xs i:=fun i h1 h2=>by
  by_cases h3:i<sa+na
  ·exact tT (z5 D9) (hA (sa+k) i (by lia) h1 h3)
  ·exact hB (sa+na) i (bX _) (by lia) (by lia)
 have high:∀ i,sa+k<=i->i<sa+na+mz->R r xs i<=R r xs (sa+na-1):=fun i h1 h2=>by
  by_cases h3:i<sa+na
  ·exact hA i (sa+na-1) (by lia) (by lia) (by lia)
  ·have:=gv (i-(sa+na)) (by lia)
   rw[show sa+na+(i-(sa+na))=i by lia] at this
   lia
 have U4:∀ j,j<na+mz-k->∃ i,sa+k<=i/\i<sa+na+mz/\R r (wr (sa+k) m.toList 0 xs) (sa+k+j)=R r xs i:=fun j hj=>by
  have e:=get (sa+k+j)
  rw[if_pos (by lia),show sa+k+j-(sa+k)=j by lia] at e
  have qq:j<m.toList.length:=by lia
  obtain⟨i,h1,h2,h3⟩:=mem j m.toList[j] (kN qq)
  rw[kN qq] at e
  exact⟨i,h1,h2,(mw e).trans h3⟩
 have GU:∀ j,j<sa+k\/sa+na+mz<=j->(wr (sa+k) m.toList 0 xs)[j]? = xs[j]? := fun j hj=>by
  have e:=get j
  rw[if_neg (by lia)] at e
  exact e
 refine⟨?_,zO (by lia) (by lia) mp,fun j hj=>GU j (by lia)⟩
 have U1:Up r (wr (sa+k) m.toList 0 xs) sa (sa+k):=Up.congr (xs:=xs) (fun i j h1 h2 h3=>hA i j h1 h2 (by lia)) fun j h1 h2=>GU j (.inl h2)
 have U2:Up r (wr (sa+k) m.toList 0 xs) (sa+k) (sa+na+mz):=fun i j h1 h2 h3=>by
  have ei:=get i
  have ej:=get j
  rw[if_pos (by lia)] at ei ej
  have li:i-(sa+k)<m.toList.length:=by lia
  have lj:j-(sa+k)<m.toList.length:=by lia
  rw[kN li] at ei
  rw[kN lj] at ej
  rw[mw ei,mw ej]
  by_cases fA:i=j
  ·subst fA;exact ua _
  ·exact(xD.mp mu) _ _ li lj (by lia)
 have U3:Up r (wr (sa+k) m.toList 0 xs) (sa+na+mz) (sa+na+nb):=Up.congr (xs:=xs) (fun i j h1 h2 h3=>hB i j (by lia) h2 h3) fun j h1 h2=>GU j (.inr h1)
 refine(U1.glue U2 fun i j h1 h2 h3 h4=>?_).glue U3 fun i j h1 h2 h3 h4=>?_
 ·obtain⟨q,q1,q2,q3⟩:=U4 (j-(sa+k)) (by lia)
  rw[show sa+k+(j-(sa+k))=j by lia] at q3
  rw[q3,cH (GU i (.inl h2))]
  have:=lo1 (i-sa) (by lia)
  rw[show sa+(i-sa)=i by lia] at this
  exact tT this (low q q1 q2)
 ·have e2:=gV (j-(sa+na)) (by lia) (by lia)
  rw[show sa+na+(j-(sa+na))=j by lia] at e2
  rw[cH (GU j (.inr h3))]
  by_cases hi:i<sa+k
  ·rw[cH (GU i (.inl hi))]
   have:=lo1 (i-sa) (by lia)
   rw[show sa+(i-sa)=i by lia] at this
   have:=low (sa+na-1) (by lia) (by lia)
   lia
  ·obtain⟨q,q1,q2,q3⟩:=U4 (i-(sa+k)) (by lia)
   rw[show sa+k+(i-(sa+k))=i by lia] at q3
   rw[q3]
   exact tT (high q q1 q2) e2
structure St(r:Value->Int)(κ:SortKind)(dy:Array Keyed)(st:SortSt)(ps:List (Nat × Nat × Nat))(lo:Nat):Prop where
 kind:kindOf st=κ
 failed:failedOf st=none
 perm:(arrOf st).Perm dy
 pend:pendingOf st=ps.toArray
 runs:Runs r (arrOf st) ps 0 lo
theorem St.size{st:SortSt}{ps:List (Nat × Nat × Nat)}{lo:Nat}(h:St r κ dy st ps lo):(arrOf st).size=dy.size:=h.perm.size_eq
theorem xH{ps:List (Nat × Nat × Nat)}(h:i+1<ps.length):∃ pre x y post,ps=pre++x :: y :: post/\pre.length=i:=by
 refine⟨ps.take i,ps[i],ps[i+1],ps.drop (i+2),?_,by rw[nS];lia⟩
 rw[<- vE (by lia),<- vE (by lia),Mt]
theorem jr{st:SortSt}{ps:List (Nat × Nat × Nat)}{lo i:Nat}(C:kE prog w A s κ r P)(hP:AllP P dy)(H:St r κ dy st ps lo)(B8:lo<=dy.size)(hi:i+1<ps.length)
  (h:∀ ae gy,St r κ dy ae gy lo->gy.length+1=ps.length->gy≠[]->(∀ k,lo<=k->(arrOf ae)[k]? = (arrOf st)[k]?)->Q true ae):wpS (model prog w) A E s (mergeAt' i) Q st:=by
 obtain⟨pre,⟨sa,na,pa⟩,⟨sb,nb,pb⟩,post,rfl,B7⟩:=xH hi
 have hz:=H.size
 have oP:AllP P (arrOf st):=hP.perm H.perm
 obtain⟨c,U5,Qz⟩:=Runs.append.mp H.runs
 obtain⟨rfl,n1,u1,rfl,n2,u2,U6⟩:=Qz
 have le3:=U6.le
 have le1:=U5.le
 -- the new pending list
 have aq':((pendingOf st).setIfInBounds i (sa,na+nb,pa)).eraseIdxIfInBounds (i+1)=(pre++(sa,na+nb,pa) :: post).toArray:=by
  rw[H.pend]
  apply MR.mp
  simp[<- B7,List.eraseIdx_append_of_length_le]
 have new:∀ (xs:Array Keyed) (g:Nat),xs.Perm (arrOf st)->(∀ j,j<sa\/sa+na+nb<=j->xs[j]? = (arrOf st)[j]?)->Up r xs sa (sa+(na+nb)) ->
   St r κ dy (SortSt.mk' (kindOf st) xs (pre++(sa,na+nb,pa) :: post).toArray g (failedOf st)) (pre++(sa,na+nb,pa) :: post) lo:=fun xs g hp ho hu =>
  ⟨H.kind,H.failed,hp.trans H.perm,rfl,Runs.append.mpr ⟨sa,U5.congr fun k _ hk=>ho k (.inl hk),rfl,by lia,hu,by
   rw[show sa+(na+nb)=sa+na+nb by lia]
   exact U6.congr fun k hk _=>ho k (.inr hk)⟩⟩
 have len:(pre++(sa,na+nb,pa) :: post).length+1=(pre++(sa,na,pa) :: (sa+na,nb,pb) :: post).length:=by simp;lia
 have e0:(pendingOf st)[i]? = some (sa,na,pa):=by rw[H.pend,<- B7];simp
 have e1:(pendingOf st)[i+1]? = some (sa+na,nb,pb):=by rw[H.pend,<- B7];simp
 refine wpS_bind (wpS_get ?_)
 rw[e0,e1]
 dsimp only
 refine wpS_bind (wpS_modify (f:=fun _=>SortSt.mk' (kindOf st) (arrOf st) (((pendingOf st).setIfInBounds i (sa,na+nb,pa)).eraseIdxIfInBounds (i+1)) (gallopOf st) (failedOf st)) ?_)
 rw[aq']
 refine wpS_bind (aF (xs:=arrOf st) (by lia) fun kb U7=>wpS_bind (cF (arr:=arrOf st) C H.kind oP (oP.at U7) (by lia) (by lia) u1 fun k UT y6 Ee=>?_))
 have rkb:=mw (r:=r) U7
 dsimp only
 by_cases z:na-k=0
 ·rw[if_pos (by simpa using z)]
  refine wpS_pure (h _ _ (new (arrOf st) (gallopOf st) (Array.Perm.refl _) (fun _ _=>rfl) ?_) len (by simp) fun _ _=>rfl)
  rw[show sa+(na+nb)=sa+na+nb by lia]
  refine u1.glue u2 fun i j h1 h2 h3 h4=>?_
  have:=yt (y6 (i-sa) (by lia))
  rw[show sa+(i-sa)=i by lia] at this
  have:=u2 (sa+na) j (bX _) h3 h4
  lia
 ·rw[if_neg (by simpa using z)]
  refine wpS_bind (aF (xs:=arrOf st) (by lia) fun ka U8=>wpS_bind (cF (arr:=arrOf st) C H.kind oP (oP.at U8) (by lia) (by lia) u2 fun l vk ve GP=>?_))
  have rka:=mw (r:=r) U8
  rw[show sa+k+(na-k)-1=sa+na-1 by lia] at rka
  dsimp only
  by_cases z2:l=0
  ·rw[if_pos (by simpa using z2)]
   refine wpS_pure (h _ _ (new (arrOf st) (gallopOf st) (Array.Perm.refl _) (fun _ _=>rfl) ?_) len (by simp) fun _ _=>rfl)
   rw[show sa+(na+nb)=sa+na+nb by lia]
   refine u1.glue u2 fun i j h1 h2 h3 h4=>?_
   have:=qW (GP (j-(sa+na)) (by lia) (by lia))
   rw[show sa+na+(j-(sa+na))=j by lia] at this
   have:=u1 i (sa+na-1) h1 (by lia) (by lia)
   lia
  ·rw[if_neg (by simpa using z2)]
   have lo1:∀ i,i<k->R r (arrOf st) (sa+i)<=R r (arrOf st) (sa+na):=fun i hi=>by have:=yt (y6 i hi);lia
   have D9:R r (arrOf st) (sa+na)<R r (arrOf st) (sa+k):=by have:=ug (Ee k (bX _) (by lia));lia
   have gv:∀ i,i<l->R r (arrOf st) (sa+na+i)<R r (arrOf st) (sa+na-1):=fun i hi=>by have:=Bf (ve i hi);lia
   have gV:∀ i,l<=i->i<nb->R r (arrOf st) (sa+na-1)<=R r (arrOf st) (sa+na+i):=fun i h1 h2=>by have:=qW (GP i h1 h2);lia
   have sx:((arrOf st).extract (sa+k) (sa+na)).size=na-k:=by simp only[DM];lia
   have sy:((arrOf st).extract (sa+na) (sa+na+l)).size=l:=by simp only[DM];lia
   have ux:Up r ((arrOf st).extract (sa+k) (sa+na)) 0 ((arrOf st).extract (sa+k) (sa+na)).size:=Up.extract (fun i j h1 h2 h3=>u1 i j (by lia) h2 h3) (by lia) (by lia)
   have uy:Up r ((arrOf st).extract (sa+na) (sa+na+l)) 0 ((arrOf st).extract (sa+na) (sa+na+l)).size:=Up.extract (fun i j h1 h2 h3=>u2 i j h1 h2 (by lia)) (by lia) (by lia)
   have U9:R r ((arrOf st).extract (sa+na) (sa+na+l)) 0<=R r ((arrOf st).extract (sa+k) (sa+na)) 0:=by
    rw[dw (by lia) (by lia),dw (by lia) (by lia)]
    exact z5 D9
   have U_:∀ j,j<((arrOf st).extract (sa+na) (sa+na+l)).size->R r ((arrOf st).extract (sa+na) (sa+na+l)) j<=R r ((arrOf st).extract (sa+k) (sa+na)) (((arrOf st).extract (sa+k) (sa+na)).size-1):=fun j hj=>by
    rw[sx,dw (by lia) (by lia),dw (by lia) (by lia),show sa+k+(na-k-1)=sa+na-1 by lia]
    exact z5 (gv j (by lia))
   have fin:∀ out ae,bU r ((arrOf st).extract (sa+k) (sa+na)) ((arrOf st).extract (sa+na) (sa+na+l)) out->Mg (SortSt.mk' (kindOf st) (arrOf st) (pre++(sa,na+nb,pa) :: post).toArray (gallopOf st) (failedOf st)) ae ->
     Q true (SortSt.mk' (kindOf ae) (wr (sa+k) out.toList 0 (arrOf ae)) (pendingOf ae) (gallopOf ae) (failedOf ae)):=fun out ae hm hg=>by
    obtain⟨g,rfl⟩:=hg
    obtain⟨m1,m2,m3⟩:=wj (by lia) (by lia) vk u1 u2 lo1 D9 gv gV hm
    exact h _ _ (new _ g m2 m3 (by rw[show sa+(na+nb)=sa+na+nb by lia];exact m1)) len (by simp) fun k hk=>m3 k (.inr (by lia))
   have fin2:∀ out ae,bU r ((arrOf st).extract (sa+k) (sa+na)) ((arrOf st).extract (sa+na) (sa+na+l)) out->Mg (SortSt.mk' (kindOf st) (arrOf st) (pre++(sa,na+nb,pa) :: post).toArray (gallopOf st) (failedOf st)) ae ->
     failedOf ae=none:=fun out ae _ hg=>by
    obtain⟨g,rfl⟩:=hg
    exact H.failed
   by_cases z3:na-k<=l
   ·rw[if_pos z3]
    refine wpS_bind (pB (a:=(arrOf st).extract (sa+k) (sa+na)) (b:=(arrOf st).extract (sa+na) (sa+na+l)) C H.kind (oP.extract _ _) (oP.extract _ _) ux uy (by lia) (by lia) U9 U_ fun out ae hm hg=>?_)
    refine wpS_bind (wpS_modify (wpS_bind (wpS_get ?_)))
    have f:=fin out ae hm hg
    have f2:=fin2 out ae hm hg
    refine wpS_pure ?_
    show Q (failedOf ae).isNone _
    rw[f2]
    exact f
   ·rw[if_neg z3]
    refine wpS_bind (pJ (a:=(arrOf st).extract (sa+k) (sa+na)) (b:=(arrOf st).extract (sa+na) (sa+na+l)) C H.kind (oP.extract _ _) (oP.extract _ _) ux uy (by lia) (by lia) U9 U_ fun out ae hm hg=>?_)
    refine wpS_bind (wpS_modify (wpS_bind (wpS_get ?_)))
    have f:=fin out ae hm hg
    have f2:=fin2 out ae hm hg
    refine wpS_pure ?_
    show Q (failedOf ae).isNone _
    rw[f2]
    exact f
theorem Runs.modify(hf:∀ x,(f x).1=x.1/\(f x).2.1=x.2.1):∀ {ps:List (Nat × Nat × Nat)} {i a b:Nat},Runs r xs ps a b->Runs r xs (ps.modify i f) a b
 |[],_,_,_,h=>by simpa using h
 | (s,n,p) :: rest,0,a,b,h=>by
  obtain⟨h1,h2⟩:=hf (s,n,p)
  rw[List.modify_zero_cons]
  have e:f (s,n,p)=(s,n,(f (s,n,p)).2.2):=Prod.ext h1 (Prod.ext h2 rfl)
  rw[e]
  exact h
 | (s,n,p) :: rest,i+1,a,b,h=>by
  rw[List.modify_succ_cons]
  obtain⟨h1,h2,h3,h4⟩:=h
  exact⟨h1,h2,h3,Runs.modify hf h4⟩
theorem St.win{st ae:SortSt}{ps:List (Nat × Nat × Nat)}{lo hi:Nat}(H:St r κ dy st ps lo)(hw:kf lo hi st ae):St r κ dy ae ps lo :=
 ⟨hw.kind.trans H.kind,hw.failed.trans H.failed,hw.perm.trans H.perm,hw.pend.trans H.pend,H.runs.congr fun k _ hk=>hw.out k (.inl hk)⟩
theorem wpS_sortRuns{st:SortSt}(C:kE prog w A s κ r P)(hk:kindOf st=κ)(hP:AllP P (arrOf st))(hp:pendingOf st = #[])(hf:failedOf st=none)
  (h:∀ ae,(arrOf ae).Perm (arrOf st)->failedOf ae=none->Up r (arrOf ae) 0 (arrOf st).size->Q () ae):wpS (model prog w) A E s sortRuns' Q st:=by
 rw[sortRuns'_eq]
 refine wpS_bind (wpS_get ?_)
 dsimp only
 generalize ha:arrOf st=dy at *
 have H0:St r κ dy st [] 0:=⟨hk,hf,by rw[ha],by rw[hp],rfl⟩
 refine wpS_bind (wpS_mono (wpS_forRange (I:=fun x c ae=>∃ ps lo,c=(none,lo)/\St r κ dy ae ps lo/\lo<=dy.size/\x<=lo)
  (Q:=fun c ae=>∃ ps,c=(none,dy.size)/\St r κ dy ae ps dy.size) ?step ?fin ⟨[],0,rfl,H0,dQ _,bX _⟩) ?post)
 case fin =>
  rintro c ae ⟨ps,lo,rfl,H,h1,h2⟩
  have:lo=dy.size:=by lia
  subst this
  exact⟨ps,rfl,H⟩
 case post =>
  rintro c ae ⟨ps,rfl,H⟩
  dsimp only
  have l0:=H.runs.le
  refine wpS_bind (wpS_mono (wpS_forRange (I:=fun y c ae=>c=(none,())/\∃ gy,St r κ dy ae gy dy.size/\gy.length+y<=dy.size)
   (Q:=fun c ae=>c=(none,())/\∃ gy,St r κ dy ae gy dy.size/\gy.length<=1) ?au' ?NM ⟨rfl,ps,H,by lia⟩) ?av')
  case NM =>
   rintro c ae ⟨rfl,gy,H',hl⟩
   exact⟨rfl,gy,H',by lia⟩
  case av' =>
   rintro c ae ⟨rfl,gy,H',hl⟩
   refine wpS_pure (h ae H'.perm H'.failed ?_)
   have q:=H'.runs
   match gy,hl,q with
   |[],_,q =>
    have q:0=dy.size:=q
    intro i j _ _ hj
    lia
   |[(s',n',p')],_,q =>
    obtain⟨rfl,_,hu,e⟩:=q
    have e:0+n'=dy.size:=e
    rw[<- e]
    exact hu
  case au' =>
   rintro y c AY _ hy ⟨rfl,gy,H',hl⟩
   refine wpS_bind (wpS_get ?_)
   have ep:(pendingOf AY).size=gy.length:=by rw[H'.pend];simp
   by_cases z:(pendingOf AY).size<=1
   ·rw[if_pos z]
    exact wpS_pure ⟨rfl,gy,H',by lia⟩
   ·rw[if_neg z]
    refine wpS_bind (jr C hP H' (bX _) (by(repeat' split)<;>lia) fun uj ps2 H2 hlen _ _=>?_)
    rw[if_neg (by simp)]
    exact wpS_pure ⟨rfl,ps2,H2,by lia⟩
 case step =>
  rintro x c AY _ hx ⟨ps,lo,rfl,H,h1,h2⟩
  dsimp only
  by_cases z:lo >= dy.size
  ·rw[if_pos z]
   have:lo=dy.size:=by lia
   subst this
   exact wpS_pure ⟨ps,rfl,H⟩
  ·rw[if_neg z]
   have hz:=H.size
   refine wpS_bind (wpS_countRun C H.kind (hP.perm H.perm) (by lia) (by lia) fun m uj hw w4 vi hu=>?_)
   have H2:=H.win hw
   dsimp only
   refine Bl (K:=?K) ?pk fun key=>?main
   case main =>
    by_cases z2:m<minRun' dy.size dy.size 0
    ·rw[if_pos z2]
     refine wpS_bind (wpS_lift (wpAny_rule ⟨rfl,?_⟩))
     refine wpS_bind (wpS_binarySort C H2.kind (hP.perm H2.perm) (by clear key;have:=H2.size;lia) (by clear key;lia) hu fun uk Va QB=>?_)
     have H3:=H2.win Va
     rw[if_neg (by simp)]
     have b1:1<=min (dy.size-lo) (minRun' dy.size dy.size 0):=by clear key;lia
     have b2:lo+min (dy.size-lo) (minRun' dy.size dy.size 0)<=dy.size:=by clear key;lia
     clear Va
     generalize min (dy.size-lo) (minRun' dy.size dy.size 0)=nn at *
     revert nn uk
     exact key
    ·rw[if_neg z2]
     exact key _ H2 _ hu w4 (by lia)
   intro uk H3 nn QB b1 b2
   refine wpS_bind (wpS_get ?_)
   have push:∀ (ae:SortSt) (gy:List (Nat × Nat × Nat)),St r κ dy ae gy lo->Up r (arrOf ae) lo (lo+nn)->∃ ps D6,((none:Option Unit),lo+nn)=(none,D6)/\St r κ dy (setPending ae ((pendingOf ae).push (lo,nn,0))) ps D6/\D6<=dy.size/\x+1<=D6:=fun ae gy G u =>
    ⟨gy++[(lo,nn,0)],lo+nn,rfl,⟨G.kind,G.failed,G.perm,by show(pendingOf ae).push _=_;rw[G.pend];simp,Runs.append.mpr ⟨lo,G.runs,rfl,b1,u,rfl⟩⟩,b2,by lia⟩
   cases hb:(pendingOf uk).back? with
   |none =>
    dsimp only
    exact wpS_bind (wpS_modify (wpS_pure (push uk ps H3 QB)))
   |some t =>
    obtain⟨s1,n1,p1⟩:=t
    dsimp only
    generalize power' dy.size (2*s1+n1) (2*s1+n1+n1+nn) dy.size=pw
    refine wpS_bind (wpS_mono (wpS_forRange (I:=fun y c ae=>c=(none,())/\∃ gy,St r κ dy ae gy lo/\Up r (arrOf ae) lo (lo+nn))
     (Q:=fun c ae=>c=(none,())/\∃ gy,St r κ dy ae gy lo/\Up r (arrOf ae) lo (lo+nn)) ?_ (fun _ _ q=>q) ⟨rfl,ps,H3,QB⟩) ?_)
    ·rintro y c sT _ hy ⟨rfl,gy,H4,Lj⟩
     refine wpS_bind (wpS_get ?_)
     have ep:(pendingOf sT).size=gy.length:=by rw[H4.pend];simp
     by_cases z3:(pendingOf sT).size>1
     ·rw[if_pos z3]
      have e4:(pendingOf sT)[(pendingOf sT).size-2]? = some ((pendingOf sT)[(pendingOf sT).size-2]'(by lia)):=getElem?_pos _ _ (by lia)
      rw[e4]
      generalize (pendingOf sT)[(pendingOf sT).size-2]'(by lia)=tt
      obtain⟨t1,t2,aw'⟩:=tt
      dsimp only
      by_cases z4:aw'<=pw
      ·rw[if_pos z4]
       exact wpS_pure ⟨rfl,gy,H4,Lj⟩
      ·rw[if_neg z4]
       refine wpS_bind (jr C hP H4 h1 (by lia) fun DV ps5 H5 hlen _ kF=>?_)
       rw[if_neg (by simp)]
       exact wpS_pure ⟨rfl,ps5,H5,Lj.congr fun k hk _=>kF k hk⟩
     ·rw[if_neg z3]
      exact wpS_pure ⟨rfl,gy,H4,Lj⟩
    ·rintro c sT ⟨rfl,gy,H4,Lj⟩
     dsimp only
     refine wpS_bind (wpS_modify (wpS_bind (wpS_modify (wpS_pure ?_))))
     refine push _ (gy.modify (gy.length-1) fun x=>(x.1,x.2.1,pw)) ⟨H4.kind,H4.failed,H4.perm,?_,Runs.modify (f:=fun x=>(x.1,x.2.1,pw)) (fun _=>⟨rfl,rfl⟩) H4.runs⟩ Lj
     show(pendingOf sT).modify ((pendingOf sT).size-1) (fun x=>(x.1,x.2.1,pw))=_
     rw[H4.pend]
     simp
def cN (h:Heap) (a:Addr) (vs:List Value):Heap:=((h.update a (Obj.mapSeq fun _=>#[])).push (seqObj "tuple" vs.toArray 0)).push (seqObj "list" #[] 0)
theorem fD(hb:b≠a)(cS:b<h.objs.size):(cN h a vs).get? b=h.get? b:=by
 unfold cN
 rw[Fc _ _ _ (by rw[size_push',Fh];exact eP (sM cS)),
  Fc _ _ _ (by rw[Fh];exact eP cS),Heap.get?_update_ne _ _ _ _ hb]
theorem pO(hp:xs.Perm (pairsOf vs))(hs:Up r xs 0 vs.length):(xs.map (·.2)).toList.Perm vs/\(xs.map (·.2)).toList.Pairwise fun x y=>r x<=r y:=by
 have hl:xs.toList.Perm (vs.zip vs):=by rw[<- pairsOf_toList];exact O5.mp hp
 have Ln:∀ p,p∈xs.toList->p.1=p.2:=fun p iF=>(mem_zip_self (hl.mem_iff.mp iF)).1
 have e:(xs.map (·.2)).toList=xs.toList.map (·.1):=by
  rw[Array.toList_map];exact OO fun p iF=>(Ln p iF).symm
 have hsz:xs.size=vs.length:=by rw[hp.size_eq,pairsOf_size]
 rw[e]
 refine⟨?_,?_⟩
 ·have h1:=hl.map (·.1)
  rwa[Mv (bX _)] at h1
 ·rw[xD]
  intro i j hi hj fA
  have iA:i<xs.size:=by simpa using hi
  have qq:j<xs.size:=by simpa using hj
  have h1:=hs i j (dQ _) (kc fA) (by lia)
  rw[CJ iA,CJ qq] at h1
  simpa using h1
theorem eO {F:PySem.Fin->Shared->Prop} (ho:s.heap.get? a=some (seqObj "list" vs.toArray n)) (hsz:vs.length<=sizeLine) (hP:∀ v∈vs,P v)
  (hk:2<=vs.length->∀ (Q:SortKind->Shared->Prop),Q κ { s with heap:=cN s.heap a vs }->wpAny (model prog w) A (keyKind' vs.toArray) Q E { s with heap:=cN s.heap a vs })
  (C:2<=vs.length->kE prog w A { s with heap:=cN s.heap a vs } κ r P)
  (h:∀ out:Array Value,out.toList.Perm vs->(out.toList.Pairwise fun x y=>r x<=r y)->F (.done (.ret .none)) { s with heap:=sortedHeap s.heap a vs out }) :
  wpAny (model prog w) A (Builtin.«list.sort» ⟨[.ref a],[]⟩) F E s:=by
 rw[list_sort_plain]
 have ha:a<s.heap.objs.size:=dn ho
 refine ah (listItems_at ho rfl ?_)
 refine ah (listUpdate_at ho rfl ?_ (by simpa using hsz) (dQ _))
 obtain⟨e1,y8⟩:∃ e1,(s.heap.update a (Obj.mapSeq fun _=>#[])).get? a=some (seqObj "list" #[] e1):=⟨_,get?_update_seq ho (fun _=>#[])⟩
 refine ah (seqEpoch_at y8 rfl ?_)
 refine ah (wpAny_newTuple ?_ (by simpa using hsz))
 refine ah (wpAny_newList ?_ (dQ _))
 refine wpAny_holding ?_
 have NP:(cN s.heap a vs).get? a=some (seqObj "list" #[] e1):=by
  unfold cN
  rw[Fc _ _ _ (by rw[size_push',Fh];exact eP (sM ha)),Fc _ _ _ (by rw[Fh];exact eP ha)]
  exact y8
 show wpAny (model prog w) A _ F E { s with heap:=cN s.heap a vs }
 dsimp only
 have hvz:vs.toArray.size=vs.length:=by simp
 have fin:∀ ae:SortSt,(arrOf ae).Perm (pairsOf vs)->Up r (arrOf ae) 0 vs.length->F (.done (.ret .none)) { s with heap:=sortedHeap s.heap a vs ((arrOf ae).map (·.2)) }:=by
  intro ae hp hs
  obtain⟨h1,h2⟩:=pO hp hs
  exact h _ h1 h2
 by_cases h2:vs.toArray.size<2
 ·rw[if_pos h2,if_pos h2]
  refine ah (aE ?_)
  rw[StateT.run_pure]
  refine ah (aE ?_)
  dsimp only
  refine ah (seqEpoch_at NP rfl ?_)
  refine ah (listUpdate_at NP rfl ?_ (dQ _) (by rw[Array.size_map];show(pairsOf vs).size<=_;rw[pairsOf_size];lia))
  simp only[bne_self_eq_false,gL,if_false]
  refine aE (fin (SortSt.mk' general' (vs.toArray.zip vs.toArray) #[] 7 none) (Array.Perm.refl _) ?_)
  intro i j _ fA hj
  have:i=j:=by lia
  subst this;exact ua _
 ·rw[if_neg h2,if_neg h2]
  refine ah (hk (by lia) _ ?_)
  refine ah (oy (wpS_sortRuns (st:=SortSt.mk' κ (vs.toArray.zip vs.toArray) #[] 7 none)
   (Q:=fun _ ae=>(arrOf ae).Perm (pairsOf vs)/\failedOf ae=none/\Up r (arrOf ae) 0 vs.length)
   (C (by lia)) rfl (fun p hp=>?_) rfl rfl fun ae a1 a2 a3=>⟨a1,a2,?_⟩) ?_ fun _ _ e=>e)
  ·have iF:p∈(pairsOf vs).toList:=hp
   rw[pairsOf_toList] at iF
   exact hP _ (mem_zip_self iF).2
  ·have e:(arrOf (SortSt.mk' κ (vs.toArray.zip vs.toArray) #[] 7 none)).size=vs.length:=pairsOf_size vs
   rw[e] at a3
   exact a3
  ·rintro⟨⟨⟩,ae⟩ s' ⟨rfl,hp,hf,hs⟩
   dsimp only
   refine ah (seqEpoch_at NP rfl ?_)
   refine ah (listUpdate_at NP rfl ?_ (dQ _) (by refine hG (JA ((Array.size_map ..).trans (hp.size_eq.trans (pairsOf_size _)))) ?_;lia))
   rw[hf]
   simp only[bne_self_eq_false,gL,if_false]
   exact aE (fin ae hp hs)
def fH (h:Heap) (vs:List Value):Heap:=((h.push (seqObj "list" #[] 0)).update h.objs.size (Obj.mapSeq (· ++ vs.toArray))).push (seqObj "list" vs.toArray 0)
theorem ju(hb:h.get? b=some o):(cN (fH h vs) (h.objs.size+1) vs).get? b=some o:=by
 have cS:b<h.objs.size:=dn hb
 have e:(fH h vs).get? b=some o:=by
  unfold fH
  rw[Fc _ _ _ (by rw[Fh,size_push'];exact eP (sM cS)),Heap.get?_update_ne _ _ _ _ (eP cS),Fc _ _ _ (eP cS)]
  exact hb
 rw[fD (eP (sM cS)) (dn e)]
 exact e
theorem v_(hl:s.heap.IsList l vs.toArray)(hsz:vs.length<=sizeLine)(hP:∀ v∈vs,P v)
  (hk:2<=vs.length->∀ (A':Around) (E':Value->Shared->Prop) (s':Shared),(∀ b o,s.heap.get? b=some o->s'.heap.get? b=some o)->∀ (Q:SortKind->Shared->Prop),Q κ s'->wpAny (model prog w) A' (keyKind' vs.toArray) Q E' s')
  (C:2<=vs.length->∀ (s':Shared),(∀ b o,s.heap.get? b=some o->s'.heap.get? b=some o)->kE prog w A.in1.in1 s' κ r P)
  (h:∀ (h':Heap) (out:List Value) (n:Nat),out.Perm vs->(out.Pairwise fun x y=>r x<=r y)->(∀ b o,s.heap.get? b=some o->h'.get? b=some o)->h'.get? (s.heap.objs.size+1)=some (seqObj "list" out.toArray n)->Q (.ref (s.heap.objs.size+1)) { s with heap:=h' }) :
  wpAny (model prog w) A (call (.builtin "sorted") [.ref l]) Q E s:=by
 refine Calls.call_function_entry kind_sorted plain_sorted entry_sorted (args_sorted1 _) ?_
 unfold Builtin.«sorted»
 refine ah (m:=checkCount "sorted" 1 1 _) (aE ?_)
 refine ah (collect_list hl ?_ hsz)
 refine ah (wpAny_newList ?_ (by simpa using hsz))
 have Vb:((s.heap.push (seqObj "list" #[] 0)).update s.heap.objs.size (Obj.mapSeq (· ++ vs.toArray))).objs.size=s.heap.objs.size+1:=by
  rw[Fh,size_push']
 have ui:(fH s.heap vs).get? (s.heap.objs.size+1)=some (seqObj "list" vs.toArray 0):=by
  unfold fH
  rw[<- Vb];exact i6 _ rfl
 show wpAny _ _ _ _ _ { s with heap:=fH s.heap vs }
 rw[Vb]
 refine ah (wpAny_holding (wpAny_call_entry slot_list_sort ⟨_,ui,rfl⟩ entry_list_sort (eO (r:=r) (s:={ s with heap:=fH s.heap vs }) ui hsz hP
  (fun h2=>hk h2 _ _ _ fun b o e=>ju e) (fun h2=>?_) fun out a1 a2=>⟨_,rfl,?_⟩) (args_list_sort _)))
 ·exact C h2 _ fun b o e=>ju e
 ·obtain⟨n,e⟩:=sortedAll_at s.heap vs out
  refine aE ⟨_,rfl,h (sortedAll s.heap vs out) out.toList n a1 a2 (fun b o e=>sortedAll_old e) (by rw[MQ];exact e)⟩
end
end wt
namespace L2
open PySem PySem.Spec PyProof.Rows
def tj:Key->Key->Bool
 |.inl i,.inl j=>decide (i<j)
 |.inr x,.inr y=>og x y
 |_,_=>false
def fh:List Key->List Key->Bool
 |a :: as,b :: bs=>if a=b then fh as bs else tj a b
 |_,_=>false
def y9:Key->Bool
 |.inl _=>true
 |.inr _=>false
def gE(k:List Key):List Bool:=k.map y9
theorem uK(x:Str):og x x=false:=by unfold og;simp[List.lt_irrefl]
theorem y_(h:og x y=true)(g:og y z=true):og x z=true:=by
 unfold og at *
 simp only[decide_eq_true_eq] at *
 exact List.lt_trans h g
theorem vp{x y:Str}(h:x.cps.toList=y.cps.toList):x=y:=by
 cases x;cases y
 simp only at h
 rw[MR.mp h]
theorem vm{x y:Str}(h:og x y=false)(g:og y x=false):x=y:=by
 unfold og at *
 simp only[decide_eq_false_iff_not] at *
 apply vp
 exact List.le_antisymm (List.not_lt.mp g) (List.not_lt.mp h)
theorem Bb(a:Key):tj a a=false:=by cases a with|inl i=>simp[tj]|inr x=>exact uK x
theorem Fo(h:tj a b=true)(g:tj b c=true):tj a c=true:=by
 cases a<;>cases b<;>cases c<;>simp only[tj,decide_eq_true_eq] at *<;>first|lia|contradiction|exact y_ h g
theorem Bu(e:y9 a=y9 b)(h:tj a b=false)(g:tj b a=false):a=b:=by
 cases a<;>cases b<;>simp only[tj,y9,decide_eq_false_iff_not] at *
 ·congr 1;lia
 ·cases e
 ·cases e
 ·congr 1;exact vm h g
theorem lB:∀ a:List Key,fh a a=false
 |[]=>rfl
 |a :: as=>by unfold fh;rw[if_pos rfl];exact lB as
theorem n8:∀ {a b c:List Key},fh a b=true->fh b c=true->fh a c=true
 |[],_,_,h,_=>by simp[fh] at h
 |_ :: _,[],_,h,_=>by simp[fh] at h
 |_ :: _,_ :: _,[],_,g=>by simp[fh] at g
 |a :: as,b :: bs,c :: cs,h,g=>by
  unfold fh at h g ⊢
  by_cases e1:a=b
  ·subst e1
   rw[if_pos rfl] at h
   by_cases e2:a=c
   ·subst e2
    rw[if_pos rfl] at g ⊢
    exact n8 h g
   ·rw[if_neg e2] at g ⊢
    exact g
  ·rw[if_neg e1] at h
   by_cases e2:b=c
   ·subst e2
    rw[if_neg e1]
    exact h
   ·rw[if_neg e2] at g
    have t:=Fo h g
    have ne:a≠c:=fun e=>by subst e;rw[Bb] at t;cases t
    rw[if_neg ne]
    exact t
theorem jj:∀ {a b:List Key},gE a=gE b->fh a b=false->fh b a=false->a=b
 |[],[],_,_,_=>rfl
 |[],_ :: _,e,_,_=>by simp[gE] at e
 |_ :: _,[],e,_,_=>by simp[gE] at e
 |a :: as,b :: bs,e,h,g=>by
  simp only[gE,fm,List.cons.injEq] at e
  unfold fh at h g
  by_cases e1:a=b
  ·subst e1
   rw[if_pos rfl] at h g
   rw[jj (show gE as=gE bs from e.2) h g]
  ·rw[if_neg e1] at h
   rw[if_neg (Ne.symm e1)] at g
   exact absurd (Bu e.1 h g) e1
theorem count_le(p q:α->Bool):∀ (l:List α),(∀ x∈l,p x=true->q x=true)->l.countP p<=l.countP q
 |[],_=>bX _
 |x :: l,h=>by
  have ih:=count_le p q l fun y hy=>h y (b9 _ hy)
  have h1:=h x cc
  rw[Mw,Mw]
  cases hp:p x<;>cases hq:q x<;>simp_all<;>lia
theorem lg(p q:α->Bool)(a:α)(ha:p a=false)(hb:q a=true):∀ (l:List α),a∈l->(∀ x∈l,p x=true->q x=true)->l.countP p<l.countP q
 |[],m,_=>by cases m
 |x :: l,m,h=>by
  rw[Mw,Mw]
  rcases cK.mp m with rfl|m
  ·have:=count_le p q l fun y hy=>h y (b9 _ hy)
   rw[ha,hb];simp;lia
  ·have ih:=lg p q a ha hb l m fun y hy=>h y (b9 _ hy)
   have h1:=h x cc
   cases hp:p x<;>cases hq:q x<;>simp_all<;>lia
def GV(L:List (List Key))(k:List Key):Int:=(L.countP fun j=>fh j k:Nat)
theorem tQ(e:gE a=gE b)(ma:a∈L):decide (GV L a<GV L b)=fh a b:=by
 unfold GV
 cases h:fh a b with
 |true =>
  have:=lg (fun j=>fh j a) (fun j=>fh j b) a (lB a) h L ma fun x _ hx=>n8 hx h
  exact decide_eq_true (by lia)
 |false =>
  apply decide_eq_false
  cases g:fh b a with
  |false=>rw[jj e h g];lia
  |true =>
   have:=count_le (fun j=>fh j b) (fun j=>fh j a) L fun x _ hx=>n8 hx g
   lia
def QC:V->Option Key
 |.int i=>some (.inl i)
 |.str x=>some (.inr x)
 |_=>none
theorem Hg(k:Key):QC (kV k)=some k:=by cases k<;>rfl
theorem yX:∀ k:List Key,(k.map kV).filterMap QC=k
 |[]=>rfl
 |a :: as=>by rw[fm,xE,Hg,yX as]
def jU(H:Hp):Value->List Key
 |.ref b=>match H b with
  |some (.tup xs)=>xs.filterMap QC
  |_=>[]
 |_=>[]
theorem cg(h:H b=some (.tup (k.map kV))):jU H (.ref b)=k:=by
 simp only[jU,h];exact yX k
section
variable {prog:Program}{w:World}{A:Around}{E:Value->Shared->Prop}{s:Shared}{Q:Bool->Shared->Prop}
theorem Fi(ru:RelV (kV a) u)(rv:RelV (kV b) v)(e:y9 a=y9 b)(q:Q (tj a b) s):wpAny (model prog w) A (oneLt' false u v) Q E s:=by
 refine PySem.W.kat_one u v ?_
 cases a with
 |inl i =>
  cases b with
  |inr x=>cases e
  |inl j =>
   obtain⟨t,rfl⟩:=ru
   obtain⟨t',rfl⟩:=rv
   exact lt_int q
 |inr x =>
  cases b with
  |inl j=>cases e
  |inr y =>
   obtain⟨t,rfl⟩:=ru
   obtain⟨t',rfl⟩:=rv
   exact PySem.P.lt_str q
theorem C_(ru:RelV (kV a) u)(rv:RelV (kV b) v)(e:y9 a=y9 b)(q:Q (decide (a=b)) s):wpAny (model prog w) A (eqBool u v) Q E s:=by
 cases a with
 |inl i =>
  cases b with
  |inr x=>cases e
  |inl j =>
   obtain⟨t,rfl⟩:=ru
   obtain⟨t',rfl⟩:=rv
   refine wpAny_eqBool_int ?_
   rw[<- S4];exact q
 |inr x =>
  cases b with
  |inl j=>cases e
  |inr y =>
   obtain⟨t,rfl⟩:=ru
   obtain⟨t',rfl⟩:=rv
   refine wpAny_eqBool_str ?_
   rw[<- S5];exact q
theorem yr(k m:List Key)(us vs:List Value)(i:Nat)(ha:Vals (k.map kV) us)(hb:Vals (m.map kV) vs)(e:gE k=gE m)(hf:fin=false)(q:Q (fh k m) s) :
  PySem.W.KatLex prog w A true fin Q (us.zip vs) i s:=by
 induction k generalizing m us vs i with
 |nil =>
  cases m with
  |cons b m=>simp[gE] at e
  |nil =>
   rw[Paired.n0 ha,Paired.n0 hb]
   subst hf
   exact PySem.W.kat_nil q
 |cons a k ih =>
  cases m with
  |nil=>simp[gE] at e
  |cons b m =>
   obtain⟨u,us,rfl,ra,rk⟩:=Paired.c ha
   obtain⟨v,vs,rfl,rb,rm⟩:=Paired.c hb
   simp only[gE,fm,List.cons.injEq] at e
   rw[zv]
   refine PySem.W.kat_cons (C_ ra rb e.1 (PySem.W.kat_go (fun h=>PySem.W.kat_yes ?_) (fun h=>PySem.W.kat_no ?_)))
   ·have h:=of_decide_eq_true h
    subst h
    unfold fh at q
    rw[if_pos rfl] at q
    exact ih m _ _ (i+1) rk rm e.2 q
   ·have h:=of_decide_eq_false h
    unfold fh at q
    rw[if_neg h] at q
    by_cases h0:i=0
    ·subst h0
     cases a with
     |inr x =>
      cases b with
      |inl j=>cases e.1
      |inr y =>
       obtain⟨t,rfl⟩:=ra
       obtain⟨t',rfl⟩:=rb
       exact oneLt_str q
     |inl i =>
      cases b with
      |inr x=>cases e.1
      |inl j =>
       obtain⟨t,rfl⟩:=ra
       obtain⟨t',rfl⟩:=rb
       exact oneLt_int q
    ·rw[show(true && i == 0)=false by simp[h0]]
     exact Fi ra rb e.1 q
end
section
variable {X:Cx}{pins:List (Addr × Obj)}{σ:St}{H:Hp}{s:Shared}
theorem Inv.tup(I:Inv X pins σ H s)(h:H b=some (.tup xs)):∃ its:List Value,Vals xs its/\IsTup s.heap b its.toArray:=(I.bp b _ h).2
theorem qH(I:Inv X pins σ H s)(kp:∀ b o,s.heap.get? b=some o->s'.heap.get? b=some o) :
  wt.kE X.prog X.w A s' (tuples' true) (fun v=>GV L (jU H v)) (fun v=>∃ b k,v=.ref b/\H b=some (.tup (k.map kV))/\gE k=b0 :: sh/\k∈L):=by
 rintro x y ⟨b,k,rfl,hb,hk,mk⟩ ⟨c,m,rfl,hc,hm,mm⟩ Q E q
 obtain⟨us,ru,o,e1,c1,n1,d1⟩:=I.tup hb
 obtain⟨vs,rv,o',e2,c2,n2,d2⟩:=I.tup hc
 have QD:gE k=gE m:=hk.trans hm.symm
 simp only[cg hb,cg hc] at q
 rw[tQ QD mk] at q
 refine PySem.W.kat_lt (kp _ _ e1) d1 (kp _ _ e2) d2 (yr k m us vs 0 ru rv QD ?_ q)
 ·have h1:=ru.length
  have h2:=rv.length
  have h3:k.length=m.length:=by
   have:=congrArg List.length QD
   simpa[gE] using this
  simp only[dc] at h1 h2
  exact decide_eq_false (by simp only[i9];lia)
theorem kat_tups(I:Inv X pins σ H s){s':Shared}(kp:∀ b o,s.heap.get? b=some o->s'.heap.get? b=some o){b0:Bool}{sh:List Bool}{ys:List V}{ks:List (List Key)}{vs:List Value}(ht:cu H ys ks)(hv:Vals ys vs)(hs:∀ k∈ks,gE k=b0 :: sh) :
  ∃ fs:List Value,PySem.W.KatTups s'.heap vs fs/\fs.length=vs.length/\∀ f∈fs,(b0=true->∃ i t,f=Value.int i t)/\(b0=false->∃ x t,f=Value.str x t):=by
 induction ys generalizing ks vs with
 |nil =>
  rw[Paired.n0 hv]
  exact⟨[],.nil,rfl,by simp⟩
 |cons y ys ih =>
  obtain⟨k,ks,rfl,⟨b,rfl,hb⟩,t⟩:=Paired.c ht
  obtain⟨v,vs,rfl,rfl,rs⟩:=Paired.c hv
  obtain⟨fs,f1,f2,f3⟩:=ih t rs fun j hj=>hs j (b9 _ hj)
  have hk:=hs k cc
  obtain⟨us,ru,o,e1,c1,n1,d1⟩:=I.tup hb
  cases k with
  |nil=>simp[gE] at hk
  |cons a k =>
   obtain⟨u,us,rfl,ra,rr⟩:=Paired.c ru
   simp only[gE,fm,List.cons.injEq] at hk
   refine⟨u :: fs,.cons (kp _ _ e1) c1 d1 rfl f1,by simp[f2],fun f hf=>?_⟩
   rcases cK.mp hf with rfl|hf
   ·cases a with
    |inr x =>
     obtain⟨tk,rfl⟩:=ra
     exact⟨(fun z=>by rw[<- hk.1] at z;cases z),fun _=>⟨_,_,rfl⟩⟩
    |inl i =>
     obtain⟨tk,rfl⟩:=ra
     exact⟨fun _=>⟨_,_,rfl⟩,fun z=>by rw[<- hk.1] at z;cases z⟩
   ·exact f3 f hf
end
theorem cu.keys(h:cu H ys ks)(hv:Vals ys vs):vs.map (jU H)=ks/\∀ v∈vs,∃ b k,v=.ref b/\H b=some (.tup (k.map kV))/\k∈ks:=by
 induction ys generalizing ks vs with
 |nil=>rw[Paired.n0 hv,show ks=[] from Paired.n0 h];exact⟨rfl,by simp⟩
 |cons y ys ih =>
  obtain⟨k,ks,rfl,⟨b,rfl,g⟩,t⟩:=Paired.c h
  obtain⟨v,vs,rfl,rfl,rs⟩:=Paired.c hv
  obtain⟨e,m⟩:=ih t rs
  refine⟨by rw[fm,cg g,e],fun v hv=>?_⟩
  rcases cK.mp hv with rfl|hv
  ·exact⟨b,k,rfl,g,cc⟩
  ·obtain⟨b',k',e1,e2,e3⟩:=m v hv
   exact⟨b',k',e1,e2,b9 _ e3⟩
theorem cu.of{H:Hp}{ks:List (List Key)}(vs:List Value)(h:∀ v∈vs,∃ b k,v=Value.ref b/\H b=some (.tup (k.map kV))/\k∈ks):∃ zs,cu H zs (vs.map (jU H))/\Vals zs vs:=by
 induction vs with
 |nil=>exact⟨[],.nil,.nil⟩
 |cons v vs ih =>
  obtain⟨zs,a,c⟩:=ih fun u hu=>h u (b9 _ hu)
  obtain⟨b,k,rfl,e,_⟩:=h v cc
  exact⟨.ref b :: zs,.cons ⟨b,rfl,by rw[cg e];exact e⟩ a,.cons rfl c⟩
end L2
namespace wt
open PySem PyProof.Rows
section
variable {prog:Program}{w:World}{A:Around}{E:Value->Shared->Prop}{s:Shared}{κ:SortKind}{r:Value->Int}{P:Value->Prop}
theorem m5{T:String}{r d:Addr}{n:Nat}{P:Nat->Value->Prop}{OK:Heap->Prop}{R:Result->Shared->Prop}(K:PySem.W.KdlSrc prog w T r d n P OK)(hh:A.handled=none)(bp:OK s.heap)(hn:n<=sizeLine)
  (hR:∀ h' tk acc c,(∀ b o,s.heap.get? b=some o->h'.get? b=some o)->h'.get? s.heap.objs.size=some { cls:=.type "list",data:=.seq acc c }->ItemsOf P acc n->R (.ok (.ret (.ref s.heap.objs.size))) { s with heap:=h',toks:=tk }) :
  codeAny (model prog w) A (.builtin "proto.collect" ⟨[.ref r],[]⟩) R s:=by
 have Vc:=K.there _ bp
 have hS:(s.heap.push { cls:=.type "list",data:=.seq ([]:List Value).toArray }).get? s.heap.objs.size=some { cls:=.type "list",data:=.seq ([]:List Value).toArray }:=i6 _ rfl
 refine codeAny_builtin F.entry_proto_collect ?_
 rw[Around.under_plainId F.plain_proto_collect _]
 show wpAny _ A.in1 (newList [] >>= fun l=>again (.builtin "list.__iadd__" ⟨[l,.ref r],[]⟩)) _ _ s
 refine ah (wpAny_newObj_type ?_)
 refine aE ⟨plainId_quiet F.plain_list_iadd _,codeAny_builtin F.entry_list_iadd ?_⟩
 rw[Around.under_plainId F.plain_list_iadd _]
 show wpAny _ A.in1 (Builtin.List.listExtendWith (.ref s.heap.objs.size) (.ref r) (.ref s.heap.objs.size)) _ _ _
 exact PySem.W.kdl_extend (R:=R) (s:={ s with heap:=s.heap.push { cls:=.type "list",data:=.seq ([]:List Value).toArray } }) K hh (K.keep _ _ bp fun b _ o e=>eS _ e) s.heap.objs.size (Jn Vc.1) (Jn Vc.2) _ 0 hS
  (fun h' tk xa c' kp eo ia=>hR h' tk xa c' (fun b o e=>kp b o (eP (dn e)) (eS _ e)) eo ia) hn
theorem pY{T:String}{r d:Addr}{n:Nat}{P:Nat->Value->Prop}{OK:Heap->Prop}{Q:List Value->Shared->Prop}(K:PySem.W.KdlSrc prog w T r d n P OK)(hh:A.handled=none)(bp:OK s.heap)(hn:n<=sizeLine)
  (hQ:∀ h' tk acc,(∀ b o,s.heap.get? b=some o->h'.get? b=some o)->s.heap.objs.size<=h'.objs.size->ItemsOf P acc n->Q acc.toList { s with heap:=h',toks:=tk }):wpAny (model prog w) A (collect (.ref r)) Q E s:=by
 unfold collect
 refine ah (wpAny_runValue (m5 K hh bp hn fun h' tk acc c kp eo ia=>?_))
 show wpAny _ A (load s.heap.objs.size >>= _) _ _ { s with heap:=h',toks:=tk }
 refine ah (wpAny_load eo ?_)
 exact aE (hQ h' tk acc kp (kc (dn eo)) ia)
theorem sI{R:List Value->Prop}
  (QF:∀ (A':Around) (E':Value->Shared->Prop) (Q':List Value->Shared->Prop),A'.handled=A.handled->(∀ vs h1 tk,R vs->(∀ b o,s.heap.get? b=some o->h1.get? b=some o)->s.heap.objs.size<=h1.objs.size->Q' vs { s with heap:=h1,toks:=tk })->wpAny (model prog w) A' (collect v) Q' E' s)
  (hsz:∀ vs,R vs->vs.length<=sizeLine) (hP:∀ vs,R vs->∀ v∈vs,P v)
  (hk:∀ vs,R vs->2<=vs.length->∀ (A':Around) (E':Value->Shared->Prop) (s':Shared),(∀ b o,s.heap.get? b=some o->s'.heap.get? b=some o)->∀ (Q:SortKind->Shared->Prop),Q κ s'->wpAny (model prog w) A' (keyKind' vs.toArray) Q E' s')
  (C:∀ (s':Shared),(∀ b o,s.heap.get? b=some o->s'.heap.get? b=some o)->kE prog w A.in1.in1 s' κ r P)
  (h:∀ (vs:List Value) (h':Heap) (a:Addr) (out:List Value) (n tk:Nat),R vs->out.Perm vs->(out.Pairwise fun x y=>r x<=r y)->(∀ b o,s.heap.get? b=some o->h'.get? b=some o)->s.heap.objs.size<=a->h'.get? a=some (seqObj "list" out.toArray n)->Q (.ref a) { s with heap:=h',toks:=tk }) :
  wpAny (model prog w) A (call (.builtin "sorted") [v]) Q E s:=by
 refine Calls.call_function_entry kind_sorted plain_sorted entry_sorted (args_sorted1 _) ?_
 unfold Builtin.«sorted»
 refine ah (m:=checkCount "sorted" 1 1 _) (aE ?_)
 refine ah (QF _ _ _ rfl fun vs h1 tk hR kp hz=>?_)
 have zh:=hsz vs hR
 refine ah (wpAny_newList ?_ (by simpa using zh))
 have ui:(h1.push (seqObj "list" vs.toArray 0)).get? h1.objs.size=some (seqObj "list" vs.toArray 0):=i6 _ rfl
 have old:∀ b o,s.heap.get? b=some o->(cN (h1.push (seqObj "list" vs.toArray 0)) h1.objs.size vs).get? b=some o:=fun b o e=>by
  have cS:b<h1.objs.size:=dn (kp b o e)
  rw[fD (eP cS) (by rw[size_push'];exact sM cS)]
  exact eS _ (kp b o e)
 show wpAny _ _ _ _ _ { s with heap:=h1.push (seqObj "list" vs.toArray 0),toks:=tk }
 refine ah (wpAny_holding (wpAny_call_entry slot_list_sort ⟨_,ui,rfl⟩ entry_list_sort (eO (r:=r) (s:={ s with heap:=h1.push (seqObj "list" vs.toArray 0),toks:=tk }) ui zh (hP vs hR)
  (fun h2=>hk vs hR h2 _ _ _ old) (fun h2=>C _ old) fun out a1 a2=>⟨_,rfl,?_⟩) (args_list_sort _)))
 obtain⟨n,e⟩:=sortedHeap_at (out:=out) ui
 refine aE ⟨_,rfl,h vs _ h1.objs.size out.toList n tk hR a1 a2 (fun b o e=>?_) hz (by rw[MQ];exact e)⟩
 have cS:b<h1.objs.size:=dn (kp b o e)
 rw[sortedHeap_old (eP cS) (by rw[size_push'];exact sM cS)]
 exact eS _ (kp b o e)
end
end wt
namespace L2
open PySem PySem.Spec PyProof.Rows
end L2
namespace L2.Q
open PySem PySem.Spec PyProof.Rows
inductive D where
 |non|bl (b:Bool)|int (i:Int)|str (x:Str)
 |list (xs:List D)|tup (xs:List D)|dK (kvs:List (Key × D))|dT (kvs:List (List Key × D))
mutual
/-- nothing in it can be changed -/
def D.flat:D->Bool
 |.list _=>false
 |.dK _=>false
 |.dT _=>false
 |.tup xs=>cf xs
 |_=>true
def cf:List D->Bool
 |[]=>true
 |x :: xs=>x.flat && cf xs
end
theorem ji:∀ {xs:List D},cf xs=true↔∀ x∈xs,x.flat=true
 |[]=>by simp[cf]
 |x :: xs=>by simp[cf,ji (xs:=xs)]
theorem eE:cf (xs++ys)=(cf xs && cf ys):=by
 induction xs with
 |nil=>simp[cf]
 |cons x xs ih=>simp[cf,ih,Bool.and_assoc]
def xh:Key->Bool
 |.inl _=>true
 |.inr x=>decide (x.length<=sizeLine)
def NQ(kvs:List (Key × D)):Prop:=kvs.length<=sizeLine/\∀ p∈kvs,xh p.1=true
def NR(kvs:List (List Key × D)):Prop:=kvs.length<=sizeLine/\∀ p∈kvs,p.1.length<=sizeLine/\∀ k∈p.1,xh k=true
mutual
inductive Rep(K:PySem.W.Frag)(H:Hp):D->V->Prop
 |non:Rep K H .non .non
 |bl (b:Bool):Rep K H (.bl b) (.bl b)
 |int (i:Int):Rep K H (.int i) (.int i)
 |str {x:Str}:x.length<=sizeLine->Rep K H (.str x) (.str x)
 |list {a:Addr} {vs:List V} {ds:List D}:vs.length<=sizeLine->eh K H a vs->ay K H ds vs->Rep K H (.list ds) (.ref a)
 |tup {a:Addr} {vs:List V} {ds:List D}:vs.length<=sizeLine->H a=some (.tup vs)->ay K H ds vs->Rep K H (.tup ds) (.ref a)
 |dK {a:Addr} {vs:List V} {kvs:List (Key × D)}:NQ kvs->Rd H a (.dK ((kvs.map (·.1)).zip vs))->ay K H (kvs.map (·.2)) vs->Rep K H (.dK kvs) (.ref a)
 |dT {a:Addr} {vs:List V} {kvs:List (List Key × D)}:NR kvs->Rd H a (.dT ((kvs.map (·.1)).zip vs))->ay K H (kvs.map (·.2)) vs->Rep K H (.dT kvs) (.ref a)
inductive ay(K:PySem.W.Frag)(H:Hp):List D->List V->Prop
 |nil:ay K H [] []
 |cons {d:D} {v:V} {ds:List D} {vs:List V}:Rep K H d v->ay K H ds vs->ay K H (d :: ds) (v :: vs)
end
theorem Rep.ind{K:PySem.W.Frag}{H:Hp}{m1:D->V->Prop}{m2:List D->List V->Prop}(h0:m1 .non .non)(hb:∀ b,m1 (.bl b) (.bl b))(hi:∀ i,m1 (.int i) (.int i))(hs:∀ x,x.length<=sizeLine->m1 (.str x) (.str x))
  (hl:∀ a vs ds,vs.length<=sizeLine->eh K H a vs->ay K H ds vs->m2 ds vs->m1 (.list ds) (.ref a)) (ht:∀ a vs ds,vs.length<=sizeLine->H a=some (.tup vs)->ay K H ds vs->m2 ds vs->m1 (.tup ds) (.ref a))
  (hk:∀ a vs kvs,NQ kvs->Rd H a (.dK ((kvs.map (·.1)).zip vs))->ay K H (kvs.map (·.2)) vs->m2 (kvs.map (·.2)) vs->m1 (.dK kvs) (.ref a)) (hT:∀ a vs kvs,NR kvs->Rd H a (.dT ((kvs.map (·.1)).zip vs))->ay K H (kvs.map (·.2)) vs->m2 (kvs.map (·.2)) vs->m1 (.dT kvs) (.ref a))
  (hn:m2 [] []) (hc:∀ d v ds vs,Rep K H d v->ay K H ds vs->m1 d v->m2 ds vs->m2 (d :: ds) (v :: vs)):(∀ {d v},Rep K H d v->m1 d v)/\∀ {ds vs},ay K H ds vs->m2 ds vs :=
 ⟨fun r=>Rep.rec (motive_1:=fun d v _=>m1 d v) (motive_2:=fun ds vs _=>m2 ds vs) h0 hb hi (fun h=>hs _ h) (fun z s r ih=>hl _ _ _ z s r ih) (fun z s r ih=>ht _ _ _ z s r ih) (fun z s r ih=>hk _ _ _ z s r ih) (fun z s r ih=>hT _ _ _ z s r ih) hn (fun r s a b=>hc _ _ _ _ r s a b) r,
  fun r=>ay.rec (motive_1:=fun d v _=>m1 d v) (motive_2:=fun ds vs _=>m2 ds vs) h0 hb hi (fun h=>hs _ h) (fun z s r ih=>hl _ _ _ z s r ih) (fun z s r ih=>ht _ _ _ z s r ih) (fun z s r ih=>hk _ _ _ z s r ih) (fun z s r ih=>hT _ _ _ z s r ih) hn (fun r s a b=>hc _ _ _ _ r s a b) r⟩
theorem qk.k'(e:Rd H a (.dK kvs)):qk H a (kV k) (oI kvs k):=.inl ⟨kvs,k,e,rfl,rfl⟩
theorem qk.t'(e:Rd H a (.dT kvs))(eb:H b=some (.tup (k.map kV))):qk H a (.ref b) (oI kvs k):=.inr ⟨kvs,k,b,e,rfl,eb,rfl⟩
theorem ax.rd(s:ax H H')(h:Rd H a u):Rd H' a u:=h.imp (s _ _) fun⟨o,e⟩=>⟨o,s _ _ e⟩
theorem Rep.Eo{K:PySem.W.Frag}(s:ax H H'):(∀ {d:D} {v:V},Rep K H d v->Rep K H' d v)/\∀ {ds:List D} {vs:List V},ay K H ds vs->ay K H' ds vs :=
 Rep.ind .non .bl .int (fun _ h=>.str h) (fun _ _ _ z h _ ih=>.list z (s.lst h) ih) (fun _ _ _ z h _ ih=>.tup z (s _ _ h) ih) (fun _ _ _ kk h _ ih=>.dK kk (ax.rd s h) ih) (fun _ _ _ kk h _ ih=>.dT kk (ax.rd s h) ih) .nil fun _ _ _ _ _ _ a b=>.cons a b
theorem Rep.same{K:PySem.W.Frag}(s:ax H H')(r:Rep K H d v):Rep K H' d v:=(Rep.Eo s).1 r
theorem ay.same{K:PySem.W.Frag}(s:ax H H')(r:ay K H ds vs):ay K H' ds vs:=(Rep.Eo s).2 r
theorem ay.ind{K:PySem.W.Frag}{H:Hp}{m:List D->List V->Prop}(hn:m [] [])(hc:∀ d v ds vs,Rep K H d v->ay K H ds vs->m ds vs->m (d :: ds) (v :: vs)):∀ {ds vs},ay K H ds vs->m ds vs :=
 fun r=>(Rep.ind (m1:=fun _ _=>True) (m2:=m) trivial (fun _=>trivial) (fun _=>trivial) (fun _ _=>trivial) (fun _ _ _ _ _ _ _=>trivial) (fun _ _ _ _ _ _ _=>trivial) (fun _ _ _ _ _ _ _=>trivial) (fun _ _ _ _ _ _ _=>trivial) hn fun d v ds vs r s _ b=>hc d v ds vs r s b).2 r
theorem ay.length{K:PySem.W.Frag}(r:ay K H ds vs):ds.length=vs.length :=
 ay.ind (m:=fun ds vs=>ds.length=vs.length) rfl (fun _ _ _ _ _ _ ih=>by rw[qc,qc,ih]) r
theorem ay.append{K:PySem.W.Frag}(r:ay K H ds vs)(t:ay K H es ws):ay K H (ds++es) (vs++ws) :=
 ay.ind (m:=fun ds vs=>ay K H (ds++es) (vs++ws)) t (fun _ _ _ _ h _ ih=>.cons h ih) r
theorem ay.get{K:PySem.W.Frag}{H:Hp}{ds:List D}{vs:List V}{i:Nat}{d:D}(r:ay K H ds vs)(e:ds[i]? = some d):∃ v,vs[i]? = some v/\Rep K H d v :=
 ay.ind (m:=fun ds vs=>∀ i d,ds[i]? = some d->∃ v,vs[i]? = some v/\Rep K H d v) (fun i d e=>by simp at e) (fun _ _ _ _ h _ ih i d e=>by
  cases i with
  |zero=>simp at e;subst e;exact⟨_,rfl,h⟩
  |succ i =>
   obtain⟨v,e1,r⟩:=ih i d (by simpa using e)
   exact⟨v,by simpa using e1,r⟩) r i d e
theorem ay.Vd{K:PySem.W.Frag}{H:Hp}{ds:List D}{vs:List V}{i:Nat}{v:V}(r:ay K H ds vs)(e:vs[i]? = some v):∃ d,ds[i]? = some d/\Rep K H d v :=
 ay.ind (m:=fun ds vs=>∀ i v,vs[i]? = some v->∃ d,ds[i]? = some d/\Rep K H d v) (fun i d e=>by simp at e) (fun _ _ _ _ h _ ih i d e=>by
  cases i with
  |zero=>simp at e;subst e;exact⟨_,rfl,h⟩
  |succ i =>
   obtain⟨v,e1,r⟩:=ih i d (by simpa using e)
   exact⟨v,by simpa using e1,r⟩) r i v e
theorem ay.drop{K:PySem.W.Frag}(n:Nat)(r:ay K H ds vs):ay K H (ds.drop n) (vs.drop n) :=
 ay.ind (m:=fun ds vs=>∀ n,ay K H (ds.drop n) (vs.drop n)) (fun n=>by rw[List.drop_nil,List.drop_nil];exact .nil) (fun _ _ _ _ h hs ih n=>by
  cases n with
  |zero=>exact .cons h hs
  |succ n=>exact ih n) r n
theorem ay.n0{K:PySem.W.Frag}(h:ay K H [] vs):vs=[]:=by cases h;rfl
theorem ay.c{K:PySem.W.Frag}(h:ay K H (d :: ds) vs):∃ u us,vs=u :: us/\Rep K H d u/\ay K H ds us:=by
 cases h with
 |cons r rs=>exact⟨_,_,rfl,r,rs⟩
theorem ay.take{K:PySem.W.Frag}(n:Nat)(r:ay K H ds vs):ay K H (ds.take n) (vs.take n) :=
 ay.ind (m:=fun ds vs=>∀ n,ay K H (ds.take n) (vs.take n)) (fun n=>by rw[List.take_nil,List.take_nil];exact .nil) (fun _ _ _ _ h hs ih n=>by
  cases n with
  |zero=>exact .nil
  |succ n=>exact .cons h (ih n)) r n
mutual
/-- what is owned: a tree whose lists and eQ' stand at As,eR' eS';its leaves shared (fl: and flat) -/
inductive bE(K:PySem.W.Frag)(Hs H:Hp)(fl:Bool):D->V->List Addr->Prop
 |sh {d:D} {v:V}:(fl=true->d.flat=true)->Rep K Hs d v->bE K Hs H fl d v []
 |list {a:Addr} {vs:List V} {ds:List D} {As:List Addr}:vs.length<=sizeLine->H a=some (.lst vs)->aD K Hs H fl ds vs As->bE K Hs H fl (.list ds) (.ref a) (a :: As)
 |tup {a:Addr} {vs:List V} {ds:List D} {As:List Addr}:vs.length<=sizeLine->Hs a=some (.tup vs)->cf ds=false->aD K Hs H fl ds vs As->bE K Hs H fl (.tup ds) (.ref a) As
 |dK {a:Addr} {vs:List V} {kvs:List (Key × D)} {As:List Addr}:NQ kvs->H a=some (.dK ((kvs.map (·.1)).zip vs))->aD K Hs H fl (kvs.map (·.2)) vs As->bE K Hs H fl (.dK kvs) (.ref a) (a :: As)
 |dT {a:Addr} {vs:List V} {kvs:List (List Key × D)} {As:List Addr}:NR kvs->H a=some (.dT ((kvs.map (·.1)).zip vs))->aD K Hs H fl (kvs.map (·.2)) vs As->bE K Hs H fl (.dT kvs) (.ref a) (a :: As)
inductive aD(K:PySem.W.Frag)(Hs H:Hp)(fl:Bool):List D->List V->List Addr->Prop
 |nil:aD K Hs H fl [] [] []
 |cons {d:D} {v:V} {ds:List D} {vs:List V} {As Bs:List Addr}:bE K Hs H fl d v As->aD K Hs H fl ds vs Bs->aD K Hs H fl (d :: ds) (v :: vs) (As++Bs)
end
def Own(H:Hp)(a:Addr):Prop:=(∃ vs,H a=some (.lst vs))\/(∃ kvs,H a=some (.dK kvs))\/∃ kvs,H a=some (.dT kvs)
section
variable {K:PySem.W.Frag}{Hs av H H':Hp}{fl:Bool}
theorem Own.ne(h:Own H a):H a≠none:=by
 rcases h with⟨_,e⟩|⟨_,e⟩|⟨_,e⟩<;>rw[e]<;>exact fun z=>nomatch z
theorem Own.yW(h:Own H a):H a≠some (.tup vs):=by
 rcases h with⟨_,e⟩|⟨_,e⟩|⟨_,e⟩<;>rw[e]<;>exact fun z=>nomatch z
theorem bE.ind{m1:D->V->List Addr->Prop}{m2:List D->List V->List Addr->Prop}(hs:∀ d v,(fl=true->d.flat=true)->Rep K Hs d v->m1 d v [])
  (hl:∀ a vs ds As,vs.length<=sizeLine->H a=some (.lst vs)->aD K Hs H fl ds vs As->m2 ds vs As->m1 (.list ds) (.ref a) (a :: As)) (ht:∀ a vs ds As,vs.length<=sizeLine->Hs a=some (.tup vs)->cf ds=false->aD K Hs H fl ds vs As->m2 ds vs As->m1 (.tup ds) (.ref a) As)
  (hk:∀ a vs kvs As,NQ kvs->H a=some (.dK ((kvs.map (·.1)).zip vs))->aD K Hs H fl (kvs.map (·.2)) vs As->m2 (kvs.map (·.2)) vs As->m1 (.dK kvs) (.ref a) (a :: As)) (hT:∀ a vs kvs As,NR kvs->H a=some (.dT ((kvs.map (·.1)).zip vs))->aD K Hs H fl (kvs.map (·.2)) vs As->m2 (kvs.map (·.2)) vs As->m1 (.dT kvs) (.ref a) (a :: As))
  (hn:m2 [] [] []) (hc:∀ d v ds vs As Bs,bE K Hs H fl d v As->aD K Hs H fl ds vs Bs->m1 d v As->m2 ds vs Bs->m2 (d :: ds) (v :: vs) (As++Bs)):(∀ {d v As},bE K Hs H fl d v As->m1 d v As)/\∀ {ds vs As},aD K Hs H fl ds vs As->m2 ds vs As :=
 ⟨fun r=>bE.rec (motive_1:=fun d v As _=>m1 d v As) (motive_2:=fun ds vs As _=>m2 ds vs As) (fun f r=>hs _ _ f r) (fun z s r ih=>hl _ _ _ _ z s r ih) (fun z s n r ih=>ht _ _ _ _ z s n r ih) (fun z s r ih=>hk _ _ _ _ z s r ih) (fun z s r ih=>hT _ _ _ _ z s r ih) hn (fun r s a b=>hc _ _ _ _ _ _ r s a b) r,
  fun r=>aD.rec (motive_1:=fun d v As _=>m1 d v As) (motive_2:=fun ds vs As _=>m2 ds vs As) (fun f r=>hs _ _ f r) (fun z s r ih=>hl _ _ _ _ z s r ih) (fun z s n r ih=>ht _ _ _ _ z s n r ih) (fun z s r ih=>hk _ _ _ _ z s r ih) (fun z s r ih=>hT _ _ _ _ z s r ih) hn (fun r s a b=>hc _ _ _ _ _ _ r s a b) r⟩
theorem AZ{a:Addr}{p:Prop}(h:a∈([]:List Addr)):p:=absurd h zD
theorem bE.Ve:(∀ {d:D} {v:V} {As:List Addr},bE K Hs H fl d v As->∀ a∈As,Own H a)/\∀ {ds:List D} {vs:List V} {As:List Addr},aD K Hs H fl ds vs As->∀ a∈As,Own H a :=
 bE.ind (m1:=fun _ _ As=>∀ a∈As,Own H a) (m2:=fun _ _ As=>∀ a∈As,Own H a) (fun _ _ _ _ a h=>AZ h) (fun _ _ _ _ _ e _ ih a h=>(cK.mp h).elim (fun z=>z ▸ .inl ⟨_,e⟩) (ih a)) (fun _ _ _ _ _ _ _ _ ih=>ih)
  (fun _ _ _ _ _ e _ ih a h=>(cK.mp h).elim (fun z=>z ▸ .inr (.inl ⟨_,e⟩)) (ih a)) (fun _ _ _ _ _ e _ ih a h=>(cK.mp h).elim (fun z=>z ▸ .inr (.inr ⟨_,e⟩)) (ih a)) (fun a h=>AZ h) fun _ _ _ _ _ _ _ _ i1 i2 a h=>(dP.mp h).elim (i1 a) (i2 a)
theorem bE.own(r:bE K Hs H fl d v As):∀ a∈As,Own H a:=bE.Ve.1 r
theorem aD.own(r:aD K Hs H fl ds vs As):∀ a∈As,Own H a:=bE.Ve.2 r
theorem bE.Ea(s:ax Hs av):(∀ {d:D} {v:V} {As:List Addr},bE K Hs H fl d v As->(∀ a∈As,H' a=H a)->bE K av H' fl d v As)/\∀ {ds:List D} {vs:List V} {As:List Addr},aD K Hs H fl ds vs As->(∀ a∈As,H' a=H a)->aD K av H' fl ds vs As :=
 bE.ind (m1:=fun d v As=>(∀ a∈As,H' a=H a)->bE K av H' fl d v As) (m2:=fun ds vs As=>(∀ a∈As,H' a=H a)->aD K av H' fl ds vs As) (fun _ _ f r _=>.sh f (r.same s))
  (fun _ _ _ _ z e _ ih k=>.list z ((k _ cc).trans e) (ih fun a h=>k a (b9 _ h))) (fun _ _ _ _ z e n _ ih k=>.tup z (s _ _ e) n (ih k)) (fun _ _ _ _ z e _ ih k=>.dK z ((k _ cc).trans e) (ih fun a h=>k a (b9 _ h)))
  (fun _ _ _ _ z e _ ih k=>.dT z ((k _ cc).trans e) (ih fun a h=>k a (b9 _ h))) (fun _=>.nil) fun _ _ _ _ _ _ _ _ i1 i2 k=>.cons (i1 fun a h=>k a (i5 _ h)) (i2 fun a h=>k a (fe _ h))
theorem bE.eJ(s:ax Hs av)(r:bE K Hs H fl d v As)(k:∀ a∈As,H' a=H a):bE K av H' fl d v As:=(bE.Ea s).1 r k
theorem aD.eJ(s:ax Hs av)(r:aD K Hs H fl ds vs As)(k:∀ a∈As,H' a=H a):aD K av H' fl ds vs As:=(bE.Ea s).2 r k
theorem bE.grow(s:ax Hs av)(t:ax H H')(r:bE K Hs H fl d v As):bE K av H' fl d v As :=
 r.eJ s fun a h=>by
  cases e:H a with
  |none=>exact absurd e (r.own a h).ne
  |some o=>exact t a o e
theorem aD.grow(s:ax Hs av)(t:ax H H')(r:aD K Hs H fl ds vs As):aD K av H' fl ds vs As :=
 r.eJ s fun a h=>by
  cases e:H a with
  |none=>exact absurd e (r.own a h).ne
  |some o=>exact t a o e
theorem bE.rep2{G:Hp}(s:ax Hs G):(∀ {d:D} {v:V} {As:List Addr},bE K Hs H fl d v As->(∀ a∈As,G a=H a)->Rep K G d v)/\∀ {ds:List D} {vs:List V} {As:List Addr},aD K Hs H fl ds vs As->(∀ a∈As,G a=H a)->ay K G ds vs :=
 bE.ind (m1:=fun d v As=>(∀ a∈As,G a=H a)->Rep K G d v) (m2:=fun ds vs As=>(∀ a∈As,G a=H a)->ay K G ds vs) (fun _ _ _ r _=>r.same s)
  (fun _ _ _ _ z e _ ih k=>.list z (.inl (.inl ((k _ cc).trans e))) (ih fun a h=>k a (b9 _ h))) (fun _ _ _ _ z e n _ ih k=>.tup z (s _ _ e) (ih k)) (fun _ _ _ _ z e _ ih k=>.dK z (.inl ((k _ cc).trans e)) (ih fun a h=>k a (b9 _ h)))
  (fun _ _ _ _ z e _ ih k=>.dT z (.inl ((k _ cc).trans e)) (ih fun a h=>k a (b9 _ h))) (fun _=>.nil) fun _ _ _ _ _ _ _ _ i1 i2 k=>.cons (i1 fun a h=>k a (i5 _ h)) (i2 fun a h=>k a (fe _ h))
theorem bE.rep(s:ax Hs G)(r:bE K Hs H fl d v As)(k:∀ a∈As,G a=H a):Rep K G d v:=(bE.rep2 s).1 r k
theorem aD.reps(s:ax Hs G)(r:aD K Hs H fl ds vs As)(k:∀ a∈As,G a=H a):ay K G ds vs:=(bE.rep2 s).2 r k
theorem Rep.vI(t:∀ a vs,H a=some (.tup vs)->G a=some (.tup vs)):(∀ {d:D} {v:V},Rep K H d v->d.flat=true->Rep K G d v)/\∀ {ds:List D} {vs:List V},ay K H ds vs->cf ds=true->ay K G ds vs :=
 Rep.ind (m1:=fun d v=>d.flat=true->Rep K G d v) (m2:=fun ds vs=>cf ds=true->ay K G ds vs) (fun _=>.non) (fun b _=>.bl b) (fun i _=>.int i) (fun _ h _=>.str h) (fun _ _ _ _ _ _ _ f=>by simp[D.flat] at f) (fun _ _ _ z e _ ih f=>.tup z (t _ _ e) (ih (by simpa[D.flat] using f)))
  (fun _ _ _ _ _ _ _ f=>by simp[D.flat] at f) (fun _ _ _ _ _ _ _ f=>by simp[D.flat] at f) (fun _=>.nil) fun _ _ _ _ _ _ i1 i2 f=>by
   simp only[cf,kQ] at f
   exact .cons (i1 f.1) (i2 f.2)
theorem Rep.fM(t:∀ a vs,H a=some (.tup vs)->G a=some (.tup vs))(r:Rep K H d v)(f:d.flat=true):Rep K G d v:=(Rep.vI t).1 r f
theorem ay.fM(t:∀ a vs,H a=some (.tup vs)->G a=some (.tup vs))(r:ay K H ds vs)(f:cf ds=true):ay K G ds vs:=(Rep.vI t).2 r f
theorem ay.owned(r:ay K Hs ds vs)(f:cf ds=true):aD K Hs H fl ds vs [] :=
 ay.ind (m:=fun ds vs=>cf ds=true->aD K Hs H fl ds vs []) (fun _=>.nil) (fun _ _ _ _ h _ ih f=>by
  simp only[cf,kQ] at f
  exact .cons (As:=[]) (.sh (fun _=>f.1) h) (ih f.2)) r f
theorem ay.Ex(r:ay K Hs ds vs):aD K Hs H false ds vs [] :=
 ay.ind (m:=fun ds vs=>aD K Hs H false ds vs []) .nil (fun _ _ _ _ h _ ih=>.cons (As:=[]) (.sh (fun z=>Bool.noConfusion z) h) ih) r
theorem bE.Vf:(∀ {d:D} {v:V} {As:List Addr},bE K Hs H fl d v As->bE K Hs H false d v As)/\∀ {ds:List D} {vs:List V} {As:List Addr},aD K Hs H fl ds vs As->aD K Hs H false ds vs As :=
 bE.ind (fun _ _ _ r=>.sh (fun z=>Bool.noConfusion z) r) (fun _ _ _ _ z e _ ih=>.list z e ih) (fun _ _ _ _ z e n _ ih=>.tup z e n ih) (fun _ _ _ _ z e _ ih=>.dK z e ih) (fun _ _ _ _ z e _ ih=>.dT z e ih) .nil fun _ _ _ _ _ _ _ _ a b=>.cons a b
theorem bE.NS(r:bE K Hs H fl d v As):bE K Hs H false d v As:=bE.Vf.1 r
theorem aD.NS(r:aD K Hs H fl ds vs As):aD K Hs H false ds vs As:=bE.Vf.2 r
theorem bE.Cr(t:∀ a vs,Hs a=some (.tup vs)->G a=some (.tup vs)):(∀ {d:D} {v:V} {As:List Addr},bE K Hs H true d v As->bE K G H true d v As)/\∀ {ds:List D} {vs:List V} {As:List Addr},aD K Hs H true ds vs As->aD K G H true ds vs As :=
 bE.ind (fun _ _ f r=>.sh f (r.fM t (f rfl))) (fun _ _ _ _ z e _ ih=>.list z e ih) (fun _ _ _ _ z e n _ ih=>.tup z (t _ _ e) n ih) (fun _ _ _ _ z e _ ih=>.dK z e ih) (fun _ _ _ _ z e _ ih=>.dT z e ih) .nil fun _ _ _ _ _ _ _ _ a b=>.cons a b
theorem bE.leaves(t:∀ a vs,Hs a=some (.tup vs)->G a=some (.tup vs))(r:bE K Hs H true d v As):bE K G H true d v As:=(bE.Cr t).1 r
theorem aD.ind{m:List D->List V->List Addr->Prop}(hn:m [] [] [])(hc:∀ d v ds vs As Bs,bE K Hs H fl d v As->aD K Hs H fl ds vs Bs->m ds vs Bs->m (d :: ds) (v :: vs) (As++Bs)):∀ {ds vs As},aD K Hs H fl ds vs As->m ds vs As :=
 fun r=>(bE.ind (m1:=fun _ _ _=>True) (m2:=m) (fun _ _ _ _=>trivial) (fun _ _ _ _ _ _ _ _=>trivial) (fun _ _ _ _ _ _ _ _ _=>trivial) (fun _ _ _ _ _ _ _ _=>trivial) (fun _ _ _ _ _ _ _ _=>trivial) hn fun d v ds vs As Bs r s _ b=>hc d v ds vs As Bs r s b).2 r
theorem aD.append(r:aD K Hs H fl ds vs As)(t:aD K Hs H fl es ws Bs):aD K Hs H fl (ds++es) (vs++ws) (As++Bs) :=
 aD.ind (m:=fun ds vs As=>aD K Hs H fl (ds++es) (vs++ws) (As++Bs)) t (fun _ _ _ _ _ _ h _ ih=>by
  rw[vF]
  exact .cons h ih) r
theorem aD.c(h:aD K Hs H fl (d :: ds) vs As):∃ u us A B,vs=u :: us/\As=A++B/\bE K Hs H fl d u A/\aD K Hs H fl ds us B:=by
 cases h with
 |cons r rs=>exact⟨_,_,_,_,rfl,rfl,r,rs⟩
theorem aD.length(r:aD K Hs H fl ds vs As):ds.length=vs.length :=
 aD.ind (m:=fun ds vs _=>ds.length=vs.length) rfl (fun _ _ _ _ _ _ _ _ ih=>by rw[qc,qc,ih]) r
end
inductive Sl where
 /-- shared;owned;owned and walked by a loop just now (at a) -/
 |sh (d:D)|ow (fl:Bool) (d:D)|lk (a:Addr) (fl:Bool) (d:D)
 /-- an exception,at a -/
 |xc (a:Addr)
abbrev Env:=List (Option Sl)
inductive SR(K:PySem.W.Frag)(Hs H:Hp):Env->St->List Addr->Prop
 |nil:SR K Hs H [] [] []
 |non {ρ:Env} {σ:St} {ag:List Addr} {o:Option V}:SR K Hs H ρ σ ag->SR K Hs H (none :: ρ) (o :: σ) ag
 |sh {ρ:Env} {σ:St} {ag:List Addr} {d:D} {v:V}:Rep K Hs d v->SR K Hs H ρ σ ag->SR K Hs H (some (.sh d) :: ρ) (some v :: σ) ag
 |xc {ρ:Env} {σ:St} {ag:List Addr} {a:Addr}:SR K Hs H ρ σ ag->SR K Hs H (some (.xc a) :: ρ) (some (.ref a) :: σ) ag
 |ow {ρ:Env} {σ:St} {ag As:List Addr} {fl:Bool} {d:D} {v:V}:As≠[]->bE K Hs H fl d v As->SR K Hs H ρ σ ag->SR K Hs H (some (.ow fl d) :: ρ) (some v :: σ) (As++ag)
 |lk {ρ:Env} {σ:St} {ag As:List Addr} {a:Addr} {fl:Bool} {d:D}:As≠[]->bE K Hs H fl d (.ref a) As->SR K Hs H ρ σ ag->SR K Hs H (some (.lk a fl d) :: ρ) (some (.ref a) :: σ) (As++ag)
structure Wf(Hs H:Hp):Prop where
 sub:ax Hs H
 ic:∀ a vs,H a=some (.tup vs)->Hs a=some (.tup vs)
structure dk(K:PySem.W.Frag)(Hs:Hp)(ρ:Env)(σ:St)(H:Hp)(ag:List Addr):Prop where
 sr:SR K Hs H ρ σ ag
 wf:Wf Hs H
 sf:ag.Nodup
 own:∀ a∈ag,Hs a=none
structure eL(Hs H av H':Hp):Prop where
 all:ax H H'
 sh:ax Hs av
 wf:Wf av H'
 new:∀ a,av a≠none->Hs a≠none\/H a=none
section
variable {K:PySem.W.Frag}{Hs H av H' Vg Vh:Hp}
theorem eL.refl(w:Wf Hs H):eL Hs H Hs H:=⟨ax.refl _,ax.refl _,w,fun _ h=>.inl h⟩
theorem eL.trans(a:eL Hs H av H')(b:eL av H' Vg Vh):eL Hs H Vg Vh :=
 ⟨a.all.trans b.all,a.sh.trans b.sh,b.wf,fun c h=>by
  rcases b.new c h with h|h
  ·exact a.new c h
  ·exact .inr (a.all.free h)⟩
theorem eL.oj(g:eL Hs H av H')(h:Hs a=none)(h':H a≠none):av a=none:=by
 cases e:av a with
 |none=>rfl
 |some o =>
  rcases g.new a (by rw[e];exact fun z=>nomatch z) with z|z
  ·exact absurd h z
  ·exact absurd z h'
theorem SR.own{ρ:Env}{σ:St}{ag:List Addr}(s:SR K Hs H ρ σ ag):∀ a∈ag,Own H a:=by
 induction s with
 |nil=>exact fun a h=>AZ h
 |non _ ih=>exact ih
 |sh _ _ ih=>exact ih
 |xc _ ih=>exact ih
 |ow _ r _ ih=>exact fun a h=>(dP.mp h).elim (r.own a) (ih a)
 |lk _ r _ ih=>exact fun a h=>(dP.mp h).elim (r.own a) (ih a)
theorem SR.eJ(s:ax Hs av)(r:SR K Hs H ρ σ ag):(∀ a∈ag,H' a=H a)->SR K av H' ρ σ ag:=by
 induction r with
 |nil=>exact fun _=>.nil
 |non _ ih=>exact fun k=>.non (ih k)
 |sh h _ ih=>exact fun k=>.sh (h.same s) (ih k)
 |xc _ ih=>exact fun k=>.xc (ih k)
 |ow ne h _ ih=>exact fun k=>.ow ne (h.eJ s fun a m=>k a (i5 _ m)) (ih fun a m=>k a (fe _ m))
 |lk ne h _ ih=>exact fun k=>.lk ne (h.eJ s fun a m=>k a (i5 _ m)) (ih fun a m=>k a (fe _ m))
theorem dk.grow(r:dk K Hs ρ σ H ag)(g:eL Hs H av H'):dk K av ρ σ H' ag :=
 ⟨r.sr.eJ g.sh fun a h=>by
  cases e:H a with
  |none=>exact absurd e (r.sr.own a h).ne
  |some o=>exact g.all a o e,g.wf,r.sf,fun a h=>g.oj (r.own a h) (r.sr.own a h).ne⟩
def yE(K:PySem.W.Frag)(Hs H:Hp)(ag:List Addr)(sl:Sl)(v:V):Prop:=match sl with
 |.sh d=>Rep K Hs d v
 |.ow fl d=>∃ As,As≠[]/\bE K Hs H fl d v As/\∀ a∈As,a∈ag
 |.lk a fl d=>∃ As,As≠[]/\bE K Hs H fl d v As/\v=.ref a/\∀ a∈As,a∈ag
 |.xc a=>v=.ref a
theorem yE.mono(h:yE K Hs H ag sl v)(m:∀ a∈ag,a∈bS):yE K Hs H bS sl v:=by
 cases sl with
 |sh d=>exact h
 |xc a=>exact h
 |ow fl d =>
  obtain⟨As,ne,r,q⟩:=h
  exact⟨As,ne,r,fun a ha=>m a (q a ha)⟩
 |lk a fl d =>
  obtain⟨As,ne,r,e,q⟩:=h
  exact⟨As,ne,r,e,fun a ha=>m a (q a ha)⟩
theorem SR.get{ρ:Env}{σ:St}{ag:List Addr}{i:Nat}{sl:Sl}(s:SR K Hs H ρ σ ag)(e:ρ[i]? = some (some sl)):∃ v,σ[i]? = some (some v)/\yE K Hs H ag sl v:=by
 induction s generalizing i with
 |nil=>simp at e
 |non s ih =>
  cases i with
  |zero=>simp at e
  |succ i=>exact ih e
 |sh r s ih =>
  cases i with
  |zero=>simp at e;subst e;exact⟨_,rfl,r⟩
  |succ i=>exact ih e
 |xc s ih =>
  cases i with
  |zero=>simp at e;subst e;exact⟨_,rfl,rfl⟩
  |succ i=>exact ih e
 |ow ne r s ih =>
  cases i with
  |zero=>simp at e;subst e;exact⟨_,rfl,_,ne,r,fun a m=>i5 _ m⟩
  |succ i =>
   obtain⟨v,e1,h⟩:=ih e
   exact⟨v,e1,h.mono fun a m=>fe _ m⟩
 |lk ne r s ih =>
  cases i with
  |zero=>simp at e;subst e;exact⟨_,rfl,_,ne,r,rfl,fun a m=>i5 _ m⟩
  |succ i =>
   obtain⟨v,e1,h⟩:=ih e
   exact⟨v,e1,h.mono fun a m=>fe _ m⟩
end
inductive Md where
 |sh|ow (fl:Bool)|bo
def RM(K:PySem.W.Frag)(Hs H:Hp):Md->D->V->List Addr->Prop
 |.sh,d,v,As=>As=[]/\Rep K Hs d v
 |.ow fl,d,v,As=>bE K Hs H fl d v As/\As≠[]
 |.bo,d,v,As=>As=[]/\Rep K H d v
inductive zi(K:PySem.W.Frag)(Hs H:Hp):List (Md × D)->List V->List Addr->Prop
 |nil:zi K Hs H [] [] []
 |cons {m:Md} {d:D} {v:V} {ps:List (Md × D)} {vs:List V} {As Bs:List Addr}:RM K Hs H m d v As->zi K Hs H ps vs Bs->zi K Hs H ((m,d) :: ps) (v :: vs) (As++Bs)
section
variable {K:PySem.W.Frag}{Hs H av H':Hp}
theorem RM.own{m:Md}{d:D}{v:V}{As:List Addr}(r:RM K Hs H m d v As):∀ a∈As,Own H a:=by
 cases m with
 |sh=>obtain⟨rfl,_⟩:=r;exact fun a h=>AZ h
 |ow fl=>exact bE.own r.1
 |bo=>obtain⟨rfl,_⟩:=r;exact fun a h=>AZ h
theorem RM.grow(r:RM K Hs H m d v As)(g:eL Hs H av H'):RM K av H' m d v As:=by
 cases m with
 |sh=>exact⟨r.1,r.2.same g.sh⟩
 |ow fl=>exact⟨bE.grow g.sh g.all r.1,r.2⟩
 |bo=>exact⟨r.1,r.2.same g.all⟩
theorem RM.rep(w:Wf Hs H)(r:RM K Hs H m d v As):Rep K H d v:=by
 cases m with
 |sh=>exact r.2.same w.sub
 |ow fl=>exact bE.rep w.sub r.1 fun _ _=>rfl
 |bo=>exact r.2
theorem RM.flat(w:Wf Hs H)(r:RM K Hs H m d v As)(f:d.flat=true):Rep K Hs d v:=(r.rep w).fM w.ic f
theorem zi.reps(w:Wf Hs H){ps:List (Md × D)}(r:zi K Hs H ps vs As):ay K H (ps.map (·.2)) vs:=by
 induction r with
 |nil=>exact .nil
 |cons r _ ih=>exact .cons (r.rep w) ih
end
abbrev WE:=Env->(Md->D->Prop)->Prop
abbrev WT:=Env->(Bool->Prop)->Prop
abbrev WA:=Env->(List (Md × D)->Prop)->Prop
structure lA where
 nx:Env->Prop
 rt:Md->D->Prop
 bk:Env->Prop:=fun _=>False
 ct:Env->Prop:=fun _=>False
abbrev WS:=lA->Env->Prop
def cz(av H:Hp)(As:List Addr):Prop:=As.Nodup/\∀ a∈As,av a=none/\H a=none
def sj(K:PySem.W.Frag)(t:WE):TE:=fun σ H Qv=>∃ Hs ρ ag Q,dk K Hs ρ σ H ag/\t ρ Q /\
 ∀ v H' av m d As,eL Hs H av H'->RM K av H' m d v As->cz av H As->Q m d->Qv v H'
def A3(K:PySem.W.Frag)(t:WT):TT:=fun σ H Qv=>∃ Hs ρ ag Q,dk K Hs ρ σ H ag/\t ρ Q/\∀ b H' av,eL Hs H av H'->Q b->Qv b H'
def QH(K:PySem.W.Frag)(t:WA):TA:=fun σ H Qv=>∃ Hs ρ ag Q,dk K Hs ρ σ H ag/\t ρ Q /\
 ∀ vs H' av ps As,eL Hs H av H'->zi K av H' ps vs As->cz av H As->Q ps->Qv vs H'
def xi(K:PySem.W.Frag)(L:Str->Hp->Prop)(t:WS):TS:=fun D σ H=>∃ Hs ρ ag E,dk K Hs ρ σ H ag/\t E ρ /\
 (∀ aI H' av bG bS,ax Hs av->dk K av bG aI H' bS->E.nx bG->D.nx aI H') /\
 (∀ aI H' av bG bS,ax Hs av->dk K av bG aI H' bS->E.bk bG->D.bk aI H') /\
 (∀ aI H' av bG bS,ax Hs av->dk K av bG aI H' bS->E.ct bG->D.ct aI H') /\
 (∀ v H' av m d As,ax Hs av->Wf av H'->RM K av H' m d v As->As.Nodup->(∀ a∈As,av a=none)->E.rt m d->D.rt v H') /\
 ∀ n H',ax Hs H'->E.rt (.ow false) (.str n)->L n H'
theorem gG{K:PySem.W.Frag}{L:Str->Hp->Prop}{t:WS}{D:Ends}{σ:St}{H:Hp}{G:Prop}(x:xi K L t D σ H)(k:∀ Hs ρ ag E,dk K Hs ρ σ H ag->t E ρ ->
 (∀ aI H' av bG bS,ax Hs av->dk K av bG aI H' bS->E.nx bG->D.nx aI H') ->
 (∀ aI H' av bG bS,ax Hs av->dk K av bG aI H' bS->E.bk bG->D.bk aI H') ->
 (∀ aI H' av bG bS,ax Hs av->dk K av bG aI H' bS->E.ct bG->D.ct aI H') ->
 (∀ v H' av m d As,ax Hs av->Wf av H'->RM K av H' m d v As->As.Nodup->(∀ a∈As,av a=none)->E.rt m d->D.rt v H') ->
 (∀ n H',ax Hs H'->E.rt (.ow false) (.str n)->L n H')->G):G :=
 by
 obtain⟨Hs,ρ,ag,E,sr,h,k1,k2,k3,k4,kx⟩:=x
 exact k Hs ρ ag E sr h k1 k2 k3 k4 kx
theorem gf{K:PySem.W.Frag}{L:Str->Hp->Prop}{t:WS}{D:Ends}{σ:St}{H:Hp}{G:Prop}(x:xi K L t D σ H)(k:∀ Hs ρ ag E,dk K Hs ρ σ H ag->t E ρ ->
 (∀ aI H' av bG bS,ax Hs av->dk K av bG aI H' bS->E.nx bG->D.nx aI H') ->
 (∀ aI H' av bG bS,ax Hs av->dk K av bG aI H' bS->E.bk bG->D.bk aI H') ->
 (∀ aI H' av bG bS,ax Hs av->dk K av bG aI H' bS->E.ct bG->D.ct aI H') ->
 (∀ v H' av m d As,ax Hs av->Wf av H'->RM K av H' m d v As->As.Nodup->(∀ a∈As,av a=none)->E.rt m d->D.rt v H')->G):G :=
 gG x fun Hs ρ ag E sr h k1 k2 k3 k4 _=>k Hs ρ ag E sr h k1 k2 k3 k4
theorem iS{α β γ δ:Type _}{A B C:α->β->γ->δ->Prop}{G:Prop}(x:∃ a b c d,A a b c d/\B a b c d/\C a b c d)(k:∀ a b c d,A a b c d->B a b c d->C a b c d->G):G :=
 by
 obtain⟨a,b,c,d,p,q,r⟩:=x
 exact k a b c d p q r
abbrev QE(X:Cx)(K:PySem.W.Frag)(e:Expr)(t:WE):Prop:=PE X e (sj K t)
abbrev QT(X:Cx)(K:PySem.W.Frag)(e:Expr)(t:WT):Prop:=PT X e (A3 K t)
abbrev QW(X:Cx)(K:PySem.W.Frag)(e:Expr)(t:WT):Prop:=PW X e (A3 K t)
abbrev QA(X:Cx)(K:PySem.W.Frag)(es:List Expr)(t:WA):Prop:=PA X es (QH K t)
abbrev QS(X:Cx)(K:PySem.W.Frag)(L:Str->Hp->Prop)(st:Stmt)(t:WS):Prop:=PS X st (xi K L t)
abbrev oS(X:Cx)(K:PySem.W.Frag)(L:Str->Hp->Prop)(st:List Stmt)(t:WS):Prop:=kX X st (xi K L t)
abbrev L0:Str->Hp->Prop:=fun _ _=>True
end L2.Q
namespace L2.Q
open PySem PySem.Spec PyProof.Rows
structure Kt{α:Type}(f:α->Prop):Type where
def bI{α:Type}(a:α){f:α->Prop}(_:Kt f):Prop:=f a
mutual
def D.py:D->PyData
 |.non=>.none
 |.bl b=>.bool b
 |.int i=>.int i
 |.str x=>.str x
 |.list xs=>.list (kg xs)
 |.tup xs=>.tuple (kg xs)
 |.dK _=>.none
 |.dT _=>.none
def kg:List D->List PyData
 |[]=>[]
 |x :: xs=>x.py :: kg xs
end
def b4:Nat->D->Bool
 |_,.non=>true
 |_,.bl _=>true
 |_,.int _=>true
 |_,.str x=>PyData.strOk x
 |n+1,.list xs=>xs.all (b4 n)
 |n+1,.tup xs=>xs.all (b4 n)
 |_,_=>false
def fT(x y:D):Bool:=PyData.eqv x.py y.py
def D.ty:D->String
 |.non => "NoneType"
 |.bl _ => "bool"
 |.int _ => "int"
 |.str _ => "str"
 |.list _ => "list"
 |.tup _ => "tuple"
 |.dK _ => "dict"
 |.dT _ => "dict"
def D.key1:D->Option Key
 |.int i=>some (.inl i)
 |.str x=>some (.inr x)
 |_=>none
def gr:List D->Option (List Key)
 |[]=>some []
 |x :: xs=>match x.key1,gr xs with
  |some k,some ks=>some (k :: ks)
  |_,_=>none
section
variable {κ:Type}[DecidableEq κ]{β:Type}
def gS(kvs:List (κ × β))(k:κ):Option β:=(kvs.find? fun kv=>decide (kv.1=k)).map (·.2)
def ki(kvs:List (κ × β))(k:κ)(v:β):List (κ × β) :=
 if (kvs.any fun kv=>decide (kv.1=k))=true then kvs.map (fun kv=>if kv.1=k then (kv.1,v) else kv) else kvs++[(k,v)]
end
theorem Rep.QJ{K:PySem.W.Frag}:(∀ {d:D} {v:V},Rep K H d v->∀ n,b4 n d=true->L2.Rep K H d.py v)/\∀ {ds:List D} {vs:List V},ay K H ds vs->∀ n,(∀ d∈ds,b4 n d=true)->L2.ay K H (kg ds) vs :=
 Rep.ind (m1:=fun d v=>∀ n,b4 n d=true->L2.Rep K H d.py v) (m2:=fun ds vs=>∀ n,(∀ d∈ds,b4 n d=true)->L2.ay K H (kg ds) vs) (fun _ _=>.none) (fun b _ _=>.bool b) (fun i _ _=>.int i) (fun _ _ _ _=>.str _)
  (fun _ _ _ _ h _ ih n o=>by
   cases n with
   |zero=>simp[b4] at o
   |succ n=>exact .list h (ih n (by simpa[b4] using o)))
  (fun _ _ _ _ h _ ih n o=>by
   cases n with
   |zero=>simp[b4] at o
   |succ n=>exact .tuple (.inl (.inl h)) (ih n (by simpa[b4] using o)))
  (fun _ _ _ _ _ _ _ n o=>by cases n<;>simp[b4] at o) (fun _ _ _ _ _ _ _ n o=>by cases n<;>simp[b4] at o) (fun _ _=>.nil)
  fun _ _ _ _ _ _ i1 i2 n o=>.cons (i1 n (o _ cc)) (i2 n fun d m=>o d (b9 _ m))
theorem Rep.l2{K:PySem.W.Frag}(r:Rep K H d v)(o:b4 n d=true):L2.Rep K H d.py v:=Rep.QJ.1 r n o
theorem vM(ih:∀ d,b4 n d=true->d.py.canLay0=true/\d.py.depth<=n)(xs:List D)(h:∀ x∈xs,b4 n x=true):PyData.canLayAll0 (kg xs)=true/\PyData.depthAll (kg xs)<=n:=by
 induction xs with
 |nil=>exact⟨rfl,dQ _⟩
 |cons x xs QK =>
  have h1:=ih x (h x cc)
  have h2:=QK fun y hy=>h y (b9 _ hy)
  simp only[kg,PyData.canLayAll0,PyData.depthAll,h1.1,h2.1,Bool.and_self,true_and]
  lia
theorem h_(n:Nat):∀ (d:D),b4 n d=true->d.py.canLay0=true/\d.py.depth<=n:=by
 have st:∀ (n:Nat) (x:Str),b4 n (.str x)=true->(D.str x).py.canLay0=true/\(D.str x).py.depth<=n:=fun n x h=>by
  have h:PyData.strOk x=true:=by cases n<;>simpa[b4] using h
  exact⟨by simpa[D.py,PyData.canLay0] using h,dQ _⟩
 induction n with
 |zero =>
  intro d h
  cases d with
  |str x=>exact st _ x h
  |non=>exact⟨rfl,dQ _⟩
  |bl _=>exact⟨rfl,dQ _⟩
  |int _=>exact⟨rfl,dQ _⟩
  |_=>simp[b4] at h
 |succ n ih =>
  intro d h
  cases d with
  |str x=>exact st _ x h
  |non=>exact⟨rfl,dQ _⟩
  |bl _=>exact⟨rfl,dQ _⟩
  |int _=>exact⟨rfl,dQ _⟩
  |list xs =>
   have h:∀ x∈xs,b4 n x=true:=by simpa[b4] using h
   have:=vM ih xs h
   simp only[D.py,PyData.canLay0,PyData.depth]
   exact⟨this.1,by lia⟩
  |tup xs =>
   have h:∀ x∈xs,b4 n x=true:=by simpa[b4] using h
   have:=vM ih xs h
   simp only[D.py,PyData.canLay0,PyData.depth]
   exact⟨this.1,by lia⟩
  |dK _=>simp[b4] at h
  |dT _=>simp[b4] at h
mutual
def D.nb:D->Bool
 |.bl _=>false
 |.list xs=>sv xs
 |.tup xs=>sv xs
 |.dK _=>false
 |.dT _=>false
 |_=>true
def sv:List D->Bool
 |[]=>true
 |x :: xs=>x.nb && sv xs
end
mutual
theorem lU:∀ (x y:D),x.nb=true->y.nb=true->(fT x y=true↔x=y)
 |.non,y,_,hy=>by cases y<;>simp_all [fT,D.py,PyData.eqv,D.nb]
 |.bl _,y,hx,_=>by simp[D.nb] at hx
 |.int i,y,_,hy=>by cases y<;>simp_all [fT,D.py,PyData.eqv,D.nb]
 |.str i,y,_,hy=>by cases y<;>simp_all [fT,D.py,PyData.eqv,D.nb]
 |.dK _,y,hx,_=>by simp[D.nb] at hx
 |.dT _,y,hx,_=>by simp[D.nb] at hx
 |.list xs,y,hx,hy=>by
  cases y with
  |list ys =>
   have:=l_ xs ys (by simpa[D.nb] using hx) (by simpa[D.nb] using hy)
   simp only[fT,D.py,PyData.eqv,D.list.injEq]
   exact this
  |_=>simp_all [fT,D.py,PyData.eqv,D.nb]
 |.tup xs,y,hx,hy=>by
  cases y with
  |tup ys =>
   have:=l_ xs ys (by simpa[D.nb] using hx) (by simpa[D.nb] using hy)
   simp only[fT,D.py,PyData.eqv,D.tup.injEq]
   exact this
  |_=>simp_all [fT,D.py,PyData.eqv,D.nb]
theorem l_:∀ (xs ys:List D),sv xs=true->sv ys=true->(PyData.eqvAll (kg xs) (kg ys)=true↔xs=ys)
 |[],[],_,_=>by simp[kg,PyData.eqvAll]
 |[],_ :: _,_,_=>by simp[kg,PyData.eqvAll]
 |_ :: _,[],_,_=>by simp[kg,PyData.eqvAll]
 |x :: xs,y :: ys,hx,hy=>by
  simp only[sv,kQ] at hx hy
  have h1:=lU x y hx.1 hy.1
  have h2:=l_ xs ys hx.2 hy.2
  simp only[kg,PyData.eqvAll,kQ,List.cons.injEq]
  exact and_congr h1 h2
end
section
variable {K:PySem.W.Frag}{H:Hp}
theorem Rep.key(r:Rep K H d v)(h:d.key1=some k):v=kV k:=by
 cases r<;>simp[D.key1] at h<;>subst h<;>rfl
theorem ay.keys(r:ay K H ds vs)(h:gr ds=some ks):vs=ks.map kV:=by
 induction ds generalizing vs ks with
 |nil=>simp[gr] at h;subst h;exact r.n0
 |cons d ds ih =>
  obtain⟨u,us,rfl,r,rs⟩:=r.c
  unfold gr at h
  cases e1:d.key1 with
  |none=>rw[e1] at h;simp at h
  |some k =>
   cases e2:gr ds with
   |none=>rw[e1,e2] at h;simp at h
   |some g0 =>
    rw[e1,e2] at h
    simp at h
    subst h
    rw[fm,r.key e1,ih rs e2]
theorem Rep.pd(r:Rep K H (.tup ds) v)(h:gr ds=some ks):∃ b,v=.ref b/\H b=some (.tup (ks.map kV)):=by
 cases r with
 |tup _ e rs=>exact⟨_,rfl,by rw[e,rs.keys h]⟩
end
section
variable {κ:Type}[DecidableEq κ]{K:PySem.W.Frag}{H:Hp}
theorem zip_get{k:κ}{kvs:List (κ × D)}{vs:List V}(h:ay K H (kvs.map (·.2)) vs):match gS kvs k with
  |some d=>∃ v,oI ((kvs.map (·.1)).zip vs) k=some v/\Rep K H d v
  |none=>oI ((kvs.map (·.1)).zip vs) k=none:=by
 induction kvs generalizing vs with
 |nil=>rfl
 |cons p kvs ih =>
  obtain⟨u,us,rfl,r,rs⟩:=ay.c (d:=p.2) h
  by_cases e:p.1=k
  ·have e1:gS (p :: kvs) k=some p.2:=by simp[gS,e]
   rw[e1]
   exact⟨_,by simp only[fm,zv];exact Nn e,r⟩
  ·have e1:gS (p :: kvs) k=gS kvs k:=by simp[gS,e]
   rw[e1]
   have:=ih rs
   simp only[fm,zv,Np (p:=(p.1,_)) e]
   exact this
theorem Ac{k:κ}{kvs:List (κ × D)}{vs:List V}(h:kvs.length=vs.length):((kvs.map (·.1)).zip vs).any (fun kv=>decide (kv.1=k))=kvs.any fun kv=>decide (kv.1=k):=by
 induction kvs generalizing vs with
 |nil=>rfl
 |cons p kvs ih =>
  cases vs with
  |nil=>simp at h
  |cons v vs =>
   simp only[fm,zv,DI]
   rw[ih (vs:=vs) (by simpa using h)]
end
section
variable {K:PySem.W.Frag}{Hs H:Hp}
theorem NT(w:Wf Hs H)(hp:H p=none)(ho:∀ vs,o≠.tup vs):eL Hs H Hs (upd H p o) :=
 ⟨(ax.refl H).upd hp,ax.refl _,⟨w.sub.upd hp,fun a vs e=>by
  by_cases h:a=p
  ·subst h;rw[jS] at e;exact absurd (Option.some.inj e) (ho vs)
  ·rw[fw h] at e;exact w.ic a vs e⟩,fun _ h=>.inl h⟩
theorem QL(w:Wf Hs H)(hp:H p=none):eL Hs H (upd Hs p (.tup vs)) (upd H p (.tup vs)) :=
 ⟨(ax.refl H).upd hp,(ax.refl Hs).upd (w.sub.free hp),⟨fun a o e=>by
  by_cases h:a=p
  ·subst h;rw[jS] at e ⊢;exact e
  ·rw[fw h] at e ⊢;exact w.sub a o e,fun a vs e=>by
  by_cases h:a=p
  ·subst h;rw[jS] at e ⊢;exact e
  ·rw[fw h] at e ⊢;exact w.ic a vs e⟩,fun a h=>by
  by_cases e:a=p
  ·subst e;exact .inr hp
  ·rw[fw e] at h;exact .inl h⟩
theorem cz.nil:cz Hs H []:=⟨oz,fun a h=>nomatch h⟩
theorem cz.of(s:ax H H')(f:cz Hs H' As):cz Hs H As:=⟨f.1,fun a h=>⟨(f.2 a h).1,s.free (f.2 a h).2⟩⟩
abbrev Fin(K:PySem.W.Frag)(Hs H:Hp)(Qd:Md->D->Prop)(Qv:VK):Prop:=∀ v H' av m d As,eL Hs H av H'->RM K av H' m d v As->cz av H As->Qd m d->Qv v H'
theorem Fin.after(f:Fin K Hs H Qd Qv)(g:eL Hs H av H'):Fin K av H' Qd Qv:=fun v H2 aC m d As g2 r fr q=>f v H2 aC m d As (g.trans g2) r (fr.of g.all) q
theorem Fin.sh(f:Fin K Hs H Qd Qv)(w:Wf Hs H)(r:Rep K Hs d v)(q:Qd .sh d):Qv v H:=f v H Hs .sh d [] (eL.refl w) ⟨rfl,r⟩ cz.nil q
theorem Fin.flat(f:Fin K Hs H Qd Qv)(w:Wf Hs H)(r:Rep K H d v)(hf:d.flat=true)(q:Qd .sh d):Qv v H:=f.sh w (r.fM w.ic hf) q
theorem Fin.bo(f:Fin K Hs H Qd Qv)(w:Wf Hs H)(r:Rep K H d v)(q:Qd .bo d):Qv v H:=f v H Hs .bo d [] (eL.refl w) ⟨rfl,r⟩ cz.nil q
def kG(m:Md)(d:D):Md:=match m with
 |.sh=>.sh
 |_=>bif d.flat then .sh else .bo
theorem Fin.kG(f:Fin K Hs H Qd Qv)(w:Wf Hs H)(r:Rep K H d v)(rs:m=.sh->Rep K Hs d v)(q:Qd (kG m d) d):Qv v H:=by
 cases m with
 |sh=>exact f.sh w (rs rfl) q
 |ow fl =>
  cases hf:d.flat with
  |true=>exact f.flat w r hf (by simpa[Q.kG,hf] using q)
  |false=>exact f.bo w r (by simpa[Q.kG,hf] using q)
 |bo =>
  cases hf:d.flat with
  |true=>exact f.flat w r hf (by simpa[Q.kG,hf] using q)
  |false=>exact f.bo w r (by simpa[Q.kG,hf] using q)
theorem Fin.lst(f:Fin K Hs H Qd Qv)(w:Wf Hs H)(hz:ds.length<=sizeLine)(r:ay K H ds vs)(hf:cf ds=true)(q:Qd (.ow true) (.list ds)):∀ p,H p=none->Qv (.ref p) (upd H p (.lst vs)):=fun p hp =>
 f _ _ Hs (.ow true) (.list ds) [p] (NT w hp fun _ z=>nomatch z) ⟨.list (by rw[<- r.length];exact hz) jS ((r.fM w.ic hf).owned hf),by simp⟩ ⟨by simp,fun a h=>by
  obtain rfl:a=p:=by simpa using h
  exact⟨w.sub.free hp,hp⟩⟩ q
theorem Fin.Lp(f:Fin K Hs H Qd Qv)(w:Wf Hs H)(hz:ds.length<=sizeLine)(r:ay K Hs ds vs)(q:Qd (.ow false) (.list ds)):∀ p,H p=none->Qv (.ref p) (upd H p (.lst vs)):=fun p hp =>
 f _ _ Hs (.ow false) (.list ds) [p] (NT w hp fun _ z=>nomatch z) ⟨.list (by rw[<- r.length];exact hz) jS r.Ex,by simp⟩ ⟨by simp,fun a h=>by
  obtain rfl:a=p:=by simpa using h
  exact⟨w.sub.free hp,hp⟩⟩ q
theorem Fin.tup(f:Fin K Hs H Qd Qv)(w:Wf Hs H)(hz:ds.length<=sizeLine)(r:ay K H ds vs)(hf:cf ds=true)(q:Qd .sh (.tup ds)):∀ p,H p=none->Qv (.ref p) (upd H p (.tup vs)):=fun p hp =>
 f _ _ (upd Hs p (.tup vs)) .sh (.tup ds) [] (QL w hp) ⟨rfl,.tup (by rw[<- r.length];exact hz) jS ((r.fM w.ic hf).same ((ax.refl Hs).upd (w.sub.free hp)))⟩ cz.nil q
end
section
variable {X:Cx}{K:PySem.W.Frag}
theorem PE.imp(h:PE X e te)(i:∀ σ H Q,tq σ H Q->te σ H Q):PE X e tq:=fun pins s σ H Q I q=>h pins s σ H Q I (i σ H Q q)
theorem PT.imp(h:PT X e te)(i:∀ σ H Q,tq σ H Q->te σ H Q):PT X e tq:=fun pins s σ H Q I q=>h pins s σ H Q I (i σ H Q q)
theorem PW.imp(h:PW X e te)(i:∀ σ H Q,tq σ H Q->te σ H Q):PW X e tq:=fun wh pins s σ H Q I q=>h wh pins s σ H Q I (i σ H Q q)
theorem PA.imp(h:PA X e te)(i:∀ σ H Q,tq σ H Q->te σ H Q):PA X e tq:=fun p pins s σ H Q I q=>h p pins s σ H Q I (i σ H Q q)
def Lq:Option (Option Sl)->(Md->D->Prop)->Prop
 |some (some (.sh d)),Q=>Q .sh d
 |some (some (.ow _ d)),Q=>Q .bo d
 |some (some (.lk _ _ d)),Q=>Q .bo d
 |_,_=>False
def ai(i:Nat):WE:=fun ρ Q=>Lq ρ[i]? Q
theorem Gf(h:PE X e (AB i)):QE X K e (ai i):=by
 refine PE.imp h fun σ H Qv hx=>iS hx fun Hs ρ ag Q sr h f=>?_
 unfold ai at h
 cases e:ρ[i]? with
 |none=>rw[e] at h;exact h.elim
 |some o =>
  cases o with
  |none=>rw[e] at h;exact h.elim
  |some sl =>
   obtain⟨v,e1,r⟩:=sr.sr.get e
   rw[e] at h
   cases sl with
   |sh d=>exact⟨v,e1,Fin.sh f sr.wf r h⟩
   |xc a=>exact h.elim
   |ow fl d =>
    obtain⟨As,_,r,_⟩:=r
    exact⟨v,e1,Fin.bo f sr.wf (r.rep sr.wf.sub fun _ _=>rfl) h⟩
   |lk a fl d =>
    obtain⟨As,_,r,_⟩:=r
    exact⟨v,e1,Fin.bo f sr.wf (r.rep sr.wf.sub fun _ _=>rfl) h⟩
theorem qv (i:Nat) (hN:X.N[i]? = some x:=by rfl) (hv:FK X.env.scope x:=by first|exact Or.inl rfl|exact Or.inr (Or.inl rfl)|exact Or.inr (Or.inr rfl)) (hd:(x == ("__debug__" : Str))=false:=by decide)
  (nX:(x == ("__classdict__" : Str))=false:=by decide):QE X K (.Name x pos) (ai i):=Gf (Pl hN hv hd nX)
def wC(d:D):WE:=fun _ Q=>Q .sh d
theorem xV(h:PE X e (tC v))(r:∀ H,Rep K H d v):QE X K e (wC d) :=
 PE.imp h fun σ H Qv hx=>iS hx fun Hs ρ ag Q sr h f=>Fin.sh f sr.wf (r _) h
theorem aq{i j pos}:QE X K (.Constant (.int i) j pos) (wC (.int i)):=xV Xc fun _=>.int i
theorem pq{i j pos}(h:i.length<=sizeLine:=by decide):QE X K (.Constant (.str i) j pos) (wC (.str i)):=xV Xf fun _=>.str h
theorem A4{i j pos}:QE X K (.Constant (.bool i) j pos) (wC (.bl i)):=xV Xd fun _=>.bl i
theorem G6{j pos}:QE X K (.Constant .none j pos) (wC .non):=xV Xe fun _=>.non
abbrev W2:=Md->D->Md->D->(Md->D->Prop)->Prop
abbrev W1:=Md->D->(Md->D->Prop)->Prop
def hU(K:PySem.W.Frag)(r:R2)(f:W2):Prop:=∀ Hs H m x v As n y u Bs Qd Qv,Wf Hs H->RM K Hs H m x v As->RM K Hs H n y u Bs->f m x n y Qd->Fin K Hs H Qd Qv->r v u H Qv
def QM(K:PySem.W.Frag)(r:V->Hp->VK->Prop)(f:W1):Prop:=∀ Hs H m x v As Qd Qv,Wf Hs H->RM K Hs H m x v As->f m x Qd->Fin K Hs H Qd Qv->r v H Qv
def aw(f:W2)(ta tb:WE):WE:=fun ρ Q=>ta ρ fun m x=>tb ρ fun n y=>f m x n y Q
def kr(f:W1)(ta:WE):WE:=fun ρ Q=>ta ρ fun m x=>f m x Q
variable {a b:Expr}{ta tb tc:WE}{pos:Pos}
theorem jo(br:hU K r f)(σ:St)(H:Hp)(Qv:VK)(h:sj K (aw f ta tb) σ H Qv):KG r (sj K ta) (sj K tb) σ H Qv:=by
 obtain⟨Hs,ρ,ag,Q,sr,h,fin⟩:=h
 refine⟨Hs,ρ,ag,_,sr,h,fun v H1 aS m x As g1 r1 f1 q1=>⟨aS,ρ,ag,_,sr.grow g1,q1,fun u H2 aC n y Bs g2 r2 f2 q2=>?_⟩⟩
 exact br aC H2 m x v As n y u Bs Q Qv g2.wf (r1.grow g2) r2 q2 (Fin.after fin (g1.trans g2))
theorem EA(ho:cq X (binaryOp op) r)(br:hU K r f)(ha:QE X K a ta)(hb:QE X K b tb):QE X K (.BinOp a op b pos) (aw f ta tb):=PE.imp (XT ho ha hb) (jo br)
theorem ay'(ho:M_ X (unaryOp op) r)(br:QM K r f)(ha:QE X K a ta):QE X K (.UnaryOp op a pos) (kr f ta):=by
 refine PE.imp (XU ho ha) fun σ H Qv hx=>iS hx fun Hs ρ ag Q sr h fin=>?_
 exact⟨Hs,ρ,ag,_,sr,h,fun v H1 aS m x As g1 r1 f1 q1=>br aS H1 m x v As Q Qv g1.wf r1 q1 (Fin.after fin g1)⟩
theorem vy(ho:cq X (compareOp op) r)(br:hU K r f)(ha:QE X K a ta)(hb:QE X K b tb)(hm:behindInMarks op b=false):QE X K (.Compare a [op] [b] pos) (aw f ta tb):=PE.imp (Ye ho ha hb hm) (jo br)
def wB(t:WE):WT:=fun ρ Q=>t ρ fun _ x=>match x with
 |.bl b=>Q b
 |_=>False
theorem wL(σ:St)(H:Hp)(Qv:Bool->Hp->Prop)(h:A3 K (wB t) σ H Qv):PC (sj K t) σ H Qv:=by
 obtain⟨Hs,ρ,ag,Q,sr,h,fin⟩:=h
 refine⟨Hs,ρ,ag,_,sr,h,fun v H1 aS m x As g1 r1 f1 q1=>?_⟩
 have r:=r1.rep g1.wf
 cases r with
 |bl b=>exact⟨b,rfl,fin b H1 aS g1 q1⟩
 |_=>exact q1.elim
theorem cB(ho:cq X (compareOp op) r)(br:hU K r f)(ha:QE X K a ta)(hb:QE X K b tb)(hm:behindInMarks op b=false):QT X K (.Compare a [op] [b] pos) (wB (aw f ta tb)):=by
 refine PT.imp (Yf ho ha hb hm) fun σ H Qv h=>?_
 obtain⟨Hs,ρ,ag,Q,sr,h,fin⟩:=h
 refine jo br σ H _ ⟨Hs,ρ,ag,_,sr,h,fun v H1 aS m x As g1 r1 f1 q1=>?_⟩
 have r:=r1.rep g1.wf
 cases r with
 |bl b=>exact⟨b,rfl,fin b H1 aS g1 q1⟩
 |_=>exact q1.elim
theorem oE(h:QE X K a t)(he:∀ whole,isTrue a X.env whole=(do let v <- whole;standAt a.pos;holding [v] (truthy v)):=by intro _;rfl):QT X K a (wB t):=PT.imp (Xh h he) wL
def nM(f g:W2)(ta tb tc:WE):WE:=fun ρ Q=>ta ρ fun m x=>tb ρ fun n y=>f m x n y fun _ z=>match z with
 |.bl k=>if k=true then tc ρ fun l w=>g n y l w Q else Q .sh (.bl false)
 |_=>False
end
end L2.Q
namespace L2.Q
open PySem PySem.Spec PyProof.Rows
section
variable {X:Cx}{K:PySem.W.Frag}{a b c:Expr}{ta tb tc:WE}{pos:Pos}
theorem rH(br:hU K r f)(QN:hU K r' g)(σ:St)(H:Hp)(Qv:VK)(h:sj K (nM f g ta tb tc) σ H Qv):TH r r' (sj K ta) (sj K tb) (sj K tc) σ H Qv:=by
 obtain⟨Hs,ρ,ag,Q,sr,h,fin⟩:=h
 refine⟨Hs,ρ,ag,_,sr,h,fun v H1 aS m x As g1 r1 f1 q1=>⟨aS,ρ,ag,_,sr.grow g1,q1,fun u H2 aC n y Bs g2 r2 f2 q2=>?_⟩⟩
 refine br aC H2 m x v As n y u Bs _ _ g2.wf (r1.grow g2) r2 q2 fun z H3 fR m3 d3 Lr g3 r3 f3 q3=>?_
 have rr:=r3.rep g3.wf
 cases rr with
 |bl k =>
  refine⟨k,rfl,?_⟩
  have NM:Fin K fR H3 Q Qv:=Fin.after fin ((g1.trans g2).trans g3)
  cases k with
  |false=>exact NM.sh g3.wf (.bl false) q3
  |true =>
   refine⟨fR,ρ,ag,_,((sr.grow g1).grow g2).grow g3,q3,fun w H4 GW l z GY g4 r4 f4 q4=>?_⟩
   exact QN GW H4 n y u Bs l z w GY Q Qv g4.wf ((r2.grow g3).grow g4) r4 q4 (Fin.after NM g4)
 |_=>exact q3.elim
theorem xZ(ho:cq X (compareOp op) r)(kU:cq X (compareOp op') r')(br:hU K r f)(QN:hU K r' g)(ha:QE X K a ta)(hb:QE X K b tb)(hc:QE X K c tc)
  (hm:lastMarks [op,op'] [b,c]=false:=by with_unfolding_all rfl):QT X K (.Compare a [op,op'] [b,c] pos) (wB (nM f g ta tb tc)):=by
 refine PT.imp (Yg ho kU ha hb hc hm) fun σ H Qv h=>?_
 obtain⟨Hs,ρ,ag,Q,sr,h,fin⟩:=h
 refine rH br QN σ H _ ⟨Hs,ρ,ag,_,sr,h,fun v H1 aS m x As g1 r1 f1 q1=>?_⟩
 have r:=r1.rep g1.wf
 cases r with
 |bl b=>exact⟨b,rfl,fin b H1 aS g1 q1⟩
 |_=>exact q1.elim
def QQ(t u:WT):WT:=fun ρ Q=>t ρ fun c=>if c=true then u ρ Q else Q false
def Ls(t u:WT):WT:=fun ρ Q=>t ρ fun c=>if c=true then Q true else u ρ Q
def EB(t:WT):WT:=fun ρ Q=>t ρ fun c=>Q (!c)
variable {tA tB:WT}{rest:List Expr}
theorem lV{t u:WT}{f:Bool->TT}{σ:St}{H:Hp}{Qv:Bool->Hp->Prop}{G:Bool->(Bool->Prop)->Env->Prop}
  (h:A3 K (fun ρ Q=>t ρ fun c=>G c Q ρ) σ H Qv)
  (i:∀ c H1 aS ρ ag Q,dk K aS ρ σ H1 ag->G c Q ρ->(∀ b H' av,eL aS H1 av H'->Q b->Qv b H')->f c σ H1 Qv):A3 K t σ H fun c H1=>f c σ H1 Qv:=by
 obtain⟨Hs,ρ,ag,Q,sr,h,fin⟩:=h
 exact⟨Hs,ρ,ag,_,sr,h,fun c H1 aS g1 q1=>i c H1 aS ρ ag Q (sr.grow g1) q1 fun b H' av g2=>fin b H' av (g1.trans g2)⟩
theorem Ck(ha:QT X K a tA):QW X K (.BoolOp .And [a] pos) tA:=pw_and1 ha
theorem uB(ha:QT X K a tA):QW X K (.BoolOp .Or [a] pos) tA:=pw_or1 ha
theorem CQ(ha:QT X K a tA)(hb:QW X K (.BoolOp .And (b :: rest) pos) tB):QW X K (.BoolOp .And (a :: b :: rest) pos) (QQ tA tB):=by
 refine PW.imp (pw_and ha hb) fun σ H Qv h=>?_
 refine lV (u:=tB) (f:=fun c σ H1 Q=>if c=true then A3 K tB σ H1 Q else Q false H1) h fun c H1 aS ρ ag Q sr q fin=>?_
 cases c with
 |true=>exact⟨aS,ρ,ag,Q,sr,q,fin⟩
 |false=>exact fin false H1 aS (eL.refl sr.wf) q
theorem Ak(ha:QT X K a tA)(hb:QW X K (.BoolOp .Or (b :: rest) pos) tB):QW X K (.BoolOp .Or (a :: b :: rest) pos) (Ls tA tB):=by
 refine PW.imp (pw_or ha hb) fun σ H Qv h=>?_
 refine lV (u:=tB) (f:=fun c σ H1 Q=>if c=true then Q true H1 else A3 K tB σ H1 Q) h fun c H1 aS ρ ag Q sr q fin=>?_
 cases c with
 |true=>exact fin true H1 aS (eL.refl sr.wf) q
 |false=>exact⟨aS,ρ,ag,Q,sr,q,fin⟩
theorem NV(h:QW X K a tA):QT X K a tA:=h _
theorem m_(ha:QT X K a tA):QT X K (.UnaryOp .Not a pos) (EB tA):=by
 refine PT.imp (Xl ha) fun σ H Qv h=>?_
 exact lV (u:=tA) (f:=fun c σ H1 Q=>Q (!c) H1) h fun c H1 aS ρ ag Q sr q fin=>fin _ H1 aS (eL.refl sr.wf) q
def xP(ta tb:WE):WE:=fun ρ Q=>ta ρ fun _ x=>match x with
 |.bl c=>if c=true then tb ρ Q else Q .sh (.bl false)
 |_=>False
def wJ(ta:WE):WE:=fun ρ Q=>ta ρ fun _ x=>match x with
 |.bl c=>Q .sh (.bl (!c))
 |_=>False
theorem Gg{op}(h:QE X K a ta):QE X K (.BoolOp op [a] pos) ta:=Xo h
theorem GK(ha:QE X K a ta)(hb:QE X K (.BoolOp .And (b :: rest) pos) tb):QE X K (.BoolOp .And (a :: b :: rest) pos) (xP ta tb):=by
 refine PE.imp (Xp ha hb) fun σ H Qv hx=>iS hx fun Hs ρ ag Q sr h fin=>?_
 refine⟨Hs,ρ,ag,_,sr,h,fun v H1 aS m x As g1 r1 f1 q1=>?_⟩
 have r:=r1.rep g1.wf
 cases r with
 |bl c =>
  refine⟨c,rfl,?_⟩
  cases c with
  |true=>exact⟨aS,ρ,ag,Q,sr.grow g1,q1,Fin.after fin g1⟩
  |false=>exact Fin.sh (Fin.after fin g1) g1.wf (.bl false) q1
 |_=>exact q1.elim
theorem FW(ha:QE X K a ta):QE X K (.UnaryOp .Not a pos) (wJ ta):=by
 refine PE.imp (Xq ha) fun σ H Qv hx=>iS hx fun Hs ρ ag Q sr h fin=>?_
 refine⟨Hs,ρ,ag,_,sr,h,fun v H1 aS m x As g1 r1 f1 q1=>?_⟩
 have r:=r1.rep g1.wf
 cases r with
 |bl c=>exact⟨c,rfl,Fin.sh (Fin.after fin g1) g1.wf (.bl _) q1⟩
 |_=>exact q1.elim
def az':D->Option Bool
 |.non=>some false
 |.bl b=>some b
 |.int i=>some (i != 0)
 |.str x=>some ((x.length:Int) != 0)
 |.list xs=>some !xs.isEmpty
 |.tup xs=>some !xs.isEmpty
 |.dK kvs=>none
 |.dT kvs=>none
end
def eM:W2:=fun m x n y Q=>match x,y with
 |.int i,.int j=>Q .sh (.int (i+j))
 |.str i,.str j=>i.length+j.length<=sizeLine/\Q .sh (.str (i++j))
 |.list xs,.list ys=>xs.length+ys.length<=sizeLine/\((cf xs=true/\cf ys=true/\Q (.ow true) (.list (xs++ys)))\/(m=.sh/\n=.sh/\Q (.ow false) (.list (xs++ys))))
 |.tup xs,.tup ys=>xs≠[]/\xs.length+ys.length<=sizeLine/\cf xs=true/\cf ys=true/\Q .sh (.tup (xs++ys))
 |_,_=>False
def EC(P:Int->Int->(Md->D->Prop)->Prop):W2:=fun _ x _ y Q=>match x,y with
 |.int i,.int j=>P i j Q
 |_,_=>False
def QR(P:Int->Int->(Md->D->Prop)->Prop)(S:Str->Str->(Md->D->Prop)->Prop):W2:=fun _ x _ y Q=>match x,y with
 |.int i,.int j=>P i j Q
 |.str i,.str j=>S i j Q
 |_,_=>False
def Lv:W2:=EC fun i j Q=>Q .sh (.int (i-j))
def om:W2:=EC fun i j Q=>yA i j/\Q .sh (.int (i*j))
def A5:W2:=EC fun i j Q=>(0<j/\j<1073741824)/\Q .sh (.int (i / j))
def qA:W2:=EC fun i j Q=>0<j/\Q .sh (.int (i % j))
def NW:W2:=EC fun i j Q=>FU i j/\Q .sh (.int (i ^ j.toNat))
def Lw:W2:=QR (fun i j Q=>Q .sh (.bl (decide (i<j)))) fun i j Q=>Q .sh (.bl (og i j))
def NX:W2:=QR (fun i j Q=>Q .sh (.bl (decide (i<=j)))) fun i j Q=>Q .sh (.bl (!og j i))
def QV:W2:=EC fun i j Q=>Q .sh (.bl (decide (j<i)))
def kH:W2:=fun _ x _ y Q=>match x,y with
 |.int i,.int j=>Q .sh (.bl (decide (i=j)))
 |.str i,.str j=>Q .sh (.bl (decide (i=j)))
 |.bl i,.bl j=>Q .sh (.bl (decide (i=j)))
 |_,_=>b4 12 x=true/\b4 12 y=true/\Q .sh (.bl (fT x y))
def A6:W2:=fun _ x _ y Q=>match x,y with
 |.int i,.int j=>Q .sh (.bl (!decide (i=j)))
 |.str i,.str j=>Q .sh (.bl (!decide (i=j)))
 |.bl i,.bl j=>Q .sh (.bl (!decide (i=j)))
 |_,_=>b4 12 x=true/\b4 12 y=true/\Q .sh (.bl (!fT x y))
section
variable {K:PySem.W.Frag}
theorem hU.AJ(h:∀ Hs H m x v As n y u Bs Qd Qv,Wf Hs H->RM K Hs H m x v As->RM K Hs H n y u Bs->f m x n y Qd->Fin K Hs H Qd Qv->r v u H Qv):hU K r f:=h
theorem zM(f:Fin K Hs H Qd Qv)(w:Wf Hs H)(h:x.length<=sizeLine)(q:Qd .sh (.str x)):Qv (.str x) H:=f.sh w (.str h) q
theorem cM(i j:Str):(i++j).length=i.length+j.length:=by
 show((i++j).cps.size)=_
 show(i.cps++j.cps).size=_
 simp[Str.length]
theorem Fg:hU K (fun x y H Q=>wZ K x y H Q\/PN K x y H Q) eM:=by
 intro Hs H m x v As n y u Bs Qd Qv w rx ry h f
 have r1:=rx.rep w
 have r2:=ry.rep w
 unfold eM at h
 cases r1 with
 |int i=>cases r2 with
  |int j=>exact .inl (f.sh w (.int _) h)
  |_=>exact h.elim
 |str hi=>cases r2 with
  |str hj=>exact .inl ⟨h.1,zM f w (by rw[cM];exact h.1) h.2⟩
  |_=>exact h.elim
 |list z1 s1 q1=>cases r2 with
  |list z2 s2 q2 =>
   have l1:=q1.length
   have l2:=q2.length
   have hz:=h.1
   rcases h.2 with⟨f1,f2,q⟩|⟨rfl,rfl,q⟩
   ·refine .inl ⟨_,_,s1,s2,by lia,?_⟩
    exact f.lst w (by rw[tS];exact hz) (q1.append q2) (by rw[eE,f1,f2];rfl) q
   ·obtain⟨_,rx⟩:=rx
    obtain⟨_,ry⟩:=ry
    cases rx with
    |list z1' s1' G0=>cases ry with
     |list z2' s2' Vi =>
      have l1:=G0.length
      have l2:=Vi.length
      refine .inl ⟨_,_,ax.seq w.sub s1',ax.seq w.sub s2',by lia,?_⟩
      exact f.Lp w (by rw[tS];exact hz) (G0.append Vi) q
  |_=>exact h.elim
 |tup t1 s1 q1=>cases r2 with
  |tup t2 s2 q2 =>
   have l1:=q1.length
   have l2:=q2.length
   obtain⟨jI,hz,f1,f2,q⟩:=h
   refine .inr ⟨_,_,_,_,rfl,rfl,.inl (.inl s1),.inl (.inl s2),?_,by lia,?_⟩
   ·intro e
    subst e
    exact jI (Mq.mp l1)
   ·refine⟨fun e=>?_,fun _=>f.tup w (by rw[tS];exact hz) (q1.append q2) (by rw[eE,f1,f2];rfl) q⟩
    subst e
    cases q2
    rw[nV] at q
    exact f.flat w (.tup t1 s1 q1) (by simpa[D.flat] using f1) q
  |_=>exact h.elim
 |_=>exact h.elim
theorem za{H:Hp}{x y:D}{v u:V}{m n:Md}{P:Int->Int->(Md->D->Prop)->Prop}{S:Str->Str->(Md->D->Prop)->Prop}{Q:Md->D->Prop}{G:Prop}(r1:Rep K H x v)(r2:Rep K H y u)(h:QR P S m x n y Q)(k:∀ i j,v=.int i->u=.int j->P i j Q->G)(ks:∀ i j,v=.str i->u=.str j->S i j Q->G):G:=by
 cases r1 with
 |int i=>cases r2 with
  |int j=>exact k i j rfl rfl h
  |_=>exact h.elim
 |str hi=>cases r2 with
  |str hj=>exact ks _ _ rfl rfl h
  |_=>exact h.elim
 |_=>exact h.elim
theorem gB{H:Hp}{x y:D}{v u:V}{m n:Md}{P:Int->Int->(Md->D->Prop)->Prop}{Q:Md->D->Prop}{G:Prop}(r1:Rep K H x v)(r2:Rep K H y u)(h:EC P m x n y Q)(k:∀ i j,v=.int i->u=.int j->P i j Q->G):G:=by
 cases r1 with
 |int i=>cases r2 with
  |int j=>exact k i j rfl rfl h
  |_=>exact h.elim
 |_=>exact h.elim
theorem Ed:hU K Cv Lv:=by
 intro Hs H m x v As n y u Bs Qd Qv w rx ry h f
 exact gB (rx.rep w) (ry.rep w) h fun i j e1 e2 q=>by
  subst e1 e2
  exact f.sh w (.int _) q
theorem Dh:hU K Ao om:=by
 intro Hs H m x v As n y u Bs Qd Qv w rx ry h f
 exact gB (rx.rep w) (ry.rep w) h fun i j e1 e2 q=>by
  subst e1 e2
  exact⟨q.1,f.sh w (.int _) q.2⟩
theorem DY:hU K BR A5:=by
 intro Hs H m x v As n y u Bs Qd Qv w rx ry h f
 exact gB (rx.rep w) (ry.rep w) h fun i j e1 e2 q=>by
  subst e1 e2
  exact⟨q.1,f.sh w (.int _) q.2⟩
theorem Dz:hU K zT qA:=by
 intro Hs H m x v As n y u Bs Qd Qv w rx ry h f
 exact gB (rx.rep w) (ry.rep w) h fun i j e1 e2 q=>by
  subst e1 e2
  exact⟨q.1,f.sh w (.int _) q.2⟩
theorem Dq:hU K Ca NW:=by
 intro Hs H m x v As n y u Bs Qd Qv w rx ry h f
 exact gB (rx.rep w) (ry.rep w) h fun i j e1 e2 q=>by
  subst e1 e2
  exact⟨q.1,f.sh w (.int _) q.2⟩
theorem FQ:hU K Qi QV:=by
 intro Hs H m x v As n y u Bs Qd Qv w rx ry h f
 exact gB (rx.rep w) (ry.rep w) h fun i j e1 e2 q=>by
  subst e1 e2
  exact f.sh w (.bl _) q
theorem Fj:hU K Qg Lw:=by
 intro Hs H m x v As n y u Bs Qd Qv w rx ry h f
 exact za (rx.rep w) (ry.rep w) h (fun i j e1 e2 q=>by
  subst e1 e2
  exact f.sh w (.bl _) q) fun i j e1 e2 q=>by
  subst e1 e2
  exact f.sh w (.bl _) q
theorem Hl:hU K Qh NX:=by
 intro Hs H m x v As n y u Bs Qd Qv w rx ry h f
 exact za (rx.rep w) (ry.rep w) h (fun i j e1 e2 q=>by
  subst e1 e2
  exact f.sh w (.bl _) q) fun i j e1 e2 q=>by
  subst e1 e2
  exact f.sh w (.bl _) q
theorem eq_data(w:Wf Hs H)(rx:Rep K H x v)(ry:Rep K H y u)(f:Fin K Hs H Qd Qv)(h:b4 12 x=true/\b4 12 y=true/\Qd .sh (.bl (fT x y))):Qk K v u H Qv:=by
 obtain⟨h1,h2,q⟩:=h
 have l1:=h_ 12 x h1
 have l2:=h_ 12 y h2
 exact⟨x.py,y.py,rx.l2 h1,ry.l2 h2,l1.1,l2.1,by lia,f.sh w (.bl _) q⟩
theorem ne_data(w:Wf Hs H)(rx:Rep K H x v)(ry:Rep K H y u)(f:Fin K Hs H Qd Qv)(h:b4 12 x=true/\b4 12 y=true/\Qd .sh (.bl (!fT x y))):Ql K v u H Qv:=by
 obtain⟨h1,h2,q⟩:=h
 have l1:=h_ 12 x h1
 have l2:=h_ 12 y h2
 exact⟨x.py,y.py,rx.l2 h1,ry.l2 h2,l1.1,l2.1,by lia,f.sh w (.bl _) q⟩
theorem gn:hU K (NC K) kH:=by
 intro Hs H m x v As n y u Bs Qd Qv w rx ry h f
 have r1:=rx.rep w
 have r2:=ry.rep w
 have d:=fun h=>eq_data (Qd:=Qd) (Qv:=Qv) w r1 r2 f h
 cases r1 with
 |int i=>cases r2 with
  |int j=>exact f.sh w (.bl _) h
  |_=>exact d h
 |str i=>cases r2 with
  |str j=>exact f.sh w (.bl _) h
  |_=>exact d h
 |bl i=>cases r2 with
  |bl j=>exact f.sh w (.bl _) h
  |_=>exact d h
 |_=>exact d h
theorem DK:hU K (ND K) A6:=by
 intro Hs H m x v As n y u Bs Qd Qv w rx ry h f
 have r1:=rx.rep w
 have r2:=ry.rep w
 have d:=fun h=>ne_data (Qd:=Qd) (Qv:=Qv) w r1 r2 f h
 cases r1 with
 |int i=>cases r2 with
  |int j=>exact f.sh w (.bl _) h
  |_=>exact d h
 |str i=>cases r2 with
  |str j=>exact f.sh w (.bl _) h
  |_=>exact d h
 |bl i=>cases r2 with
  |bl j=>exact f.sh w (.bl _) h
  |_=>exact d h
 |_=>exact d h
end
section
variable {X:Cx}{K:PySem.W.Frag}{a b:Expr}{ta tb:WE}{pos:Pos}
theorem Gz(hK:X.K=K:=by rfl):cq X (binaryOp .Add) (fun x y H Q=>wZ K x y H Q\/PN K x y H Q):=by subst hK;exact zY.or YL
theorem bA(ha:QE X K a ta)(hb:QE X K b tb)(hK:X.K=K:=by rfl):QE X K (.BinOp a .Add b pos) (aw eM ta tb):=EA (Gz hK) Fg ha hb
theorem CK(ha:QE X K a ta)(hb:QE X K b tb):QE X K (.BinOp a .Sub b pos) (aw Lv ta tb):=EA Bh Ed ha hb
theorem gk(ha:QE X K a ta)(hb:QE X K b tb):QE X K (.BinOp a .Mult b pos) (aw om ta tb):=EA Cy Dh ha hb
theorem sO(ha:QE X K a ta)(hb:QE X K b tb):QE X K (.BinOp a .FloorDiv b pos) (aw A5 ta tb):=EA zN DY ha hb
theorem iC(ha:QE X K a ta)(hb:QE X K b tb):QE X K (.BinOp a .Mod b pos) (aw qA ta tb):=EA Cu Dz ha hb
theorem Hh(ha:QE X K a ta)(hb:QE X K b tb):QE X K (.BinOp a .Pow b pos) (aw NW ta tb):=EA Az Dq ha hb
def CB:W1:=fun _ x Q=>match x with
 |.int i=>Q .sh (.int (-i))
 |_=>False
theorem Dr:QM K (rU fun i=>.int (-i)) CB:=by
 intro Hs H m x v As Qd Qv w rx h f
 have r1:=rx.rep w
 cases r1 with
 |int i=>exact⟨i,rfl,f.sh w (.int _) h⟩
 |_=>exact h.elim
theorem tW(ha:QE X K a ta):QE X K (.UnaryOp .USub a pos) (kr CB ta):=ay' X5 Dr ha
end
def b5:WA:=fun _ Q=>Q []
def aj(te:WE)(t:WA):WA:=fun ρ Q=>te ρ fun m x=>t ρ fun ps=>Q ((m,x) :: ps)
def zk:Md × D->Bool
 | (.sh,_)=>true
 | (_,d)=>d.flat
def He:Md × D->Bool
 | (.bo,d)=>d.flat
 |_=>true
def ED:Md × D->Bool
 | (.ow true,_)=>true
 | (_,d)=>d.flat
def Ax(ps:List (Md × D)):Md:=bif ps.all zk then .sh else bif ps.all He then .ow (ps.all ED) else .bo
def Ay(ps:List (Md × D)):Md:=bif ps.all He then .ow (ps.all ED) else .bo
def nk(t:WA):WE:=fun ρ Q=>t ρ fun ps=>ps.length<=sizeLine/\Q (Ax ps) (.tup (ps.map (·.2)))
def tF(t:WA):WE:=fun ρ Q=>t ρ fun ps=>ps.length<=sizeLine/\Q (Ay ps) (.list (ps.map (·.2)))
section
variable {X:Cx}{K:PySem.W.Frag}{e:Expr}{es:List Expr}{te:WE}{t:WA}{pos:Pos}{Hs H:Hp}
theorem au:QA X K [] b5:=PA.imp rz fun σ H Qv hx=>iS hx fun Hs ρ ag Q sr h f=>f [] H Hs [] [] (eL.refl sr.wf) .nil cz.nil h
theorem cz.app(f1:cz aS H As)(o:∀ a∈As,H1 a≠none)(f2:cz aC H1 Bs)(s:ax H H1)(k:∀ a,aS a=none->H1 a≠none->aC a=none):cz aC H (As++Bs) :=
 ⟨ja.mpr ⟨f1.1,f2.1,fun a ha b hb e=>by subst e;exact o a ha (f2.2 a hb).2⟩,fun a h=>by
  rcases dP.mp h with h|h
  ·exact⟨k a (f1.2 a h).1 (o a h),(f1.2 a h).2⟩
  ·exact⟨(f2.2 a h).1,s.free (f2.2 a h).2⟩⟩
theorem aa(ha:QE X K e te)(hr:QA X K es t)(hs:starEach (e :: es) X.env=(false,eval e X.env) :: starEach es X.env:=by rfl):QA X K (e :: es) (aj te t):=by
 refine PA.imp (nc ha hr hs) fun σ H Qv hx=>iS hx fun Hs ρ ag Q sr h f=>?_
 refine⟨Hs,ρ,ag,_,sr,h,fun v H1 aS m x As g1 r1 f1 q1=>⟨aS,ρ,ag,_,sr.grow g1,q1,fun vs H2 aC ps Bs g2 r2 f2 q2=>?_⟩⟩
 exact f (v :: vs) H2 aC _ _ (g1.trans g2) (.cons (r1.grow g2) r2) (f1.app (fun a h=>(r1.own a h).ne) f2 g1.all fun a h1 h2=>g2.oj h1 h2) q2
theorem zi.sh(w:Wf Hs H){ps:List (Md × D)}(r:zi K Hs H ps vs As):ps.all zk=true->ay K Hs (ps.map (·.2)) vs:=by
 induction r with
 |nil=>exact fun _=>.nil
 |@cons m d v ps vs As Bs r rs ih =>
  intro h
  simp only[DH,kQ] at h
  refine .cons ?_ (ih h.2)
  cases m with
  |sh=>exact r.2
  |ow fl=>exact r.flat w h.1
  |bo=>exact r.flat w h.1
theorem zi.ow(w:Wf Hs H){ps:List (Md × D)}(r:zi K Hs H ps vs As):ps.all He=true->(fl=true->ps.all ED=true)->∃ Bs,Bs.Sublist As/\(ps.all zk=false->Bs≠[])/\aD K Hs H fl (ps.map (·.2)) vs Bs:=by
 induction r with
 |nil=>exact fun _ _=>⟨[],E9 _,(fun z=>Bool.noConfusion z),.nil⟩
 |@cons m d v ps vs A1 Cs r rs ih =>
  intro h hf
  simp only[DH,kQ] at h hf
  obtain⟨Bs,sb,ne,q⟩:=ih h.2 fun z=>(hf z).2
  have sk:([]++Bs).Sublist (A1++Cs):=by simpa using sb.trans (pT _ _)
  have An:d.flat=true->zk (m,d)=true->∃ Bs,Bs.Sublist (A1++Cs)/\(((m,d) :: ps).all zk=false->Bs≠[])/\aD K Hs H fl (((m,d) :: ps).map (·.2)) (v :: vs) Bs:=fun hd ho =>
   ⟨[]++Bs,sk,fun z=>ne (by rw[DH,ho] at z;simpa using z),.cons (.sh (fun _=>hd) (r.flat w hd)) q⟩
  cases m with
  |sh=>exact⟨[]++Bs,sk,fun z=>ne (by simpa[zk] using z),.cons (.sh (fun z=>(hf z).1) r.2) q⟩
  |bo=>exact An h.1 h.1
  |ow b =>
   cases hd:d.flat with
   |true=>exact An hd hd
   |false =>
    refine⟨A1++Bs,sb.append_left _,fun _ z=>r.2 (II.mp z).1,.cons ?_ q⟩
    cases fl with
    |false=>exact bE.NS r.1
    |true =>
     have:=(hf rfl).1
     cases b with
     |true=>exact r.1
     |false=>simp[ED,hd] at this
theorem qY:∀ {ps:List (Md × D)},cf (ps.map (·.2))=true->ps.all zk=true
 |[],_=>rfl
 | (m,d) :: ps,h=>by
  simp only[fm,cf,kQ] at h
  simp only[DH,kQ]
  exact⟨by cases m<;>simp[zk,h.1],qY h.2⟩
theorem e_{x1}(h:QA X K es t):QE X K (.Tuple es x1 pos) (nk t):=by
 refine PE.imp (TN h) fun σ H Qv hx=>iS hx fun Hs ρ ag Q sr h f=>?_
 refine⟨Hs,ρ,ag,_,sr,h,fun vs H1 aS ps As g1 r1 f1 q1=>?_⟩
 obtain⟨hz,q⟩:=q1
 have rl:=(r1.reps g1.wf)
 have hl:=rl.length
 rw[dc] at hl
 refine⟨by lia,fun p hp=>?_⟩
 have g2:=QL (vs:=vs) g1.wf hp
 have fin:=Fin.after f g1
 unfold Ax at q
 cases h1:ps.all zk with
 |true =>
  rw[h1] at q
  exact fin _ _ _ .sh _ [] g2 ⟨rfl,.tup (by lia) jS ((r1.sh g1.wf h1).same g2.sh)⟩ cz.nil q
 |false =>
  rw[h1] at q
  cases h2:ps.all He with
  |false =>
   rw[h2] at q
   exact fin _ _ _ .bo _ [] g2 ⟨rfl,.tup (by lia) jS (rl.same g2.all)⟩ cz.nil q
  |true =>
   rw[h2] at q
   obtain⟨Bs,sb,nz,ro⟩:=r1.ow (fl:=ps.all ED) g1.wf h2 fun z=>z
   have jI:cf (ps.map (·.2))=false:=by
    cases hf:cf (ps.map (·.2)) with
    |false=>rfl
    |true=>rw[qY hf] at h1;cases h1
   have own:=ro.own
   refine f _ _ _ (.ow _) _ Bs (g1.trans g2) ⟨.tup (by lia) jS jI (ro.grow g2.sh g2.all),nz h1⟩ ⟨sb.nodup f1.1,fun a ha=>⟨?_,(f1.2 a (sb.subset ha)).2⟩⟩ q
   exact g2.oj (f1.2 a (sb.subset ha)).1 (own a ha).ne
theorem jn(h:QA X K es t):QE X K (.List es pos) (tF t):=by
 refine PE.imp (Yo h) fun σ H Qv hx=>iS hx fun Hs ρ ag Q sr h f=>?_
 refine⟨Hs,ρ,ag,_,sr,h,fun vs H1 aS ps As g1 r1 f1 q1=>?_⟩
 obtain⟨hz,q⟩:=q1
 have rl:=(r1.reps g1.wf)
 have hl:=rl.length
 rw[dc] at hl
 refine⟨by lia,fun p hp=>?_⟩
 have g2:=NT (o:=.lst vs) g1.wf hp fun _ z=>nomatch z
 have fin:=Fin.after f g1
 unfold Ay at q
 cases h2:ps.all He with
 |false =>
  rw[h2] at q
  exact fin _ _ _ .bo _ [] g2 ⟨rfl,.list (by lia) (.inl (.inl jS)) (rl.same g2.all)⟩ cz.nil q
 |true =>
  rw[h2] at q
  obtain⟨Bs,sb,nz,ro⟩:=r1.ow (fl:=ps.all ED) g1.wf h2 fun z=>z
  have own:=ro.own
  refine f _ _ _ (.ow _) _ (p :: Bs) (g1.trans g2) ⟨.list (by lia) jS (ro.grow g2.sh g2.all),by simp⟩ ⟨lS.mpr ⟨fun m=>(own p m).ne hp,sb.nodup f1.1⟩,fun a ha=>?_⟩ q
  rcases cK.mp ha with rfl|ha
  ·exact⟨g1.wf.sub.free hp,g1.all.free hp⟩
  ·exact⟨g2.oj (f1.2 a (sb.subset ha)).1 (own a ha).ne,(f1.2 a (sb.subset ha)).2⟩
end
theorem ay.eu{K:PySem.W.Frag}(r:ay K H ds vs)(h:eu ds i=some d):∃ v,L2.eu vs i=some v/\Rep K H d v:=by
 unfold L2.eu at *
 rw[<- r.length]
 cases e:kB ds.length i with
 |none=>rw[e] at h;cases h
 |some j =>
  rw[e] at h
  exact r.get h
def eT:W2:=fun m x _ y Q=>match x with
 |.list xs=>match y with
  |.int i=>∃ d,eu xs i=some d/\bI d (f:=fun d=>Q (kG m d) d) ⟨⟩
  |_=>False
 |.tup xs=>match y with
  |.int i=>∃ d,eu xs i=some d/\bI d (f:=fun d=>Q (kG m d) d) ⟨⟩
  |_=>False
 |.str z=>match y with
  |.int i=>∃ c,eu z.cps.toList i=some c/\Q .sh (.str ⟨#[c]⟩)
  |_=>False
 |.dK kvs=>∃ k d,y.key1=some k/\gS kvs k=some d/\bI d (f:=fun d=>Q (kG m d) d) ⟨⟩
 |.dT kvs=>match y with
  |.tup ys=>∃ ks d,gr ys=some ks/\gS kvs ks=some d/\bI d (f:=fun d=>Q (kG m d) d) ⟨⟩
  |_=>False
 |_=>False
def QX(K:PySem.W.Frag):R2:=fun x y H Q=>NB K x y H Q\/∃ a v,x=.ref a/\qk H a y (some v)/\Q v H
theorem Cm(c:Nat):(⟨#[c]⟩:Str).length<=sizeLine:=by show 1<=sizeLine;decide
theorem RM.here{K:PySem.W.Frag}(w:Wf Hs H)(r:RM K Hs H m d v As):(m=.sh/\Rep K Hs d v)\/(m≠.sh/\Rep K H d v):=by
 cases m with
 |sh=>exact .inl ⟨rfl,r.2⟩
 |ow fl=>exact .inr ⟨(fun z=>nomatch z),r.rep w⟩
 |bo=>exact .inr ⟨(fun z=>nomatch z),r.2⟩
section
variable {X:Cx}{K:PySem.W.Frag}
theorem Gp:hU K (QX K) eT:=by
 intro Hs H m x v As n y u Bs Qd Qv w rx ry h f
 have r2:=ry.rep w
 have core:∀ G:Hp,ax G H->(∀ d v,Rep K G d v->Rep K H d v/\(m=.sh->Rep K Hs d v))->Rep K G x v->QX K v u H Qv:=by
  intro G sg up r1
  cases r1 with
  |list z s q =>
   cases r2 with
   |int i =>
    obtain⟨d,e,h⟩:=h
    obtain⟨v',e',r'⟩:=q.eu e
    obtain⟨u1,u2⟩:=up _ _ r'
    exact .inl (.inl ⟨_,v',ax.seq sg s,e',f.kG w u1 u2 h⟩)
   |_=>exact h.elim
  |tup _ s q =>
   cases r2 with
   |int i =>
    obtain⟨d,e,h⟩:=h
    obtain⟨v',e',r'⟩:=q.eu e
    obtain⟨u1,u2⟩:=up _ _ r'
    exact .inl (.inr ⟨_,v',.inl (.inl (sg _ _ s)),e',f.kG w u1 u2 h⟩)
   |_=>exact h.elim
  |str hz =>
   cases r2 with
   |int i =>
    obtain⟨c,e,h⟩:=h
    exact .inl ⟨hz,c,e,f.sh w (.str (Cm c)) h⟩
   |_=>exact h.elim
  |dK kk s q =>
   obtain⟨k,d,hk,hg,h⟩:=h
   have ev:=r2.key hk
   subst ev
   have z:=zip_get (k:=k) q
   rw[hg] at z
   obtain⟨v',e',r'⟩:=z
   obtain⟨u1,u2⟩:=up _ _ r'
   exact .inr ⟨_,v',rfl,by rw[<- e'];exact qk.k' (ax.rd sg s),f.kG w u1 u2 h⟩
  |dT kk s q =>
   cases r2 with
   |tup t2 e2 q2 =>
    obtain⟨ks,d,hk,hg,h⟩:=h
    obtain⟨b,eb,e3⟩:=Rep.pd (.tup t2 e2 q2) hk
    cases eb
    have z:=zip_get (k:=ks) q
    rw[hg] at z
    obtain⟨v',e',r'⟩:=z
    obtain⟨u1,u2⟩:=up _ _ r'
    exact .inr ⟨_,v',rfl,by rw[<- e'];exact qk.t' (ax.rd sg s) e3,f.kG w u1 u2 h⟩
   |_=>exact h.elim
  |_=>exact h.elim
 rcases rx.here w with⟨hm,r⟩|⟨hm,r⟩
 ·exact core Hs w.sub (fun d v q=>And.intro (q.same w.sub) fun _=>q) r
 ·exact core H (ax.refl H) (fun d v q=>And.intro q fun z=>absurd z hm) r
theorem Vj(hu:X.A.units+64<cLine)(hK:X.K=K:=by rfl):sR X (QX K):=by
 subst hK
 refine sR.or yU ?_
 intro value slice pins s σ H x y v u Q I rx ry h hs
 obtain⟨a,w,rfl,g,q⟩:=h
 cases rx
 exact tail_any (Zh I g) F.slot_dict_getitem.lookup (Zb (by lia) I g ry fun w' s3 I3 ng=>⟨w,H,I3,ng,q⟩) hs
variable {a b:Expr}{ta tb:WE}{pos:Pos}
theorem gd(hu:X.A.units+64<cLine)(ha:QE X K a ta)(hb:QE X K b tb)(hs:Nk b:=by exact fun _ _=>rfl)(hK:X.K=K:=by rfl):QE X K (.Subscript a b pos) (aw eT ta tb):=PE.imp (PY (Vj hu hK) ha hb hs) (jo Gp)
end
def nr(xs:List α)(lo hi:Option Int):List α:=(xs.drop (HT.bq xs.length 0 lo)).take (HT.bq xs.length xs.length hi-HT.bq xs.length 0 lo)
abbrev WO:=Env->(Option Int->Prop)->Prop
def tY(t:WE):WO:=fun ρ Q=>t ρ fun _ x=>match x with
 |.int i=>Q (some i)
 |_=>False
def Lx(m:Md)(x:D)(lo hi:Option Int)(Q:Md->D->Prop):Prop:=match x with
 |.str z=>Q .sh (.str (wo z lo hi))
 |.list xs=>(cf xs=true/\Q (.ow true) (.list (nr xs lo hi)))\/(m=.sh/\Q (.ow false) (.list (nr xs lo hi)))
 |.tup xs=>cf xs=true/\¬ (HT.bq xs.length 0 lo=0/\HT.bq xs.length xs.length hi=xs.length)/\Q .sh (.tup (nr xs lo hi))
 |_=>False
def QY(te:WE)(tl th:WO):WE:=fun ρ Q=>te ρ fun m x=>tl ρ fun lo=>th ρ fun hi=>Lx m x lo hi Q
def tpO(K:PySem.W.Frag)(t:WO):TO:=fun σ H Qv=>∃ Hs ρ ag Q,dk K Hs ρ σ H ag/\t ρ Q/\∀ o H' av,eL Hs H av H'->Q o->Qv o H'
abbrev QO(X:Cx)(K:PySem.W.Frag)(e:Option Expr)(t:WO):Prop:=PO X e (tpO K t)
theorem wR(z:Str)(lo hi:Option Int):(wo z lo hi).length<=z.length:=by
 unfold wo Str.length
 simp only[i9,nS,BH,zS]
 lia
theorem lr(xs:List α)(lo hi:Option Int):(nr xs lo hi).length<=xs.length:=by
 unfold nr
 rw[nS,BH]
 lia
theorem mX{lo hi:Option Int}(h:cf xs=true):cf (nr xs lo hi)=true:=by
 rw[ji] at *
 intro x hx
 exact h x (OL (Mu hx))
section
variable {X:Cx}{K:PySem.W.Frag}{e:Expr}{lo hi:Option Expr}{te:WE}{tl th:WO}{pos p2:Pos}
theorem uZ(h:QE X K e te):QO X K (some e) (tY te):=fun pins s σ H Q I hh=>YG h pins s σ H Q I (by
 obtain⟨Hs,ρ,ag,Qd,sr,h,f⟩:=hh
 refine⟨Hs,ρ,ag,_,sr,h,fun v H1 aS m x As g1 r1 f1 q1=>?_⟩
 have r:=r1.rep g1.wf
 cases r with
 |int i=>exact⟨i,rfl,f _ H1 aS g1 q1⟩
 |_=>exact q1.elim)
theorem iW{lo hi:Option Int}(r:ay K H ds vs):ay K H (nr ds lo hi) (AI vs lo hi):=by
 unfold nr AI
 rw[r.length]
 exact(r.drop _).take _
theorem aD'(hK:X.K=K:=by rfl):FV X (fun x lo hi H Q=>Qj K x lo hi H Q\/T8 K x lo hi H Q):=by
 subst hK
 intro pins s σ H x v vl vu lo hi sl Q I rx hs pl pu h
 rcases h with h|h
 ·exact Eh pins s σ H x v vl vu lo hi sl Q I rx hs pl pu h
 ·exact YK pins s σ H x v vl vu lo hi sl Q I rx hs pl pu h
theorem zL(he:QE X K e te)(hl:QO X K lo tl)(hh:QO X K hi th)(hK:X.K=K:=by rfl):QE X K (.Subscript e (.Slice lo hi none p2) pos) (QY te tl th):=by
 refine PE.imp (YJ (aD' hK) he hl hh) fun σ H Qv hx=>iS hx fun Hs ρ ag Q sr h f=>?_
 refine⟨Hs,ρ,ag,_,sr,h,fun v H1 aS m x As g1 r1 f1 q1=>⟨aS,ρ,ag,_,sr.grow g1,q1,fun l H2 aC g2 q2=>⟨aC,ρ,ag,_,(sr.grow g1).grow g2,q2,fun u H3 fR g3 q3=>?_⟩⟩⟩
 have r3:=(r1.grow g2).grow g3
 have fin:Fin K fR H3 Q Qv:=Fin.after f ((g1.trans g2).trans g3)
 have rr:=r3.rep g3.wf
 cases rr with
 |str hz=>exact .inl ⟨hz,fin.sh g3.wf (.str (hG (wR _ _ _) hz)) q3⟩
 |list z s q =>
  have hz:=q.length
  rcases q3 with⟨hf,q3⟩|⟨rfl,q3⟩
  ·exact .inl ⟨_,s,fin.lst g3.wf (hG (lr _ _ _) (by lia)) (iW q) (mX hf) q3⟩
  ·obtain⟨_,r3⟩:=r3
   cases r3 with
   |list z' s' q' =>
    have hz:=q'.length
    exact .inl ⟨_,ax.seq g3.wf.sub s',fin.Lp g3.wf (hG (lr _ _ _) (by lia)) (iW q') q3⟩
 |tup z s q =>
  have hz:=q.length
  obtain⟨hf,hn,q3⟩:=q3
  exact .inr ⟨_,_,rfl,.inl (.inl s),by rw[<- hz];exact hn,fin.tup g3.wf (hG (lr _ _ _) (by lia)) (iW q) (mX hf) q3⟩
 |_=>exact q3.elim
end
def A7:W1:=fun _ x Q=>match x with
 |.str z=>Q .sh (.int z.length)
 |.list xs=>Q .sh (.int xs.length)
 |.tup xs=>Q .sh (.int xs.length)
 |.dK kvs=>Q .sh (.int kvs.length)
 |.dT kvs=>Q .sh (.int kvs.length)
 |_=>False
def QZ(T:String):W1:=fun _ x Q=>Q .sh (.bl (GH x.ty T))
def A8(K:PySem.W.Frag)(r:List V->Hp->VK->Prop)(f:W1):Prop:=∀ Hs H m x v As Qd Qv,Wf Hs H->RM K Hs H m x v As->f m x Qd->Fin K Hs H Qd Qv->r [v] H Qv
section
variable {X:Cx}{K:PySem.W.Frag}{e:Expr}{te:WE}{pos p:Pos}{x:Str}{id T:String}
theorem jZ(br:A8 K r f)(σ:St)(H:Hp)(Qv:VK)(h:sj K (kr f te) σ H Qv):PK r (TL (sj K te) TK) σ H Qv:=by
 obtain⟨Hs,ρ,ag,Q,sr,h,fin⟩:=h
 exact⟨Hs,ρ,ag,_,sr,h,fun v H1 aS m x As g1 r1 f1 q1=>br aS H1 m x v As Q Qv g1.wf r1 q1 (Fin.after fin g1)⟩
theorem jC(hc:iO X (.builtin id) r)(br:A8 K r f)(hg:Gl X x)(hm:X.mg x=none)(hv:bootBuiltins x=some (.builtin id))(he:QE X K e te)
  (hs:starEach [e] X.env=(false,eval e X.env) :: starEach [] X.env:=by rfl) (hn:x ≠ "__name__" := by decide) (ip:(x == ("__debug__" : Str))=false:=by decide):QE X K (.Call (.Name x p) [e] [] pos) (kr f te) :=
 PE.imp (K0 hc hg hm hv (nc he rz hs) hn ip hs) (jZ br)
theorem qK(hc:iO X (.type T) r)(br:A8 K r f)(hg:Gl X x)(hm:X.mg x=none)(hv:bootBuiltins x=some (.type T))(he:QE X K e te)
  (hs:starEach [e] X.env=(false,eval e X.env) :: starEach [] X.env:=by rfl) (hn:x ≠ "__name__" := by decide) (ip:(x == ("__debug__" : Str))=false:=by decide):QE X K (.Call (.Name x p) [e] [] pos) (kr f te) :=
 PE.imp (Yu hc hg hm hv (nc he rz hs) hn ip hs) (jZ br)
theorem Be(hd:(d == sysModules)=false)(x:rX s.heap d es ep)(Vk:(es.size:Int)<2 ^ 63)
  (h:∀ t t',Q (.int es.size t) { s with toks:=t' }):wpAny (model prog w) A (call (.builtin "len") [.ref d]) Q E s:=by
 refine Calls.call_function_entry kind_len plain_len entry_len (args_len1 _) ?_
 have mt:MeetsIn prog w (Builtin.«dict.__len__» ⟨[.ref d],[]⟩) (fun _ R s=>rX s.heap d es ep/\R (.ok (.ret (.int es.size s.toks))) { s with toks:=s.toks+1 }):=.of_wp fun A R s df=>by
  obtain⟨hm,h⟩:=df
  obtain⟨o,ho,hc,NF⟩:=hm
  show wpAny _ _ (dictSize d >>= _) _ _ s
  unfold dictSize
  refine ah (ah (wpAny_dictEntries ho NF (aE ?_)))
  show wpAny _ _ (Builtin.Dict.pendingCount d >>= _) _ _ s
  refine ah (wpAny_pendingCount_other hd ?_)
  refine wpAny_ret_mkInt ?_
  rw[Fs];exact h
 unfold Builtin.«len»
 refine ah (m:=oneArg "len" _) (aE ?_)
 refine ah (m:=callSpecial? (.ref d) (Str.ofString "__len__")) (wpAny_callSpecial?_slot (name:=Str.ofString "__len__") x.typ F.slot_dict_len
  (call_meetsIn F.slot_dict_len x.typ F.entry_dict_len (F.args_dict_len_1 _) mt ⟨x,?_⟩))
 show wpAny _ _ _ _ _ { s with toks:=s.toks+1 }
 refine ah (wpAny_holding (aE ?_))
 refine ah (wpAny_letGo ?_)
 show wpAny _ _ (if ((es.size:Nat):Int)<0 then _ else _) _ _ _
 rw[if_neg (by lia)]
 show wpAny _ _ (if ((es.size:Nat):Int) >= 2 ^ 63 then _ else _) _ _ _
 rw[if_neg (by lia)]
 exact ah (wpAny_mkInt (aE ⟨_,rfl,h _ _⟩))
theorem gO (hK:X.K=K:=by rfl):iO X (.builtin "len") (fun xs H Q=>Nz K xs H Q\/∃ a kvs,xs=[.ref a]/\Rd H a (.dT kvs)/\Q (.int kvs.length) H):=by
 subst hK
 intro pins s σ H xs us Q I r h
 rcases h with h|⟨a,kvs,rfl,ha,q⟩
 ·exact uI pins s σ H xs us Q I r h
 ·obtain⟨u,rfl,ru⟩:=Vals.one r
  cases ru
  obtain⟨z,hd,ys,rel,o,es,ep,h1,h2,h3,h4,h5⟩:=(show eR X.prog X.w H s.heap a (.dT kvs) from I.rd ha)
  have hl:es.size=kvs.length:=by
   have:=congrArg List.length h4
   rw[zS,dc] at this
   rw[this];exact rel.length.symm
  exact Be hd ⟨o,h1,h2,h3⟩ (by rw[sizeLine_eq] at z;lia) fun t t'=>⟨.int kvs.length,H,I.tok _,⟨t,by rw[hl]⟩,q⟩
theorem vB:A8 K (fun xs H Q=>Nz K xs H Q\/∃ a kvs,xs=[.ref a]/\Rd H a (.dT kvs)/\Q (.int kvs.length) H) A7:=by
 intro Hs H m x v As Qd Qv w rx h f
 have r1:=rx.rep w
 cases r1 with
 |str hz=>exact .inl ⟨hz,f.sh w (.int _) h⟩
 |list z s q=>exact .inl (.inl ⟨_,s,by rw[<- q.length];exact f.sh w (.int _) h⟩)
 |tup _ s q=>exact .inl (.inr (.inl ⟨_,.inl (.inl s),by rw[<- q.length];exact f.sh w (.int _) h⟩))
 |dK kk s q=>exact .inl (.inr (.inr ⟨_,s,by
   have:=q.length
   rw[dc] at this
   rw[Mz,dc,<- this,MF]
   exact f.sh w (.int _) h⟩))
 |dT kk s q=>exact .inr ⟨_,_,rfl,s,by
   have:=q.length
   rw[dc] at this
   rw[Mz,dc,<- this,MF]
   exact f.sh w (.int _) h⟩
 |_=>exact h.elim
end
section
variable {X:Cx}{K:PySem.W.Frag}{e e2:Expr}{te:WE}{pos p:Pos}{T:String}
theorem uD (hK:X.K=K:=by rfl):iO X (.builtin "isinstance") (fun xs H Q=>∃ x d T,xs=[x,.ty T]/\Rep K H d x/\Qf T=true/\Q (.bl (GH d.ty T)) H):=by
 subst hK
 intro pins s σ H xs us Q I r h
 obtain⟨x,d,T,rfl,rd,hT,q⟩:=h
 obtain⟨u,v,rfl,ru,rv⟩:=Vals.two r
 obtain rfl:v=Value.type T:=rv
 have hb:T∈["str", "int", "bool", "list", "tuple", "dict"]:=by simpa[Qf] using hT
 have fin:∀ tk,EP X pins σ Q (.bool (GH d.ty T)) { s with toks:=tk }:=fun tk=>⟨.bl (GH d.ty T),H,I.tok tk,rfl,q⟩
 cases rd with
 |non=>exact KL I ru .non (gR X.K _ T (by simp) hb) fin
 |bl b=>exact KL I ru (.bl b) (gR X.K _ T (by simp) hb) fin
 |int i=>exact KL I ru (.int i) (gR X.K _ T (by simp) hb) fin
 |str y=>exact KL I ru (.str _) (gR X.K _ T (by simp) hb) fin
 |list z s' q' =>
  cases ru
  obtain⟨its,_,pl,_⟩:=I.list s'
  obtain⟨o,h1,h2,_⟩:=pl.isList
  exact PySem.W.kia_one PySem.W.kitx_list I.js ⟨o,h1,h2⟩ (gR X.K "list" T (by simp) hb) (fun z=>nomatch z) fin
 |tup _ s' q'=>exact KL I ru (.tup s') (gR X.K _ T (by simp) hb) fin
 |dK _ s' q' =>
  cases ru
  obtain⟨_,_,vs,_,p⟩:=I.rd s'
  obtain⟨o,es,ep,h1,h2,_⟩:=p
  exact PySem.W.kia_one PySem.W.kitx_dict I.js ⟨o,h1,h2.1⟩ (gR X.K "dict" T (by simp) hb) (fun z=>nomatch z) fin
 |dT _ s' q' =>
  cases ru
  obtain⟨_,_,xs,_,o,es,ep,h1,h2,_⟩:=I.rd s'
  exact PySem.W.kia_one PySem.W.kitx_dict I.js ⟨o,h1,h2.1⟩ (gR X.K "dict" T (by simp) hb) (fun z=>nomatch z) fin
theorem FJ (hm:X.mg "isinstance" = none) (he:QE X K e te) (ht:PE X e2 (tC (.ty T))) (hT:Qf T=true:=by rfl) (hg:Gl X "isinstance" := by rfl) (hK:X.K=K:=by rfl)
  (hs:starEach (e :: [e2]) X.env=(false,eval e X.env) :: starEach [e2] X.env:=by rfl) (vn:starEach (e2 :: []) X.env=(false,eval e2 X.env) :: starEach [] X.env:=by rfl) (fq:(backTo pos (starEach [e2] X.env)).any (·.1)=false:=by rfl) :
  QE X K (.Call (.Name "isinstance" p) [e,e2] [] pos) (kr (QZ T) te):=by
 refine PE.imp (K0 (uD hK) hg hm dH (nc he (nc ht rz vn) hs) (by decide) (by decide) hs fq) fun σ H Qv hx=>iS hx fun Hs ρ ag Q sr h f=>?_
 refine⟨Hs,ρ,ag,_,sr,h,fun v H1 aS m x As g1 r1 f1 q1=>⟨v,x,T,rfl,r1.rep g1.wf,hT,Fin.sh (Fin.after f g1) g1.wf (.bl _) q1⟩⟩
end
def tI:Key->D
 |.inl i=>.int i
 |.inr x=>.str x
def vZ:W1:=fun m x Q=>match x with
 |.list xs=>(cf xs=true/\Q (.ow true) (.list xs))\/(m=.sh/\Q (.ow false) (.list xs))
 |.tup xs=>(cf xs=true/\Q (.ow true) (.list xs))\/(m=.sh/\Q (.ow false) (.list xs))
 |.dT kvs=>Q (.ow true) (.list (kvs.map fun kv=>.tup (kv.1.map tI)))
 |_=>False
section
variable {X:Cx}{K:PySem.W.Frag}
theorem qG:∀ {ks:List Key},(∀ k∈ks,xh k=true)->ay K H (ks.map tI) (ks.map kV)
 |[],_=>.nil
 |k :: ks,h=>by
  refine .cons ?_ (qG fun j m=>h j (b9 _ m))
  have:=h k cc
  cases k with
  |inl i=>exact .int i
  |inr x=>exact .str (by simpa[xh] using this)
theorem oG:∀ (ks:List Key),cf (ks.map tI)=true
 |[]=>rfl
 |k :: ks=>by simp only[fm,cf,oG ks,ML];cases k<;>rfl
theorem lJ(t:cu H ys ks)(h:∀ l∈ks,l.length<=sizeLine/\∀ k∈l,xh k=true):ay K H (ks.map fun l=>.tup (l.map tI)) ys:=by
 induction ys generalizing ks with
 |nil=>rw[show ks=[] from Paired.n0 t];exact .nil
 |cons y ys ih =>
  obtain⟨k,ks,rfl,⟨b,rfl,e⟩,t2⟩:=Paired.c t
  exact .cons (.tup (by rw[dc];exact(h _ cc).1) e (qG (h _ cc).2)) (ih t2 fun l m=>h l (b9 _ m))
theorem fU:∀ (ks:List (List Key)),cf (ks.map fun l=>.tup (l.map tI))=true
 |[]=>rfl
 |l :: ks=>by simp only[fm,cf,fU ks,ML,D.flat,oG]
theorem rD (hc:X.calm=true:=by rfl) (hK:X.K=K:=by rfl):iO X (.type "list") (fun xs H Q=>(∃ p ys,xs=[.ref p]/\(eh K H p ys\/n4 K H p ys)/\∀ l,H l=none->Q (.ref l) (upd H l (.lst ys)))\/qt xs H Q):=by
 subst hK;exact Y2.or (rW hc)
theorem BX:A8 K (fun xs H Q=>(∃ p ys,xs=[.ref p]/\(eh K H p ys\/n4 K H p ys)/\∀ l,H l=none->Q (.ref l) (upd H l (.lst ys)))\/qt xs H Q) vZ:=by
 intro Hs H m x v As Qd Qv w rx h f
 have r1:=rx.rep w
 cases r1 with
 |list z s q =>
  have hl:=q.length
  rcases h with⟨hf,h⟩|⟨rfl,h⟩
  ·exact .inl ⟨_,_,rfl,.inl s,f.lst w (by lia) q hf h⟩
  ·obtain⟨_,rx⟩:=rx
   cases rx with
   |list z' s' q' =>
    have hl:=q'.length
    exact .inl ⟨_,_,rfl,.inl (ax.seq w.sub s'),f.Lp w (by lia) q' h⟩
 |tup z s q =>
  have hl:=q.length
  rcases h with⟨hf,h⟩|⟨rfl,h⟩
  ·exact .inl ⟨_,_,rfl,.inr (.inl (.inl s)),f.lst w (by lia) q hf h⟩
  ·obtain⟨_,rx⟩:=rx
   cases rx with
   |tup z' s' q' =>
    have hl:=q'.length
    exact .inl ⟨_,_,rfl,.inr (.inl (.inl (w.sub _ _ s'))),f.Lp w (by lia) q' h⟩
 |@dT _ vs kvs kk s q =>
  refine .inr ⟨_,s,fun ys l ht hl=>?_⟩
  have hlen:=q.length
  rw[dc] at hlen
  have e:((kvs.map (·.1)).zip vs).map (·.1)=kvs.map (·.1):=Mv (by rw[dc];exact JA hlen)
  rw[e] at ht
  have rr:=lJ (K:=K) ht (fun l m=>by
   obtain⟨p,hp,rfl⟩:=dr.mp m
   exact kk.2 p hp)
  have ff:=fU (kvs.map (·.1))
  rw[mM] at rr ff
  exact f.lst w (by rw[dc];exact kk.1) rr ff h l hl
 |_=>exact h.elim
end
section
variable {K:PySem.W.Frag}{Hs H:Hp}
theorem SR.tL(r:Rep K Hs d v)(i:Nat)(s:SR K Hs H ρ σ ag):∃ bS,bS.Sublist ag/\SR K Hs H (ρ.set i (some (.sh d))) (σ.set i (some v)) bS:=by
 induction s generalizing i with
 |nil=>exact⟨[],E9 _,.nil⟩
 |non s ih =>
  cases i with
  |zero=>exact⟨_,List.Sublist.refl _,.sh r s⟩
  |succ i=>obtain⟨t,a,b⟩:=ih i;exact⟨t,a,.non b⟩
 |sh q s ih =>
  cases i with
  |zero=>exact⟨_,List.Sublist.refl _,.sh r s⟩
  |succ i=>obtain⟨t,a,b⟩:=ih i;exact⟨t,a,.sh q b⟩
 |xc s ih =>
  cases i with
  |zero=>exact⟨_,List.Sublist.refl _,.sh r s⟩
  |succ i=>obtain⟨t,a,b⟩:=ih i;exact⟨t,a,.xc b⟩
 |ow ne q s ih =>
  cases i with
  |zero=>exact⟨_,pT _ _,.sh r s⟩
  |succ i=>obtain⟨t,a,b⟩:=ih i;exact⟨_,a.append_left _,.ow ne q b⟩
 |lk ne q s ih =>
  cases i with
  |zero=>exact⟨_,pT _ _,.sh r s⟩
  |succ i=>obtain⟨t,a,b⟩:=ih i;exact⟨_,a.append_left _,.lk ne q b⟩
theorem ou{As ag:List Addr}(nd:As.Nodup)(n:ag.Nodup)(dj:∀ a∈As,a∉ag):(As++ag).Nodup:=ja.mpr ⟨nd,n,fun a ha b hb e=>dj a ha (e ▸ hb)⟩
theorem eV{As ag B t:List Addr}(n:(B++ag).Nodup)(dj:∀ a∈As,a∉B++ag)(a:t.Nodup)(b:∀ x∈t,x∈ag\/x∈As):(B++t).Nodup/\∀ x∈B++t,x∈B++ag\/x∈As:=by
 obtain⟨n1,n2,n3⟩:=ja.mp n
 refine⟨ja.mpr ⟨n1,a,fun x hx y hy e=>?_⟩,fun x hx=>?_⟩
 ·subst e
  rcases b x hy with z|z
  ·exact n3 x hx x z rfl
  ·exact dj x z (i5 _ hx)
 ·rcases dP.mp hx with z|z
  ·exact .inl (i5 _ z)
  ·exact(b x z).imp (fun z=>fe _ z) fun z=>z
theorem SR.wy{d:D}{v:V}{fl:Bool}{As:List Addr}(ne:As≠[])(r:bE K Hs H fl d v As)(nd:As.Nodup){ρ:Env}{σ:St}{ag:List Addr}(i:Nat)(s:SR K Hs H ρ σ ag):ag.Nodup->(∀ a∈As,a∉ag) ->
  ∃ bS,bS.Nodup/\(∀ a∈bS,a∈ag\/a∈As)/\SR K Hs H (ρ.set i (some (.ow fl d))) (σ.set i (some v)) bS:=by
 induction s generalizing i with
 |nil=>exact fun n _=>⟨[],oz,(fun a h=>AZ h),.nil⟩
 |non s ih =>
  intro n dj
  cases i with
  |zero=>exact⟨_,ou nd n dj,fun a h=>(dP.mp h).symm,.ow ne r s⟩
  |succ i=>obtain⟨t,a,b,c⟩:=ih i n dj;exact⟨t,a,b,.non c⟩
 |sh q s ih =>
  intro n dj
  cases i with
  |zero=>exact⟨_,ou nd n dj,fun a h=>(dP.mp h).symm,.ow ne r s⟩
  |succ i=>obtain⟨t,a,b,c⟩:=ih i n dj;exact⟨t,a,b,.sh q c⟩
 |xc s ih =>
  intro n dj
  cases i with
  |zero=>exact⟨_,ou nd n dj,fun a h=>(dP.mp h).symm,.ow ne r s⟩
  |succ i=>obtain⟨t,a,b,c⟩:=ih i n dj;exact⟨t,a,b,.xc c⟩
 |ow ne' q s ih =>
  intro n dj
  obtain⟨n1,n2,n3⟩:=ja.mp n
  have Ly:=fun a ha m=>dj a ha (fe _ m)
  cases i with
  |zero=>exact⟨_,ou nd n2 Ly,fun a h=>(dP.mp h).symm.imp (fun z=>fe _ z) fun z=>z,.ow ne r s⟩
  |succ i=>obtain⟨t,a,b,c⟩:=ih i n2 Ly;exact⟨_,(eV n dj a b).1,(eV n dj a b).2,.ow ne' q c⟩
 |lk ne' q s ih =>
  intro n dj
  obtain⟨n1,n2,n3⟩:=ja.mp n
  have Ly:=fun a ha m=>dj a ha (fe _ m)
  cases i with
  |zero=>exact⟨_,ou nd n2 Ly,fun a h=>(dP.mp h).symm.imp (fun z=>fe _ z) fun z=>z,.ow ne r s⟩
  |succ i=>obtain⟨t,a,b,c⟩:=ih i n2 Ly;exact⟨_,(eV n dj a b).1,(eV n dj a b).2,.lk ne' q c⟩
def asg:Md->D->Option Sl
 |.sh,d=>some (.sh d)
 |.ow fl,d=>some (.ow fl d)
 |.bo,d=>bif d.flat then some (.sh d) else none
theorem dk.set(i:Nat)(s:dk K Hs ρ σ H ag)(r:RM K Hs H m d v As)(nd:As.Nodup)(dj:∀ a∈As,Hs a=none/\a∉ag)(e:asg m d=some sl) :
  ∃ bS,dk K Hs (ρ.set i (some sl)) (σ.set i (some v)) H bS:=by
 have Vl:Rep K Hs d v->∃ bS,dk K Hs (ρ.set i (some (.sh d))) (σ.set i (some v)) H bS:=fun r=>by
  obtain⟨t,a,b⟩:=s.sr.tL r i
  exact⟨t,b,s.wf,a.nodup s.sf,fun x hx=>s.own x (a.subset hx)⟩
 cases m with
 |sh=>cases e;exact Vl r.2
 |ow fl =>
  cases e
  obtain⟨t,a,b,c⟩:=SR.wy r.2 r.1 nd i s.sr s.sf fun a ha=>(dj a ha).2
  exact⟨t,c,s.wf,a,fun x hx=>(b x hx).elim (s.own x) fun z=>(dj x z).1⟩
 |bo =>
  cases hf:d.flat with
  |true =>
   simp only[asg,hf,cond_true,Option.some.injEq] at e
   subst e
   exact Vl (r.flat s.wf hf)
  |false=>simp[asg,hf] at e
end
section
variable {X:Cx}{K:PySem.W.Frag}{e c:Expr}{te:WE}{tc:WT}{pos:Pos}{st:Stmt}{a b rest:List Stmt}{t u:WS}
theorem PS.imp{te tq:TS}(h:PS X st te)(i:∀ D σ H,tq D σ H->te D σ H):PS X st tq:=fun pins s σ H D I q=>h pins s σ H D I (i D σ H q)
theorem kX.imp{te tq:TS}(h:kX X a te)(i:∀ D σ H,tq D σ H->te D σ H):kX X a tq:=fun pins s σ H D I q=>h pins s σ H D I (i D σ H q)
def dG:WS:=fun E ρ=>E.nx ρ
def cx(t u:WS):WS:=fun E ρ=>t { E with nx:=u E } ρ
def mB(te:WE):WS:=fun E ρ=>te ρ E.rt
def dE(i:Nat)(te:WE):WS:=fun E ρ=>te ρ fun m d=>match asg m d with
 |some sl=>E.nx (ρ.set i (some sl))
 |none=>False
def mE(c:WT)(t u:WS):WS:=fun E ρ=>c ρ fun b=>if b=true then t E ρ else u E ρ
theorem bj:oS X K L [] dG:=kX.imp Xu fun D σ H hx=>gf hx fun Hs ρ ag E sr h k1 _ _ _=>k1 σ H Hs ρ ag (ax.refl _) sr h
theorem xO{D:Ends}(h:xi K L (cx t u) D σ H):Tg (xi K L t) (xi K L u) D σ H:=by
 obtain⟨Hs,ρ,ag,E,sr,h,k1,k2,k3,k4,kx⟩:=h
 refine⟨Hs,ρ,ag,{ E with nx:=u E },sr,h,fun aI H' av bG bS s Q0 q=>?_,k2,k3,k4,kx⟩
 exact⟨av,bG,bS,E,Q0,q,fun fS H2 aC eI da s2=>k1 fS H2 aC eI da (s.trans s2),fun fS H2 aC eI da s2=>k2 fS H2 aC eI da (s.trans s2),fun fS H2 aC eI da s2=>k3 fS H2 aC eI da (s.trans s2),
  fun v H2 aC m d As s2=>k4 v H2 aC m d As (s.trans s2),fun n H2 s2=>kx n H2 (s.trans s2)⟩
theorem ak(h1:QS X K L st t)(h2:oS X K L rest u):oS X K L (st :: rest) (cx t u):=kX.imp (Ti h1 h2) fun D σ H h=>xO h
theorem az(h1:QS X K L st t):oS X K L [st] t:=Pm h1
theorem cj(he:QE X K e te):QS X K L (.Return (some e) pos) (mB te):=PS.imp (Tj he) fun D σ H hx=>gf hx fun Hs ρ ag E sr h k1 k2 k3 k4 =>
 ⟨Hs,ρ,ag,_,sr,h,fun v H1 aS m d As g1 r1 f1 q1=>k4 v H1 aS m d As g1.sh g1.wf r1 f1.1 (fun a ha=>(f1.2 a ha).1) q1⟩
def uE(i:Nat):WS:=fun E ρ=>match ρ[i]? with
 |some (some (.sh d))=>E.rt .sh d
 |some (some (.ow fl d))=>E.rt (.ow fl) d
 |_=>False
theorem SR.at{ρ:Env}{σ:St}{ag:List Addr}{i:Nat}{fl:Bool}{d:D}{Hs H:Hp}(s:SR K Hs H ρ σ ag)(e:ρ[i]? = some (some (.ow fl d))):∃ v As,σ[i]? = some (some v)/\As≠[]/\bE K Hs H fl d v As/\As.Sublist ag:=by
 induction s generalizing i with
 |nil=>simp at e
 |non s ih =>
  cases i with
  |zero=>simp at e
  |succ i=>exact ih e
 |sh r s ih =>
  cases i with
  |zero=>simp at e
  |succ i=>exact ih e
 |xc s ih =>
  cases i with
  |zero=>simp at e
  |succ i=>exact ih e
 |ow ne r s ih =>
  cases i with
  |zero=>simp at e;obtain⟨rfl,rfl⟩:=e;exact⟨_,_,rfl,ne,r,IH _ _⟩
  |succ i =>
   obtain⟨v,As,a,b,c,d⟩:=ih e
   exact⟨v,As,a,b,c,d.trans (pT _ _)⟩
 |lk ne r s ih =>
  cases i with
  |zero=>simp at e
  |succ i =>
   obtain⟨v,As,a,b,c,d⟩:=ih e
   exact⟨v,As,a,b,c,d.trans (pT _ _)⟩
theorem uJ{i:Nat}(he:PE X e (AB i)):QS X K L (.Return (some e) pos) (uE i):=PS.imp (Tj he) fun D σ H hx=>gf hx fun Hs ρ ag E sr h k1 k2 k3 k4=>by
 unfold uE at h
 split at h
 ·rename_i d e1
  obtain⟨v,e2,r⟩:=sr.sr.get e1
  exact⟨v,e2,k4 v H Hs .sh d [] (ax.refl _) sr.wf ⟨rfl,r⟩ oz (fun a ha=>nomatch ha) h⟩
 ·rename_i fl d e1
  obtain⟨v,As,e2,ne,r,sb⟩:=sr.sr.at e1
  exact⟨v,e2,k4 v H Hs (.ow fl) d As (ax.refl _) sr.wf ⟨r,ne⟩ (sb.nodup sr.sf) (fun a ha=>sr.own a (sb.subset ha)) h⟩
 ·exact h.elim
theorem aG{i:Nat}{x:Str}{pos':Pos}(hN:X.N.Nodup)(hi:X.N[i]? = some x)(hx:Loc X.env.scope x)(he:QE X K e te)(hs:swapsWith e (some (.Name x pos')) pos.line X.env=pure false:=by rfl)
  (hf:X.fn x=true\/X.env.scope.names.lookup x=some .local:=by first|exact .inl rfl|exact .inr rfl|assumption):QS X K L (.Assign [.Name x pos'] e pos) (dE i te):=PS.imp (Pw hN hi hx he hs hf) fun D σ H hx=>gf hx fun Hs ρ ag E sr h k1 k2 k3 k4=>by
 refine⟨Hs,ρ,ag,_,sr,h,fun v H1 aS m d As g1 r1 f1 q1=>?_⟩
 have q1:match asg m d with
  |some sl=>E.nx (ρ.set i (some sl))
  |none=>False:=q1
 cases e:asg m d with
 |none=>rw[e] at q1;exact q1.elim
 |some sl =>
  rw[e] at q1
  obtain⟨bS,s'⟩:=(sr.grow g1).set i r1 f1.1 (fun a ha=>⟨(f1.2 a ha).1,fun m=>(sr.sr.own a m).ne (f1.2 a ha).2⟩) e
  exact k1 _ H1 aS _ bS g1.sh s' q1
theorem dN(hc:QT X K c tc)(ha:oS X K L a t)(hb:oS X K L b u):QS X K L (.If c a b pos) (mE tc t u):=PS.imp (Xy hc ha hb) fun D σ H hx=>gG hx fun Hs ρ ag E sr h k1 k2 k3 k4 kx=>by
 refine⟨Hs,ρ,ag,_,sr,h,fun k H1 aS g1 q1=>?_⟩
 have Vm:∀ aI H' av bG bS,ax aS av->dk K av bG aI H' bS->E.nx bG->D.nx aI H':=fun fS H2 aC eI da s2=>k1 fS H2 aC eI da (g1.sh.trans s2)
 have Vn:∀ aI H' av bG bS,ax aS av->dk K av bG aI H' bS->E.bk bG->D.bk aI H':=fun fS H2 aC eI da s2=>k2 fS H2 aC eI da (g1.sh.trans s2)
 have Vo:∀ aI H' av bG bS,ax aS av->dk K av bG aI H' bS->E.ct bG->D.ct aI H':=fun fS H2 aC eI da s2=>k3 fS H2 aC eI da (g1.sh.trans s2)
 cases k with
 |true=>exact⟨aS,ρ,ag,E,sr.grow g1,q1,Vm,Vn,Vo,(fun v H2 aC m d As s2=>k4 v H2 aC m d As (g1.sh.trans s2)),fun n H2 s2=>kx n H2 (g1.sh.trans s2)⟩
 |false=>exact⟨aS,ρ,ag,E,sr.grow g1,q1,Vm,Vn,Vo,(fun v H2 aC m d As s2=>k4 v H2 aC m d As (g1.sh.trans s2)),fun n H2 s2=>kx n H2 (g1.sh.trans s2)⟩
def sA(Hs H:Hp)(As:List Addr):Hp:=fun a=>if a∈As then H a else Hs a
theorem gj(n:∀ a∈As,Hs a=none):ax Hs (sA Hs H As):=fun a o e=>by
 unfold sA
 rw[if_neg fun m=>by rw[n a m] at e;cases e]
 exact e
theorem sZ(w:Wf Hs H)(o:∀ a∈As,Own H a):Wf (sA Hs H As) H:=⟨fun a u e=>by
  unfold sA at e
  by_cases m:a∈As
  ·rw[if_pos m] at e;exact e
  ·rw[if_neg m] at e;exact w.sub a u e,fun a vs e=>by
  unfold sA
  rw[if_neg fun m=>(o a m).yW e]
  exact w.ic a vs e⟩
def Lz:Sl->Sl
 |.sh d=>.sh d
 |.ow _ d=>.sh d
 |.lk a fl d=>.lk a fl d
 |.xc a=>.xc a
def LB:Sl->Sl
 |.sh d=>.sh d
 |.ow _ d=>.sh d
 |.lk _ _ d=>.sh d
 |.xc a=>.xc a
def LC(i:Nat)(ρ:Env):Env:=match ρ[i]? with
 |some (some sl)=>ρ.set i (some (Lz sl))
 |_=>ρ
theorem lE{As ag B t:List Addr}(n:(B++ag).Nodup)(a:As.Sublist ag)(c:∀ x∈As,x∉t):∀ x∈As,x∉B++t:=fun x hx m=>by
 obtain⟨n1,n2,n3⟩:=ja.mp n
 rcases dP.mp m with z|z
 ·exact n3 x z x (a.subset hx) rfl
 ·exact c x hx z
theorem SR.kS(i:Nat)(s:SR K Hs H ρ σ ag):ρ[i]? = some (some (.ow fl d))->ag.Nodup ->
  ∃ (As bS:List Addr),As.Sublist ag/\bS.Sublist ag/\(∀ a∈As,a∉bS)/\∀ av,ax Hs av->(∀ a∈As,av a=H a)->SR K av H (ρ.set i (some (.sh d))) σ bS:=by
 induction s generalizing i with
 |nil=>intro e;simp at e
 |non q ih =>
  intro e n
  cases i with
  |zero=>simp at e
  |succ i =>
   obtain⟨As,t,a,b,c,d⟩:=ih i e n
   exact⟨As,t,a,b,c,fun av s k=>.non (d av s k)⟩
 |sh r q ih =>
  intro e n
  cases i with
  |zero=>simp at e
  |succ i =>
   obtain⟨As,t,a,b,c,d⟩:=ih i e n
   exact⟨As,t,a,b,c,fun av s k=>.sh (r.same s) (d av s k)⟩
 |xc q ih =>
  intro e n
  cases i with
  |zero=>simp at e
  |succ i =>
   obtain⟨As,t,a,b,c,d⟩:=ih i e n
   exact⟨As,t,a,b,c,fun av s k=>.xc (d av s k)⟩
 |ow ne r q ih =>
  intro e n
  obtain⟨n1,n2,n3⟩:=ja.mp n
  cases i with
  |zero =>
   simp at e
   obtain⟨rfl,rfl⟩:=e
   exact⟨_,_,IH _ _,pT _ _,fun a h m=>n3 a h a m rfl,fun av s k=>.sh (r.rep s k) (q.eJ s fun _ _=>rfl)⟩
  |succ i =>
   obtain⟨As,t,a,b,c,d⟩:=ih i e n2
   exact⟨As,_,a.trans (pT _ _),b.append_left _,lE n a c,fun av s k=>.ow ne (r.eJ s fun _ _=>rfl) (d av s k)⟩
 |lk ne r q ih =>
  intro e n
  obtain⟨n1,n2,n3⟩:=ja.mp n
  cases i with
  |zero=>simp at e
  |succ i =>
   obtain⟨As,t,a,b,c,d⟩:=ih i e n2
   exact⟨As,_,a.trans (pT _ _),b.append_left _,lE n a c,fun av s k=>.lk ne (r.eJ s fun _ _=>rfl) (d av s k)⟩
theorem dk.kS(i:Nat)(s:dk K Hs ρ σ H ag):∃ av bS,ax Hs av/\dk K av (LC i ρ) σ H bS:=by
 unfold LC
 split
 ·rename_i sl e
  have keep:Lz sl=sl->∃ av bS,ax Hs av/\dk K av (ρ.set i (some (Lz sl))) σ H bS:=fun hs=>by
   have e2:ρ.set i (some (Lz sl))=ρ:=by
    apply BG
    intro j
    rw[OW]
    by_cases h:i=j
    ·subst h
     rw[if_pos rfl,e]
     have:i<ρ.length:=(hX.mp e).1
     simp[this,hs]
    ·rw[if_neg h]
   rw[e2]
   exact⟨Hs,ag,ax.refl _,s⟩
  cases sl with
  |sh d=>exact keep rfl
  |xc a=>exact keep rfl
  |lk a fl d=>exact keep rfl
  |ow fl d =>
   obtain⟨As,t,a,b,c,g⟩:=SR.kS i s.sr e s.sf
   have hn:∀ a∈As,Hs a=none:=fun x hx=>s.own x (a.subset hx)
   have ho:∀ a∈As,Own H a:=fun x hx=>s.sr.own x (a.subset hx)
   refine⟨sA Hs H As,t,gj hn,g _ (gj hn) fun x hx=>by unfold sA;rw[if_pos hx],sZ s.wf ho,b.nodup s.sf,fun x hx=>?_⟩
   unfold sA
   rw[if_neg fun m=>c x m hx]
   exact s.own x (b.subset hx)
 ·exact⟨Hs,ag,ax.refl _,s⟩
def kK(i:Nat)(t:WS):WS:=fun E ρ=>t E (LC i ρ)
theorem wK{D:Ends}(h:xi K L (kK i t) D σ H):xi K L t D σ H:=by
 obtain⟨Hs,ρ,ag,E,sr,h,k1,k2,k3,k4,kx⟩:=h
 obtain⟨av,bS,s,Q0⟩:=sr.kS i
 exact⟨av,_,bS,E,Q0,h,fun fS H2 aC eI da s2=>k1 fS H2 aC eI da (s.trans s2),fun fS H2 aC eI da s2=>k2 fS H2 aC eI da (s.trans s2),fun fS H2 aC eI da s2=>k3 fS H2 aC eI da (s.trans s2),
  fun v H2 aC m d As s2=>k4 v H2 aC m d As (s.trans s2),fun n H2 s2=>kx n H2 (s.trans s2)⟩
theorem bR(i:Nat)(h:QS X K L st t):QS X K L st (kK i t):=PS.imp h fun D σ H h=>wK h
def jg(aS H1 av H':Hp):Hp:=fun a=>match H' a with
 |some (.tup vs)=>some (.tup vs)
 |_=>match H1 a with
  |none=>av a
  |some _=>aS a
theorem dU(w:Wf aS H1)(s:ax H1 av)(w':Wf av H'):eL aS H1 (jg aS H1 av H') H':=by
 have sa:ax H1 H':=s.trans w'.sub
 have tp:∀ a vs,H' a=some (.tup vs)->jg aS H1 av H' a=some (.tup vs):=fun a vs e=>by unfold jg;rw[e]
 have nt:∀ a,(∀ vs,H' a≠some (.tup vs))->jg aS H1 av H' a=match H1 a with
  |none=>av a
  |some _=>aS a:=fun a h=>by
  unfold jg
  split
  ·rename_i vs e;exact absurd e (h vs)
  ·rfl
 refine⟨sa,fun a o e=>?_,⟨fun a o e=>?_,tp⟩,fun a h=>?_⟩
 ·have e1:=w.sub a o e
  have e2:=sa a o e1
  by_cases ht:∃ vs,o=.tup vs
  ·obtain⟨vs,rfl⟩:=ht
   exact tp a vs e2
  ·rw[nt a fun vs z=>ht ⟨vs,by rw[e2] at z;exact Option.some.inj z⟩,e1]
   exact e
 ·by_cases ht:∃ vs,H' a=some (.tup vs)
  ·obtain⟨vs,z⟩:=ht
   rw[tp a vs z] at e
   rw[z];exact e
  ·rw[nt a fun vs z=>ht ⟨vs,z⟩] at e
   cases q:H1 a with
   |none=>rw[q] at e;exact w'.sub a o e
   |some u =>
    rw[q] at e
    have:=w.sub a o e
    exact sa a o this
 ·cases q:H1 a with
  |none=>exact .inr rfl
  |some u =>
   refine .inl ?_
   by_cases ht:∃ vs,H' a=some (.tup vs)
   ·obtain⟨vs,z⟩:=ht
    have:=sa a u q
    rw[z] at this
    cases this
    rw[w.ic a vs q]
    exact fun z=>nomatch z
   ·rw[nt a fun vs z=>ht ⟨vs,z⟩,q] at h
    exact h
theorem tG{aS H1 av H':Hp}{a:Addr}(s:ax H1 av)(h:av a=none)(o:Own H' a):jg aS H1 av H' a=none/\H1 a=none:=by
 have h1:=s.free h
 refine⟨?_,h1⟩
 unfold jg
 split
 ·rename_i vs e;exact absurd e o.yW
 ·rw[h1];exact h
def vt:Md->D->Md
 |.ow true,_=>.ow true
 |_,d=>bif d.flat then .sh else .bo
theorem mF(w:Wf aS H1)(s:ax H1 av)(w':Wf av H')(r:RM K av H' m d v As)(nd:As.Nodup)(own:∀ a∈As,av a=none) :
  ∃ fN,RM K (jg aS H1 av H') H' (vt m d) d v fN/\cz (jg aS H1 av H') H1 fN:=by
 have g:=dU w s w'
 have other:∃ fN,RM K (jg aS H1 av H') H' (bif d.flat then .sh else .bo) d v fN/\cz (jg aS H1 av H') H1 fN:=by
  cases hf:d.flat with
  |true=>exact⟨[],⟨rfl,(r.rep w').fM g.wf.ic hf⟩,cz.nil⟩
  |false=>exact⟨[],⟨rfl,r.rep w'⟩,cz.nil⟩
 cases m with
 |sh=>exact other
 |bo=>exact other
 |ow fl =>
  cases fl with
  |false=>exact other
  |true=>exact⟨As,⟨bE.leaves (fun a vs e=>g.wf.ic a vs (w'.sub _ _ e)) r.1,r.2⟩,nd,fun a h=>tG s (own a h) (r.own a h)⟩
abbrev iX:=List D->(Md->D->Prop)->Prop
def aB(K:PySem.W.Frag)(sp:iX):Sp:=fun vs H Qv _=>∃ ds Qd,ay K H ds vs/\sp ds Qd /\
 ∀ v H' av m d As,ax H av->Wf av H'->RM K av H' m d v As->As.Nodup->(∀ a∈As,av a=none)->Qd m d->Qv v H'
def aX(n:Nat)(ds:List D):Env:=ds.map (fun d=>some (.sh d))++List.replicate (n-ds.length) none
theorem SR.start(r:ay K H ds vs):SR K H H (ds.map (fun d=>some (.sh d))++List.replicate n none) (vs.map some++List.replicate n none) []:=by
 induction ds generalizing vs with
 |nil =>
  rw[r.n0]
  induction n with
  |zero=>exact .nil
  |succ n ih=>exact .non ih
 |cons d ds ih =>
  obtain⟨u,us,rfl,r,rs⟩:=r.c
  exact .sh r (ih rs)
theorem vQ(h:aB K sp vs H Qv E)(hp:∀ ds Q,sp ds Q->t { nx:=fun _=>Q .sh .non,rt:=Q } (aX N.length ds)) :
  xi K L0 t { nx:=fun _ H'=>Qv .non H',rt:=Qv } (start N vs) H:=by
 obtain⟨ds,Qd,rs,hs,fin⟩:=h
 have hl:=rs.length
 refine⟨H,aX N.length ds,[],{ nx:=fun _=>Qd .sh .non,rt:=Qd },⟨?_,⟨ax.refl _,fun _ _ e=>e⟩,oz,fun a h=>nomatch h⟩,hp ds Qd hs,?_,?_,?_,?_,fun _ _ _ _=>trivial⟩
 ·unfold aX start
  rw[hl]
  exact SR.start rs
 ·exact fun aI H' av bG bS s sr q=>fin .non H' av .sh .non [] s sr.wf ⟨rfl,.non⟩ oz (fun a h=>nomatch h) q
 ·exact fun aI H' av bG bS s sr q=>q.elim
 ·exact fun aI H' av bG bS s sr q=>q.elim
 ·exact fun v H' av m d As s w r nd own q=>fin v H' av m d As s w r nd own q
theorem vv.ok{P:Program}{st:Stmt}{N ps:List Str}(F:iq K x qual st f fd)(S:mr N ps (cy st))(len:∀ ds Q,sp ds Q->ds.length=ps.length)
  (AH:∀ (cE:Value) (A:Around) (outer:List PySem.Env) (s:Shared) (H:Hp) (E:XK),i7 k (A.deeper (envOfC qual (cy st) s.heap.objs.size f cE))->oS (rL ke P w K mg base N qual (cy st) f cE A outer s H E).Kk K L0 (iP st) t)
  (hp:∀ ds Q,sp ds Q->t { nx:=fun _=>Q .sh .non,rt:=Q } (aX N.length ds)):hJ P w K mg base ke (k+1) f fd ps (aB K sp) :=
 F.ok S (fun vs H Q E ⟨ds,Qd,rs,hs,_⟩=>by rw[<- rs.length];exact len ds Qd hs) fun cE A outer s H vs Q E hr hs=>⟨_,AH cE A outer s H E hr,vQ hs hp⟩
def aV(sp:iX)(t:WA):WE:=fun ρ Q=>t ρ fun ps=>sp (ps.map (·.2)) fun m d=>bI (m,d) (f:=fun p=>Q (vt p.1 p.2) p.2) ⟨⟩
theorem uo{sp:iX}{t:WA}{σ:St}{H:Hp}{Qv:VK}{E:XK}(h:sj K (aV sp t) σ H Qv):KP (aB K sp) [] E (QH K t) σ H Qv:=by
 obtain⟨Hs,ρ,ag,Q,sr,h,f⟩:=h
 refine⟨Hs,ρ,ag,_,sr,h,fun vs H1 aS ps As g1 r1 f1 q1=>?_⟩
 refine⟨_,_,by rw[nV];exact r1.reps g1.wf,q1,fun v H' av m d As s w r nd own q=>?_⟩
 obtain⟨fN,r',fr⟩:=mF g1.wf s w r nd own
 exact Fin.after f g1 v H' _ (vt m d) d fN (dU g1.wf s w) r' fr q
theorem bh {k:Nat} {x:Str} {ps:List Str} {sp:iX} {p:Pos} {es:List Expr} {t:WA} (C:fP X.prog X.w X.K X.mg X.base k x ps (aB K sp)) (hr:i7 k X.A) (ha:QA X K (e :: es) t) (hg:Gl X x:=by rfl) (ip:(x == ("__debug__" : Str))=false:=by decide) (he:starEach (e :: es) X.env=(false,eval e X.env) :: starEach es X.env:=by rfl)
  (fq:(backTo pos (starEach es X.env)).any (·.1)=false:=by rfl):QE X K (.Call (.Name x p) (e :: es) [] pos) (aV sp t):=PE.imp (EY C hr ha hg ip he fq) fun σ H Qv h=>uo h
end
abbrev WG:=D->Env->(Env->Prop)->Prop
def Vp(K:PySem.W.Frag)(g:WG):TG:=fun v σ H Qv=>∃ Hs ρ ag d Q,dk K Hs ρ σ H ag/\Rep K Hs d v/\g d ρ Q/\∀ aI bG bS,dk K Hs bG aI H bS->(∀ a∈bS,a∈ag)->Q bG->Qv aI H
abbrev QG(X:Cx)(K:PySem.W.Frag)(e:Expr)(g:WG):Prop:=PG X e (Vp K g)
def gN(i:Nat):WG:=fun d ρ Q=>Q (ρ.set i (some (.sh d)))
abbrev EE:=List D->Env->(Env->Prop)->Prop
def aE'(K:PySem.W.Frag)(g:EE):FP:=fun vs σ H Qv=>∃ Hs ρ ag ds Q,dk K Hs ρ σ H ag/\ay K Hs ds vs/\g ds ρ Q/\∀ aI bG bS,dk K Hs bG aI H bS->(∀ a∈bS,a∈ag)->Q bG->Qv aI H
abbrev NZ(X:Cx)(K:PySem.W.Frag)(es:List Expr)(g:EE):Prop:=yv X es (aE' K g)
def nG:EE:=fun ds ρ Q=>ds=[]/\Q ρ
def di(g:WG)(gs:EE):EE:=fun ds ρ Q=>match ds with
 |d :: ds=>g d ρ fun bG=>gs ds bG Q
 |[]=>False
def gT(n:Nat)(gs:EE):WG:=fun d ρ Q=>match d with
 |.tup ds=>ds.length=n/\gs ds ρ Q
 |_=>False
section
variable {X:Cx}{K:PySem.W.Frag}{e:Expr}{es:List Expr}{g:WG}{gs:EE}{pos:Pos}
theorem PG.imp(h:PG X e t)(i:∀ v σ H Q,t' v σ H Q->t v σ H Q):PG X e t':=fun pins s σ H v u Q I r q=>h pins s σ H v u Q I r (i v σ H Q q)
theorem yv.imp(h:yv X es t)(i:∀ v σ H Q,t' v σ H Q->t v σ H Q):yv X es t':=fun pins s σ H v u Q I r q=>h pins s σ H v u Q I r (i v σ H Q q)
theorem dk.Bj(i:Nat)(s:dk K Hs ρ σ H ag)(r:Rep K Hs d v):∃ bS,(∀ a∈bS,a∈ag)/\dk K Hs (ρ.set i (some (.sh d))) (σ.set i (some v)) H bS:=by
 obtain⟨t,a,b⟩:=s.sr.tL r i
 exact⟨t,fun x hx=>a.subset hx,b,s.wf,a.nodup s.sf,fun x hx=>s.own x (a.subset hx)⟩
theorem aJ(hN:X.N.Nodup)(hi:X.N[i]? = some x)(hx:Loc X.env.scope x)(hf:X.fn x=true\/X.env.scope.names.lookup x=some .local:=by first|exact .inl rfl|exact .inr rfl|assumption):QG X K (.Name x pos) (gN i) :=
 PG.imp (Pq hN hi hx hf) fun v σ H Qv df=>by
  obtain⟨Hs,ρ,ag,d,Q,sr,r,h,k⟩:=df
  obtain⟨t,m,s⟩:=sr.Bj i r
  exact k _ _ t s m h
theorem jz:NZ X K [] nG:=yv.imp Tn fun v σ H Qv df=>by
 obtain⟨Hs,ρ,ag,ds,Q,sr,r,h,k⟩:=df
 obtain⟨rfl,h⟩:=h
 cases r
 exact⟨rfl,k σ ρ ag sr (fun _ z=>z) h⟩
theorem bO(h1:QG X K e g)(h2:NZ X K es gs)(hs:(assignEach (e :: es) X.env).map (·.2)=assign e X.env :: (assignEach es X.env).map (·.2):=by rfl):NZ X K (e :: es) (di g gs) :=
 yv.imp (Pt h1 h2 hs) fun v σ H Qv df=>by
  obtain⟨Hs,ρ,ag,ds,Q,sr,r,h,k⟩:=df
  cases r with
  |nil=>exact h.elim
  |cons r rs=>exact⟨_,_,rfl,Hs,ρ,ag,_,_,sr,r,h,fun fS eI da iL m2 q2=>⟨Hs,eI,da,_,Q,iL,rs,q2,fun oC HC aF' sr3 m3=>k oC HC aF' sr3 fun a h=>m2 a (m3 a h)⟩⟩
theorem mZ(hc:X.calm=true)(h:NZ X K es gs)(hn:(assignEach es X.env).length=n:=by rfl)(jv:(assignEach es X.env).findIdx? (·.1)=none:=by rfl):QG X K (.Tuple es k pos) (gT n gs) :=
 PG.imp (To hc h hn jv) fun v σ H Qv df=>by
  obtain⟨Hs,ρ,ag,d,Q,sr,r,h,k⟩:=df
  cases r with
  |tup z e rs=>exact⟨_,_,rfl,.inl (.inl (sr.wf.sub _ _ e)),by rw[<- rs.length];exact h.1,Hs,ρ,ag,_,Q,sr,rs,h.2,k⟩
  |_=>exact h.elim
end
abbrev WI:=Env->(List D->Prop)->Prop
structure o_(K:PySem.W.Frag)(J:It)(ds:List D)(C:Hp->Hp->Prop):Prop where
 go:∀ i Hs H,C Hs H->Wf Hs H->i<ds.length->J.go i H
 mS:∀ i Hs H x H' d,C Hs H->Wf Hs H->ds[i]? = some d->J.mS i H x H'->∃ av,eL Hs H av H'/\Rep K av d x
 stop:∀ Hs H,C Hs H->Wf Hs H->J.stop ds.length H
abbrev tX(K:PySem.W.Frag)(Hs:Hp)(J:It)(ds:List D):Prop:=o_ K J ds fun G _=>ax Hs G
section
variable {K:PySem.W.Frag}{Hs:Hp}{J:It}{ds:List D}{C C':Hp->Hp->Prop}{a:Addr}
theorem o_.imp(S:o_ K J ds C)(h:∀ Hs H,C' Hs H->C Hs H):o_ K J ds C':=⟨fun i Hs H c=>S.go i Hs H (h _ _ c),fun i Hs H x H' d c=>S.mS i Hs H x H' d (h _ _ c),fun Hs H c=>S.stop Hs H (h _ _ c)⟩
theorem o_.seq(rs:ay K Hs ds vs)(S:n6 J vs fun H=>ax Hs H):tX K Hs J ds where
 go:=fun i G H s w h=>S.go i H (s.trans w.sub) (by rw[<- rs.length];exact h)
 mS:=fun i G H x H' d s w h y=>by
  have hi:i<ds.length:=by
   rcases Fu i ds.length with q|q
   ·exact q
   ·rw[sL q] at h;cases h
  obtain⟨e,z⟩:=S.mS i H x H' (s.trans w.sub) (by rw[<- rs.length];exact hi) y
  subst e
  obtain⟨d',ed,rd⟩:=rs.Vd z
  rw[h] at ed;cases ed
  exact⟨G,eL.refl w,rd.same s⟩
 stop:=fun G H s w=>by rw[rs.length];exact S.stop H (s.trans w.sub)
abbrev yV(K:PySem.W.Frag)(a:Addr)(ds:List D)(C:Hp->Hp->Prop):Prop:=∀ Hs H,C Hs H->Wf Hs H->∃ vs,eh K H a vs/\ay K Hs ds vs
theorem o_.list(h:yV K a ds C):o_ K (M6 K a) ds C where
 go:=fun i G H c w hi=>by
  obtain⟨vs,q,rs⟩:=h G H c w
  exact⟨vs,vs[i]'(by rw[<- rs.length];exact hi),q,by simp⟩
 mS:=fun i G H x H' d c w hd y=>by
  obtain⟨vs,q,rs⟩:=h G H c w
  obtain⟨rfl,y⟩:=y
  obtain⟨d',ed,rd⟩:=rs.Vd (y vs q)
  rw[hd] at ed;cases ed
  exact⟨G,eL.refl w,rd⟩
 stop:=fun G H c w=>by
  obtain⟨vs,q,rs⟩:=h G H c w
  exact⟨vs,q,by rw[rs.length];exact bX _⟩
theorem sX(s:eh K Hs a vs)(rs:ay K Hs ds vs):yV K a ds fun G _=>ax Hs G:=fun G H c w=>⟨vs,ax.seq (c.trans w.sub) s,rs.same c⟩
end
def tpI(K:PySem.W.Frag)(wi:WI):TI:=fun σ H R=>∃ Hs ρ ag Q,dk K Hs ρ σ H ag/\wi ρ Q/\∀ J H' av ds,eL Hs H av H'->tX K av J ds->ds.length<=sizeLine->Q ds->R J H'
abbrev QI(X:Cx)(K:PySem.W.Frag)(tg iter:Expr)(wi:WI):Prop:=PI X tg iter (tpI K wi)
def nZ:Md->Prop
 |.bo=>False
 |_=>True
def gm(te:WE):WI:=fun ρ Q=>te ρ fun m d=>nZ m/\match d with
 |.list xs=>Q xs
 |_=>False
def oH(lo:Int)(n:Nat):List D:=(List.range n).map fun i=>.int (lo+(i:Nat))
def cC(te:WE):WI:=fun ρ Q=>te ρ fun _ d=>match d with
 |.int j=>j<=16777216/\-(2 ^ 62)<=j/\Q (oH 0 j.toNat)
 |_=>False
section
variable {X:Cx}{K:PySem.W.Frag}{e e2 tg:Expr}{te te2:WE}{pos p:Pos}
theorem PI.imp(h:PI X tg iter t)(i:∀ σ H R,t' σ H R->t σ H R):PI X tg iter t':=fun pins s σ H R I q=>h pins s σ H R I (i σ H R q)
theorem n6.imp{J:It}(s:n6 J vs c)(h:∀ H,c' H->c H):n6 J vs c':=⟨fun i H q=>s.go i H (h H q),fun i H x H' q=>s.mS i H x H' (h H q),fun H q=>s.stop H (h H q)⟩
theorem RM.Bt(g:eL Hs H aS H1)(r:RM K aS H1 m d v As)(f:cz aS H As)(h:nZ m):∃ aC,eL Hs H aC H1/\Rep K aC d v:=by
 cases m with
 |sh=>exact⟨aS,g,r.2⟩
 |bo=>exact h.elim
 |ow fl =>
  have n:∀ a∈As,aS a=none:=fun a ha=>(f.2 a ha).1
  have o:=r.own
  refine⟨sA aS H1 As,⟨g.all,g.sh.trans (gj n),sZ g.wf o,fun a h=>?_⟩,bE.rep (gj n) r.1 fun a ha=>by unfold sA;rw[if_pos ha]⟩
  unfold sA at h
  by_cases m:a∈As
  ·exact .inr (f.2 a m).2
  ·rw[if_neg m] at h;exact g.new a h
theorem gP(he:QE X K e te)(hK:X.K=K:=by rfl):QI X K tg e (gm te):=by
 subst hK
 refine PI.imp (Tr he) fun σ H R hx=>iS hx fun Hs ρ ag Q sr h k=>⟨Hs,ρ,ag,_,sr,h,fun v H1 aS m d As g1 r1 f1 q1=>?_⟩
 obtain⟨nb,q1⟩:=q1
 obtain⟨aC,g2,r2⟩:=r1.Bt g1 f1 nb
 cases r2 with
 |list z s rs=>exact⟨_,rfl,⟨_,ax.seq g2.wf.sub s⟩,k _ H1 aC _ g2 (.seq rs (n6.imp (wV X.K _ _) fun H' s'=>ax.seq s' s)) (by rw[rs.length];exact z) q1⟩
 |_=>exact q1.elim
theorem m8(lo:Int):∀ (l:List Nat),ay K H (l.map fun i=>.int (lo+(i:Nat))) (l.map fun i=>V.int (lo+(i:Nat)))
 |[]=>.nil
 |c :: l=>.cons (.int _) (m8 lo l)
theorem bY (hm:X.mg "range" = none) (he:QE X K e te) (hg:Gl X "range" := by rfl) (hs:starEach [e] X.env=(false,eval e X.env) :: starEach [] X.env:=by rfl) (gu:starEach [e] X.env=[(false,eval e X.env)]:=by rfl):QI X K tg (.Call (.Name "range" p) [e] [] pos) (cC te):=by
 refine PI.imp (XM hg hm (nc he rz hs) gu) fun σ H R hx=>iS hx fun Hs ρ ag Q sr h k=>⟨Hs,ρ,ag,_,sr,h,fun v H1 aS m d As g1 r1 f1 q1=>?_⟩
 have r:=r1.rep g1.wf
 cases r with
 |int j =>
  obtain⟨h1,h2,q1⟩:=q1
  exact⟨j,rfl,h2,by lia,k _ H1 aS _ g1 (.seq (m8 0 _) (n6.imp (zX _ _) fun _ _=>trivial)) (by rw[dc,OV,sizeLine_eq];lia) q1⟩
 |_=>exact q1.elim
section
variable {X:Cx}{K:PySem.W.Frag}{e tg:Expr}{te:WE}
def Vq(K:PySem.W.Frag)(wi:WI):TI:=fun σ H R=>∃ Hs ρ ag Q,dk K Hs ρ σ H ag/\wi ρ Q/\∀ J H' av ds,eL Hs H av H'->tX K H' J ds->ds.length<=sizeLine->Q ds->R J H'
abbrev N0(X:Cx)(K:PySem.W.Frag)(tg iter:Expr)(wi:WI):Prop:=PI X tg iter (Vq K wi)
theorem ig(h:QI X K tg iter wi):N0 X K tg iter wi:=PI.imp h fun σ H R hx=>iS hx fun Hs ρ ag Q sr h k=>⟨Hs,ρ,ag,Q,sr,h,fun J H' av ds g w z q=>k J H' av ds g (w.imp fun G H s=>g.wf.sub.trans s) z q⟩
def nQ(te:WE):WI:=fun ρ Q=>te ρ fun _ d=>match d with
 |.list xs=>Q xs
 |_=>False
theorem vh(he:QE X K e te)(hK:X.K=K:=by rfl):N0 X K tg e (nQ te):=by
 subst hK
 refine PI.imp (Tr he) fun σ H R hx=>iS hx fun Hs ρ ag Q sr h k=>⟨Hs,ρ,ag,_,sr,h,fun v H1 aS m d As g1 r1 f1 q1=>?_⟩
 have r:=r1.rep g1.wf
 cases r with
 |list z s rs=>exact⟨_,rfl,⟨_,s⟩,k _ H1 aS _ g1 (.list (sX s rs)) (by rw[rs.length];exact z) q1⟩
 |_=>exact q1.elim
end
def nH(g:WG)(b:WS)(E:lA):List D->Env->Prop
 |[],ρ=>E.nx ρ
 |x :: xs,ρ=>g x ρ fun nv=>b { E with nx:=nH g b E xs,ct:=nH g b E xs,bk:=E.nx } nv
def tJ(wi:WI)(g:WG)(b:WS):WS:=fun E ρ=>wi ρ fun ds=>nH g b E ds ρ
variable {wi:WI}{g:WG}{b:WS}{body:List Stmt}
theorem d_(hp:PassesOwn (model X.prog X.w) X.A X.env X.xe)(hc:X.calm=true)(hi:QI X K tg iter wi)(hg:QG X K tg g)(hb:oS X K L body b)(hs:∀ x,foldedSetIterable iter X.env x=pure x:=by intro _;rfl) :
  QS X K L (.For tg iter body [] pos) (tJ wi g b):=by
 refine PS.imp (XQ hp hc hi hg hb hs) fun D σ H hx=>gG hx fun Hs ρ ag E sr h k1 k2 k3 k4 kx=>?_
 rw[zR]
 refine⟨Hs,ρ,ag,_,sr,h,fun J H1 aS ds g1 S hz q1=>?_⟩
 refine⟨fun i m σ H=>m=ds.length-i/\i<=ds.length/\∃ av bG bS,ax aS av/\dk K av bG σ H bS/\nH g b E (ds.drop i) bG,⟨ds.length,by simp,dQ _,aS,ρ,ag,ax.refl _,sr.grow g1,by simpa using q1⟩,?_⟩
 rintro i m fS H2 ⟨rfl,hi,aC,eI,da,s2,iL,q2⟩
 by_cases cS:i<ds.length
 ·refine .inr ⟨S.go i aC H2 s2 iL.wf cS,fun oC H3=>∃ av bG bS,ax aS av/\dk K av bG oC H3 bS/\nH g b E (ds.drop (i+1)) bG,fun oC H3 h3=>⟨ds.length-(i+1),by lia,rfl,cS,h3⟩,fun x H3 y=>?_⟩
  obtain⟨fR,g3,rd⟩:=S.mS i aC H2 x H3 ds[i] s2 iL.wf (by simp[cS]) y
  rw[vE cS] at q2
  have s3:=s2.trans g3.sh
  refine⟨fR,eI,da,ds[i],_,iL.grow g3,rd,q2,fun σ4 tN Q5 N3 _ q4=>?_⟩
  refine⟨fR,tN,Q5,_,N3,q4,?_,?_,?_,?_,fun n H5 s5=>kx n H5 ((g1.sh.trans s3).trans s5)⟩
  ·exact fun EF H5 ny xk xl s5 xo q5=>⟨ny,xk,xl,s3.trans s5,xo,q5⟩
  ·exact fun EF H5 ny xk xl s5 xo q5=>k1 EF H5 ny xk xl ((g1.sh.trans s3).trans s5) xo q5
  ·exact fun EF H5 ny xk xl s5 xo q5=>⟨ny,xk,xl,s3.trans s5,xo,q5⟩
  ·exact fun v H5 ny m d As s5=>k4 v H5 ny m d As ((g1.sh.trans s3).trans s5)
 ·have e:i=ds.length:=by lia
  subst e
  refine .inl ⟨S.stop aC H2 s2 iL.wf,?_⟩
  rw[OY] at q2
  exact k1 fS H2 aC eI da (g1.sh.trans s2) iL q2
theorem cI(xs:List D)(Pv:Nat->Env->Prop)(h0:Pv 0 ρ)
  (hs:∀ i x ρ,xs[i]? = some x->Pv i ρ->∀ N:Env->Prop,(∀ bG,Pv (i+1) bG->N bG)->g x ρ fun nv=>b { E with nx:=N,ct:=N,bk:=E.nx } nv)
  (hd:∀ ρ,Pv xs.length ρ->E.nx ρ):nH g b E xs ρ:=by
 have go:∀ (k i:Nat) (ρ:Env),i+k=xs.length->Pv i ρ->nH g b E (xs.drop i) ρ:=by
  intro k
  induction k with
  |zero =>
   intro i ρ e p
   have:i=xs.length:=by lia
   subst this
   rw[OY]
   exact hd ρ p
  |succ k ih =>
   intro i ρ e p
   have hi:i<xs.length:=by lia
   rw[vE hi]
   exact hs i xs[i] ρ (by simp[hi]) p _ fun eI h2=>ih (i+1) eI (by lia) h2
 have:=go xs.length 0 ρ (by lia) h0
 simpa using this
def zg(c:WT)(b:WS):WS:=fun E ρ=>∃ (Pv:Env->Prop) (μ:Env->Nat),Pv ρ/\∀ ρ,Pv ρ->c ρ fun k=>if k=true then b { E with nx:=fun bG=>Pv bG/\μ bG<μ ρ,ct:=fun bG=>Pv bG/\μ bG<μ ρ,bk:=E.nx } ρ else E.nx ρ
theorem xM(hp:PassesOwn (model X.prog X.w) X.A X.env X.xe)(hc:QT X K c tc)(hb:oS X K L body b):QS X K L (.While c body [] pos) (zg tc b):=by
 refine PS.imp (XE hp hc hb) fun D σ H hx=>gG hx fun Hs ρ ag E sr h k1 k2 k3 k4 kx=>?_
 obtain⟨Pv,μ,p0,turn⟩:=h
 refine⟨fun m σ H=>∃ av bG bS,ax Hs av/\dk K av bG σ H bS/\Pv bG/\μ bG=m,⟨_,Hs,ρ,ag,ax.refl _,sr,p0,rfl⟩,?_⟩
 rintro m fS H2 ⟨aC,eI,da,s2,iL,p2,rfl⟩
 refine⟨aC,eI,da,_,iL,turn eI p2,fun k H3 fR g3 q3=>?_⟩
 cases k with
 |false=>exact k1 fS H3 fR eI da (s2.trans g3.sh) (iL.grow g3) q3
 |true =>
  refine⟨fun aI H'=>∃ av bG bS,ax Hs av/\dk K av bG aI H' bS/\Pv bG/\μ bG<μ eI,fun aI H' ⟨av,bG,bS,a,b,c,d⟩=>⟨μ bG,d,av,bG,bS,a,b,c,rfl⟩,?_⟩
  have s3:ax Hs fR:=s2.trans g3.sh
  refine⟨fR,eI,da,_,iL.grow g3,q3,?_,?_,?_,?_,fun n H5 s5=>kx n H5 (s3.trans s5)⟩
  ·exact fun EF H5 ny xk xl s5 xo q5=>⟨ny,xk,xl,s3.trans s5,xo,q5.1,q5.2⟩
  ·exact fun EF H5 ny xk xl s5 xo q5=>k1 EF H5 ny xk xl (s3.trans s5) xo q5
  ·exact fun EF H5 ny xk xl s5 xo q5=>⟨ny,xk,xl,s3.trans s5,xo,q5.1,q5.2⟩
  ·exact fun v H5 ny m d As s5=>k4 v H5 ny m d As (s3.trans s5)
end
def vw:WT:=fun _ Q=>Q true
def N4(m:Md)(d:D):Prop:=d.flat=true\/m=.ow true
def gq(g:WG)(tc:WT)(te:WE):List D->Env->(List D->Prop)->Prop
 |[],_,k=>k []
 |x :: xs,ρ,k=>g x ρ fun nv=>tc nv fun b=>if b=true then te nv fun m d=>N4 m d/\gq g tc te xs nv (fun out=>k (d :: out)) else gq g tc te xs nv k
def zW(tn:Nat)(ix:List Nat)(ρ:Env):Env:=List.replicate tn none++ix.map fun j=>(ρ[j]?).join.map LB
def gw(wi:WI)(g:WG)(tc:WT)(te:WE)(tn:Nat)(ix:List Nat):WE:=fun ρ Q=>wi ρ fun ds=>gq g tc te ds (zW tn ix ρ) fun out=>Q (.ow true) (.list out)
section
variable {X:Cx}{K:PySem.W.Frag}
theorem kj{Hs H G:Hp}(sr:dk K Hs ρ σ H ag)(G':Hp):∀ (ix:List Nat),SR K H G' (ix.map fun j=>(ρ[j]?).join.map LB) (ix.map fun j=>(σ[j]?).join) []
 |[]=>.nil
 |j :: ix=>by
  have ih:=kj sr G' ix (G:=G)
  simp only[fm]
  cases e:ρ[j]? with
  |none=>exact .non ih
  |some o =>
   cases o with
   |none=>exact .non ih
   |some sl =>
    obtain⟨v,e1,r⟩:=sr.sr.get e
    rw[e1]
    cases sl with
    |sh d=>exact .sh (Rep.same sr.wf.sub r) ih
    |xc a=>subst r;exact .xc ih
    |ow fl d =>
     obtain⟨As,_,r,_⟩:=r
     exact .sh (r.rep sr.wf.sub fun _ _=>rfl) ih
    |lk a fl d =>
     obtain⟨As,_,r,_⟩:=r
     exact .sh (r.rep sr.wf.sub fun _ _=>rfl) ih
theorem nW(s:SR K H G ρ σ []):∀ (n:Nat),SR K H G (List.replicate n none++ρ) (List.replicate n none++σ) []
 |0=>s
 |n+1=>.non (nW s n)
theorem SR.heap(s:SR K Hs H ρ σ []):SR K Hs H' ρ σ []:=s.eJ (ax.refl _) fun a h=>nomatch h
theorem vD(w:Wf Hs H)(n:Hs p=none)(ho:∀ vs,o≠.tup vs):Wf Hs (upd H p o):=⟨fun b u q=>by
  rw[fw (fun z=>by subst z;rw[n] at q;cases q)];exact w.sub b u q,fun b us q=>by
  by_cases hb:b=p
  ·subst hb;rw[jS] at q;exact absurd (Option.some.inj q) (ho us)
  ·rw[fw hb] at q;exact w.ic b us q⟩
structure CompI(K:PySem.W.Frag)(H1:Hp)(b:Addr)(acc:List D)(ys:List V)(As:List Addr)(Hs:Hp)(ρ:Env)(τ:St)(H:Hp):Prop where
 sm:ax H1 Hs
 sr:dk K Hs ρ τ H []
 eD:H b=some (.lst ys)
 nD:Hs b=none
 ra:aD K Hs H true acc ys As
 nd:(b :: As).Nodup
 own:∀ a∈As,Hs a=none
theorem CompI.grow(c:CompI K H1 b acc ys As Hs ρ τ H)(g:eL Hs H av H'):CompI K H1 b acc ys As av ρ τ H' :=
 ⟨c.sm.trans g.sh,c.sr.grow g,g.all _ _ c.eD,g.oj c.nD (by rw[c.eD];exact fun z=>nomatch z),c.ra.grow g.sh g.all,c.nd,fun a ha=>g.oj (c.own a ha) (c.ra.own a ha).ne⟩
theorem CompI.push(c:CompI K H1 b acc ys As Hs ρ τ H)(r:RM K Hs H m d v Bs)(ok:N4 m d)(nb:Bs.Nodup)(fb:∀ a∈Bs,Hs a=none/\a∉b :: As):∃ fN,CompI K H1 b (acc++[d]) (ys++[v]) fN Hs ρ τ (upd H b (.lst (ys++[v]))):=by
 obtain⟨B,sb,rb⟩:∃ B,B.Sublist Bs/\bE K Hs H true d v B:=by
  rcases ok with hf|rfl
  ·exact⟨[],E9 _,.sh (fun _=>hf) (r.flat c.sr.wf hf)⟩
  ·exact⟨Bs,List.Sublist.refl _,r.1⟩
 obtain⟨na,nA⟩:=lS.mp c.nd
 have N5:=fun a ha=>fb a (sb.subset ha)
 refine⟨As++(B++[]),c.sm,⟨c.sr.sr.heap,vD c.sr.wf c.nD (fun _ z=>nomatch z),oz,fun a h=>nomatch h⟩,jS,c.nD,(c.ra.eJ (H':=upd H b (.lst (ys++[v]))) (ax.refl _) fun a ha=>fw fun z=>na (by subst z;exact ha)).append (.cons (rb.eJ (ax.refl _) fun a ha=>fw fun z=>(N5 a ha).2 (by subst z;exact cc)) .nil),?_,?_⟩
 ·rw[nV]
  refine lS.mpr ⟨fun m=>(dP.mp m).elim na fun m=>(N5 b m).2 cc,ja.mpr ⟨nA,sb.nodup nb,fun x hx y hy e=>(N5 y hy).2 (e ▸ b9 _ hx)⟩⟩
 ·rw[nV]
  exact fun a ha=>(dP.mp ha).elim (c.own a) fun m=>(N5 a m).1
theorem mW(h:sj K (gw wi g tc te tn ix) σ H Qv):uw (Vq K wi) (Vp K g) (A3 K tc) (sj K te) tn ix σ H Qv:=by
 obtain⟨Hs,ρ,ag,Q,sr,h,f⟩:=h
 rw[xK]
 refine⟨Hs,ρ,ag,_,sr,h,fun J H1 aS ds g1 S hz q1 b hb=>?_⟩
 have st:CompI K H1 b [] [] [] H1 (zW tn ix ρ) (mO tn ix σ) (upd H1 b (.lst [])):=by
  refine⟨ax.refl _,⟨nW (kj (G:=H1) (sr.grow g1) _ ix) tn,⟨(ax.refl H1).upd hb,fun a xs e=>?_⟩,oz,fun a h=>nomatch h⟩,jS,hb,.nil,by simp,fun a h=>nomatch h⟩
  by_cases ha:a=b
  ·subst ha;rw[jS] at e;cases e
  ·rw[fw ha] at e;exact e
 refine⟨fun i m τ H2=>m=ds.length-i/\i<=ds.length/\∃ aC eI acc ys As,CompI K H1 b acc ys As aC eI τ H2/\acc.length<=i/\gq g tc te (ds.drop i) eI (fun out=>Q (.ow true) (.list (acc++out))),
  ⟨ds.length,by simp,dQ _,H1,_,[],[],[],st,bX _,by simpa using q1⟩,?_⟩
 rintro i m τ H2 ⟨rfl,hi,aC,eI,acc,ys,As,c,la,q2⟩
 by_cases cS:i<ds.length
 ·refine .inr ⟨S.go i aC H2 c.sm c.sr.wf cS,
   fun HG v H4=>∃ GW tN d,CompI K H1 b acc ys As GW tN HG H4/\(∃ fN,CompI K H1 b (acc++[d]) (ys++[v]) fN GW tN HG (upd H4 b (.lst (ys++[v]))))/\gq g tc te (ds.drop (i+1)) tN (fun out=>Q (.ow true) (.list (acc++d :: out))),
   fun HG H3=>∃ fR HC,CompI K H1 b acc ys As fR HC HG H3/\gq g tc te (ds.drop (i+1)) HC (fun out=>Q (.ow true) (.list (acc++out))),?_,?_,?_⟩
  ·rintro HG v H4 ⟨GW,tN,d,c4,⟨fN,c5⟩,q4⟩
   have lya:=c4.ra.length
   exact⟨ys,ds.length-(i+1),c4.eD,by lia,by lia,rfl,cS,GW,tN,acc++[d],ys++[v],fN,c5,by rw[tS];simpa using la,by simpa using q4⟩
  ·rintro HG H3 ⟨fR,HC,c3,q3⟩
   exact⟨ds.length-(i+1),by lia,rfl,cS,fR,HC,acc,ys,As,c3,by lia,q3⟩
  ·intro x H3 y
   obtain⟨fR,g3,rd⟩:=S.mS i aC H2 x H3 ds[i] c.sm c.sr.wf (by simp[cS]) y
   rw[vE cS] at q2
   have c3:=c.grow g3
   refine⟨fR,eI,[],ds[i],_,c3.sr,rd,q2,fun τ4 tN Q5 N3 m4 q4=>?_⟩
   have t4:Q5=[]:=List.eq_nil_iff_forall_not_mem.mpr fun a ha=>nomatch m4 a ha
   subst t4
   have c4:CompI K H1 b acc ys As fR tN τ4 H3:=⟨c3.sm,N3,c3.eD,c3.nD,c3.ra,c3.nd,c3.own⟩
   refine⟨fR,tN,[],_,N3,q4,fun k H5 ny g5 q5=>?_⟩
   have c5:=c4.grow g5
   cases k with
   |false=>exact⟨ny,tN,c5,q5⟩
   |true =>
    refine⟨ny,tN,[],_,c5.sr,q5,fun v H6 Hs6 m6 d6 As6 g6 r6 f6 q6=>?_⟩
    have c6:=c5.grow g6
    refine⟨Hs6,tN,d6,c6,c6.push r6 q6.1 f6.1 fun a ha=>⟨(f6.2 a ha).1,fun m=>?_⟩,q6.2⟩
    rcases cK.mp m with rfl|m
    ·have:=(f6.2 _ ha).2
     rw[c5.eD] at this;cases this
    ·exact(c5.ra.own a m).ne (f6.2 a ha).2
 ·have e:i=ds.length:=by lia
  subst e
  refine .inl ⟨S.stop aC H2 c.sm c.sr.wf,?_⟩
  rw[OY] at q2
  have q2:Q (.ow true) (.list (acc++[])):=q2
  rw[nV] at q2
  have lya:=c.ra.length
  have rm:RM K aC H2 (.ow true) (.list acc) (.ref b) (b :: As):=⟨.list (by lia) c.eD c.ra,by simp⟩
  obtain⟨fN,r',fr⟩:=mF g1.wf c.sm c.sr.wf rm c.nd fun a ha=>(cK.mp ha).elim (fun z=>z ▸ c.nD) (c.own a)
  exact Fin.after f g1 (.ref b) H2 _ (.ow true) (.list acc) fN (dU g1.wf c.sm c.sr.wf) r' fr q2
theorem AQ.imp(h:AQ X ifs t)(i:∀ σ H Q,t' σ H Q->t σ H Q):AQ X ifs t':=fun pins s σ H Q I q=>h pins s σ H Q I (i σ H Q q)
abbrev Q6(X:Cx)(K:PySem.W.Frag)(ifs:List Expr)(t:WT):Prop:=AQ X ifs (A3 K t)
theorem cT:Q6 X K [] vw:=AQ.imp Ah fun σ H Qv hx=>iS hx fun Hs ρ ag Q sr h k=>k true H Hs (eL.refl sr.wf) h
theorem jX(hc:X.calm=true)(hi:N0 X K tg iter wi)(O:bV X scope tn cn ix)
  (hg:∀ C fp fz gp,QG (aU X scope C (tn++cn) fp fz gp) K tg g) (n5:∀ C fp fz gp,Q6 (aU X scope C (tn++cn) fp fz gp) K ifs tc) (he:∀ C fp fz gp,QE (aU X scope C (tn++cn) fp fz gp) K elt te)
  (hs:∀ x,foldedSetIterable iter X.env x=pure x:=by intro _;rfl):QE X K (.ListComp elt [⟨tg,iter,ifs,0⟩] scope pos) (gw wi g tc te tn.length ix) :=
 PE.imp (zu hc hi O hg n5 he hs) fun σ H Qv h=>mW h
end
theorem iM(p:D->Bool)(f:D->D)(Iv:Env->Prop):∀ (xs:List D) (ρ:Env) (k:List D->Prop),Iv ρ ->
  (∀ x∈xs,∀ ρ,Iv ρ->∀ N1:Env->Prop,∀ N2:Env->D->Prop,(∀ bG,Iv bG->p x=false->N1 bG)->(∀ bG,Iv bG->p x=true->N2 bG (f x))->g x ρ fun nv=>tc nv fun b=>if b=true then te nv fun m d=>N4 m d/\N2 nv d else N1 nv) ->
  k ((xs.filter p).map f)->gq g tc te xs ρ k
 |[],_,k,_,_,h=>h
 |x :: xs,ρ,k,iv,hs,h=>by
  refine hs x cc ρ iv _ _ (fun bG LD hp=>?_) (fun bG LD hp=>?_)
  ·exact iM p f Iv xs bG k LD (fun y hy=>hs y (b9 _ hy)) (by simpa[hp] using h)
  ·exact iM p f Iv xs bG _ LD (fun y hy=>hs y (b9 _ hy)) (by simpa[hp] using h)
def Upd(K:PySem.W.Frag)(Hs H:Hp)(σ:St)(fl:Bool)(v:V)(up:Bool->D->Env)(fN:List Addr):Prop:=∀ aC H2 fl2 d2 fE,ax Hs aC->Wf aC H2->(∀ a,Hs a=none->H a≠none->aC a=none)->(fl2=true->fl=true) ->
  bE K aC H2 fl2 d2 v fE->fE≠[]->fE.Nodup->(∀ a∈fE,aC a=none/\(a∈fN\/H a=none))->(∀ a,H a≠none->a∉fN->H2 a=H a)->∃ da,dk K aC (up fl2 d2) σ H2 da
structure Place(K:PySem.W.Frag)(Hs H:Hp)(σ:St)(fl:Bool)(d:D)(v:V)(up:Bool->D->Env):Prop where
 ex:∃ fN,bE K Hs H fl d v fN/\fN≠[]/\fN.Nodup/\(∀ a∈fN,Hs a=none)/\Upd K Hs H σ fl v up fN
theorem Upd.node{K:PySem.W.Frag}(k:Upd K Hs H σ fl (.ref a) up (a :: A))(g:eL Hs H aC H2)(own:∀ x∈a :: A,Hs x=none/\H x≠none)(ho:∀ vs,o≠.tup vs)(hf:fl2=true->fl=true)
  (r:bE K aC (upd H2 a o) fl2 d2 (.ref a) (a :: C)) (nC:C.Nodup) (N6:a∉C) (hC:∀ x∈C,x∈A\/(aC x=none/\H x=none)):∃ da,dk K aC (up fl2 d2) σ (upd H2 a o) da:=by
 have hn:∀ x∈a :: A,aC x=none:=fun x hx=>g.oj (own x hx).1 (own x hx).2
 refine k aC _ fl2 d2 (a :: C) g.sh (vD g.wf (hn a cc) ho) (fun b h1 h2=>g.oj h1 h2) hf r (Mx _ _) (lS.mpr ⟨N6,nC⟩) (fun b hb=>?_) fun b h1 h2=>?_
 ·rcases cK.mp hb with rfl|hb
  ·exact⟨hn _ cc,.inl cc⟩
  ·exact(hC b hb).elim (fun q=>⟨hn b (b9 _ q),.inl (b9 _ q)⟩) fun q=>⟨q.1,.inr q.2⟩
 ·rw[fw fun z=>h2 (by subst z;exact cc)]
  cases q:H b with
  |none=>exact absurd q h1
  |some o=>exact g.all b o q
abbrev WP:=Env->(Bool->D->(Bool->D->Env)->Prop)->Prop
def tpP(K:PySem.W.Frag)(t:WP):TE:=fun σ H Qv=>∃ Hs ρ ag Q,dk K Hs ρ σ H ag/\t ρ Q/\∀ v H' av fl d up,eL Hs H av H'->Place K av H' σ fl d v up->Q fl d up->Qv v H'
abbrev QP(X:Cx)(K:PySem.W.Frag)(e:Expr)(t:WP):Prop:=PE X e (tpP K t)
section
variable {K:PySem.W.Frag}{Hs H av H':Hp}{σ:St}{fl:Bool}{d:D}{v:V}{up:Bool->D->Env}
theorem Place.grow(p:Place K Hs H σ fl d v up)(g:eL Hs H av H'):Place K av H' σ fl d v up:=by
 obtain⟨fN,r,ne,nd,own,k⟩:=p.ex
 refine⟨fN,r.grow g.sh g.all,ne,nd,fun a h=>g.oj (own a h) (r.own a h).ne,fun aC H2 fl2 d2 fE s2 w2 n2 hf r2 ne2 mG o2 st=>?_⟩
 refine k aC H2 fl2 d2 fE (g.sh.trans s2) w2 (fun a h1 h2=>n2 a (g.oj h1 h2) ?_) hf r2 ne2 mG (fun a h=>⟨(o2 a h).1,(o2 a h).2.imp id g.all.free⟩) fun a h1 h2=>?_
 ·cases e:H a with
  |none=>exact absurd e h2
  |some o=>rw[g.all a o e];exact fun z=>nomatch z
 ·cases e:H a with
  |none=>exact absurd e h1
  |some o =>
   have:=g.all a o e
   rw[<- this]
   exact st a (by rw[this];exact fun z=>nomatch z) h2
theorem bE.ne2:(∀ {d:D} {v:V} {As:List Addr},bE K Hs H true d v As->d.flat=false->As≠[])/\∀ {ds:List D} {vs:List V} {As:List Addr},aD K Hs H true ds vs As->cf ds=false->As≠[] :=
 bE.ind (m1:=fun d _ As=>d.flat=false->As≠[]) (m2:=fun ds _ As=>cf ds=false->As≠[]) (fun _ _ f _ h=>by rw[f rfl] at h;cases h) (fun _ _ _ _ _ _ _ _ _=>Mx _ _) (fun _ _ _ _ _ _ n _ ih _=>ih n) (fun _ _ _ _ _ _ _ _ _=>Mx _ _) (fun _ _ _ _ _ _ _ _ _=>Mx _ _)
  (fun h=>by simp[cf] at h) fun d _ _ _ _ _ _ _ i1 i2 h=>by
   cases e:d.flat with
   |false=>exact fun z=>i1 e (II.mp z).1
   |true =>
    simp only[cf,e,Bool.true_and] at h
    exact fun z=>i2 h (II.mp z).2
theorem bE.ne(r:bE K Hs H true d v As)(h:d.flat=false):As≠[]:=bE.ne2.1 r h
theorem bE.nil_of(r:bE K Hs H fl d v As)(h:d.flat=true):As=[]:=by
 cases r with
 |sh _ _=>rfl
 |tup _ _ n _=>simp[D.flat,n] at h
 |_=>simp[D.flat] at h
def A9(i:Nat):WP:=fun ρ Q=>match ρ[i]? with
 |some (some (.ow fl d))=>Q fl d fun fl2 d2=>ρ.set i (some (.ow fl2 d2))
 |_=>False
theorem SR.put(i:Nat)(s:SR K Hs H ρ σ ag):ρ[i]? = some (some (.ow fl d))->ag.Nodup ->
  ∃ (v:V) (As bS:List Addr),σ[i]? = some (some v)/\As≠[]/\bE K Hs H fl d v As/\As.Sublist ag/\∀ aC H2 fl2 d2 fE,ax Hs aC->bE K aC H2 fl2 d2 v fE->fE≠[]->fE.Nodup->(∀ a∈fE,a∈ag->a∈As)->(∀ a∈ag,a∉As->H2 a=H a) ->
   ∃ da,da.Nodup/\(∀ a∈da,a∈ag\/a∈fE)/\SR K aC H2 (ρ.set i (some (.ow fl2 d2))) σ da:=by
 induction s generalizing i with
 |nil=>intro e;simp at e
 |@non ρ σ ag o q ih =>
  intro e n
  cases i with
  |zero=>simp at e
  |succ i =>
   obtain⟨v,As,t,a,b,c,d,g⟩:=ih i (by simpa using e) n
   refine⟨v,As,t,by simpa using a,b,c,d,fun aC H2 fl2 d2 fE s2 r2 ne2 mG dj st=>?_⟩
   obtain⟨t2,x,y,z⟩:=g aC H2 fl2 d2 fE s2 r2 ne2 mG dj st
   exact⟨t2,x,y,.non z⟩
 |sh r q ih =>
  intro e n
  cases i with
  |zero=>simp at e
  |succ i =>
   obtain⟨v,As,t,a,b,c,d,g⟩:=ih i (by simpa using e) n
   refine⟨v,As,t,by simpa using a,b,c,d,fun aC H2 fl2 d2 fE s2 r2 ne2 mG dj st=>?_⟩
   obtain⟨t2,x,y,z⟩:=g aC H2 fl2 d2 fE s2 r2 ne2 mG dj st
   exact⟨t2,x,y,.sh (r.same s2) z⟩
 |xc q ih =>
  intro e n
  cases i with
  |zero=>simp at e
  |succ i =>
   obtain⟨v,As,t,a,b,c,d,g⟩:=ih i (by simpa using e) n
   refine⟨v,As,t,by simpa using a,b,c,d,fun aC H2 fl2 d2 fE s2 r2 ne2 mG dj st=>?_⟩
   obtain⟨t2,x,y,z⟩:=g aC H2 fl2 d2 fE s2 r2 ne2 mG dj st
   exact⟨t2,x,y,.xc z⟩
 |@ow ρ σ t2 B fl0 d0 v ne r q ih =>
  intro e n
  obtain⟨n1,n2,n3⟩:=ja.mp n
  cases i with
  |zero =>
   simp at e
   obtain⟨rfl,rfl⟩:=e
   refine⟨v,B,t2,rfl,ne,r,IH _ _,fun aC H2 fl2 d2 fE s2 r2 ne2 mG dj st=>⟨fE++t2,ja.mpr ⟨mG,n2,fun a ha b hb e=>?_⟩,fun a h=>?_,.ow ne2 r2 (q.eJ s2 fun a h=>st a (fe _ h) fun z=>n3 a z a h rfl)⟩⟩
   ·subst e
    exact n3 a (dj a ha (fe _ hb)) a hb rfl
   ·exact(dP.mp h).symm.imp (fun z=>fe _ z) id
  |succ i =>
   obtain⟨v,As,t,a,b,c,d,g⟩:=ih i (by simpa using e) n2
   have hB:∀ x∈B,x∉As:=fun x hx m=>n3 x hx x (d.subset m) rfl
   refine⟨v,As,B++t,by simpa using a,b,c,d.trans (pT _ _),fun aC H2 fl2 d2 fE s2 r2 ne2 mG dj st=>?_⟩
   obtain⟨t2,x,y,z⟩:=g aC H2 fl2 d2 fE s2 r2 ne2 mG (fun a ha m=>dj a ha (fe _ m)) fun a ha m=>st a (fe _ ha) m
   refine⟨B++t2,ja.mpr ⟨n1,x,fun a ha b hb e=>?_⟩,fun a h=>?_,.ow ne (r.eJ s2 fun a h=>st a (i5 _ h) (hB a h)) z⟩
   ·subst e
    rcases y a hb with w|w
    ·exact n3 a ha a w rfl
    ·exact hB a ha (dj a w (i5 _ ha))
   ·rcases dP.mp h with w|w
    ·exact .inl (i5 _ w)
    ·exact(y a w).imp (fun w=>fe _ w) id
 |@lk ρ σ t2 B a0 fl0 d0 ne r q ih =>
  intro e n
  obtain⟨n1,n2,n3⟩:=ja.mp n
  cases i with
  |zero=>simp at e
  |succ i =>
   obtain⟨v,As,t,a,b,c,d,g⟩:=ih i (by simpa using e) n2
   have hB:∀ x∈B,x∉As:=fun x hx m=>n3 x hx x (d.subset m) rfl
   refine⟨v,As,B++t,by simpa using a,b,c,d.trans (pT _ _),fun aC H2 fl2 d2 fE s2 r2 ne2 mG dj st=>?_⟩
   obtain⟨t2,x,y,z⟩:=g aC H2 fl2 d2 fE s2 r2 ne2 mG (fun a ha m=>dj a ha (fe _ m)) fun a ha m=>st a (fe _ ha) m
   refine⟨B++t2,ja.mpr ⟨n1,x,fun a ha b hb e=>?_⟩,fun a h=>?_,.lk ne (r.eJ s2 fun a h=>st a (i5 _ h) (hB a h)) z⟩
   ·subst e
    rcases y a hb with w|w
    ·exact n3 a ha a w rfl
    ·exact hB a ha (dj a w (i5 _ ha))
   ·rcases dP.mp h with w|w
    ·exact .inl (i5 _ w)
    ·exact(y a w).imp (fun w=>fe _ w) id
theorem gC{X:Cx}(h:PE X e (AB i)):QP X K e (A9 i):=PE.imp h fun σ H Qv hx=>iS hx fun Hs ρ ag Q sr h f=>by
 unfold A9 at h
 split at h
 ·rename_i fl d e1
  obtain⟨v,As,t,e2,ne,r,sb,g⟩:=SR.put i sr.sr e1 sr.sf
  refine⟨v,e2,f v H Hs fl d _ (eL.refl sr.wf) ⟨As,r,ne,sb.nodup sr.sf,fun a h=>sr.own a (sb.subset h),fun aC H2 fl2 d2 fE s2 w2 n2 _ r2 ne2 mG o2 st=>?_⟩ h⟩
  obtain⟨t2,x,y,z⟩:=g aC H2 fl2 d2 fE s2 r2 ne2 mG (fun a ha m=>(o2 a ha).2.elim id fun q=>absurd q (sr.sr.own a m).ne) fun a ha m=>st a (sr.sr.own a ha).ne m
  exact⟨t2,z,w2,x,fun a h=>(y a h).elim (fun q=>n2 a (sr.own a q) (sr.sr.own a q).ne) fun q=>(o2 a q).1⟩
 ·exact h.elim
theorem bE.wk(h:fl2=true->fl=true)(r:bE K Hs H fl d v As):bE K Hs H fl2 d v As:=by
 cases fl2 with
 |false=>exact r.NS
 |true=>rw[h rfl] at r;exact r
theorem aD.wk{fl fl2:Bool}{d:List D}{v:List V}{As:List Addr}(h:fl2=true->fl=true)(r:aD K Hs H fl d v As):aD K Hs H fl2 d v As:=by
 cases fl2 with
 |false=>exact r.NS
 |true=>rw[h rfl] at r;exact r
theorem aD.at(r:aD K Hs H fl ds vs As)(e:ds[j]? = some d)(n:As.Nodup) :
  ∃ (v:V) (B:List Addr),vs[j]? = some v/\bE K Hs H fl d v B/\B.Sublist As/\∀ aC H2 fl2 d2 B2,ax Hs aC->(fl2=true->fl=true)->bE K aC H2 fl2 d2 v B2->B2.Nodup->(∀ a∈B2,a∈As->a∈B)->(∀ a∈As,a∉B->H2 a=H a) ->
   ∃ fE,fE.Nodup/\(∀ a∈fE,(a∈As/\a∉B)\/a∈B2)/\(B2≠[]->fE≠[])/\aD K aC H2 fl2 (ds.set j d2) vs fE:=by
 induction ds generalizing vs As j with
 |nil=>simp at e
 |cons x ds ih =>
  obtain⟨v,us,A,B,rfl,rfl,r,rs⟩:=r.c
  obtain⟨n1,n2,n3⟩:=ja.mp n
  cases j with
  |zero =>
   simp at e
   subst e
   refine⟨v,A,rfl,r,IH _ _,fun aC H2 fl2 d2 B2 s2 hf r2 mG dj st=>⟨B2++B,ja.mpr ⟨mG,n2,fun a ha b hb e=>?_⟩,fun a h=>?_,fun ne z=>ne (II.mp z).1,.cons r2 ((rs.wk hf).eJ s2 fun a h=>st a (fe _ h) fun z=>n3 a z a h rfl)⟩⟩
   ·subst e
    exact n3 a (dj a ha (fe _ hb)) a hb rfl
   ·rcases dP.mp h with w|w
    ·exact .inr w
    ·exact .inl ⟨fe _ w,fun z=>n3 a z a w rfl⟩
  |succ j =>
   obtain⟨v,C,a,b,c,g⟩:=ih (j:=j) rs (by simpa using e) n2
   have hA:∀ x∈A,x∉C:=fun x hx m=>n3 x hx x (c.subset m) rfl
   refine⟨v,C,by simpa using a,b,c.trans (pT _ _),fun aC H2 fl2 d2 B2 s2 hf r2 mG dj st=>?_⟩
   obtain⟨fE,x,y,w,z⟩:=g aC H2 fl2 d2 B2 s2 hf r2 mG (fun a ha m=>dj a ha (fe _ m)) fun a ha m=>st a (fe _ ha) m
   refine⟨A++fE,ja.mpr ⟨n1,x,fun a ha b hb e=>?_⟩,fun a h=>?_,fun ne q=>w ne (II.mp q).2,.cons ((r.wk hf).eJ s2 fun a h=>st a (i5 _ h) (hA a h)) z⟩
   ·subst e
    rcases y a hb with q|q
    ·exact n3 a ha a q.1 rfl
    ·exact hA a ha (dj a q (i5 _ ha))
   ·rcases dP.mp h with q|q
    ·exact .inl ⟨i5 _ q,hA a q⟩
    ·exact(y a q).imp (fun q=>⟨fe _ q.1,q.2⟩) id
theorem Dc{α:Type}{xs:List α}{i:Int}{x:α}(h:eu xs i=some x):∃ j,kB xs.length i=some j/\xs[j]? = some x:=by
 unfold L2.eu at h
 cases e:kB xs.length i with
 |none=>rw[e] at h;cases h
 |some j=>rw[e] at h;exact⟨j,rfl,h⟩
def N7(p:WP)(t:WE):WP:=fun ρ Q=>p ρ fun fl d up=>t ρ fun _ y=>fl=true/\match y with
 |.int i=>match d with
  |.list ds=>∃ j d',kB ds.length i=some j/\ds[j]? = some d'/\d'.flat=false/\Q true d' fun fl2 d2=>up fl2 (.list (ds.set j d2))
  |.tup ds=>∃ j d',kB ds.length i=some j/\ds[j]? = some d'/\d'.flat=false/\Q true d' fun fl2 d2=>up fl2 (.tup (ds.set j d2))
  |_=>False
 |_=>False
theorem tE{α:Type}{xs:List α}{i:Int}{j:Nat}{x:α}(h:kB xs.length i=some j)(e:xs[j]? = some x):eu xs i=some x:=by unfold L2.eu;rw[h];exact e
theorem xJ{ds:List D}{j:Nat}{d:D}(e:ds[j]? = some d)(h:d.flat=false):cf ds=false:=by
 cases q:cf ds with
 |false=>rfl
 |true=>rw[ji.mp q d (kP e)] at h;cases h
theorem ue{ds:List D}{j:Nat}{d d2:D}(e:ds[j]? = some d)(h:d2.flat=false):cf (ds.set j d2)=false:=by
 have hj:j<ds.length:=(hX.mp e).1
 exact xJ (j:=j) (d:=d2) (by simp[hj]) h
theorem GQ{X:Cx}{a b:Expr}{p:WP}{t:WE}{pos:Pos}(hu:X.A.units+64<cLine)(ha:QP X K a p)(hb:QE X K b t)(hs:Nk b:=by exact fun _ _=>rfl)(hK:X.K=K:=by rfl):QP X K (.Subscript a b pos) (N7 p t):=by
 refine PE.imp (PY (Vj hu hK) ha hb hs) fun σ H Qv hx=>iS hx fun Hs ρ ag Q sr h f=>?_
 refine⟨Hs,ρ,ag,_,sr,h,fun v H1 aS fl d up g1 p1 q1=>⟨aS,ρ,ag,_,sr.grow g1,q1,fun u H2 aC m y As g2 r2 f2 q2=>?_⟩⟩
 have p2:=p1.grow g2
 have gg:=g1.trans g2
 obtain⟨rfl,q2⟩:=q2
 have ry:=r2.rep g2.wf
 cases ry with
 |int i =>
  obtain⟨fN,r,ne,nd,own,k⟩:=p2.ex
  cases r with
  |sh hf _=>exact absurd rfl ne
  |@list a0 vs0 ds0 A0 hz e rs =>
   obtain⟨j,d',e1,e2,hd,q⟩:=q2
   obtain⟨na,nb⟩:=lS.mp nd
   obtain⟨w,B,e3,r3,sb,g⟩:=rs.at e2 nb
   refine .inl (.inl ⟨_,w,.inl (.inl e),tE (by rw[<- rs.length];exact e1) e3,f w H2 aC true d' _ gg ⟨B,r3,r3.ne hd,sb.nodup nb,fun a h=>own a (b9 _ (sb.subset h)),fun fR H3 LG d3 Lr s3 w3 n3 hf r4 ne3 Q7 o3 st=>?_⟩ q⟩)
   have ae:∀ x∈A0,x∉B->H3 x=H2 x:=fun x hx m=>st x (rs.own x hx).ne m
   obtain⟨GY,x4,y4,z4,r5⟩:=g fR H3 LG d3 Lr s3 hf r4 Q7 (fun a ha m=>(o3 a ha).2.elim id fun q=>absurd q (rs.own a m).ne) ae
   have eA:H3 a0=H2 a0:=st a0 (by rw[e];exact fun z=>nomatch z) fun m=>na (sb.subset m)
   have cl:∀ a∈GY,fR a=none/\(a∈a0 :: A0\/H2 a=none):=fun a h=>by
    rcases y4 a h with⟨m,_⟩|m
    ·exact⟨n3 a (own a (b9 _ m)) (rs.own a m).ne,.inl (b9 _ m)⟩
    ·exact⟨(o3 a m).1,(o3 a m).2.imp (fun q=>b9 _ (sb.subset q)) id⟩
   refine k fR H3 LG (.list _) (_ :: GY) s3 w3 n3 hf (.list hz (eA.trans e) r5) (by simp) (lS.mpr ⟨fun m=>?_,x4⟩) (fun a h=>?_) fun a h1 h2=>st a h1 fun m=>h2 (b9 _ (sb.subset m))
   ·rcases y4 _ m with⟨q,_⟩|q
    ·exact na q
    ·rcases (o3 _ q).2 with q|q
     ·exact na (sb.subset q)
     ·rw[e] at q;cases q
   ·rcases cK.mp h with rfl|h
    ·exact⟨n3 _ (own _ cc) (by rw[e];exact fun z=>nomatch z),.inl cc⟩
    ·exact cl a h
  |tup hz e hn rs =>
   obtain⟨j,d',e1,e2,hd,q⟩:=q2
   obtain⟨w,B,e3,r3,sb,g⟩:=rs.at e2 nd
   refine .inl (.inr ⟨_,w,.inl (.inl (g2.wf.sub _ _ e)),tE (by rw[<- rs.length];exact e1) e3,f w H2 aC true d' _ gg ⟨B,r3,r3.ne hd,sb.nodup nd,fun a h=>own a (sb.subset h),fun fR H3 LG d3 Lr s3 w3 n3 hf r4 ne3 Q7 o3 st=>?_⟩ q⟩)
   obtain⟨GY,x4,y4,z4,r5⟩:=g fR H3 LG d3 Lr s3 hf r4 Q7 (fun a ha m=>(o3 a ha).2.elim id fun q=>absurd q (rs.own a m).ne) (fun x hx m=>st x (rs.own x hx).ne m)
   have GA:cf (List.set _ j d3)=false:=ue e2 (by
    cases hh:d3.flat with
    |false=>rfl
    |true=>exact absurd (r4.nil_of hh) ne3)
   refine k fR H3 LG (.tup _) GY s3 w3 n3 hf (.tup hz (s3 _ _ e) GA r5) (z4 ne3) x4 (fun a h=>?_) fun a h1 h2=>st a h1 fun m=>h2 (sb.subset m)
   rcases y4 a h with⟨m,_⟩|m
   ·exact⟨n3 a (own a m) (rs.own a m).ne,.inl m⟩
   ·exact⟨(o3 a m).1,(o3 a m).2.imp (fun q=>sb.subset q) id⟩
  |_=>exact q2.elim
 |_=>exact q2.elim
end
section
variable {X:Cx}{K:PySem.W.Frag}{e:Expr}{p:WP}{te:WE}{apos ft pos:Pos}
def kh(fl:Bool)(m:Md)(d:D):Option Bool:=match m with
 |.sh=>some (fl && d.flat)
 |.ow b=>some (fl && b)
 |.bo=>bif d.flat then some fl else none
def EG(p:WP)(te:WE):WS:=fun E ρ=>p ρ fun fl d up=>match d with
 |.list xs=>te ρ fun m x=>xs.length<sizeLine/\match kh fl m x with
  |some fl2=>E.nx (up fl2 (.list (xs++[x])))
  |none=>False
 |_=>False
theorem yq(w:Wf Hs H)(r:RM K Hs H m d v As)(h:kh fl m d=some fl2):(fl2=true->fl=true)/\∃ B,B.Sublist As/\bE K Hs H fl2 d v B:=by
 cases m with
 |sh =>
  cases h
  exact⟨fun z=>by cases fl<;>simp_all,[],E9 _,.sh (fun z=>by cases fl<;>simp_all) r.2⟩
 |ow b =>
  cases h
  refine⟨fun z=>by cases fl<;>simp_all,As,List.Sublist.refl _,r.1.wk fun z=>by cases fl<;>simp_all⟩
 |bo =>
  cases hf:d.flat with
  |true =>
   simp only[kh,hf,cond_true,Option.some.injEq] at h
   subst h
   exact⟨id,[],E9 _,.sh (fun _=>hf) (r.flat w hf)⟩
  |false=>simp[kh,hf] at h
theorem Place.put(pl:Place K aS H1 σ fl (.list xs) v up)(g:eL aS H1 aC H2) :
  ∃ a vs A,v=.ref a/\H2 a=some (.lst vs)/\H1 a=some (.lst vs)/\aD K aC H2 fl xs vs A/\(a :: A).Nodup/\(∀ x∈a :: A,aC x=none/\H1 x≠none) /\
   ∀ fl2 ys ws C,(fl2=true->fl=true)->aD K aC H2 fl2 ys ws C->ws.length<=sizeLine->C.Nodup->a∉C->(∀ x∈C,x∈A\/(aC x=none/\H1 x=none))->∃ da,dk K aC (up fl2 (.list ys)) σ (upd H2 a (.lst ws)) da:=by
 obtain⟨fN,r,ne,nd,own,k⟩:=pl.ex
 cases r with
 |sh hf _=>exact absurd rfl ne
 |@list a vs _ A hz e rs =>
  have e2:=g.all _ _ e
  have rs2:=rs.grow g.sh g.all
  have hw:∀ x∈a :: A,aS x=none/\H1 x≠none:=fun x hx=>⟨own x hx,by
   rcases cK.mp hx with rfl|hx
   ·rw[e];exact fun z=>nomatch z
   ·exact(rs.own x hx).ne⟩
  exact⟨a,vs,A,rfl,e2,e,rs2,nd,fun x hx=>⟨g.oj (hw x hx).1 (hw x hx).2,(hw x hx).2⟩,fun fl2 ys ws C hf ng hz ndC N6 hC=>k.node g hw (fun _ z=>by cases z) hf (.list hz jS (ng.eJ (ax.refl _) fun b hb=>fw fun z=>N6 (by subst z;exact hb))) ndC N6 hC⟩
theorem Place.isL(w:Wf aS H1)(pl:Place K aS H1 σ fl (.list xs) v up):∃ a vs,v=.ref a/\eh K H1 a vs:=by
 obtain⟨fN,r,ne,nd,own,k⟩:=pl.ex
 cases r with
 |sh hf _=>exact absurd rfl ne
 |list hz e rs=>exact⟨_,_,rfl,.inl (.inl e)⟩
theorem qP (ho:QP X K e p) (he:QE X K e2 te) (hK:X.K=K:=by rfl) (hs:swapsWith (.Call (.Attribute e "append" apos) [e2] [] ft) none pos.line X.env=pure false:=by rfl)
  (D3:attributeBase e "append" X.env (eval e X.env)=eval e X.env:=by rfl)
  (AO:((backTo ft (starEach [e2] X.env)).all (fun x=>!x.1) && (backToKw ft (keywordEach [] X.env)).all (fun x=>x.1.isSome)
   && decide ([e2].length+([]:List Keyword).length+(if ([]:List Keyword).isEmpty then 0 else 1)<30))=true:=by rfl)
  (hline:(apos.endLine == ft.line)=true:=by rfl) (CC:starEach (e2 :: []) X.env=(false,eval e2 X.env) :: starEach [] X.env:=by rfl) (D4:(backTo ft (starEach [] X.env)).any (·.1)=false:=by rfl) :
  QS X K L (.Expr (.Call (.Attribute e "append" apos) [e2] [] ft) pos) (EG p te):=by
 subst hK
 refine PS.imp (Pn (Nm PySem.F.plainAttrs_list PySem.F.slot_list_append PySem.F.type_list_append P4 ho (nc he rz CC) D3 AO hline CC D4) hs) fun D σ H hx=>gf hx fun Hs ρ ag E sr h k1 k2 k3 k4=>?_
 refine⟨Hs,ρ,ag,_,sr,h,fun v H1 aS fl d up g1 p1 q1=>?_⟩
 cases d with
 |list xs =>
  obtain⟨a1,vs1,e1,s1⟩:=p1.isL g1.wf
  subst e1
  refine⟨.inl ⟨rfl,_,s1⟩,aS,ρ,ag,_,sr.grow g1,q1,fun y H2 aC m x As g2 r2 f2 q2=>?_⟩
  obtain⟨hz,q2⟩:=q2
  obtain⟨a,vs,A,ea,e2,_,rs,nd,hn,k⟩:=p1.put g2
  cases ea
  have hl:=rs.length
  refine⟨a1,vs,y,rfl,rfl,e2,by lia,?_⟩
  cases hp:kh fl m x with
  |none=>rw[hp] at q2;exact q2.elim
  |some fl2 =>
   rw[hp] at q2
   obtain⟨hf,B,sb,rb⟩:=yq g2.wf r2 hp
   obtain⟨na,nA⟩:=lS.mp nd
   have fB:∀ x∈B,aC x=none/\H1 x=none:=fun x hx=>f2.2 x (sb.subset hx)
   have c1:(A++(B++[])).Nodup:=by
    rw[nV]
    exact ja.mpr ⟨nA,sb.nodup f2.1,fun x hx z hz e=>by subst e;exact(hn x (b9 _ hx)).2 (fB x hz).2⟩
   have c2:a1∉A++(B++[]):=by
    rw[nV]
    intro m
    rcases dP.mp m with m|m
    ·exact na m
    ·exact(hn _ cc).2 (fB _ m).2
   have c3:∀ x∈A++(B++[]),x∈A\/(aC x=none/\H1 x=none):=by
    rw[nV]
    intro x hx
    exact(dP.mp hx).imp id fun z=>fB x z
   obtain⟨da,iL⟩:=k fl2 (xs++[x]) (vs++[y]) (A++(B++[])) hf ((rs.wk hf).append (.cons rb .nil)) (by rw[tS];simp;lia) c1 c2 c3
   exact k1 σ _ aC _ da (g1.sh.trans g2.sh) iL q2
 |_=>exact q1.elim
def vg:WE:=fun _ Q=>Q (.ow true) (.dT [])
theorem Cq:QE X K (.Dict [] [] pos) vg:=PE.imp Zn fun σ H Qv hx=>iS hx fun Hs ρ ag Q sr h f=>fun a ha =>
 f _ _ Hs (.ow true) (.dT []) [a] (NT sr.wf ha fun _ z=>nomatch z) ⟨.dT (vs:=[]) ⟨dQ _,fun p hp=>nomatch hp⟩ jS .nil,by simp⟩ ⟨by simp,fun b hb=>by
  obtain rfl:b=a:=by simpa using hb
  exact⟨sr.wf.sub.free ha,ha⟩⟩ h
section
variable {κ:Type}[DecidableEq κ]
theorem uV{Hs H:Hp}{fl:Bool}{k:κ}{d:D}{v:V}(r:bE K Hs H fl d v []){kvs:List (κ × D)}{vs:List V}{As:List Addr}(qs:aD K Hs H fl (kvs.map (·.2)) vs As):∃ ws Bs,Bs.Sublist As /\
  aD K Hs H fl ((kvs.map fun kv=>if kv.1=k then (kv.1,d) else kv).map (·.2)) ws Bs/\((kvs.map (·.1)).zip vs).map (fun kv=>if kv.1=k then (kv.1,v) else kv)=(((kvs.map fun kv=>if kv.1=k then (kv.1,d) else kv)).map (·.1)).zip ws:=by
 induction kvs generalizing vs As with
 |nil=>exact⟨[],[],E9 _,.nil,rfl⟩
 |cons p kvs ih =>
  obtain⟨u,vs,A,B,rfl,rfl,q,qs⟩:=aD.c (d:=p.2) qs
  obtain⟨ws,Bs,sb,rs,e⟩:=ih qs
  by_cases h:p.1=k
  ·refine⟨v :: ws,[]++Bs,by simpa using sb.trans (pT _ _),?_,?_⟩
   ·simp only[fm,h,if_true]
    exact .cons r rs
   ·simp only[fm,zv,h,if_true,e]
  ·refine⟨u :: ws,A++Bs,sb.append_left _,?_,?_⟩
   ·simp only[fm,h,if_false]
    exact .cons q rs
   ·simp only[fm,zv,h,if_false,e]
theorem xj{Hs H:Hp}{fl:Bool}{k:κ}{d:D}{v:V}(r:bE K Hs H fl d v []){kvs:List (κ × D)}{vs:List V}{As:List Addr}(q:aD K Hs H fl (kvs.map (·.2)) vs As) :
  ∃ ws Bs,Bs.Sublist As/\aD K Hs H fl ((ki kvs k d).map (·.2)) ws Bs/\putK ((kvs.map (·.1)).zip vs) k v=((ki kvs k d).map (·.1)).zip ws:=by
 have hl:=q.length
 rw[dc] at hl
 unfold putK ki
 rw[Ac hl]
 cases h:kvs.any fun kv=>decide (kv.1=k) with
 |true =>
  simp only[if_true]
  exact uV r q
 |false =>
  simp only[gL,if_false]
  refine⟨vs++[v],As++([]++[]),by simp,?_,?_⟩
  ·rw[DF]
   exact q.append (.cons r .nil)
  ·rw[DF,List.zip_append (by rw[dc];exact hl)]
   rfl
theorem vY{Hs H:Hp}{fl:Bool}{k:κ}{d:D}{v:V}(r:Rep K Hs d v)(hd:d.flat=true){kvs:List (κ × D)}{vs:List V}{As:List Addr}(q:aD K Hs H fl (kvs.map (·.2)) vs As) :
  ∃ ws Bs,Bs.Sublist As/\aD K Hs H fl ((ki kvs k d).map (·.2)) ws Bs/\putK ((kvs.map (·.1)).zip vs) k v=((ki kvs k d).map (·.1)).zip ws:=xj (.sh (fun _=>hd) r) q
theorem iI{β:Type}(kvs:List (κ × β))(k:κ)(v:β):(ki kvs k v).length<=kvs.length+1:=by
 unfold ki
 split
 ·rw[dc];exact O1 _ _
 ·simp
theorem lH{β:Type}{kvs:List (κ × β)}{k:κ}{v:β}{p:κ × β}(h:p∈ki kvs k v):p.1=k\/p.1∈kvs.map (·.1):=by
 unfold ki at h
 split at h
 ·obtain⟨q,hq,e⟩:=dr.mp h
  by_cases hk:q.1=k
  ·rw[if_pos hk] at e;subst e;exact .inl hk
  ·rw[if_neg hk] at e;subst e;exact .inr (dr.mpr ⟨q,hq,rfl⟩)
 ·rcases dP.mp h with h|h
  ·exact .inr (dr.mpr ⟨p,h,rfl⟩)
  ·have:p=(k,v):=by simpa using h
   subst this;exact .inl rfl
end
def tZ(p:WP)(tk tv:WE):WS:=fun E ρ=>tv ρ fun _ x=>p ρ fun fl d up=>tk ρ fun _ y=>x.flat=true/\match d with
 |.dK kvs=>∃ k,y.key1=some k/\kvs.length<sizeLine/\E.nx (up fl (.dK (ki kvs k x)))
 |.dT kvs=>match y with
  |.tup ys=>∃ ks,gr ys=some ks/\kvs.length<sizeLine/\E.nx (up fl (.dT (ki kvs ks x)))
  |_=>False
 |_=>False
theorem vA(r:Rep K H d v)(h:d.key1=some k):xh k=true:=by
 cases r<;>simp[D.key1] at h<;>subst h
 ·rfl
 ·rename_i hz;simp[xh,hz]
theorem xR(r:ay K H ds vs)(h:gr ds=some ks):ks.length=ds.length/\∀ k∈ks,xh k=true:=by
 induction ds generalizing vs ks with
 |nil=>simp[gr] at h;subst h;exact⟨rfl,fun k hk=>nomatch hk⟩
 |cons d ds ih =>
  obtain⟨u,us,rfl,r,rs⟩:=r.c
  unfold gr at h
  cases e1:d.key1 with
  |none=>rw[e1] at h;simp at h
  |some k =>
   cases e2:gr ds with
   |none=>rw[e1,e2] at h;simp at h
   |some g0 =>
    rw[e1,e2] at h
    simp at h
    subst h
    obtain⟨a,b⟩:=ih rs e2
    refine⟨by simp[a],fun j hj=>?_⟩
    rcases cK.mp hj with rfl|hj
    ·exact vA r e1
    ·exact b j hj
theorem uY{a b c:Expr}{tk tv:WE}{pos':Pos}(hu:X.A.units+64<cLine)(ho:QP X K a p)(hi:QE X K b tk)(hv:QE X K c tv)(hs:swapsWith c (some (.Subscript a b pos')) pos.line X.env=pure false:=by rfl) :
  QS X K L (.Assign [.Subscript a b pos'] c pos) (tZ p tk tv):=by
 refine PS.imp (Zj (by lia) ho hi hv hs) fun D σ H hx=>gf hx fun Hs ρ ag E sr h k1 k2 k3 k4=>?_
 refine⟨Hs,ρ,ag,_,sr,h,fun v H1 aS m1 x As1 g1 r1 f1 q1=>⟨aS,ρ,ag,_,sr.grow g1,q1,fun u H2 aC fl d up g2 p2 q2=>⟨aC,ρ,ag,_,(sr.grow g1).grow g2,q2,fun y H3 fR m3 yd Lr g3 r3 f3 q3=>?_⟩⟩⟩
 obtain⟨hx,q3⟩:=q3
 have rx:Rep K fR x v:=((r1.grow g2).grow g3).flat g3.wf hx
 have ry:=r3.rep g3.wf
 obtain⟨fN,r,ne,nd,own,k⟩:=p2.ex
 have sm:ax Hs fR:=(g1.sh.trans g2.sh).trans g3.sh
 have lv:∀ x∈fN,aC x=none/\H2 x≠none:=fun x hx=>⟨own x hx,(r.own x hx).ne⟩
 cases r with
 |sh hf _=>exact absurd rfl ne
 |@dK a0 vs kvs A kk e rs =>
  obtain⟨key,hk,hz,q⟩:=q3
  have ey:=ry.key hk
  subst ey
  obtain⟨na,nA⟩:=lS.mp nd
  obtain⟨ws,Bs,sb,ng,ew⟩:=vY (k:=key) rx hx (rs.grow g3.sh g3.all)
  have hl:kvs.length=vs.length:=by have:=rs.length;rwa[dc] at this
  refine⟨a0,_,rfl,B6.k (g3.all _ _ e) (by rw[Mz,dc,<- hl,MF];exact hz),?_⟩
  rw[ew]
  have nB:a0∉Bs:=fun z=>na (sb.subset z)
  obtain⟨da,iL⟩:=k.node (fl2:=fl) (d2:=.dK (ki kvs key x)) g3 lv (fun _ z=>by cases z) id (.dK ⟨hG (iI _ _ _) hz,fun p hp=>(lH hp).elim (fun z=>by rw[z];exact vA ry hk) fun z=>by obtain⟨p',iF,e'⟩:=dr.mp z;rw[<- e'];exact kk.2 p' iF⟩ jS (ng.eJ (ax.refl _) fun b hb=>fw fun z=>nB (by subst z;exact hb)))
   (sb.nodup nA) nB fun b hb=>.inl (sb.subset hb)
  exact k1 σ _ fR _ da sm iL q
 |@dT a0 vs kvs A kk e rs =>
  cases ry with
  |tup t1 e1 G0 =>
   obtain⟨key,hk,hz,q⟩:=q3
   obtain⟨b,eb,e5⟩:=Rep.pd (.tup t1 e1 G0) hk
   cases eb
   obtain⟨kl,ko⟩:=xR G0 hk
   obtain⟨na,nA⟩:=lS.mp nd
   obtain⟨ws,Bs,sb,ng,ew⟩:=vY (k:=key) rx hx (rs.grow g3.sh g3.all)
   have hl:kvs.length=vs.length:=by have:=rs.length;rwa[dc] at this
   refine⟨a0,_,rfl,B6.t (g3.all _ _ e) e5 (by rw[Mz,dc,<- hl,MF];exact hz),?_⟩
   rw[ew]
   have nB:a0∉Bs:=fun z=>na (sb.subset z)
   have l1:=G0.length
   obtain⟨da,iL⟩:=k.node (fl2:=fl) (d2:=.dT (ki kvs key x)) g3 lv (fun _ z=>by cases z) id (.dT ⟨hG (iI _ _ _) hz,fun p hp=>(lH hp).elim (fun z=>by rw[z];exact⟨by lia,ko⟩) fun z=>by obtain⟨p',iF,e'⟩:=dr.mp z;rw[<- e'];exact kk.2 p' iF⟩ jS (ng.eJ (ax.refl _) fun b hb=>fw fun z=>nB (by subst z;exact hb)))
    (sb.nodup nA) nB fun b hb=>.inl (sb.subset hb)
   exact k1 σ _ fR _ da sm iL q
  |_=>exact q3.elim
 |_=>exact q3.elim
end
abbrev WJ:=Env->Str->(Str->Prop)->Prop
section
variable {X:Cx}{K:PySem.W.Frag}{e:Expr}{te:WE}{j:WJ}
def iy:List D->Option (List Str)
 |[]=>some []
 |.str x :: xs=>(iy xs).map (x :: ·)
 |_ :: _=>none
def iV(to te:WE):WE:=fun ρ Q=>to ρ fun _ x=>match x with
 |.str z=>te ρ fun _ y=>match y with
  |.list ys=>∃ zs,iy ys=some zs/\(zs.map (·.length)).sum+zs.length*z.length<=16777216/\Q .sh (.str (Str.join z zs))
  |_=>False
 |_=>False
theorem wI(r:ay K H ds vs)(q:Vals vs us)(h:iy ds=some zs):StrsAre us zs:=by
 induction ds generalizing vs us zs with
 |nil =>
  simp[iy] at h
  subst h
  have:=r.n0
  subst this
  rw[Paired.n0 q];exact .nil
 |cons d ds ih =>
  obtain⟨v,vs,rfl,r1,rs⟩:=r.c
  obtain⟨u,us,rfl,q1,qs⟩:=Paired.c q
  cases r1 with
  |str hz =>
   simp only[iy] at h
   cases e:iy ds with
   |none=>rw[e] at h;cases h
   |some ys =>
    rw[e] at h
    cases h
    obtain⟨t,rfl⟩:=q1
    exact .cons _ t (ih rs qs e)
  |_=>simp[iy] at h
theorem Af (hK:X.K=K:=by rfl):PX X "str.join" (fun x xs H Q=>∃ z a ds vs zs,x=.str z/\xs=[.ref a]/\eh K H a vs/\ay K H ds vs/\iy ds=some zs/\(zs.map (·.length)).sum+zs.length*z.length<=16777216/\Q (.str (Str.join z zs)) H):=by
 subst hK
 intro pins s σ H x xs v us Q I rx rs h
 obtain⟨z,a,ds,vs,zs,rfl,rfl,hs,rr,e,hz,q⟩:=h
 obtain⟨t,rfl⟩:=rx
 obtain⟨u,rfl,ru⟩:=Vals.one rs
 cases ru
 obtain⟨its,rv,pl,_⟩:=I.list hs
 exact join_list pl.isList (by simpa using wI rr rv e) hz fun t' k=>⟨.str _,H,I.tok _,⟨t',rfl⟩,by rw[show Txt.join z zs=Str.join z zs from StrLaws.glued_eq_join z zs];exact q⟩
theorem qI:∀ {zs:List Str},(Str.join z zs).length<=(zs.map (·.length)).sum+zs.length*z.length
 |[]=>by show Str.empty.length<=_;exact hG (show Str.empty.length<=0 by decide) (dQ _)
 |[x]=>by simp[Str.join]
 |x :: y :: r=>by
  have ih:=qI (z:=z) (zs:=y :: r)
  show(x++z++Str.join z (y :: r)).length<=_
  rw[cM,cM]
  simp only[fm,List.sum_cons,qc,Nat.add_mul,Nat.one_mul] at ih ⊢
  lia
theorem qR(ho:QE X K o to)(he:QE X K e te)(hK:X.K=K:=by rfl)
  (D3:attributeBase o "join" X.env (eval o X.env)=eval o X.env:=by rfl)
  (AO:((backTo ft (starEach [e] X.env)).all (fun x=>!x.1) && (backToKw ft (keywordEach [] X.env)).all (fun x=>x.1.isSome)
   && decide ([e].length+([]:List Keyword).length+(if ([]:List Keyword).isEmpty then 0 else 1)<30))=true:=by rfl)
  (hline:(apos.endLine == ft.line)=true:=by rfl) (CC:starEach (e :: []) X.env=(false,eval e X.env) :: starEach [] X.env:=by rfl) (D4:(backTo ft (starEach [] X.env)).any (·.1)=false:=by rfl) :
  QE X K (.Call (.Attribute o "join" apos) [e] [] ft) (iV to te):=by
 subst hK
 refine PE.imp (Nm PySem.F.plainAttrs_str PySem.F.slot_str_join PySem.F.type_str_join Af ho (nc he rz CC) D3 AO hline CC D4) fun σ H Qv hx=>iS hx fun Hs ρ ag Q sr h f=>?_
 refine⟨Hs,ρ,ag,_,sr,h,fun v H1 aS m x As g1 r1 f1 q1=>?_⟩
 have r:=r1.rep g1.wf
 cases r with
 |str hz =>
  refine⟨rfl,aS,ρ,ag,_,sr.grow g1,q1,fun y H2 aC m2 x2 fE g2 r2 f2 q2=>?_⟩
  have rr:=r2.rep g2.wf
  cases rr with
  |list z s rs =>
   obtain⟨zs,e,hz,q⟩:=q2
   exact⟨_,_,_,_,zs,rfl,rfl,s,rs,e,hz,Fin.sh (Fin.after f (g1.trans g2)) g2.wf (.str (hG qI (by rw[sizeLine_eq];exact hz))) q⟩
  |_=>exact q2.elim
 |_=>exact q1.elim
def pd(k:List Key):D:=.tup (k.map tI)
def Fe:W1:=fun _ x Q=>match x with
 |.list xs=>∃ ks sh,xs=ks.map pd/\(∀ k∈ks,gE k=true :: sh)/\∀ ms:List (List Key),ms.Perm ks->(ms.Pairwise fun a b=>fh b a=false)->Q (.ow true) (.list (ms.map pd))
 |_=>False
theorem BZ{H:Hp}{ks:List Key}{vs:List V}(r:ay K H (ks.map tI) vs):vs=ks.map kV/\∀ k∈ks,xh k=true:=by
 induction ks generalizing vs with
 |nil=>exact⟨r.n0,fun k h=>nomatch h⟩
 |cons k ks ih =>
  obtain⟨u,us,rfl,r1,rs⟩:=ay.c (d:=tI k) r
  obtain⟨e,o⟩:=ih rs
  subst e
  cases k with
  |inl i=>cases r1;exact⟨rfl,fun j hj=>by rcases cK.mp hj with rfl|hj;rfl;exact o j hj⟩
  |inr x =>
   cases r1 with
   |str hz=>exact⟨rfl,fun j hj=>by rcases cK.mp hj with rfl|hj;simp[xh,hz];exact o j hj⟩
theorem Bc{H:Hp}{ks:List (List Key)}{vs:List V}(r:ay K H (ks.map pd) vs):cu H vs ks/\∀ k∈ks,k.length<=sizeLine/\∀ j∈k,xh j=true:=by
 induction ks generalizing vs with
 |nil=>rw[r.n0];exact⟨.nil,fun k h=>nomatch h⟩
 |cons k ks ih =>
  obtain⟨u,us,rfl,r1,rs⟩:=ay.c (d:=pd k) r
  obtain⟨t,o⟩:=ih rs
  cases r1 with
  |tup hz e q =>
   obtain⟨e2,o2⟩:=BZ q
   subst e2
   exact⟨.cons ⟨_,rfl,e⟩ t,fun j hj=>by
    rcases cK.mp hj with rfl|hj
    ·exact⟨by simpa using hz,o2⟩
    ·exact o j hj⟩
theorem jm:bootBuiltins "sorted" = some (.builtin "sorted"):=by decide +kernel
end
def shF(A:List Addr)(F:Nat->List Addr):Nat->List Addr
 |0=>A
 |i+1=>F i
abbrev Plan:=List (WE ⊕ Nat)
def aQ':Option (Option Sl)->Option (Md × D)
 |some (some (.sh d))=>some (.sh,d)
 |some (some (.ow fl d))=>some (.ow fl,d)
 |_=>none
def Vr:iX:=fun ds Q=>∃ ns:List Int,ds=[.list (ns.map .int)]/\ns.length<=63/\∀ m,Q m (.bl true)
theorem ints_rep{K:PySem.W.Frag}:∀ (ns:List Int),ay K H (ns.map .int) (ns.map V.int)
 |[]=>.nil
 |n :: ns=>.cons (.int n) (ints_rep ns)
theorem x_{K:PySem.W.Frag}{H:Hp}{a:Addr}{ns:List Int}{E:XK}(hl:ns.length<=63)(hS:eh K H a (ns.map V.int)):aB K Vr [.ref a] H (fun v _=>v=.bl true) E:=by
 refine⟨[.list (ns.map .int)],fun _ d=>d=.bl true,.cons (.list (by rw[dc];exact hG hl (by decide)) hS (ints_rep ns)) .nil,⟨ns,rfl,hl,fun _=>rfl⟩,?_⟩
 intro v H' av m d As s w r nd own q
 subst q
 have:=r.rep w
 cases this
 rfl
abbrev sg(x:Str):List Nat:=x.cps.toList
theorem qD(x y:Str):sg (x++y)=sg x++sg y:=by
 show(x.cps++y.cps).toList=_
 simp[sg]
theorem empty_app(x:Str):Str.empty++x=x:=vp (by rw[<- sg,qD];rfl)
def Vs(x:Str):Prop:=∀ c∈sg x,c<0x110000
theorem Aq(x:Str):PyData.strOk x=true↔Vs x:=by
 unfold PyData.strOk Vs sg
 rw[Array.all_eq_true']
 simp
theorem aR'(x:α)(l:List α):eu (x :: l) 0=some x:=by simp[L2.eu,kB]
theorem aS'(x y:α)(l:List α):eu (x :: y :: l) 1=some y:=by
 have:=FX (xs:=x :: y :: l) (j:=1) (v:=y) rfl
 exact this
theorem aT'(x y z:α)(l:List α):eu (x :: y :: z :: l) 2=some z:=by
 have:=FX (xs:=x :: y :: z :: l) (j:=2) (v:=z) rfl
 exact this
theorem Es:Str.empty.length=0:=by decide
end L2.Q
namespace L2.Q.R
open PySem PySem.Spec PyProof.Rows L2.Q
section
variable {f:D->Prop}{k:Kt f}
theorem Ij:bI .non k=f .non:=rfl
theorem J7:bI (.bl b) k=f (.bl b):=rfl
theorem Jr:bI (.int i) k=f (.int i):=rfl
theorem H_:bI (.str x) k=f (.str x):=rfl
theorem Gq:bI (.list xs) k=f (.list xs):=rfl
theorem Jc:bI (.tup xs) k=f (.tup xs):=rfl
theorem Kg:bI (.dK xs) k=f (.dK xs):=rfl
theorem KJ:bI (.dT xs) k=f (.dT xs):=rfl
end
theorem GJ{f:Bool->Prop}{k:Kt f}:bI true k=f true:=rfl
theorem Fy{f:Bool->Prop}{k:Kt f}:bI false k=f false:=rfl
theorem Im{d:D}{f:Md × D->Prop}{k:Kt f}:bI (Md.sh,d) k=f (.sh,d):=rfl
theorem Hx{b:Bool}{d:D}{f:Md × D->Prop}{k:Kt f}:bI (Md.ow b,d) k=f (.ow b,d):=rfl
theorem Jd{d:D}{f:Md × D->Prop}{k:Kt f}:bI (Md.bo,d) k=f (.bo,d):=rfl
theorem Hw{d:D}{f:Option Sl->Prop}{k:Kt f}:bI (some (.sh d)) k=f (some (.sh d)):=rfl
theorem Ip{b:Bool}{d:D}{f:Option Sl->Prop}{k:Kt f}:bI (some (.ow b d)) k=f (some (.ow b d)):=rfl
theorem HF{p:Md × D}{f:Option (Md × D)->Prop}{k:Kt f}:bI (some p) k=f (some p):=rfl
theorem KD{p:Bool}{f:Option Bool->Prop}{k:Kt f}:bI (some p) k=f (some p):=rfl
theorem IV{d:D}{f:Option (Option Sl)->Prop}{k:Kt f}:bI (some (some (.sh d))) k=f (some (some (.sh d))):=rfl
theorem HJ{b:Bool}{d:D}{f:Option (Option Sl)->Prop}{k:Kt f}:bI (some (some (.ow b d))) k=f (some (some (.ow b d))):=rfl
section
variable {E:lA}{ρ:Env}{Q:Md->D->Prop}{B:Bool->Prop}{t u:WS}{te ta tb tc LH:WE}{tt tu:WT}{tar:WA}{i j n:Nat}{m m':Md}{d d':D}{sp:iX}{p:WP}{R:List (Md × D)->Prop}
theorem Jj:dG E ρ=E.nx ρ:=rfl
theorem KN:cx t u E ρ=t { E with nx:=u E } ρ:=rfl
theorem Kh:mB te E ρ=te ρ E.rt:=rfl
def put(sl:Option Sl)(k:Sl->Prop):Prop:=match sl with
 |some s=>k s
 |none=>False
theorem Jv:put (some (.sh d)) k=k (.sh d):=rfl
theorem Ia:put (some (.ow b d)) k=k (.ow b d):=rfl
theorem JM:dE i te E ρ=te ρ fun m d=>bI (asg m d) (f:=fun o=>put o fun sl=>E.nx (ρ.set i (some sl))) ⟨⟩:=rfl
theorem JZ:mE tt t u E ρ=tt ρ fun b=>bI b (f:=fun b=>if b=true then t E ρ else u E ρ) ⟨⟩:=rfl
theorem Jw:uE i E ρ=bI ρ[i]? (f:=fun o=>match o with
 |some (some (.sh d))=>E.rt .sh d
 |some (some (.ow fl d))=>E.rt (.ow fl) d
 |_=>False) ⟨⟩:=rfl
def mov(o:Option (Md × D))(k:Md × D->Prop):Prop:=match o with
 |some p=>k p
 |none=>False
theorem Fw{p:Md × D}{k:Md × D->Prop}:mov (some p) k=k p:=rfl
theorem KZ:kK i t E ρ=t E (LC i ρ):=rfl
-- tests
def bol(d:D)(B:Bool->Prop):Prop:=match d with
 |.bl b=>B b
 |_=>False
theorem Jf:bol (.bl b) B=B b:=rfl
theorem wB_:wB te ρ B=te ρ fun _ x=>bI x (f:=fun x=>bol x B) ⟨⟩:=rfl
theorem Kv:EB tt ρ B=tt ρ fun c=>B (!c):=rfl
theorem JV:QQ tt tu ρ B=tt ρ fun c=>bI c (f:=fun c=>if c=true then tu ρ B else B false) ⟨⟩:=rfl
theorem aW':Ls tt tu ρ B=tt ρ fun c=>bI c (f:=fun c=>if c=true then B true else tu ρ B) ⟨⟩:=rfl
theorem KQ:vw ρ B=B true:=rfl
-- expressions
theorem JQ:ai i ρ Q=bI ρ[i]? (f:=fun o=>Lq o Q) ⟨⟩:=rfl
theorem Hi:Lq (some (some (.sh d))) Q=Q .sh d:=rfl
theorem G3:Lq (some (some (.ow b d))) Q=Q .bo d:=rfl
theorem wC_:wC d ρ Q=Q .sh d:=rfl
theorem aY':aw f ta tb ρ Q=ta ρ fun m x=>tb ρ fun n y=>f m x n y Q:=rfl
theorem aZ':kr f ta ρ Q=ta ρ fun m x=>f m x Q:=rfl
theorem Hj:nM f g ta tb tc ρ Q=ta ρ fun m x=>tb ρ fun n y=>f m x n y fun _ z=>bI z (f:=fun z=>bol z fun k=>bI k (f:=fun k=>if k=true then tc ρ fun l w=>g n y l w Q else Q .sh (.bl false)) ⟨⟩) ⟨⟩:=by
 unfold nM bI bol
 rfl
theorem Jt:xP ta tb ρ Q=ta ρ fun _ x=>bI x (f:=fun x=>bol x fun c=>bI c (f:=fun c=>if c=true then tb ρ Q else Q .sh (.bl false)) ⟨⟩) ⟨⟩:=by unfold xP bI bol;rfl
theorem Js:wJ ta ρ Q=ta ρ fun _ x=>bI x (f:=fun x=>bol x fun c=>Q .sh (.bl (!c))) ⟨⟩:=by unfold wJ bI bol;rfl
theorem Jh:aj te tar ρ R=te ρ fun m x=>tar ρ fun ps=>R ((m,x) :: ps):=rfl
theorem Kq:b5 ρ R=R []:=rfl
theorem KC:nk tar ρ Q=tar ρ fun ps=>ps.length<=sizeLine/\Q (Ax ps) (.tup (ps.map (·.2))):=rfl
theorem JP:tF tar ρ Q=tar ρ fun ps=>ps.length<=sizeLine/\Q (Ay ps) (.list (ps.map (·.2))):=rfl
theorem JB:aV sp tar ρ Q=tar ρ fun ps=>sp (ps.map (·.2)) fun m d=>bI (m,d) (f:=fun p=>Q (vt p.1 p.2) p.2) ⟨⟩:=rfl
-- operators
section
variable {x y:Str}{a b:Int}{xs ys:List D}{kvs:List (Key × D)}{HK:List (List Key × D)}
theorem Gj:eM m (.int a) m' (.int b) Q=Q .sh (.int (a+b)):=rfl
theorem Gb:eM m (.str x) m' (.str y) Q=(x.length+y.length<=sizeLine/\Q .sh (.str (x++y))):=rfl
theorem Hr:eM m (.list xs) m' (.list ys) Q=(xs.length+ys.length<=sizeLine/\((cf xs=true/\cf ys=true/\Q (.ow true) (.list (xs++ys)))\/(m=.sh/\m'=.sh/\Q (.ow false) (.list (xs++ys))))):=rfl
theorem Gi:eM m (.tup xs) m' (.tup ys) Q=(xs≠[]/\xs.length+ys.length<=sizeLine/\cf xs=true/\cf ys=true/\Q .sh (.tup (xs++ys))):=rfl
theorem Gm:Lv m (.int a) m' (.int b) Q=Q .sh (.int (a-b)):=rfl
theorem G9:om m (.int a) m' (.int b) Q=(yA a b/\Q .sh (.int (a*b))):=rfl
theorem GX:A5 m (.int a) m' (.int b) Q=((0<b/\b<1073741824)/\Q .sh (.int (a / b))):=rfl
theorem FN:qA m (.int a) m' (.int b) Q=(0<b/\Q .sh (.int (a % b))):=rfl
theorem Hb:NW m (.int a) m' (.int b) Q=(FU a b/\Q .sh (.int (a ^ b.toNat))):=rfl
theorem Io:Lw m (.int a) m' (.int b) Q=Q .sh (.bl (decide (a<b))):=rfl
theorem Jm:Lw m (.str x) m' (.str y) Q=Q .sh (.bl (og x y)):=rfl
theorem IW:NX m (.int a) m' (.int b) Q=Q .sh (.bl (decide (a<=b))):=rfl
theorem Iw:NX m (.str x) m' (.str y) Q=Q .sh (.bl (!og y x)):=rfl
theorem Je:QV m (.int a) m' (.int b) Q=Q .sh (.bl (decide (b<a))):=rfl
theorem Hv:kH m (.int a) m' (.int b) Q=Q .sh (.bl (decide (a=b))):=rfl
theorem Iz:kH m (.str x) m' (.str y) Q=Q .sh (.bl (decide (x=y))):=rfl
theorem HH:kH m (.bl k) m' (.bl l) Q=Q .sh (.bl (decide (k=l))):=rfl
theorem Kf:kH m (.list xs) m' d Q=(b4 12 (.list xs)=true/\b4 12 d=true/\Q .sh (.bl (fT (.list xs) d))):=by cases d<;>rfl
theorem JT:kH m (.tup xs) m' d Q=(b4 12 (.tup xs)=true/\b4 12 d=true/\Q .sh (.bl (fT (.tup xs) d))):=by cases d<;>rfl
theorem JW:kH m .non m' d Q=(b4 12 .non=true/\b4 12 d=true/\Q .sh (.bl (fT .non d))):=by cases d<;>rfl
theorem Ik:A6 m (.int a) m' (.int b) Q=Q .sh (.bl (!decide (a=b))):=rfl
theorem Jy:A6 m (.str x) m' (.str y) Q=Q .sh (.bl (!decide (x=y))):=rfl
theorem JN:A6 m (.list xs) m' d Q=(b4 12 (.list xs)=true/\b4 12 d=true/\Q .sh (.bl (!fT (.list xs) d))):=by cases d<;>rfl
theorem JR:A6 m (.tup xs) m' d Q=(b4 12 (.tup xs)=true/\b4 12 d=true/\Q .sh (.bl (!fT (.tup xs) d))):=by cases d<;>rfl
theorem Kw:A6 m .non m' d Q=(b4 12 .non=true/\b4 12 d=true/\Q .sh (.bl (!fT .non d))):=by cases d<;>rfl
theorem J1:CB m (.int a) Q=Q .sh (.int (-a)):=rfl
theorem Kz:eT m (.list xs) m' (.int a) Q = ∃ d,eu xs a=some d/\bI d (f:=fun d=>Q (kG m d) d) ⟨⟩:=rfl
theorem Ka:eT m (.tup xs) m' (.int a) Q = ∃ d,eu xs a=some d/\bI d (f:=fun d=>Q (kG m d) d) ⟨⟩:=rfl
theorem J3:eT m (.str x) m' (.int a) Q = ∃ c,eu x.cps.toList a=some c/\Q .sh (.str ⟨#[c]⟩):=rfl
theorem Kl:eT m (.dK kvs) m' d Q = ∃ k d',d.key1=some k/\gS kvs k=some d'/\bI d' (f:=fun d'=>Q (kG m d') d') ⟨⟩:=rfl
theorem Km:eT m (.dT HK) m' (.tup ys) Q = ∃ ks d',gr ys=some ks/\gS HK ks=some d'/\bI d' (f:=fun d'=>Q (kG m d') d') ⟨⟩:=rfl
theorem Ja:A7 m (.str x) Q=Q .sh (.int x.length):=rfl
theorem Ir:A7 m (.list xs) Q=Q .sh (.int xs.length):=rfl
theorem HN:A7 m (.tup xs) Q=Q .sh (.int xs.length):=rfl
theorem Jb:A7 m (.dK kvs) Q=Q .sh (.int kvs.length):=rfl
theorem Il:A7 m (.dT HK) Q=Q .sh (.int HK.length):=rfl
theorem J_{T:String}:QZ T m d Q=Q .sh (.bl (GH d.ty T)):=rfl
theorem Hq:vZ m (.list xs) Q=((cf xs=true/\Q (.ow true) (.list xs))\/(m=.sh/\Q (.ow false) (.list xs))):=rfl
theorem GZ:vZ m (.tup xs) Q=((cf xs=true/\Q (.ow true) (.list xs))\/(m=.sh/\Q (.ow false) (.list xs))):=rfl
theorem Hu:vZ m (.dT HK) Q=Q (.ow true) (.list (HK.map fun kv=>.tup (kv.1.map tI))):=rfl
theorem ba':QY te tl th ρ Q=te ρ fun m x=>tl ρ fun lo=>th ρ fun hi=>Lx m x lo hi Q:=rfl
def int'(d:D)(k:Int->Prop):Prop:=match d with
 |.int i=>k i
 |_=>False
theorem Jx:int' (.int a) k=k a:=rfl
theorem Jk:tY te ρ O=te ρ fun _ x=>bI x (f:=fun x=>int' x fun i=>O (some i)) ⟨⟩:=by unfold tY bI int';rfl
theorem JX{lo hi:Option Int}:Lx m (.str x) lo hi Q=Q .sh (.str (wo x lo hi)):=rfl
theorem Ko{lo hi:Option Int}:Lx m (.list xs) lo hi Q=((cf xs=true/\Q (.ow true) (.list (nr xs lo hi)))\/(m=.sh/\Q (.ow false) (.list (nr xs lo hi)))):=rfl
theorem Ke{lo hi:Option Int}:Lx m (.tup xs) lo hi Q=(cf xs=true/\¬ (HT.bq xs.length 0 lo=0/\HT.bq xs.length xs.length hi=xs.length)/\Q .sh (.tup (nr xs lo hi))):=rfl
end
-- texts
def Q8(d:D)(k:Str->Prop):Prop:=match d with
 |.str x=>k x
 |_=>False
theorem Iu:Q8 (.str x) k=k x:=rfl
def tP(d:D)(k:List D->Prop):Prop:=match d with
 |.list x=>k x
 |_=>False
theorem Hm:tP (.list x) k=k x:=rfl
theorem FZ:iV LH te ρ Q=LH ρ fun _ x=>bI x (f:=fun x=>Q8 x fun z=>te ρ fun _ y=>bI y (f:=fun y=>tP y fun ys=>∃ zs,iy ys=some zs/\(zs.map (·.length)).sum+zs.length*z.length<=16777216/\Q .sh (.str (Str.join z zs))) ⟨⟩) ⟨⟩:=by unfold iV bI Q8 tP;rfl
-- places
theorem bb'{P:Bool->D->(Bool->D->Env)->Prop}:A9 i ρ P=bI ρ[i]? (f:=fun o=>match o with
 |some (some (.ow fl d))=>P fl d fun fl2 d2=>ρ.set i (some (.ow fl2 d2))
 |_=>False) ⟨⟩:=rfl
def Q9(o:Option Bool)(k:Bool->Prop):Prop:=match o with
 |some b=>k b
 |none=>False
theorem Fp:Q9 (some b) k=k b:=rfl
theorem Ku:EG p te E ρ=p ρ fun fl d up=>bI d (f:=fun d=>tP d fun xs=>te ρ fun m x=>xs.length<sizeLine/\bI (kh fl m x) (f:=fun o=>Q9 o fun fl2=>E.nx (up fl2 (.list (xs++[x])))) ⟨⟩) ⟨⟩:=by unfold EG bI tP Q9;rfl
theorem Ht:vg ρ Q=Q (.ow true) (.dT []):=rfl
def dct(d y:D)(k1:List (Key × D)->Prop)(k2:List (List Key × D)->List D->Prop):Prop:=match d with
 |.dK kvs=>k1 kvs
 |.dT kvs=>match y with
  |.tup ys=>k2 kvs ys
  |_=>False
 |_=>False
theorem J9:dct (.dK kvs) y k1 k2=k1 kvs:=rfl
theorem J5:dct (.dT kvs) (.tup ys) k1 k2=k2 kvs ys:=rfl
theorem Ie:tZ p tk tv E ρ=tv ρ fun _ x=>p ρ fun fl d up=>tk ρ fun _ y=>x.flat=true/\bI d (f:=fun d=>dct d y (fun kvs=>∃ k,y.key1=some k/\kvs.length<sizeLine/\E.nx (up fl (.dK (ki kvs k x)))) (fun kvs ys=>∃ ks,gr ys=some ks/\kvs.length<sizeLine/\E.nx (up fl (.dT (ki kvs ks x))))) ⟨⟩:=by
 unfold tZ bI dct
 rfl
-- loops
variable {LQ:List D->Prop}
theorem JS:tJ wi g b E ρ=wi ρ fun ds=>nH g b E ds ρ:=rfl
theorem Ga:gm te ρ LQ=te ρ fun m d=>nZ m/\bI d (f:=fun d=>tP d LQ) ⟨⟩:=by unfold gm bI tP;rfl
def Q_(d:D)(k:List D->Prop):Prop:=match d with
 |.tup x=>k x
 |_=>False
theorem JF:Q_ (.tup x) k=k x:=rfl
theorem GR:cC te ρ LQ=te ρ fun _ d=>bI d (f:=fun d=>int' d fun j=>j<=16777216/\-(2 ^ 62)<=j/\LQ (oH 0 j.toNat)) ⟨⟩:=by unfold cC bI int';rfl
theorem Fx:nZ .sh=True:=rfl
theorem Fq:nZ (.ow b)=True:=rfl
theorem Fv:nZ .bo=False:=rfl
theorem gN_:gN i d ρ N=N (ρ.set i (some (.sh d))):=rfl
theorem gT_:gT n gs d ρ N=bI d (f:=fun d=>Q_ d fun ds=>ds.length=n/\gs ds ρ N) ⟨⟩:=by unfold gT bI Q_;rfl
theorem HR:di g gs (d :: ds) ρ N=g d ρ fun bG=>gs ds bG N:=rfl
theorem Kr:nG [] ρ N=N ρ:=by simp[nG]
theorem Jz:gw wi g tt te tn ix ρ Q=wi ρ fun ds=>gq g tt te ds (zW tn ix ρ) fun out=>Q (.ow true) (.list out):=rfl
end
theorem B{c:Bool}{f:Bool->Prop}{k:Kt f}(h1:c=true->f true)(h2:c=false->f false):bI c k:=by
 cases c with
 |true=>exact h1 rfl
 |false=>exact h2 rfl
theorem D{p:Prop}[Decidable p]{f:Bool->Prop}{k:Kt f}(h1:p->f true)(h2:¬ p->f false):bI (decide p) k :=
 B (fun h=>h1 (of_decide_eq_true h)) fun h=>h2 (of_decide_eq_false h)
theorem T{c:Bool}{f:Bool->Prop}{k:Kt f}(h:c=true)(h1:f true):bI c k:=by subst h;exact h1
theorem F{c:Bool}{f:Bool->Prop}{k:Kt f}(h:c=false)(h1:f false):bI c k:=by subst h;exact h1
end L2.Q.R
namespace L2
open PySem PySem.Spec PyProof.Rows
end L2
namespace L2.Q
open PySem PySem.Spec PyProof.Rows
section
variable {p:Pos}
def HQ:W1:=fun _ x Q=>match x with
 |.list xs=>∃ ks b,xs=ks.map tI/\(∀ k∈ks,y9 k=b)/\∀ ms:List Key,ms.Perm ks->(ms.Pairwise fun a b=>tj b a=false)->Q (.ow true) (.list (ms.map tI))
 |.dK kvs=>∃ b,(∀ p∈kvs,y9 p.1=b)/\∀ ms:List Key,ms.Perm (kvs.map (·.1))->(ms.Pairwise fun a b=>tj b a=false)->Q (.ow true) (.list (ms.map tI))
 |_=>False
end
abbrev WIL:=Env->(List D->Prop)->Prop
section
variable {X:Cx}{K:PySem.W.Frag}
theorem eX(hN:X.N.Nodup)(tf:X.N[i]? = some x)(hx:Loc X.env.scope x)(hc:X.calm=true)
  (hi:N0 X K tg iter wi) (O:bV X scope tn cn ix)
  (hg:∀ C fp fz gp,QG (aU X scope C (tn++cn) fp fz gp) K tg g) (n5:∀ C fp fz gp,Q6 (aU X scope C (tn++cn) fp fz gp) K ifs tc) (he:∀ C fp fz gp,QE (aU X scope C (tn++cn) fp fz gp) K elt te)
  (K8:swapsWith (.ListComp elt [⟨tg,iter,ifs,0⟩] scope pos) (some (.Name x pos')) Qe.line X.env=pure true:=by rfl)
  (hs:∀ x,foldedSetIterable iter X.env x=pure x:=by intro _;rfl) (hf:X.fn x=true\/X.env.scope.names.lookup x=some .local:=by first|exact .inl rfl|exact .inr rfl|assumption) :
  QS X K L (.Assign [.Name x pos'] (.ListComp elt [⟨tg,iter,ifs,0⟩] scope pos) Qe) (dE i (gw wi g tc te tn.length ix)) :=
 PS.imp (q_ hN tf hx hc hi O hg n5 he K8 hs hf) fun D σ H hx=>gf hx fun Hs ρ ag E sr h k1 k2 k3 k4=>by
  refine mW ⟨Hs,ρ,ag,_,sr,h,fun v H1 aS m d As g1 r1 f1 q1=>?_⟩
  have q1:match asg m d with
   |some sl=>E.nx (ρ.set i (some sl))
   |none=>False:=q1
  cases e:asg m d with
  |none=>rw[e] at q1;exact q1.elim
  |some sl =>
   rw[e] at q1
   obtain⟨bS,s'⟩:=(sr.grow g1).set i r1 f1.1 (fun a ha=>⟨(f1.2 a ha).1,fun m=>(sr.sr.own a m).ne (f1.2 a ha).2⟩) e
   exact k1 _ H1 aS _ bS g1.sh s' q1
end
end L2.Q
namespace L2.Q.R
open PySem PySem.Spec PyProof.Rows L2.Q
section
variable {ρ:Env}{Q:Md->L2.Q.D->Prop}{te:WE}{i:Nat}{d:L2.Q.D}{p:WP}{a:Addr}{b:Bool}{LQ:List L2.Q.D->Prop}
theorem Ib{f:Option Sl->Prop}{k:Kt f}:bI (some (.lk a b d)) k=f (some (.lk a b d)):=rfl
theorem Ig{f:Option (Option Sl)->Prop}{k:Kt f}:bI (some (some (.lk a b d))) k=f (some (some (.lk a b d))):=rfl
theorem G_:Lq (some (some (.lk a b d))) Q=Q .bo d:=rfl
def be'(o:Option (Option Sl))(k:Bool->L2.Q.D->Prop):Prop:=match o with
 |some (some (.ow fl d))=>k fl d
 |_=>False
theorem Gx:be' (some (some (.ow b d))) k=k b d:=rfl
theorem Hn:nQ te ρ LQ=te ρ fun _ d=>bI d (f:=fun d=>tP d LQ) ⟨⟩:=by unfold nQ bI tP;rfl
def wpAt(d:L2.Q.D)(i:Int)(P:Bool->L2.Q.D->(Bool->L2.Q.D->Env)->Prop)(up:Bool->L2.Q.D->Env):Prop:=match d with
 |.list ds=>∃ j d',kB ds.length i=some j/\ds[j]? = some d'/\d'.flat=false/\bI d' (f:=fun d'=>P true d' fun fl2 d2=>up fl2 (.list (ds.set j d2))) ⟨⟩
 |.tup ds=>∃ j d',kB ds.length i=some j/\ds[j]? = some d'/\d'.flat=false/\bI d' (f:=fun d'=>P true d' fun fl2 d2=>up fl2 (.tup (ds.set j d2))) ⟨⟩
 |_=>False
section
variable {P:Bool->L2.Q.D->(Bool->L2.Q.D->Env)->Prop}{up:Bool->L2.Q.D->Env}{ds:List L2.Q.D}{j:Int}
theorem HB:wpAt (.list ds) j P up = ∃ k d',kB ds.length j=some k/\ds[k]? = some d'/\d'.flat=false/\bI d' (f:=fun d'=>P true d' fun fl2 d2=>up fl2 (.list (ds.set k d2))) ⟨⟩:=rfl
theorem Ih:wpAt (.tup ds) j P up = ∃ k d',kB ds.length j=some k/\ds[k]? = some d'/\d'.flat=false/\bI d' (f:=fun d'=>P true d' fun fl2 d2=>up fl2 (.tup (ds.set k d2))) ⟨⟩:=rfl
theorem Kc:N7 p te ρ P=p ρ fun fl d up=>te ρ fun _ y=>fl=true/\bI y (f:=fun y=>int' y fun i=>bI d (f:=fun d=>wpAt d i P up) ⟨⟩) ⟨⟩:=by
 unfold N7 bI int' wpAt
 rfl
end
end
end L2.Q.R
namespace L2
open PySem PySem.Spec PyProof.Rows Builtin Builtin.Str Builtin.Int
end L2
namespace L2
open PySem PySem.Spec PyProof.Rows
end L2
namespace L2.Q
open PySem PySem.Spec PyProof.Rows
section
variable {X:Cx}{K:PySem.W.Frag}{e a b:Expr}{ta tb:WE}{p pos:Pos}{x:Str}{id:String}
theorem Dg:bootBuiltins "min" = some (.builtin "min"):=by decide +kernel
def zK:R2:=fun x y H Q=>match x,y with
 |.int i,.int j=>Q (.int (if j<i then j else i)) H
 |_,_=>False
def BJ:W2:=fun _ x _ y Q=>match x,y with
 |.int i,.int j=>Q .sh (.int (if j<i then j else i))
 |_,_=>False
theorem zA:hU K zK BJ:=by
 intro Hs H m x v As n y u Bs Qd Qv w rx ry h f
 have r1:=rx.rep w
 have r2:=ry.rep w
 cases r1 with
 |int i=>cases r2 with
  |int j=>exact f.sh w (.int _) h
  |_=>exact h.elim
 |_=>cases r2<;>exact h.elim
theorem A_(hc:iO X (.builtin id) fun xs H Q=>∃ x y,xs=[x,y]/\r x y H Q)(br:hU K r f)(hg:Gl X x)(hm:X.mg x=none)(hv:bootBuiltins x=some (.builtin id))(ha:QE X K a ta)(hb:QE X K b tb)
  (hs:starEach [a,b] X.env=(false,eval a X.env) :: starEach [b] X.env:=by rfl) (vn:starEach [b] X.env=(false,eval b X.env) :: starEach [] X.env:=by rfl) (hn:x ≠ "__name__" := by decide) (ip:(x == ("__debug__" : Str))=false:=by decide)
  (fq:(backTo pos (starEach [b] X.env)).any (·.1)=false:=by rfl):QE X K (.Call (.Name x p) [a,b] [] pos) (aw f ta tb):=by
 refine PE.imp (K0 hc hg hm hv (nc ha (nc hb rz vn) hs) hn ip hs fq) fun σ H Qv h=>?_
 obtain⟨Hs,ρ,ag,Q,sr,h,fin⟩:=jo br σ H Qv h
 exact⟨Hs,ρ,ag,Q,sr,h,fun v H1 aS m x As g1 r1 f1 q1=>by
  obtain⟨aC,eI,da,Q2,iL,h2,fin2⟩:=fin v H1 aS m x As g1 r1 f1 q1
  exact⟨aC,eI,da,Q2,iL,h2,fun u H2 fR n y Bs g2 r2 f2 q2=>⟨v,u,rfl,fin2 u H2 fR n y Bs g2 r2 f2 q2⟩⟩⟩
theorem Er (hc:X.calm=true:=by rfl):iO X (.builtin "min") fun xs H Q=>∃ x y,xs=[x,y]/\zK x y H Q:=fun pins s σ H xs us Q I r df=>by
 obtain⟨x,y,e,q⟩:=df
 subst e
 unfold zK at q
 split at q
 ·exact Yi hc pins s σ H _ us Q I r ⟨_,_,rfl,q⟩
 ·exact q.elim
end
end L2.Q
namespace L2.Q.R
open PySem PySem.Spec PyProof.Rows L2.Q
section
variable {Q:Md->L2.Q.D->Prop}{m m':Md}{a b:Int}
theorem HX:BJ m (.int a) m' (.int b) Q=Q .sh (.int (if b<a then b else a)):=rfl
end
end L2.Q.R
namespace L2.Q
open PySem PySem.Spec PyProof.Rows
theorem bQ(O:Nat->List D->Prop)(Iv:Env->Prop):∀ (xs:List D) (i:Nat) (pre:List D) (ρ:Env) (k:List D->Prop),Iv ρ->O i pre ->
  (∀ j x,xs[j]? = some x->∀ ρ,Iv ρ->∀ out,O (i+j) out->∀ N1:Env->Prop,∀ N2:Env->D->Prop,(∀ bG d,Iv bG->O (i+j+1) (out++[d])->N2 bG d)->g x ρ fun nv=>tc nv fun b=>if b=true then te nv fun m d=>N4 m d/\N2 nv d else N1 nv) ->
  (∀ out,O (i+xs.length) (pre++out)->k out)->gq g tc te xs ρ k
 |[],i,pre,_,k,_,h0,_,h=>h [] (by simpa using h0)
 |x :: xs,i,pre,ρ,k,iv,h0,hs,h=>by
  refine hs 0 x rfl ρ iv pre h0 _ _ (fun bG d LD o'=>?_)
  refine bQ O Iv xs (i+1) (pre++[d]) bG _ LD o' (fun j y hy ρ iv out ho=>?_) fun out ho=>?_
  ·have:=hs (j+1) y (by simpa using hy) ρ iv out (by rwa[show i+(j+1)=i+1+j by lia])
   rwa[show i+(j+1)+1=i+1+j+1 by lia] at this
  ·refine h (d :: out) ?_
   rw[vF] at ho
   rwa[qc,show i+(xs.length+1)=i+1+xs.length by lia]
end L2.Q
namespace TS
open PySem PySem.SetTable
def fk:Nat->Nat->Nat
 |0,s=>s
 |k+1,s=>5*fk k s+1
theorem DX(a b s:Nat):fk (a+b) s=fk b (fk a s):=by
 induction b with
 |zero=>rfl
 |succ b ih=>show 5*fk (a+b) s+1=5*fk b (fk a s)+1;rw[ih]
theorem uz(n s:Nat):4*fk n s+1=5 ^ n*(4*s+1):=by
 induction n with
 |zero=>simp[fk]
 |succ n ih =>
  show 4*(5*fk n s+1)+1=5 ^ (n+1)*(4*s+1)
  rw[x6,MG (5 ^ n) 5,Fn,<- ih];lia
theorem wN(m:Nat):∃ q,5 ^ 2 ^ m=1+2 ^ (m+2)*q/\q % 2=1:=by
 induction m with
 |zero=>exact⟨1,by decide,by decide⟩
 |succ m ih =>
  obtain⟨q,e,o⟩:=ih
  refine⟨q+2 ^ (m+1)*(q*q),?_,?_⟩
  ·have hp:5 ^ 2 ^ (m+1)=(5 ^ 2 ^ m) ^ 2:=by rw[x6 2 m,Nat.pow_mul]
   rw[hp,e]
   clear e hp
   have e1:2 ^ (m+1+2)=2*2 ^ (m+2):=by rw[show m+1+2=(m+2)+1 by exact Nat.add_assoc ..,x6];lia
   have e2:2 ^ (m+2)=2*2 ^ (m+1):=by rw[show m+2=(m+1)+1 by rfl,x6];lia
   rw[e1,e2]
   generalize 2 ^ (m+1)=y
   rw[Nat.pow_two]
   simp only[Nat.mul_add,Nat.add_mul,Nat.one_mul,Nat.mul_one]
   have a1:2*y*q*(2*y*q)=2*(2*y)*(y*(q*q)):=by
    simp only[Fn,Nat.mul_left_comm,MG]
   have a2:2*(2*y)*q=2*y*q+2*y*q:=by
    rw[Fn 2 (2*y) q];lia
   rw[a1,a2];lia
  ·have:2 ^ (m+1)*(q*q) % 2=0:=by
    rw[x6,MG (2 ^ m) 2,Fn,Nat.mul_mod_right]
   lia
theorem Bq(m x:Nat):∃ r,fk (2 ^ m) x=x+2 ^ m*r/\r % 2=1:=by
 obtain⟨q,e,o⟩:=wN m
 have c:=uz (2 ^ m) x
 rw[e] at c
 refine⟨q*(4*x+1),?_,?_⟩
 ·have e2:2 ^ (m+2)=4*2 ^ m:=by rw[Nat.pow_add];lia
  rw[e2,Nat.add_mul,Nat.one_mul,Fn,Fn] at c
  lia
 ·rw[Nat.mul_mod,o,Nat.one_mul];lia
theorem Dm(m s e:Nat):∃ k,k+1<=2 ^ m/\fk k s % 2 ^ m=e % 2 ^ m:=by
 induction m with
 |zero=>exact⟨0,by decide,by simp[Nat.mod_one]⟩
 |succ m ih =>
  obtain⟨k,hk,h⟩:=ih
  have hp:2 ^ (m+1)=2 ^ m*2:=x6 ..
  have Vt:0<2 ^ m:=Nat.pow_pos (by decide)
  have key:∀ a:Nat,a % (2 ^ m*2)=a % 2 ^ m+2 ^ m*(a / 2 ^ m % 2):=fun a=>Nat.mod_mul
  by_cases c:fk k s / 2 ^ m % 2=e / 2 ^ m % 2
  ·exact⟨k,by walk_at "s4",by rw[hp,key,key,h,c]⟩
  ·refine⟨k+2 ^ m,by lia,?_⟩
   obtain⟨r,er,ro⟩:=Bq m (fk k s)
   rw[DX,er,hp,key,key,Nat.add_mul_mod_self_left,h,Nat.add_mul_div_left _ _ Vt]
   have:(fk k s / 2 ^ m+r) % 2=e / 2 ^ m % 2:=by lia
   rw[this]
def pe(M:Nat)(p:Probe):Probe :=
 if p.more>0 then { p with j:=p.j+1,more:=p.more-1 } else
 { p with j:=(leap M p.i p.perturb).1,more:=runEnd M (leap M p.i p.perturb).1-(leap M p.i p.perturb).1,i:=(leap M p.i p.perturb).1,perturb:=(leap M p.i p.perturb).2 }
def ps(M:Nat)(h:Int):Nat->Probe
 |0=>{ j:=bits h % (M+1),more:=runEnd M (bits h % (M+1))-bits h % (M+1),i:=bits h % (M+1),perturb:=bits h,dummy:=none }
 |n+1=>pe M (ps M h n)
def J(M:Nat)(h:Int)(n:Nat):Nat:=(ps M h n).j
theorem qj(h:i<=M):i<=runEnd M i/\runEnd M i<=M/\runEnd M i<=i+9:=by
 unfold runEnd;split<;>lia
theorem BV(M:Nat)(h:Int):∀ n,(ps M h n).i<=M/\(ps M h n).j+(ps M h n).more<=M/\(ps M h n).dummy=none/\(ps M h n).more<=9
 |0=>by
  have h0:bits h % (M+1)<=M:=MB (FC _ (MJ _))
  have:=qj h0
  exact⟨h0,by show bits h % (M+1)+(runEnd M (bits h % (M+1))-bits h % (M+1))<=M;lia,rfl,by show runEnd M (bits h % (M+1))-bits h % (M+1)<=9;lia⟩
 |n+1=>by
  obtain⟨a,b,c,d⟩:=BV M h n
  show(pe M (ps M h n)).i<=M/\_/\(pe M (ps M h n)).dummy=none/\_
  unfold pe
  by_cases hm:(ps M h n).more>0
  ·simp only[hm,if_true]
   show _/\(pe M (ps M h n)).j+(pe M (ps M h n)).more<=M/\_/\(pe M (ps M h n)).more<=9
   simp only[pe,hm,if_true]
   exact⟨a,by lia,c,by walk_at "s4"⟩
  ·simp only[hm,if_false]
   show _/\(pe M (ps M h n)).j+(pe M (ps M h n)).more<=M/\_/\(pe M (ps M h n)).more<=9
   simp only[pe,hm,if_false]
   have h0:(leap M (ps M h n).i (ps M h n).perturb).1<=M:=MB (FC _ (MJ _))
   have:=qj h0
   exact⟨h0,by lia,c,by lia⟩
theorem Ra(M:Nat)(h:Int)(n:Nat):J M h n<=M:=by
 have:=BV M h n
 unfold J;lia
theorem vG(M:Nat)(h:Int)(n:Nat):∀ r,r<=(ps M h n).more->ps M h (n+r)={ ps M h n with j:=(ps M h n).j+r,more:=(ps M h n).more-r }
 |0,_=>rfl
 |r+1,hr=>by
  show pe M (ps M h (n+r))=_
  rw[vG M h n r (by exact kc ‹_›)]
  unfold pe
  rw[if_pos (show(ps M h n).more-r>0 by lia)]
  simp only[Probe.mk.injEq,true_and,and_true]
  walk_at "s1"
def lp(M:Nat)(h:Int):Nat->Nat × Nat
 |0=>(bits h % (M+1),bits h)
 |k+1=>leap M (lp M h k).1 (lp M h k).2
def iN(M:Nat)(h:Int):Nat->Nat
 |0=>0
 |k+1=>iN M h k+(runEnd M (lp M h k).1-(lp M h k).1)+1
theorem Ar(M:Nat)(h:Int):∀ k,(lp M h k).1<=M
 |0=>MB (FC _ (MJ _))
 |k+1=>MB (FC _ (MJ _))
theorem uL(M:Nat)(h:Int):∀ k,iN M h k<=10*k
 |0=>bX _
 |k+1=>by
  have:=uL M h k
  have:=qj (Ar M h k)
  show iN M h k+_+1<=_;lia
theorem qZ(M:Nat)(h:Int):∀ k,ps M h (iN M h k)={ j:=(lp M h k).1,more:=runEnd M (lp M h k).1-(lp M h k).1,i:=(lp M h k).1,perturb:=(lp M h k).2,dummy:=none }
 |0=>rfl
 |k+1=>by
  have ih:=qZ M h k
  have e:=vG M h (iN M h k) (runEnd M (lp M h k).1-(lp M h k).1) (by rw[ih];exact bX _)
  show pe M (ps M h (iN M h k+(runEnd M (lp M h k).1-(lp M h k).1)))=_
  rw[e,ih]
  unfold pe
  rw[if_neg (by simp)]
  rfl
theorem zq(M:Nat)(h:Int):∀ k,(lp M h k).2=bits h / 32 ^ k
 |0=>by simp[lp]
 |k+1=>by
  show(lp M h k).2 / 32=_
  rw[zq M h k,Nat.div_div_eq_div_mul,x6]
theorem Ad(h:Int):bits h<2 ^ 64:=by
 unfold bits
 have h1:=MS h (show(2 ^ 64:Int)≠0 by decide)
 have h2:=O8 h (show(0:Int)<2 ^ 64 by decide)
 lia
theorem sY(M:Nat)(h:Int):∀ k,(lp M h (13+k)).1 % (M+1)=fk k (lp M h 13).1 % (M+1)
 |0=>rfl
 |k+1=>by
  have e:(lp M h (13+k)).2=0:=by
   rw[zq]
   refine Nat.div_eq_of_lt (kA (Ad h) ?_)
   exact hG (by decide:2 ^ 64<=32 ^ 13) (Nat.pow_le_pow_right (by decide) (by exact O1 _ _))
  show(leap M (lp M h (13+k)).1 (lp M h (13+k)).2).1 % (M+1)=_
  unfold leap
  rw[e]
  show((lp M h (13+k)).1*5+1+0 / 32) % (M+1) % (M+1)=(5*fk k (lp M h 13).1+1) % (M+1)
  rw[Nat.mod_mod,Nat.zero_div,Fs,Nat.add_mod,Nat.mul_mod,sY M h k,<- Nat.mul_mod,<- Nat.add_mod,MG]
theorem cover(hM:M+1=2 ^ m)(h:Int)(he:e<=M):∃ k,k<=M+13/\(lp M h k).1=e:=by
 obtain⟨k,hk,q⟩:=Dm m (lp M h 13).1 e
 rw[<- hM] at hk q
 refine⟨13+k,by lia,?_⟩
 have:=sY M h k
 rw[q] at this
 rwa[Nat.mod_eq_of_lt (Fm (Ar M h _)),Nat.mod_eq_of_lt (Fm he)] at this
theorem Em(M:Nat)(h:Int)(k:Nat):J M h (iN M h k)=(lp M h k).1:=by unfold J;rw[qZ]
theorem rO(hM:M+1=2 ^ m)(h:Int)(g7:Nat->Bool)(he:e<=M)(hf:g7 e=false):∃ n,n<=10*(M+13)/\g7 (J M h n)=false/\∀ k<n,g7 (J M h k)=true:=by
 obtain⟨k,hk,q⟩:=cover hM h he
 have hb:=uL M h k
 have hB:g7 (J M h (iN M h k))=false:=by rw[Em,q];exact hf
 generalize iN M h k=b at hb hB
 have go:∀ b,g7 (J M h b)=false->∃ n,n<=b/\g7 (J M h n)=false/\∀ k<n,g7 (J M h k)=true:=by
  intro b
  induction b using Nat.strongRecOn with
  |ind b ih =>
   intro hB
   by_cases c:∃ k,k<b/\g7 (J M h k)=false
   ·obtain⟨k,h1,h2⟩:=c
    obtain⟨n,a1,a2,a3⟩:=ih k h1 h2
    exact⟨n,by lia,a2,a3⟩
   ·refine⟨b,bX _,hB,fun k hk=>?_⟩
    cases z:g7 (J M h k) with
    |true=>rfl
    |false=>exact absurd ⟨k,hk,z⟩ c
 obtain⟨n,a1,a2,a3⟩:=go b hB
 exact⟨n,by lia,a2,a3⟩
def Up(xs:Array Nat):Prop:=∀ i j:Nat,i<j->j<xs.size->xs.getD i 0<xs.getD j 0
theorem qw{xs:Array Nat}{i d d':Nat}(h:i<xs.size):xs.getD i d=xs.getD i d':=by simp[Array.getD,h]
theorem lZ{xs:Array Nat}(U:Up xs)(j:Nat):∀ (fuel lo hi:Nat),hi-lo<=fuel->lo<=hi->hi<=xs.size->(∀ i<lo,xs.getD i 0<j)->(∀ i,hi<=i->i<xs.size->j<=xs.getD i 0) ->
  below.go xs j fuel lo hi<=xs.size/\(∀ i<below.go xs j fuel lo hi,xs.getD i 0<j)/\(∀ i,below.go xs j fuel lo hi<=i->i<xs.size->j<=xs.getD i 0)
 |0,lo,hi,hf,h1,h2,h3,h4=>by
  obtain rfl:lo=hi:=by lia
  exact⟨h2,h3,h4⟩
 |fuel+1,lo,hi,hf,h1,h2,h3,h4=>by
  unfold below.go
  by_cases c:lo<hi
  ·rw[if_pos c]
   dsimp only
   have hm:(lo+hi) / 2<xs.size:=by lia
   by_cases d:xs.getD ((lo+hi) / 2) j<j
   ·rw[if_pos d]
    rw[qw (d':=0) hm] at d
    refine lZ U j fuel _ _ (by lia) (by lia) h2 (fun i iA=>?_) h4
    by_cases e:i=(lo+hi) / 2
    ·rw[e];exact d
    ·exact O3 (U i _ (by lia) hm) d
   ·rw[if_neg d]
    rw[qw (d':=0) hm] at d
    refine lZ U j fuel _ _ (by lia) (by lia) (by exact kc ‹_›) h3 fun i iA hs=>?_
    by_cases e:i=(lo+hi) / 2
    ·rw[e];exact IZ ‹_›
    ·have:=U ((lo+hi) / 2) i (by lia) hs;lia
  ·rw[if_neg c]
   obtain rfl:lo=hi:=by lia
   exact⟨h2,h3,h4⟩
theorem bf(U:Up xs)(j:Nat):below xs j<=xs.size/\(∀ i<below xs j,xs.getD i 0<j)/\(∀ i,below xs j<=i->i<xs.size->j<=xs.getD i 0) :=
 lZ U j xs.size 0 xs.size (by lia) (by lia) (bX _) (fun i h=>absurd h (xS i)) fun i h1 h2=>by lia
theorem below_at(U:Up xs)(h:i<xs.size):below xs (xs.getD i 0)=i:=by
 obtain⟨a,b,c⟩:=bf U (xs.getD i 0)
 by_cases h1:below xs (xs.getD i 0)<i
 ·have:=c _ (bX _) (by lia)
  have:=U _ i h1 h
  lia
 ·by_cases h2:i<below xs (xs.getD i 0)
  ·have:=b i h2;lia
  ·lia
theorem sU(U:Up xs)(h:i<xs.size):below xs (xs.getD i 0+1)=i+1:=by
 obtain⟨a,b,c⟩:=bf U (xs.getD i 0+1)
 by_cases h1:below xs (xs.getD i 0+1)<i+1
 ·have:=c i (by lia) h;lia
 ·by_cases h2:i+1<below xs (xs.getD i 0+1)
  ·have:=b (i+1) h2
   have:=U i (i+1) (by lia) (by lia);lia
  ·lia
def taken(xs:Array Nat)(j:Nat):Bool:=xs[below xs j]? == some j
theorem uG{xs:Array Nat}{i j:Nat}(h:xs[i]? = some j):i<xs.size/\xs.getD i 0=j:=by
 obtain⟨h1,h2⟩:=FD.mp h
 exact⟨h1,by simp[Array.getD,h1,h2]⟩
theorem uh{xs:Array Nat}{i:Nat}(h:i<xs.size):xs[i]? = some (xs.getD i 0):=by simp[Array.getD,h]
theorem dZ{xs:Array Nat}(U:Up xs){j:Nat}:taken xs j=true↔∃ i,i<xs.size/\xs.getD i 0=j:=by
 unfold taken
 rw[beq_iff_eq]
 constructor
 ·intro h;exact⟨_,uG h⟩
 ·rintro⟨i,h,rfl⟩
  rw[below_at U h]
  exact uh h
theorem iH{xs:Array Nat}(U:Up xs){j:Nat}(h:taken xs j=true):below xs j<xs.size/\xs.getD (below xs j) 0=j:=by
 unfold taken at h
 rw[beq_iff_eq] at h
 exact uG h
theorem cD(xs:Array α)(x:α)(h:p<=xs.size):(insertAt xs p x).size=xs.size+1:=by
 unfold insertAt
 simp
 lia
theorem Nf(xs:Array α)(x:α)(h:p<=xs.size)(i:Nat):(insertAt xs p x)[i]? = if i<p then xs[i]? else if i=p then some x else xs[i-1]? := by
 unfold insertAt
 have hs:((xs.extract 0 p).push x).size=p+1:=by simp;lia
 by_cases h1:i<p
 ·rw[if_pos h1,Array.getElem?_append_left (by lia),Array.getElem?_push,if_neg (by simp;lia),MP]
  rw[if_pos (by lia)];simp
 ·rw[if_neg h1]
  by_cases h2:i=p
  ·rw[if_pos h2,Array.getElem?_append_left (by lia),Array.getElem?_push,if_pos (by simp;lia)]
  ·rw[if_neg h2,Array.getElem?_append_right (by lia),hs,MP]
   by_cases h3:i-(p+1)<min xs.size xs.size-p
   ·rw[if_pos h3]
    congr 1;lia
   ·rw[if_neg h3,BO (by lia)]
theorem cQ(h:p<=xs.size)(i:Nat):(insertAt xs p x).getD i 0=if i<p then xs.getD i 0 else if i=p then x else xs.getD (i-1) 0:=by
 have e:∀ (ys:Array Nat) (k:Nat),ys.getD k 0=ys[k]?.getD 0:=fun ys k=>by
  simp[BM]
 rw[e,Nf xs x h]
 split
 ·rw[e]
 ·split
  ·rfl
  ·rw[e]
theorem yN(U:Up xs)(hj:taken xs j=false):Up (insertAt xs (below xs j) j):=by
 obtain⟨a,b,c⟩:=bf U j
 have ne:∀ i,i<xs.size->xs.getD i 0≠j:=fun i hi e=>by
  have:=(dZ U (j:=j)).mpr ⟨i,hi,e⟩
  rw[hj] at this;cases this
 intro i k hik hk
 rw[cD xs j a] at hk
 rw[cQ a,cQ a]
 by_cases h1:k<below xs j
 ·rw[if_pos (by lia),if_pos h1];exact U i k hik (by lia)
 ·rw[if_neg h1]
  by_cases h2:k=below xs j
  ·rw[if_pos h2,if_pos (by lia)];exact b i (by lia)
  ·rw[if_neg h2]
   by_cases h3:i<below xs j
   ·rw[if_pos h3];exact U i (k-1) (by lia) (by lia)
   ·rw[if_neg h3]
    by_cases h4:i=below xs j
    ·rw[if_pos h4]
     have:=c (k-1) (by lia) (by lia)
     have:=ne (k-1) (by lia)
     lia
    ·rw[if_neg h4];exact U (i-1) (k-1) (by lia) (by lia)
theorem vW(U:Up xs)(hj:taken xs j=false):taken (insertAt xs (below xs j) j) k=(decide (k=j) || taken xs k):=by
 have a:=(bf U j).1
 have U':=yN U hj
 apply BI.mpr
 rw[dZ U',Bool.or_eq_true,decide_eq_true_eq,dZ U]
 rw[cD xs j a]
 constructor
 ·rintro⟨i,hi,e⟩
  rw[cQ a] at e
  by_cases h1:i<below xs j
  ·rw[if_pos h1] at e;exact .inr ⟨i,by lia,e⟩
  ·rw[if_neg h1] at e
   by_cases h2:i=below xs j
   ·rw[if_pos h2] at e;exact .inl e.symm
   ·rw[if_neg h2] at e;exact .inr ⟨i-1,by lia,e⟩
 ·rintro(rfl|⟨i,hi,e⟩)
  ·exact⟨below xs k,by lia,by rw[cQ a,if_neg (by lia),if_pos rfl]⟩
  ·by_cases h1:i<below xs j
   ·exact⟨i,by lia,by rw[cQ a,if_pos h1];exact e⟩
   ·exact⟨i+1,by lia,by rw[cQ a,if_neg (by lia),if_neg (by lia)];exact e⟩
def Reach(M:Nat)(place:Array Nat)(h:Int)(j:Nat):Prop:=∃ n,n<=10*(M+13)/\J M h n=j/\∀ k<n,taken place (J M h k)=true
structure TI{α:Type}(t:SetTable)(es:Array (Int × α)):Prop where
 pw:∃ m,t.mask+1=2 ^ m/\3<=m
 sz:t.place.size=es.size
 up:Up t.place
 le:∀ i,i<t.place.size->t.place.getD i 0<=t.mask
 dm:t.dummies = #[]
 few:es.size*5<t.mask*3
 path:∀ i h x,es[i]? = some (h,x)->Reach t.mask t.place h (t.place.getD i 0)
section
variable {α:Type}{t:SetTable}{es:Array (Int × α)}
theorem TI.slot(T:TI t es)(j:Nat):t.slot j=if taken t.place j then .live (below t.place j) else .empty:=by
 unfold SetTable.slot taken
 dsimp only
 split
 ·rfl
 ·have:has t.dummies j=false:=by rw[T.dm];rfl
  rw[this];rfl
theorem TI.fits(T:TI t es):t.fits es.size=true:=by
 have:=T.few
 simp only[SetTable.fits,fill,T.dm,T.sz,kQ,beq_iff_eq,decide_eq_true_eq,true_and]
 simp;lia
theorem TI.odd(T:TI t es):t.gaveWay=false:=by
 obtain⟨m,h,h3⟩:=T.pw
 unfold SetTable.gaveWay
 rw[beq_eq_false_iff_ne]
 have:2 ^ m=2*2 ^ (m-1):=by
  rw[show m=(m-1)+1 by lia,x6];simp;lia
 lia
theorem TI.free(T:TI t es):∃ e,e<=t.mask/\taken t.place e=false:=by
 have hf:=T.few
 have hs:=T.sz
 by_cases c:∃ e,e<=t.mask/\taken t.place e=false
 ·exact c
 ·exfalso
  have all:∀ e,e<=t.mask->taken t.place e=true:=fun e he=>by
   cases z:taken t.place e with
   |true=>rfl
   |false=>exact absurd ⟨e,he,z⟩ c
  -- slot e stands at place at most e
  have go:∀ e,e<=t.mask->e<=below t.place e:=by
   intro e
   induction e with
   |zero=>intro _;exact dQ _
   |succ e ih =>
    intro he
    have h1:=iH T.up (all e (by exact kc ‹_›))
    have h2:=iH T.up (all (e+1) he)
    have:=ih (by exact kc ‹_›)
    obtain⟨_,b,c⟩:=bf T.up (e+1)
    by_cases z:below t.place e<below t.place (e+1)
    ·walk_at "s1"
    ·have:=c (below t.place e) (by exact IZ ‹_›) h1.1
     lia
  have:=go t.mask (bX _)
  have:=(iH T.up (all t.mask (bX _))).1
  lia
theorem TI.put(T:TI t es)(hj:j<=t.mask)(hn:taken t.place j=false)(hr:Reach t.mask t.place h j)(ht:t'.mask=t.mask)(hp:t'.place=insertAt t.place (below t.place j) j)(hd:t'.dummies = #[])
  (hf:(es.size+1)*5<t.mask*3):TI t' (insertAt es (below t.place j) (h,x)):=by
 have a:=(bf T.up j).1
 have a':below t.place j<=es.size:=by rw[<- T.sz];exact a
 refine⟨by rw[ht];exact T.pw,by rw[hp,cD _ _ a,cD _ _ a',T.sz],by rw[hp];exact yN T.up hn,fun i hi=>?_,hd,by rw[cD _ _ a',ht];exact hf,fun i g y e=>?_⟩
 ·rw[hp,cD _ _ a] at hi
  rw[hp,cQ a,ht]
  split
  ·exact T.le i (by lia)
  ·split
   ·exact hj
   ·exact T.le (i-1) (by lia)
 ·have mono:∀ {g:Int} {k:Nat},Reach t.mask t.place g k->Reach t'.mask t'.place g k:=fun {g k} ⟨n,h1,h2,h3⟩=>⟨n,by rw[ht];exact h1,by rw[ht];exact h2,fun q hq=>by
   rw[hp,ht,vW T.up hn,h3 q hq,Bool.or_true]⟩
  rw[Nf es _ a'] at e
  rw[hp,cQ a,<- hp]
  by_cases h1:i<below t.place j
  ·rw[if_pos h1] at e ⊢
   exact mono (T.path i g y e)
  ·rw[if_neg h1] at e ⊢
   by_cases h2:i=below t.place j
   ·rw[if_pos h2] at e ⊢
    cases e
    exact mono hr
   ·rw[if_neg h2] at e ⊢
    exact mono (T.path (i-1) g y e)
end
theorem fQ[DecidableEq α]:∀ {l m:List α},l.Nodup->(∀ x∈l,x∈m)->l.length<=m.length
 |[],_,_,_=>dQ _
 |x :: l,m,nd,h=>by
  rw[lS] at nd
  have hx:=h x cc
  have:=fQ (l:=l) (m:=m.erase x) nd.2 fun y hy=>(List.mem_erase_of_ne (fun e=>nd.1 (by rw[<- e];exact hy))).mpr (h y (b9 _ hy))
  rw[List.length_erase_of_mem hx] at this
  have:0<m.length:=List.length_pos_of_mem hx
  simp only[qc];lia
def g7(owner:Array (Option Nat))(j:Nat):Bool:=(owner.getD j (some 0)).isSome
theorem oV(h:Int)(owner:Array (Option Nat)):∀ (fuel k:Nat),(∀ q<iN M h k,g7 owner (J M h q)=true)->(∃ K,k<=K/\K<k+fuel/\K<=M+13/\g7 owner (lp M h K).1=false) ->
  ∃ j n,layClean.free M owner fuel (lp M h k).1 (lp M h k).2=some j/\J M h n=j/\n<=10*(M+13)/\g7 owner j=false/\∀ q<n,g7 owner (J M h q)=true
 |0,k,_,⟨K,h1,h2,_⟩=>by lia
 |fuel+1,k,hq,⟨K,h1,h2,h3,h4⟩=>by
  have Rb:∀ r,r<=runEnd M (lp M h k).1-(lp M h k).1->J M h (iN M h k+r)=(lp M h k).1+r:=fun r hr=>by
   unfold J
   rw[vG M h (iN M h k) r (by rw[qZ];exact hr),qZ]
  have hle:=qj (Ar M h k)
  have e:∀ r,(owner.getD ((lp M h k).1+r) (some 0)).isNone = !g7 owner ((lp M h k).1+r):=fun r=>by
   unfold g7;cases owner.getD ((lp M h k).1+r) (some 0)<;>rfl
  unfold layClean.free
  cases hf:(List.range (runEnd M (lp M h k).1+1-(lp M h k).1)).find? fun r=>(owner.getD ((lp M h k).1+r) (some 0)).isNone with
  |some r =>
   obtain⟨a1,a2,a3⟩:=List.find?_range_eq_some.mp hf
   have a2:r<runEnd M (lp M h k).1+1-(lp M h k).1:=by simpa using a2
   rw[e] at a1
   have a1:g7 owner ((lp M h k).1+r)=false:=by simpa using a1
   have occs:∀ q<iN M h k+r,g7 owner (J M h q)=true:=fun q N8=>by
    by_cases z:q<iN M h k
    ·exact hq q z
    ·have:=a3 (q-iN M h k) (by lia)
     rw[e] at this
     have hj:=Rb (q-iN M h k) (by lia)
     rw[show iN M h k+(q-iN M h k)=q by lia] at hj
     rw[hj]
     simpa using this
   refine⟨_,iN M h k+r,rfl,Rb r (by lia),?_,a1,occs⟩
   have hb:=uL M h K
   by_cases z:iN M h k+r<=iN M h K
   ·lia
   ·have:=occs (iN M h K) (by lia)
    rw[Em,h4] at this;cases this
  |none =>
   have hn:=List.find?_eq_none.mp hf
   have Vu:∀ r,r<=runEnd M (lp M h k).1-(lp M h k).1->g7 owner ((lp M h k).1+r)=true:=fun r hr=>by
    have:=hn r (by simp;lia)
    rw[e] at this
    simpa using this
   dsimp only
   have hK:K≠k:=fun z=>by
    subst z
    have:=Vu 0 (dQ _)
    rw[Fs,h4] at this;cases this
   refine oV h owner fuel (k+1) (fun q N8=>?_) ⟨K,by lia,by lia,h3,h4⟩
   by_cases z:q<iN M h k
   ·exact hq q z
   ·have N8:q<iN M h k+(runEnd M (lp M h k).1-(lp M h k).1)+1:=N8
    have hj:=Rb (q-iN M h k) (by lia)
    rw[show iN M h k+(q-iN M h k)=q by lia] at hj
    rw[hj]
    exact Vu _ (by lia)
structure OI(M:Nat)(hs:List Int)(owner:Array (Option Nat)):Prop where
 sz:owner.size=M+1
 lt:∀ j v:Nat,owner[j]? = some (some v)->v<hs.length
 inj:∀ j j' v:Nat,owner[j]? = some (some v)->owner[j']? = some (some v)->j=j'
 all:∀ v:Nat,v<hs.length->∃ j:Nat,owner[j]? = some (some v)
 path:∀ j v:Nat,owner[j]? = some (some v)->∃ n,n<=10*(M+13)/\J M (hs.getD v 0) n=j/\∀ q<n,g7 owner (J M (hs.getD v 0) q)=true
theorem ph(h:j<owner.size):g7 owner j=true↔∃ v,owner[j]? = some (some v):=by
 unfold g7
 rw[x8 h]
 simp only[Array.getD,h,dite_true,Option.some.injEq]
 cases hh:owner[j] with
 |none =>
  have:owner.getInternal j h=none:=hh
  rw[this];simp
 |some v =>
  have:owner.getInternal j h=some v:=hh
  rw[this];simp
theorem OI.free(O:OI M hs owner)(hl:hs.length<=M):∃ e,e<=M/\g7 owner e=false:=by
 by_cases c:∃ e,e<=M/\g7 owner e=false
 ·exact c
 ·exfalso
  have all:∀ e,e<=M->∃ v,owner[e]? = some (some v):=fun e he=>by
   refine(ph (by rw[O.sz];lia)).mp ?_
   cases z:g7 owner e with
   |true=>rfl
   |false=>exact absurd ⟨e,he,z⟩ c
  have nd:((List.range (M+1)).map fun j=>(owner.getD j none).getD 0).Nodup:=by
   rw[Mp,qa]
   refine List.Pairwise.imp_of_mem ?_ (Mp.mp List.nodup_range)
   intro a b ha hb jI z
   obtain⟨va,ea⟩:=all a (by have:=rh.mp ha;lia)
   obtain⟨vb,eb⟩:=all b (by have:=rh.mp hb;lia)
   rw[BM,BM,ea,eb] at z
   have z:va=vb:=z
   subst z
   exact jI (O.inj _ _ _ ea eb)
  have:=fQ (m:=List.range hs.length) nd fun x hx=>by
   obtain⟨j,hj,rfl⟩:=dr.mp hx
   obtain⟨v,e⟩:=all j (by have:=rh.mp hj;lia)
   rw[BM,e]
   exact rh.mpr (O.lt _ _ e)
  simp at this
  lia
theorem OI.lay(hM:M+1=2 ^ m)(O:OI M hs owner)(hl:hs.length<=M)(h:Int) :
  ∃ j,layClean.free M owner (turns M) (bits h % (M+1)) (bits h)=some j/\OI M (hs++[h]) (owner.setIfInBounds j (some hs.length)):=by
 obtain⟨e,he,hf⟩:=O.free hl
 obtain⟨K,hK,hKe⟩:=cover hM h he
 obtain⟨j,n,e1,e2,e3,e4,e5⟩:=oV h owner (turns M) 0 (fun q hq=>absurd hq (xS q)) ⟨K,dQ _,by unfold turns;lia,hK,by rw[hKe];exact hf⟩
 refine⟨j,e1,?_⟩
 have hj:j<owner.size:=by rw[O.sz,<- e2];exact Fm (Ra M h n)
 have get:∀ i,(owner.setIfInBounds j (some hs.length))[i]? = if j=i then some (some hs.length) else owner[i]? := fun i=>by
  rw[Array.getElem?_setIfInBounds]
  by_cases z:j=i
  ·subst z;simp[hj]
  ·simp[z]
 have oc:∀ i,g7 owner i=true->g7 (owner.setIfInBounds j (some hs.length)) i=true:=fun i hi=>by
  unfold g7 at hi ⊢
  rw[BM] at hi ⊢
  rw[get]
  split
  ·rfl
  ·exact hi
 have jI:∀ v,owner[j]?≠some (some v):=fun v z=>by
  have:=(ph hj).mpr ⟨v,z⟩
  rw[e4] at this;cases this
 refine⟨by rw[Array.size_setIfInBounds];exact O.sz,fun i v z=>?_,fun i i' v z z'=>?_,fun v hv=>?_,fun i v z=>?_⟩
 ·rw[get] at z
  split at z
  ·cases z;simp
  ·have:=O.lt i v z;simp;lia
 ·rw[get] at z z'
  split at z
  ·cases z
   split at z'
   ·lia
   ·exact absurd (O.lt _ _ z') (rj _)
  ·split at z'
   ·cases z'
    exact absurd (O.lt _ _ z) (rj _)
   ·exact O.inj i i' v z z'
 ·simp at hv
  by_cases c:v=hs.length
  ·exact⟨j,by rw[get,if_pos rfl,c]⟩
  ·obtain⟨i,hi⟩:=O.all v (by lia)
   refine⟨i,?_⟩
   rw[get,if_neg (fun z=>jI v (by rw[z];exact hi))]
   exact hi
 ·rw[get] at z
  split at z
  ·rename_i Rc
   cases z
   refine⟨n,e3,?_,fun q hq=>oc _ ?_⟩
   ·rw[IG,xC (bX _)]
    simp[e2,Rc]
   ·have:=e5 q hq
    rw[IG,xC (bX _)]
    simpa using this
  ·have hv:=O.lt i v z
   obtain⟨n',a1,a2,a3⟩:=O.path i v z
   have eg:(hs++[h]).getD v 0=hs.getD v 0:=by
    rw[IG,IG,Dx hv]
   rw[eg]
   exact⟨n',a1,a2,fun q hq=>oc _ (a3 q hq)⟩
theorem OI.nil(M:Nat):OI M [] (Array.replicate (M+1) none):=by
 have no:∀ (j v:Nat),¬ (Array.replicate (M+1) (none:Option Nat))[j]? = some (some v):=fun j v z=>by
  rw[Array.getElem?_replicate] at z
  split at z<;>cases z
 exact⟨by simp,fun j v z=>absurd z (no j v),fun j j' v z _=>absurd z (no j v),fun v hv=>absurd hv (xS v),fun j v z=>absurd z (no j v)⟩
theorem Cd(hM:M+1=2 ^ m)(hs:Array Int)(hl:hs.size<=M):∃ owner,layClean M hs=some owner/\OI M hs.toList owner:=by
 have go:∀ (l pre:List Int) (owner:Array (Option Nat)),OI M pre owner->pre.length+l.length<=M->∃ Vv,l.foldl (fun acc h=>do
   let (owner,k) ← acc
   let j ← layClean.free M owner (turns M) (bits h % (M+1)) (bits h)
   pure (owner.setIfInBounds j (some k),k+1)) (some (owner,pre.length))=some (Vv,pre.length+l.length)/\OI M (pre++l) Vv:=by
  intro l
  induction l with
  |nil=>intro pre owner O _;exact⟨owner,rfl,by rw[nV];exact O⟩
  |cons h l ih =>
   intro pre owner O hz
   rw[qc] at hz
   obtain⟨j,e,O'⟩:=O.lay hM (by lia) h
   obtain⟨o2,e2,O2⟩:=ih (pre++[h]) _ O' (by simp;lia)
   refine⟨o2,?_,by rw[vF] at O2;exact O2⟩
   rw[List.foldl_cons]
   have:(do
    let (owner,k) ← (some (owner,pre.length):Option (Array (Option Nat) × Nat))
    let j ← layClean.free M owner (turns M) (bits h % (M+1)) (bits h)
    pure (owner.setIfInBounds j (some k),k+1))=some (owner.setIfInBounds j (some pre.length),(pre++[h]).length):=by
    simp[e]
   rw[this,e2]
   simp;lia
 obtain⟨o,e,O⟩:=go hs.toList [] _ (OI.nil M) (by simpa using hl)
 refine⟨o,?_,by simpa using O⟩
 unfold layClean
 rw[<- Array.foldl_toList]
 have e':=e
 simp only[List.length_nil] at e'
 rw[e']
 rfl
theorem g_:∀ (fuel a:Nat),3<=a->n<2 ^ (a+fuel)->∃ b,3<=b/\sizeAbove.go n fuel (2 ^ a)=2 ^ b/\n<2 ^ b/\(2 ^ b<=2*n\/b=a)
 |0,a,ha,h=>⟨a,ha,rfl,by simpa using h,.inr rfl⟩
 |fuel+1,a,ha,h=>by
  unfold sizeAbove.go
  by_cases c:2 ^ a<=n
  ·rw[if_pos c]
   obtain⟨b,h1,h2,h3,h4⟩:=g_ fuel (a+1) (by lia) (by rw[show a+1+fuel=a+(fuel+1) by lia];exact h)
   refine⟨b,h1,by rw[x6] at h2;exact h2,h3,?_⟩
   rcases h4 with h4|h4
   ·exact .inl h4
   ·left
    rw[h4,x6];lia
  ·rw[if_neg c]
   exact⟨a,ha,rfl,by lia,.inr rfl⟩
theorem jO(h:n<2 ^ 60):∃ b,3<=b/\sizeAbove n=2 ^ b/\n<2 ^ b/\(2 ^ b<=2*n\/b=3) :=
 g_ 64 3 (bX _) (O3 h (by decide))
section
variable {α:Type}
def bw(M:Nat)(owner:Array (Option Nat)):List (Nat × Nat):=(List.range (M+1)).filterMap fun j=>(owner.getD j none).map (j,·)
theorem dC:p∈bw M owner↔p.1<M+1/\owner[p.1]? = some (some p.2):=by
 unfold bw
 rw[OQ]
 constructor
 ·rintro⟨j,hj,e⟩
  rw[BM] at e
  cases h:owner[j]? with
  |none=>rw[h] at e;cases e
  |some o =>
   rw[h] at e
   cases o with
   |none=>cases e
   |some v =>
    cases e
    exact⟨rh.mp hj,h⟩
 ·rintro⟨h1,h2⟩
  exact⟨p.1,rh.mpr h1,by rw[BM,h2];rfl⟩
theorem pU(M:Nat)(owner:Array (Option Nat)):((bw M owner).map (·.1)).Pairwise (· < ·):=by
 unfold bw
 rw[qa,List.pairwise_filterMap]
 refine List.Pairwise.imp ?_ List.pairwise_lt_range
 intro a b mI p hp q hq
 cases h1:owner.getD a none with
 |none=>rw[h1] at hp;cases hp
 |some x =>
  cases h2:owner.getD b none with
  |none=>rw[h2] at hq;cases hq
  |some y =>
   rw[h1] at hp;rw[h2] at hq
   cases hp;cases hq
   exact mI
theorem qx{l:List Nat}(h:l.Pairwise (· < ·)):Up l.toArray:=fun i j fA hj=>by
 have hj:j<l.length:=by simpa using hj
 have:=xD.mp h i j (by walk_at "s1") hj fA
 have e:∀ k (hk:k<l.length),l.toArray.getD k 0=l[k]:=fun k hk=>by simp[Array.getD,hk]
 rw[e i (by walk_at "s1"),e j hj]
 exact this
theorem qz{β:Type}{f:α->Option β}:∀ {l:List α},(∀ x∈l,(f x).isSome=true)->(l.filterMap f).length=l.length/\∀ i:Nat,(l.filterMap f)[i]? = (l[i]?).bind f
 |[],_=>⟨rfl,fun i=>by simp⟩
 |x :: l,h=>by
  obtain⟨a,b⟩:=qz (f:=f) (l:=l) fun y hy=>h y (b9 _ hy)
  have hx:=h x cc
  cases e:f x with
  |none=>rw[e] at hx;cases hx
  |some y =>
   rw[xE,e]
   refine⟨by simp[a],fun i=>?_⟩
   cases i with
   |zero=>simp[e]
   |succ i=>simpa using b i
theorem qp(es:Array (Int × α)):(List.range es.size).filterMap (fun i=>es[i]?)=es.toList:=by
 apply BG
 intro i
 rw[(qz (l:=List.range es.size) fun x hx=>by
  have:=rh.mp hx
  simp[this]).2 i]
 by_cases h:i<es.size
 ·rw[List.getElem?_range h,kR];rfl
 ·rw[sL (by simpa using h),sL (by simpa using h)];rfl
theorem Ba{M m finger moves:Nat}{led plain:Bool}(hM:M+1=2 ^ m)(hm:3<=m){es:Array (Int × α)}(hf:es.size*5<M*3) :
  ∃ t order,laid M finger moves led plain (es.map (·.1))=some (t,order)/\t.plain=plain/\t.led=led/\t.mask=M/\TI t (order.filterMap fun i=>es[i]?)/\(order.filterMap fun i=>es[i]?).size=es.size/\(order.filterMap fun i=>es[i]?).toList.Perm es.toList/\order.toList.Perm (List.range es.size):=by
 obtain⟨owner,e,O⟩:=Cd hM (es.map (·.1)) (by rw[Array.size_map];lia)
 have hn:(es.map (·.1)).toList.length=es.size:=by simp
 refine⟨{ mask:=M,place:=((bw M owner).map (·.1)).toArray,dummies:=#[],finger,led,moves,plain },((bw M owner).map (·.2)).toArray,?_,rfl,rfl,rfl,?_⟩
 ·unfold laid
  rw[e];rfl
 have Vw:∀ p∈bw M owner,p.2<es.size:=fun p hp=>by
  have:=O.lt _ _ (dC.mp hp).2
  lia
 have nd:((bw M owner).map (·.2)).Nodup:=by
  rw[Mp,qa]
  have:=pU M owner
  rw[qa] at this
  refine List.Pairwise.imp_of_mem ?_ this
  intro p q hp hq cS z
  have:=O.inj _ _ _ (dC.mp hp).2 (by rw[z];exact(dC.mp hq).2)
  lia
 have pm:((bw M owner).map (·.2)).Perm (List.range es.size):=by
  refine(List.perm_ext_iff_of_nodup nd List.nodup_range).mpr fun v=>⟨fun hv=>?_,fun hv=>?_⟩
  ·obtain⟨p,hp,rfl⟩:=dr.mp hv
   exact rh.mpr (Vw p hp)
  ·obtain⟨j,hj⟩:=O.all v (by rw[hn];exact rh.mp hv)
   have Vx:=(FD.mp hj).1
   rw[O.sz] at Vx
   exact dr.mpr ⟨(j,v),dC.mpr ⟨Vx,hj⟩,rfl⟩
 have hlen:(bw M owner).length=es.size:=by
  have:=pm.length_eq
  simpa using this
 have HL:(((bw M owner).map (·.2)).toArray.filterMap fun i=>es[i]?).toList=(bw M owner).filterMap fun p=>es[p.2]? := by
  rw[Array.toList_filterMap,OS];rfl
 obtain⟨f1,f2⟩:=qz (l:=bw M owner) (f:=fun p=>es[p.2]?) fun p hp=>by simp[Vw p hp]
 have bh':∀ i:Nat,(((bw M owner).map (·.2)).toArray.filterMap fun i=>es[i]?)[i]? = ((bw M owner)[i]?).bind fun p=>es[p.2]? := fun i=>by
  rw[<- kR,HL];exact f2 i
 have hsz:(((bw M owner).map (·.2)).toArray.filterMap fun i=>es[i]?).size=es.size:=by
  rw[<- zS,HL,f1,hlen]
 have fq:∀ i:Nat,∀ p,(bw M owner)[i]? = some p->((bw M owner).map (·.1)).toArray.getD i 0=p.1:=fun i p hp=>by
  rw[BM]
  simp[hp]
 have tk:∀ j,g7 owner j=true->j<=M->taken ((bw M owner).map (·.1)).toArray j=true:=fun j hj hM'=>by
  obtain⟨v,hv⟩:=(ph (by rw[O.sz];exact Fm ‹_›)).mp hj
  obtain⟨i,hi⟩:=IJ.mp (dC.mpr (show((j,v):Nat × Nat).1<M+1/\owner[((j,v):Nat × Nat).1]? = some (some ((j,v):Nat × Nat).2) from⟨by show j<M+1;exact Fm ‹_›,hv⟩))
  exact(dZ (qx (pU M owner))).mpr ⟨i,by
   have:=(hX.mp hi).1
   simpa using this,fq i _ hi⟩
 refine⟨?_,hsz,?_,by simpa using pm⟩
 ·refine⟨⟨m,hM,hm⟩,?_,qx (pU M owner),fun i hi=>?_,rfl,by rw[hsz];exact hf,fun i h x hx=>?_⟩
  ·rw[hsz];simp[hlen]
  ·have hi:i<(bw M owner).length:=by simpa using hi
   have e1:=kN hi
   show((bw M owner).map (·.1)).toArray.getD i 0<=M
   rw[fq i _ e1]
   have:=(dC.mp (kP e1)).1
   lia
  ·rw[bh'] at hx
   cases hp:(bw M owner)[i]? with
   |none=>rw[hp] at hx;cases hx
   |some p =>
    rw[hp] at hx
    have hx:es[p.2]? = some (h,x):=hx
    have hm':=dC.mp (kP hp)
    obtain⟨n,a1,a2,a3⟩:=O.path _ _ hm'.2
    have hh:(es.map (·.1)).toList.getD p.2 0=h:=by
     rw[IG,kR,Array.getElem?_map,hx];rfl
    rw[hh] at a2 a3
    refine⟨n,a1,?_,fun q hq=>tk _ (a3 q hq) (Ra M h q)⟩
    show J M h n=((bw M owner).map (·.1)).toArray.getD i 0
    rw[fq i _ hp];exact a2
 ·rw[HL]
  have:=pm.filterMap fun i=>es[i]?
  rw[qp,OS] at this
  exact this
theorem uT{t:SetTable}{es:Array (Int × α)}(hn:es.size<=10000) :
  ∃ t' order,t.relaid (es.map (·.1)) (grown es.size)=some (t',order)/\t'.plain=t.plain/\t'.led=t.led/\sizeAbove (grown es.size)<=16777216/\(es.size<=1000->t'.mask<=8191)/\TI t' (order.filterMap fun i=>es[i]?)/\(order.filterMap fun i=>es[i]?).size=es.size/\(order.filterMap fun i=>es[i]?).toList.Perm es.toList/\order.toList.Perm (List.range es.size):=by
 have hg:grown es.size=es.size*4:=by unfold grown;rw[if_neg (by lia)]
 obtain⟨b,h3,e,cS,hle⟩:=jO (n:=es.size*4) (by lia)
 have h8:8<=2 ^ b:=Nat.pow_le_pow_right (n:=2) (by decide) h3
 unfold relaid
 rw[hg,e]
 obtain⟨t',order,q1,q2,q3,qm,q4⟩:=Ba (M:=2 ^ b-1) (m:=b) (finger:=t.finger) (moves:=t.movedTo (2 ^ b-1)) (led:=t.led) (plain:=t.plain) (by lia) h3 (es:=es) (by lia)
 refine⟨t',order,q1,q2,q3,?_,fun hz=>?_,q4⟩
 ·rcases hle with hle|rfl
  ·lia
  ·decide
 ·rw[qm]
  rcases hle with hle|rfl
  ·lia
  ·decide
end
section
variable {α:Type}{t:SetTable}{es:Array (Int × α)}
theorem qC(T:TI t es)(hashAt:Nat->Int)(h:Int):∀ (fuel n:Nat),(∃ N,n<=N/\N<n+fuel/\taken t.place (J t.mask h N)=false) ->
  ∃ n',n<=n'/\n'<n+fuel/\(∀ q,n<=q->q<n'->taken t.place (J t.mask h q)=true/\hashAt (below t.place (J t.mask h q))≠h) /\
   ((taken t.place (J t.mask h n')=false/\probe.go t hashAt h fuel (ps t.mask h n)=some (.empty (J t.mask h n') none)) \/
    (taken t.place (J t.mask h n')=true/\hashAt (below t.place (J t.mask h n'))=h/\probe.go t hashAt h fuel (ps t.mask h n)=some (.candidate (J t.mask h n') (below t.place (J t.mask h n')) (ps t.mask h (n'+1)))))
 |0,n,⟨N,h1,h2,_⟩=>by lia
 |fuel+1,n,⟨N,h1,h2,h3⟩=>by
  unfold probe.go
  have hs:=T.slot (J t.mask h n)
  have hd:=(BV t.mask h n).2.2.1
  by_cases c:taken t.place (J t.mask h n)=true
  ·rw[if_pos c] at hs
   have hs:t.slot (ps t.mask h n).j=.live (below t.place (J t.mask h n)):=hs
   rw[hs]
   dsimp only
   by_cases e:hashAt (below t.place (J t.mask h n))=h
   ·rw[if_pos (by simpa using e)]
    exact⟨n,bX _,by lia,fun q a b=>by lia,.inr ⟨c,e,rfl⟩⟩
   ·rw[if_neg (by simpa using e)]
    have hN:N≠n:=fun z=>by rw[z,c] at h3;cases h3
    obtain⟨n',a1,a2,a3,a4⟩:=qC T hashAt h fuel (n+1) ⟨N,by lia,by lia,h3⟩
    refine⟨n',by exact kc ‹_›,by lia,fun q b1 b2=>?_,a4⟩
    by_cases z:q=n
    ·subst z;exact⟨c,e⟩
    ·exact a3 q (by lia) b2
  ·have c:taken t.place (J t.mask h n)=false:=by simpa using c
   rw[if_neg (by rw[c];exact gI)] at hs
   have hs:t.slot (ps t.mask h n).j=.empty:=hs
   rw[hs]
   dsimp only
   rw[hd]
   exact⟨n,bX _,by lia,fun q a b=>by lia,.inl ⟨c,rfl⟩⟩
end
section
variable {prog:Program}{w:World}{K:Type}[DecidableEq K]{knd:KeyKind prog w K}
abbrev aO(knd:KeyKind prog w K)(k:List K):Int:=tupleKeyHash knd k
def xN(knd:KeyKind prog w K)(p:List K × Addr):Int × Value:=(aO knd p.1,.ref p.2)
structure HM(knd:KeyKind prog w K)(h:Heap)(a:Addr)(ks:List (List K × Addr)):Prop where
 ob:∃ o es ep t,h.get? a=some o/\o.ExactSet/\o.data=.set es ep t/\TI t es/\t.mask<=8191/\t.led=(!w.params.followText "set-order")/\es.toList=ks.map (xN knd)
 nd:(ks.map (·.1)).Nodup
 is:∀ p∈ks,IsTupleKey knd h p.1 p.2
variable {A:Around}{E:Value->Shared->Prop}{s:Shared}
theorem jd(hk:IsTupleKey knd s.heap k a)(h:Q false s):wpAny (model prog w) A (ofAClassStatement 8 (.ref a)) Q E s:=by
 have hT:=hk.typeIs
 obtain⟨o,items,n,ho,_,hd,hi⟩:=hk
 unfold ofAClassStatement
 refine ah (wpAny_typeOf hT ?_)
 dsimp only
 refine ah ?_
 refine aE ?_
 simp only[MK,gL,if_false]
 refine ah (wpAny_seqItems ho hd ?_)
 dsimp only
 refine ah ?_
 rw[<- Array.forIn_toList]
 refine wpAny_forIn_list _ (fun rest r s'=>r.1=none/\s'=s/\∀ v∈rest,carriedByValue v=true) _ ?_ ?_ _ _ ⟨rfl,rfl,hi.byValue⟩
 ·rintro v rest r s' ⟨hr,rfl,n9⟩
  have hv:=n9 v cc
  have e:ofAClassStatement 7 v=pure false:=by
   cases v with
   |ref a=>cases hv
   |_=>rfl
  rw[e]
  refine ah (aE ?_)
  simp only[gL,if_false]
  exact aE ⟨rfl,rfl,fun u EH=>n9 u (b9 _ EH)⟩
 ·rintro⟨r1,r2⟩ s' ⟨hr,rfl,_⟩
  simp only at hr
  subst hr
  exact aE h
theorem gF(hk:IsTupleKey knd s.heap k a)(AR:∀ k v,knd.is k v=true->v.scannable=true)(h:∀ b,Q b s):wpAny (model prog w) A (hashByValue 8 (.ref a)) Q E s:=by
 have hT:=hk.typeIs
 obtain⟨o,items,n,ho,_,hd,hi⟩:=hk
 have bj':∀ v∈items.toList,v.scannable=true:=by
  clear ho hd
  generalize items.toList=l at hi
  induction hi with
  |nil=>intro v hv;cases hv
  |cons h1 _ ih =>
   intro v hv
   rcases cK.mp hv with rfl|hv
   ·exact AR _ _ h1
   ·exact ih v hv
 unfold hashByValue
 refine ah (wpAny_specialOf hT F.slot_tuple_hash.lookup ?_)
 dsimp only
 refine ah (wpAny_seqItems ho hd ?_)
 dsimp only[Option.getD]
 refine ah ?_
 rw[<- Array.forIn_toList]
 refine wpAny_forIn_list _ (fun rest r s'=>s'=s/\∀ v∈rest,v.scannable=true) _ ?_ ?_ _ _ ⟨rfl,bj'⟩
 ·rintro v rest r s' ⟨rfl,n9⟩
  rw[hashByValue_scannable 7 (n9 v cc)]
  refine ah (aE ?_)
  split
  ·exact aE (aE (h _))
  ·exact aE ⟨rfl,fun u EH=>n9 u (b9 _ EH)⟩
 ·rintro⟨r1,r2⟩ s' ⟨rfl,_⟩
  cases r1 with
  |none=>exact aE (h true)
  |some b=>exact aE (h b)
end
local macro_rules | `(tactic| walk_at $s:str) => do
 let x:=s.getString
 if x.startsWith "PV" then `(tactic| exact $(Lean.mkIdent (.str (.str (.num (.str (.str (.str .anonymous "_private") "PySem") "SetOps") 0) "PySem") (x.drop 2).toString)))
 else Lean.Macro.throwUnsupported
abbrev uO:Array (Int × Value)->Nat->Int:=by walk_at "PVstoredHashAt"
abbrev z8:Array (Int × Value)->Option (SetTable × Array Nat)->Sem (Array (Int × Value) × SetTable):=by walk_at "PVreordered"
abbrev lK:Array (Int × Value)->SetTable->Bool:=by walk_at "PVdrawn"
abbrev Gy:Array (Int × Value)->SetTable->Sem Unit:=by walk_at "PVmustBeLedForItsPlaces"
def pP:Array (Int × Value)->Nat->Int:=uO
theorem oF(es:Array (Int × Value))(i:Nat):pP es i=(es[i]?.map (·.1)).getD 0:=rfl
section
variable {prog:Program}{w:World}{K:Type}[DecidableEq K]{knd:KeyKind prog w K}{A:Around}{E:Value->Shared->Prop}{s:Shared}
theorem rJ(hk:IsTupleKey knd s.heap k a)(hy:∀ y∈ys,∃ k' b,y=.ref b/\IsTupleKey knd s.heap k' b)(h:Q false s):wpAny (model prog w) A (searchCouldBeSeen (.ref a) ys) Q E s:=by
 unfold searchCouldBeSeen
 refine ah ?_
 refine wpAny_forIn_list _ (fun rest r s'=>r.1=none/\s'=s/\∀ y∈rest,∃ k' b,y=.ref b/\IsTupleKey knd s.heap k' b) _ ?_ ?_ _ _ ⟨rfl,rfl,hy⟩
 ·rintro y rest r s' ⟨hr,rfl,n9⟩
  obtain⟨k',b,rfl,hb⟩:=n9 y cc
  have go:∀ (P:Prop),P->P:=fun _ p=>p
  dsimp only
  split
  ·exact aE ⟨rfl,rfl,fun u EH=>n9 u (b9 _ EH)⟩
  ·refine ah (wpAny_eqIsQuiet_tuple hk ?_)
   simp only[MK,gL,if_false]
   refine ah (wpAny_eqIsQuiet_tuple hb ?_)
   simp only[MK,gL,if_false]
   refine ah (jd hk ?_)
   simp only[gL,if_false]
   refine ah (jd hb ?_)
   simp only[gL,if_false]
   exact aE ⟨rfl,rfl,fun u EH=>n9 u (b9 _ EH)⟩
 ·rintro⟨r1,r2⟩ s' ⟨hr,rfl,_⟩
  simp only at hr
  subst hr
  exact aE h
theorem GF{K G:Prop}(pk:K)(h:K->G):G:=h pk
theorem mR{a x:Addr}{k:List K}{ks:List (List K × Addr)}{o:Obj}{es:Array (Int × Value)}{ep:Nat}{t:SetTable}(hu:A.units<cLine)(ho:s.heap.get? a=some o)(hd:o.data=.set es ep t)(T:TI t es)(he:es.toList=ks.map (xN knd))
  (CD:∀ p∈ks,IsTupleKey knd s.heap p.1 p.2) (hx:IsTupleKey knd s.heap k x) {Q:SetFound->Shared->Prop} (Vy:k∈ks.map (·.1)->Q (.there none) s)
  (nf:Nat) (hnf:nf<=10*(t.mask+13)) (B9:taken t.place (J t.mask (aO knd k) nf)=false) (Vz:∀ q<nf,taken t.place (J t.mask (aO knd k) q)=true)
  (B4:k∉ks.map (·.1)->Q (.free (J t.mask (aO knd k) nf) false) s) :
  ∀ (fuel n:Nat) (stand:Option Probe),stand.getD (t.probeStart (aO knd k))=ps t.mask (aO knd k) n->n<=nf->nf<n+fuel ->
   (∀ q<n,∀ p,ks[below t.place (J t.mask (aO knd k) q)]? = some p->p.1≠k)->wpAny (model prog w) A (setSearchFrom a (.ref x) (aO knd k) true fuel stand) Q E s
 |0,n,stand,_,h1,h2,_=>by lia
 |fuel+1,n,stand,jv,h1,h2,hq=>by
  have Rf:∀ i:Nat,es[i]? = (ks[i]?).map (xN knd):=fun i=>by rw[<- kR,he,nL]
  unfold setSearchFrom
  refine ah (wpAny_setState_of ho hd T.fits ?_)
  dsimp only
  rw[if_neg (by rw[T.odd];exact gI)]
  obtain⟨n',a1,a2,a3,a4⟩:=qC T (pP es) (aO knd k) (10*turns t.mask) n ⟨nf,h1,by unfold turns;lia,B9⟩
  have Kj:n'<=nf:=by
   by_cases z:n'<=nf
   ·exact z
   ·have:=(a3 nf h1 (by exact Nat.lt_of_not_le ‹_›)).1
    rw[B9] at this;cases this
  rcases a4 with⟨c1,c2⟩|⟨c1,c2,c3⟩
  ·have c2:t.probe (pP es) (aO knd k) (stand.getD (t.probeStart (aO knd k)))=some (.empty (J t.mask (aO knd k) n') none):=by rw[jv];exact c2
   have e:n'=nf:=by
    by_cases z:n'<nf
    ·have:=Vz n' z
     rw[c1] at this;cases this
    ·lia
   have c2:t.probe (uO es) (aO knd k) (stand.getD (t.probeStart (aO knd k)))=some (.empty (J t.mask (aO knd k) n') none):=c2
   rw[c2]
   dsimp only
   rw[e]
   refine aE (B4 fun hm=>?_)
   obtain⟨p,hp,rfl⟩:=dr.mp hm
   obtain⟨i,hi⟩:=IJ.mp hp
   have ei:es[i]? = some (aO knd p.1,.ref p.2):=by rw[Rf,hi];rfl
   have VA:i<t.place.size:=by rw[T.sz];exact(FD.mp ei).1
   obtain⟨ni,b1,b2,b3⟩:=T.path i _ _ ei
   have bt:below t.place (J t.mask (aO knd p.1) ni)=i:=by rw[b2];exact below_at T.up VA
   have tk:taken t.place (J t.mask (aO knd p.1) ni)=true:=by rw[b2];exact(dZ T.up).mpr ⟨i,VA,rfl⟩
   have cS:ni<nf:=by
    by_cases z:nf<ni
    ·have:=b3 nf z
     rw[B9] at this;cases this
    ·have:ni≠nf:=fun z=>by rw[z,B9] at tk;cases tk
     lia
   by_cases z:ni<n
   ·exact hq ni z p (by rw[bt];exact hi) rfl
   ·refine(a3 ni (by exact IZ ‹_›) (by lia)).2 ?_
    rw[bt,oF,ei];rfl
  ·have c3:t.probe (uO es) (aO knd k) (stand.getD (t.probeStart (aO knd k)))=some (.candidate (J t.mask (aO knd k) n') (below t.place (J t.mask (aO knd k) n')) (ps t.mask (aO knd k) (n'+1))):=by rw[jv];exact c3
   rw[c3]
   dsimp only
   have tk:=iH T.up c1
   have N9:t.slot (J t.mask (aO knd k) n')=.live (below t.place (J t.mask (aO knd k) n')):=by rw[T.slot,if_pos c1]
   generalize hi:below t.place (J t.mask (aO knd k) n')=i at tk c2 N9 ⊢
   have hil:i<es.size:=by rw[<- T.sz];exact tk.1
   obtain⟨p,hp⟩:∃ p,ks[i]? = some p:=by
    have:i<ks.length:=by
     have:=congrArg List.length he
     simp at this;lia
    exact⟨_,kN this⟩
   have ei:es[i]? = some (aO knd p.1,.ref p.2):=by rw[Rf,hp];rfl
   have VB:=kP hp
   have jI:n'≠nf:=fun z=>by rw[z,B9] at c1;cases c1
   have again:¬ p.1=k->wpAny (model prog w) A (setSearchFrom a (.ref x) (aO knd k) true fuel (some (ps t.mask (aO knd k) (n'+1)))) Q E s:=fun hpk =>
    mR hu ho hd T he CD hx Vy nf hnf B9 Vz B4 fuel (n'+1) (some (ps t.mask (aO knd k) (n'+1))) rfl (by lia) (by lia) fun q N8 p' iF=>by
     by_cases z:q<n
     ·exact hq q z p' iF
     ·by_cases z2:q=n'
      ·subst z2
       rw[hi,hp] at iF
       cases iF
       exact hpk
      ·intro e'
       have:=(a3 q (by exact IZ ‹_›) (by lia)).2
       refine this ?_
       rw[oF,Rf,iF]
       show aO knd p'.1=_
       rw[e']
   have aT:p.1=k->k∈ks.map (·.1):=fun e=>e ▸ dr.mpr ⟨p,VB,rfl⟩
   have seen:∀ y∈List.map (fun x=>x.snd) (Array.filter (fun x=>x.fst == aO knd k) es).toList,∃ k' b,y=.ref b/\IsTupleKey knd s.heap k' b:=fun y hy=>by
    obtain⟨e',NH,rfl⟩:=dr.mp hy
    rw[Array.toList_filter] at NH
    have:=(IU.mp NH).1
    rw[he] at this
    obtain⟨p',iF,rfl⟩:=dr.mp this
    exact⟨p'.1,p'.2,rfl,CD p' iF⟩
   refine GF ?pk (K:=?K) fun key=>?main
   case main =>
    split
    ·refine ah (rJ hx seen ?_)
     rw[if_neg gI]
     exact key
    ·exact key
   rw[ei]
   dsimp only
   refine ah (wpAny_holding (wpAny_eqBool_tuple hu (CD p VB) hx ?_))
   refine ah (wpAny_setState_of ho hd T.fits ?_)
   dsimp only
   by_cases e:p.1=k
   ·rw[if_pos (by simp[e])]
    exact aE (Vy (aT e))
   ·rw[if_neg (by simp[e])]
    have Qq:t.sameMemory t.moves t.mask=some true:=by unfold sameMemory;rw[if_pos (by simp)]
    rw[Qq]
    dsimp only
    rw[if_pos rfl,N9]
    dsimp only
    rw[ei]
    dsimp only
    refine ah (m:=isSame (.ref p.2) (.ref p.2)) ?_
    unfold isSame
    dsimp only
    rw[if_pos (by simp)]
    refine aE (ah (aE ?_))
    rw[if_pos rfl]
    dsimp only
    rw[if_neg (by simp[e])]
    exact again e
end
theorem gU:∀ {l l2:List β},l.Perm l2->∀ {m:List α},l2=m.map f->∃ m':List α,l=m'.map f/\m'.Perm m:=by
 intro l l2 p
 induction p with
 |nil=>intro m e;exact⟨m,by rw[<- e],.refl _⟩
 |cons x _ ih =>
  intro m e
  cases m with
  |nil=>cases e
  |cons y m =>
   simp only[fm,List.cons.injEq] at e
   obtain⟨m',e1,p1⟩:=ih e.2
   exact⟨y :: m',by rw[fm,<- e1,e.1],p1.cons _⟩
 |swap x y l =>
  intro m e
  match m,e with
  |a :: b :: m,e =>
   simp only[fm,List.cons.injEq] at e
   exact⟨b :: a :: m,by simp[e.1,e.2.1,e.2.2],.swap ..⟩
 |trans _ _ ih1 QK =>
  intro m e
  obtain⟨m',e1,p1⟩:=QK e
  obtain⟨m2,e2,p2⟩:=ih1 e1
  exact⟨m2,e2,p2.trans p1⟩
theorem rA(xs:Array α)(p:Nat)(x:α):(insertAt xs p x).toList=xs.toList.take p++x :: xs.toList.drop p:=by
 unfold insertAt
 simp
 rw[Ms (by simp)]
theorem n_(hz:(order.filterMap fun i=>es[i]?).size=es.size)
  (h:Q (order.filterMap fun i=>es[i]?,t) s):wpAny (model prog w) A (z8 es (some (t,order))) Q E s:=by
 show wpAny _ _ (if ((order.filterMap fun i=>es[i]?).size != es.size)=true then (do unsupported "internal:set-table-lost-an-element";pure (order.filterMap fun i=>es[i]?,t)) else pure (order.filterMap fun i=>es[i]?,t)) _ _ _
 rw[if_neg (by simp[hz])]
 exact aE h
section
variable {prog:Program}{w:World}{K:Type}[DecidableEq K]{knd:KeyKind prog w K}{A:Around}{E:Value->Shared->Prop}{s:Shared}
theorem IsTupleKey.eJ(hk:IsTupleKey knd h k a)(e:∀ o,h.get? a=some o->h'.get? a=some o):IsTupleKey knd h' k a:=by
 obtain⟨o,items,n,ho,r⟩:=hk
 exact⟨o,items,n,e o ho,r⟩
theorem HM.ne(S:HM knd h a ks)(hx:IsTupleKey knd h k x):x≠a:=by
 obtain⟨⟨o,es,ep,t,ho,hex,_⟩,_,_⟩:=S
 obtain⟨o',items,n,kU,hc,_⟩:=hx
 intro z
 subst z
 rw[ho] at kU
 cases kU
 rw[hex.1] at hc
 exact absurd hc (by decide)
theorem Eg(S:HM knd s.heap a ks)(hx:IsTupleKey knd s.heap k x)(hz:ks.length<1000)(hu:A.units<cLine)(AR:∀ k v,knd.is k v=true->v.scannable=true)
  (h:∀ (b:Bool) (h':Heap) (g0:List (List K × Addr)),Heap.SameBut a s.heap h'->HM knd h' a g0->(k∈ks.map (·.1)/\g0=ks\/k∉ks.map (·.1)/\g0.Perm ((k,x) :: ks))->Q b { s with heap:=h' }) :
  wpAny (model prog w) A (setAddHashed a (.ref x) (aO knd k)) Q E s:=by
 obtain⟨⟨o,es,ep,t,ho,hex,hd,T,hM,hL,he⟩,nd,is⟩:=id S
 have hlen:es.size=ks.length:=by
  have:=congrArg List.length he
  simpa using this
 obtain⟨m,hm,_⟩:=T.pw
 obtain⟨e0,he0,hf0⟩:=T.free
 obtain⟨nf,n1,n2,n3⟩:=rO hm (aO knd k) (taken t.place) he0 hf0
 unfold setAddHashed setAddHashedIn
 refine wpAny_holding (ah (wpAny_setState_of ho hd T.fits ?_))
 dsimp only
 have hbs:byScan (.ref x) es=false:=by simp[byScan,Value.scannable]
 rw[hbs]
 simp only[gL,if_false]
 refine ah ?_
 unfold setSearch
 refine mR hu ho hd T he is hx (fun aT=>?_) nf n1 n2 n3 (fun kF=>?_) 100000 0 none rfl (dQ _) (by lia) fun q hq=>absurd hq (xS q)
 ·dsimp only
  refine aE ?_
  have e:s={ s with heap:=s.heap }:=by cases s;rfl
  rw[e]
  exact h _ _ ks (Heap.SameBut.refl a s.heap) S (.inl ⟨aT,rfl⟩)
 ·dsimp only
  generalize hj:J t.mask (aO knd k) nf=j at n2 ⊢
  have hjm:j<=t.mask:=by rw[<- hj];exact Ra ..
  have hre:Reach t.mask t.place (aO knd k) j:=⟨nf,n1,hj,n3⟩
  refine ah (wpAny_setState_of ho hd T.fits ?_)
  dsimp only
  have bu':t.put j=({ t with place:=insertAt t.place (below t.place j) j,dummies:=#[] },below t.place j):=by
   unfold SetTable.put
   have:has t.dummies j=false:=by rw[T.dm];rfl
   simp only[this,gL,if_false]
   rw[T.dm]
  rw[bu']
  dsimp only
  have aT:(insertAt es (below t.place j) (aO knd k,.ref x)).toList=(ks.take (below t.place j)++(k,x) :: ks.drop (below t.place j)).map (xN knd):=by
   rw[rA,he,DF,fm,List.map_take,List.map_drop];rfl
  have HP:(ks.take (below t.place j)++(k,x) :: ks.drop (below t.place j)).Perm ((k,x) :: ks):=by
   refine List.perm_middle.trans ?_
   rw[Mt]
  have HV:below t.place j<=es.size:=by rw[<- T.sz];exact(bf T.up j).1
  have zh:(insertAt es (below t.place j) (aO knd k,Value.ref x)).size=es.size+1:=cD _ _ HV
  have hxa:=S.ne hx
  have VC:∀ h',Heap.SameBut a s.heap h'->∀ g0:List (List K × Addr),g0.Perm ((k,x) :: ks)->∀ p∈g0,IsTupleKey knd h' p.1 p.2:=fun h' sb g0 pm p hp=>by
   have:IsTupleKey knd s.heap p.1 p.2:=by
    rcases cK.mp (pm.mem_iff.mp hp) with rfl|hp
    ·exact hx
    ·exact is p hp
   exact IsTupleKey.eJ this fun o' kU=>sb.extBut _ _ (S.ne this) kU
  have VD:∀ g0:List (List K × Addr),g0.Perm ((k,x) :: ks)->(g0.map (·.1)).Nodup:=fun g0 pm=>by
   rw[(pm.map _).nodup_iff,fm,lS]
   exact⟨kF,nd⟩
  -- behind the flag
  have main:∀ pl:Bool,wpAny (model prog w) A (do
    storeSet a (insertAt es (below t.place j) (aO knd k,.ref x)) { t with place:=insertAt t.place (below t.place j) j,dummies:=#[],plain:=pl }
    if (!false && ({ t with place:=insertAt t.place (below t.place j) j,dummies:=#[],plain:=pl }:SetTable).tooFull)=true then do
      setRelay a (grown (es.size+1))
      pure true
     else pure true) Q E s:=fun pl=>by
   generalize LJ:({ t with place:=insertAt t.place (below t.place j) j,dummies:=#[],plain:=pl }:SetTable)=t'
   have tm:t'.mask=t.mask:=by rw[<- LJ]
   have tp:t'.place=insertAt t.place (below t.place j) j:=by rw[<- LJ]
   have td:t'.dummies = #[]:=by rw[<- LJ]
   have VF:t'.fill=es.size+1:=by
    unfold SetTable.fill
    rw[tp,td,cD _ _ (bf T.up j).1,T.sz];simp
   refine ah (wpAny_storeSet_of ho hd ?_ (by rw[zh,sizeLine_eq];lia))
   have y8:(s.heap.update a (Obj.putSet (insertAt es (below t.place j) (aO knd k,.ref x)) t')).get? a=some { o with data:=.set (insertAt es (below t.place j) (aO knd k,.ref x)) (ep+1) t' }:=by
    have:=IY (Obj.putSet (insertAt es (below t.place j) (aO knd k,.ref x)) t') ho (by rw[putSet_of _ _ hd];rfl)
    rw[putSet_of _ _ hd] at this;exact this
   have xt:=Heap.SameBut.update s.heap a (Obj.putSet (insertAt es (below t.place j) (aO knd k,.ref x)) t')
   by_cases c:t'.tooFull=true
   ·rw[if_pos (by rw[c];rfl)]
    have Vk:t'.fits (insertAt es (below t.place j) (aO knd k,Value.ref x)).size=true:=by
     have:=T.few
     simp only[SetTable.fits,VF,kQ,beq_iff_eq,decide_eq_true_eq]
     rw[tp,cD _ _ (bf T.up j).1,zh,T.sz,tm]
     exact⟨rfl,by lia⟩
    obtain⟨t2,order,r1,r2,r3,r4,r5,r6,r7,r8,_⟩:=uT (t:=t') (es:=insertAt es (below t.place j) (aO knd k,Value.ref x)) (by lia)
    rw[zh] at r1 r4
    unfold setRelay
    refine ah (ah (wpAny_setState_of y8 rfl Vk ?_))
    dsimp only
    rw[if_neg (by rw[sizeLine_eq];lia)]
    refine ah ?_
    rw[r1]
    obtain⟨g0,ek,pk⟩:=gU r8 aT
    refine n_ r7 ?_
    dsimp only
    refine wpAny_storeSet_of y8 rfl ?_ (by rw[r7,zh,sizeLine_eq];lia)
    refine aE ?_
    have HZ:=xt.trans (Heap.SameBut.update _ a (Obj.putSet (order.filterMap fun i=>(insertAt es (below t.place j) (aO knd k,Value.ref x))[i]?) t2))
    have oD:=IY (Obj.putSet (order.filterMap fun i=>(insertAt es (below t.place j) (aO knd k,Value.ref x))[i]?) t2) y8 (by rw[putSet_of _ _ rfl];rfl)
    rw[putSet_of _ _ rfl] at oD
    exact h true _ g0 HZ ⟨⟨_,_,_,_,oD,hex,rfl,r6,r5 (by lia),by rw[r3,<- LJ];exact hL,ek⟩,VD g0 (pk.trans HP),VC _ HZ g0 (pk.trans HP)⟩ (.inr ⟨kF,pk.trans HP⟩)
   ·rw[if_neg (by simpa using c)]
    refine aE ?_
    have AO:(es.size+1)*5<t.mask*3:=by
     unfold SetTable.tooFull at c
     rw[VF,tm] at c
     simpa using c
    exact h true _ _ xt ⟨⟨_,_,_,_,y8,hex,rfl,T.put hjm n2 hre tm tp td AO,by rw[tm];exact hM,by rw[<- LJ];exact hL,aT⟩,VD _ HP,VC _ xt _ HP⟩ (.inr ⟨kF,HP⟩)
  split
  ·refine ah (gF hx AR fun b=>?_)
   cases b with
   |true=>exact main t.plain
   |false=>exact main false
  ·exact ah (aE (main t.plain))
end
end TS
namespace TS
open PySem PySem.SetTable PyProof.Rows
section
variable {prog:Program}{w:World}{A:Around}{R:Result->Shared->Prop}{I:Addr}{fp wr:List Addr}{n:Nat}{P:Nat->Value->Prop}{St:Nat->Heap->Prop}
theorem wO(W:Walks prog w A.in1 I fp wr n P St)(S:Addr)(EI:S∉fp)(SI:Nat->Heap->Prop)(keep:∀ i h h',SI i h->(∀ b o,b∉wr->h.get? b=some o->h'.get? b=some o)->SI i h')
  (step:∀ (i:Nat) (v:Value) (s':Shared) (E':Value->Shared->Prop) (Q:Bool->Shared->Prop),P i v->SI i s'.heap->(∀ b h' tk,Heap.SameBut S s'.heap h'->SI (i+1) h'->Q b { s' with heap:=h',toks:=tk })->wpAny (model prog w) A.in1 (setAdd S v) Q E' s') :
  ∀ (k i:Nat) (s:Shared),n-i=k->i<=n->St i s.heap->SI i s.heap ->
   (∀ h' tk,SI n h'->(∀ b o,b∉wr->b≠S->s.heap.get? b=some o->h'.get? b=some o)->R (.ok (.ret .none)) { s with heap:=h',toks:=tk }) ->
   codeAny (model prog w) A (.builtin "set.update.loop" ⟨[.ref S,.ref I],[]⟩) R s:=by
 have hSw:S∉wr:=fun h=>EI (W.sub _ h)
 intro k
 induction k with
 |zero =>
  intro i s hk hi jv hS hR
  have aT:i=n:=by lia
  subst aT
  refine codeAny_builtin F.entry_set_update_loop ?_
  rw[Around.under_plainId F.plain_set_update_loop _]
  show wpAny _ A.in1 (pyNext (.ref I) >>= _) _ _ s
  refine ah (W.done s _ _ jv fun h' tk iE=>?_)
  show wpAny _ A.in1 (ret Value.none) _ _ _
  exact aE (hR h' tk (keep _ _ _ hS iE) fun b o hb _ e=>iE b o hb e)
 |succ k ih =>
  intro i s hk hi jv hS hR
  have cS:i<n:=by lia
  refine codeAny_builtin F.entry_set_update_loop ?_
  rw[Around.under_plainId F.plain_set_update_loop _]
  show wpAny _ A.in1 (pyNext (.ref I) >>= _) _ _ s
  refine ah (W.item i s _ _ cS jv fun v h' tk hP bv' iE=>?_)
  show wpAny _ A.in1 (holding [v] (setAdd S v) >>= _) _ _ _
  refine ah (wpAny_holding (step i v _ _ _ hP (keep _ _ _ hS iE) fun b h2 tk2 sb hS2=>?_))
  refine aE ⟨plainId_quiet F.plain_set_update_loop _,ih (i+1) _ (by lia) cS (W.frame _ _ _ bv' fun b hb o e=>?_) hS2 fun h3 tk3 hS3 Ee=>?_⟩
  ·exact sb.extBut b o (fun z=>EI (by rw[<- z];exact hb)) e
  ·exact hR h3 tk3 hS3 fun b o hb LK e=>Ee b o hb LK (sb.extBut b o LK (iE b o hb e))
end
section
variable {prog:Program}{w:World}{A:Around}{E:Value->Shared->Prop}{s:Shared}
theorem uf(a:Value)
  (h:Q₁ (.ref s.heap.objs.size) { s with heap:=s.heap.push { cls:=.type "set",dict:=none,data:=.set #[] 0 (.fresh 0 0 (!w.params.followText "set-order")) } }) :
  codeAny (model prog w) A (.call (.builtin "set.__new__") ⟨[.type "set",a],[]⟩) (wants Q₁ E) s:=by
 refine codeAny_of_tree ?_
 show wpAny _ A.in1 (do checkBuiltinCall "set.__new__" ⟨[.type "set",a],[]⟩;again (.builtin "set.__new__" ⟨[.type "set",a],[]⟩)) _ _ s
 refine ah (wpAny_of_eq (F.newCall_set_1 a) (aE ⟨plainId_quiet F.plain_set_new _,codeAny_builtin F.entry_set_new ?_⟩))
 rw[Around.under_plainId F.plain_set_new _]
 unfold Builtin.«set.__new__» Builtin.Frozenset.newClass
 have Rg:=sub_set_self
 obtain⟨hp,g,d,tk,os⟩:=s
 dsimp only
 wp_walk
 refine wpAny_askSetting (aE ?_)
 dsimp only
 simp only[newObj]
 refine ah (wpAny_alloc (aE ?_))
 exact aE h
theorem mV(hh:A.handled=none)(hl:s.heap.IsList l items)(SI:Nat->Heap->Prop)
  (h0:∀ h,h.get? s.heap.objs.size=some { cls:=.type "set",dict:=none,data:=.set #[] 0 (.fresh 0 0 (!w.params.followText "set-order")) }->(∀ b o,s.heap.get? b=some o->h.get? b=some o)->SI 0 h)
  (keep:∀ i h h',SI i h->(∀ b o,b<=s.heap.objs.size->h.get? b=some o->h'.get? b=some o)->SI i h')
  (step:∀ (i:Nat) (v:Value) (s':Shared) (E':Value->Shared->Prop) (Q:Bool->Shared->Prop),items[i]? = some v->SI i s'.heap->(∀ b h' tk,Heap.SameBut s.heap.objs.size s'.heap h'->SI (i+1) h'->Q b { s' with heap:=h',toks:=tk }) ->
   wpAny (model prog w) A.in1.in1.in1 (setAdd s.heap.objs.size v) Q E' s')
  (h:∀ (h':Heap) (tk:Nat),SI items.size h'->(∀ b o,b<s.heap.objs.size->s.heap.get? b=some o->h'.get? b=some o)->Q (.ref s.heap.objs.size) { s with heap:=h',toks:=tk }) :
  wpAny (model prog w) A (call (.type "set") [.ref l]) Q E s:=by
 obtain⟨c,tl,fk'⟩:=F.called_set.mro
 have fm':=F.called_set.made
 have Rg:=F.called_set.sub
 refine wpAny_call (codeAny_of_tree ?_)
 show wpAny _ _ (callAny (.type "set") _) _ _ _
 refine aE ⟨Code.quiet_builtin _ (by decide +kernel),codeAny_builtin F.entry_type_call ?_⟩
 rw[Around.under_plain (weight_type_call_type "set" [.ref l] []) rfl]
 have h1:=F.called_set.notType
 have h2:=F.called_set.canCreate
 have hct:=F.typeCall_set_1 (.ref l)
 repeat (any_goals (first|assumption|wp_step))
 refine codeAny_mono (uf (.ref l) (E:=E) (Q₁:=fun obj dv=>obj=.ref s.heap.objs.size/\dv={ s with heap:=s.heap.push { cls:=.type "set",dict:=none,data:=.set #[] 0 (.fresh 0 0 (!w.params.followText "set-order")) } }) ⟨rfl,rfl⟩) fun r dv hr=>?_
 cases r with
 |error e=>exact hr
 |ok fl =>
  cases fl with
  |ret obj =>
   obtain⟨rfl,rfl⟩:=hr
   generalize fo':(!w.params.followText "set-order")=led at h0 ⊢
   have hS:(s.heap.push { cls:=.type "set",dict:=none,data:=.set #[] 0 (.fresh 0 0 led) }).get? s.heap.objs.size=some { cls:=.type "set",dict:=none,data:=.set #[] 0 (.fresh 0 0 led) }:=i6 _ rfl
   have hT:Shared.TypeIs { s with heap:=s.heap.push { cls:=.type "set",dict:=none,data:=.set #[] 0 (.fresh 0 0 led) } } (.ref s.heap.objs.size) "set" := ⟨_,hS,rfl⟩
   have hli:=F.called_set.init.lookup
   have hbi:=F.called_set.init.bind (.ref s.heap.objs.size)
   repeat (any_goals (first|assumption|wp_step))
   refine codeAny_mono (codeAny_call_builtin (R:=wants (fun r D1=>r=.none/\∃ h' tk,D1={ s with heap:=h',toks:=tk }/\SI items.size h' /\
     (∀ b o,b<s.heap.objs.size->s.heap.get? b=some o->h'.get? b=some o)) E) F.called_set.init.plain F.entry_set_init (check_set_init_1 hT ?_)) fun bz' D1 Rh=>?_
   ·obtain⟨ol,VG,nh,nl,VH⟩:=hl
    obtain⟨fr',bA',fs',bB'⟩:=ol
    simp only at nh VH
    subst nh;subst VH
    have bC':(s.heap.push { cls:=.type "set",dict:=none,data:=.set #[] 0 (.fresh 0 0 led) }).get? l=some { cls:=.type "list",dict:=bA',data:=.seq items nl,slots:=bB' }:=eS _ VG
    have ft':=F.sub_list_set
    have fu':=F.sub_list_frozenset
    have jI:(Value.type "list" == Value.type "dict")=false:=by decide
    have vk:(s.heap.push { cls:=.type "set",dict:=none,data:=.set #[] 0 (.fresh 0 0 led) }).IsList l items:=⟨_,bC',rfl,nl,rfl⟩
    unfold Builtin.«set.__init__» noKeywords Builtin.Frozenset.updateFrom
    generalize hPI:pyIter=PI
    wp_walk
    subst hPI
    refine wpAny_pyIter_list vk ?_
    refine ah (wpAny_runValue ?_)
    have VJ:l<s.heap.objs.size:=dn VG
    have hh3:A.in1.in1.in1.handled=none:=by simp[hh]
    have hsz:(s.heap.push { cls:=.type "set",dict:=none,data:=.set #[] 0 (.fresh 0 0 led) }).objs.size=s.heap.objs.size+1:=Heap.size_push ..
    have bF':l≠(s.heap.push { cls:=.type "set",dict:=none,data:=.set #[] 0 (.fresh 0 0 led) }).objs.size:=by
     rw[hsz];exact eP (sM VJ)
    have EI:s.heap.objs.size∉[(s.heap.push { cls:=.type "set",dict:=none,data:=.set #[] 0 (.fresh 0 0 led) }).objs.size,l]:=by
     rw[hsz];simp only[cK,pV,zD,or_false,not_or]
     exact⟨eP (Nat.lt_succ_self _),Jn VJ⟩
    refine wO (Walks.list hh3 _ l bF' items) s.heap.objs.size EI SI (fun i h h' hi hk=>keep i h h' hi fun b o hb e=>hk b o ?_ e) (fun i v s' E' Q' hP hi hq=>step i v s' E' Q' hP hi hq) (items.size-0) 0 _ (by lia) (dQ _)
     ⟨⟨_,i6 _ rfl,rfl,rfl⟩,(vk.push _)⟩ ?hS0 ?hR
    ·rw[hsz]
     simp only[cK,zD,or_false]
     exact eP (Fm hb)
    case hS0 =>
     exact h0 _ (eS _ hS) fun b o e=>eS _ (eS _ e)
    case hR =>
     intro h' LM LN iE
     show wpAny _ _ _ _ _ _
     refine aE ?_
     show wpAny _ _ (ret Value.none) _ _ _
     refine aE ⟨rfl,h',LM,rfl,LN,fun b o hb e=>?_⟩
     refine iE b o ?_ (eP hb) (eS _ (eS _ e))
     rw[hsz]
     simp only[cK,zD,or_false]
     exact eP (sM hb)
   ·cases bz' with
    |error e=>exact Rh
    |ok bH' =>
     cases bH' with
     |ret r =>
      obtain⟨rfl,h',tk,rfl,LN,iE⟩:=Rh
      repeat (any_goals (first|assumption|wp_step))
      exact h _ _ LN iE
     |_=>exact Rh.elim
  |_=>exact hr.elim
end
theorem mU:Manifest.owners.lookup (String.ofList ['r','o','t','a','r','e','t','i','_','t','e','s'].reverse)=some Manifest.sig_set_iterator:=by kernel_rfl
theorem bB:Slot "set_iterator" "__next__" "set_iterator.__next__" :=
 .of (owner := "set_iterator") (n := "__next__") (by rw[typeLookup_type,builtinLookup_eq_fast];kernel_rfl) (by decide +kernel) (by decide +kernel) (by decide +kernel)
  (by first|exact .inl (by decide +kernel)|exact .inr (by decide +kernel)) (by rw[isSubtype_type];kernel_rfl)
theorem jJ:entryFor table "set_iterator.__next__" = some Builtin.«set_iterator.__next__» := entryFor_of_tree (by kernel_rfl)
theorem mj (a:Value):argsOk "set_iterator.__next__" ⟨[a],[]⟩:=by
 unfold argsOk;rw[signature?_of (id := "set_iterator.__next__") (n:=['_','_','t','x','e','n','_','_']) (o:=['r','o','t','a','r','e','t','i','_','t','e','s']) (by kernel_rfl) mU];kernel_rfl
theorem fV:Slot "set_iterator" "__iter__" "set_iterator.__iter__" :=
 .of (owner := "set_iterator") (n := "__iter__") (by rw[typeLookup_type,builtinLookup_eq_fast];kernel_rfl) (by decide +kernel) (by decide +kernel) (by decide +kernel)
  (by first|exact .inl (by decide +kernel)|exact .inr (by decide +kernel)) (by rw[isSubtype_type];kernel_rfl)
theorem jK:entryFor table "set.__iter__" = some Builtin.«frozenset.__iter__» :=
 entryFor_alias (id' := "frozenset.__iter__") (by kernel_rfl) rfl (by decide +kernel) (by kernel_rfl)
theorem gD:∀ (l:List α) (i:Nat) (h:i<l.length),(l[i] :: l.eraseIdx i).Perm l
 |x :: l,0,_=>.refl _
 |x :: l,i+1,h=>by
  have ih:=gD l i (by simpa using h)
  exact(List.Perm.swap _ _ _).trans (ih.cons x)
theorem vH(next:Nat->Nat):∀ (fuel k:Nat) (left:List α) (out:Array α),left.length=fuel->(pickOrder.go next fuel k left out).toList.Perm (out.toList++left)
 |0,k,left,out,h=>by
  have:left=[]:=Mq.mp h
  subst this
  unfold pickOrder.go
  rw[nV]
 |fuel+1,k,left,out,h=>by
  unfold pickOrder.go
  have cS:next k % left.length<left.length:=FC _ (by lia)
  rw[kN cS]
  dsimp only
  refine(vH next fuel (k+1) _ _ (by rw[List.length_eraseIdx];split<;>lia)).trans ?_
  rw[mP,vF]
  refine List.Perm.append_left _ ?_
  exact gD _ _ cS
theorem jy(next:Nat->Nat)(xs:Array α):(pickOrder next xs).toList.Perm xs.toList:=by
 unfold pickOrder
 have:=vH next xs.size 0 xs.toList #[] (by simp)
 simpa using this
section
variable {prog:Program}{w:World}{A:Around}{E:Value->Shared->Prop}{s:Shared}
theorem oh(hn:n≠0)(h:∀ i d,i<n->Q i { s with drawn:=d }):wpAny M A (choose src n) Q E s:=fun Γ p _=>⟨hn,h _ _ (FC _ (Nat.pos_of_ne_zero hn))⟩
theorem Al(n:Nat):∀ (xs:List α) (s:Shared) (Q:List α->Shared->Prop),xs.length=n->(∀ ys d,ys.Perm xs->Q ys { s with drawn:=d })->wpAny (model prog w) A (drawOrder n xs) Q E s:=by
 induction n with
 |zero =>
  intro xs s Q h q
  have:xs=[]:=Mq.mp h
  subst this
  unfold drawOrder
  exact aE (q [] s.drawn (.refl _))
 |succ n ih =>
  intro xs s Q h q
  cases xs with
  |nil=>cases h
  |cons x xs =>
   unfold drawOrder
   refine ah (oh (by simp) fun i d hi=>?_)
   rw[kN hi]
   dsimp only
   refine ah (ih _ _ _ (by rw[List.length_eraseIdx,if_pos hi];simp at h ⊢;lia) fun ys d' py=>?_)
   refine aE ?_
   exact q _ d' ((py.cons _).trans (gD _ _ hi))
def pf(h:Heap)(I:Addr)(first:Value)(i:Nat)(a:Addr)(n ep:Nat):Prop :=
 h.get? I=some { cls:=.type "set_iterator",dict:=none,data:=.fields #[first,.int i 0,.ref a,.int n 0,.int ep 0],slots:=#[] }
def zo(h:Heap)(a:Addr)(es:Array (Int × Value))(ep:Nat)(t:SetTable):Prop:=∃ o,h.get? a=some o/\o.data=.set es ep t
variable {a I:Addr}{es:Array (Int × Value)}{ep:Nat}{t:SetTable}{first:Value}{i n:Nat}
theorem pf.typeIs (h:pf s.heap I first i a n ep):s.TypeIs (.ref I) "set_iterator" := ⟨_,h,rfl⟩
theorem uA(hit:pf s.heap I first i a n ep)
  (h:wpAny (model prog w) A.in1 (Builtin.«set_iterator.__next__» ⟨[.ref I],[]⟩) (fun fin s'=>∃ v,fin=.done (.ret v)/\Q (some v) s') (fun e s'=>wpAny (model prog w) A (isInstance e (.type "StopIteration")) (fun b B3=>b=true/\Q none B3) E s') s) :
  wpAny (model prog w) A (pyNext (.ref I)) Q E s:=by
 unfold pyNext
 refine ah (wpAny_attempt (wpAny_callSpecial?_slot (name:=Str.ofString "__next__") hit.typeIs bB
  (wpAny_call_entry bB hit.typeIs jJ ?_ (mj _))))
 refine oy h (fun fin s' ⟨v,e,q⟩=>⟨v,e,aE q⟩) fun e s' q=>?_
 refine ah (oy q (fun b B3 df=>?_) fun _ _ x=>x)
 obtain⟨e,q⟩:=df
 subst e
 rw[if_pos rfl]
 exact aE q
theorem vO{P:Fin->Shared->Prop}{Q:Option Value->Shared->Prop}(hh:A.handled=none)(hQ:∀ h',(∀ b o,s.heap.get? b=some o->h'.get? b=some o)->Q none { s with heap:=h' }) :
  wpAny (model prog w) A.in1 (newExc (.type "StopIteration") [] >>= fun e=>raiseNew e) P (fun e s'=>wpAny (model prog w) A (isInstance e (.type "StopIteration")) (fun b B3=>b=true/\Q none B3) E s') s:=by
 refine ah ?_
 simp only[newExc,newTuple]
 refine ah (wpAny_newObj_type ?_ (by size_fits))
 refine ah (m:=firstArgMember _ _) (wpAny_of_eq (a:=Value.none) (by first|rfl|(simp only[firstArgMember];rfl)) ?_)
 refine wpAny_newObj_type ?_ (by size_fits)
 simp only[raiseNew]
 refine ah (wpAny_handled ?_)
 rw[show A.in1.handled=none from hh]
 refine ah (aE (wpAny_throw ?_))
 refine wpAny_isInstance (T := "StopIteration") (b:=true) ⟨_,i6 _ rfl,rfl⟩ isSubtype_stop ⟨rfl,?_⟩
 exact hQ _ fun b o e=>eS _ (eS _ e)
theorem fW{Q:Option Value->Shared->Prop}{slot:Nat}{r:Option (Value × Nat)}(hh:A.handled=none)(jI:a≠I)(hit:pf s.heap I (.int slot 0) i a es.size ep)(EJ:zo s.heap a es ep t)(hf:t.fits es.size=true)
  (hr:∀ (A':Around) (E':Value->Shared->Prop) (Q':Option (Value × Nat)->Shared->Prop),Q' r s->wpAny (model prog w) A' (setNext a slot i ep) Q' E' s)
  (h1:∀ x nx h',r=some (x,nx)->pf h' I (.int nx 0) (i+1) a es.size ep->Heap.SameBut I s.heap h'->Q (some x) { s with heap:=h' })
  (h2:∀ h',r=none->(∀ b o,b≠I->s.heap.get? b=some o->h'.get? b=some o)->Q none { s with heap:=h' }) :
  wpAny (model prog w) A (pyNext (.ref I)) Q E s:=by
 obtain⟨o,ho,hd⟩:=EJ
 refine uA hit ?_
 unfold Builtin.«set_iterator.__next__»
 refine ah (m:=slotArgs "__next__" 0 ⟨[.ref I],[]⟩) (wpAny_of_eq (a:=(.ref I,[])) rfl ?_)
 dsimp only
 refine ah (wpAny_fieldsOf hit rfl ?_)
 dsimp only
 refine ah (wpAny_setEntries_of ho hd hf ?_)
 rw[if_neg (by simp)]
 simp only[FE]
 refine ah (hr _ _ _ ?_)
 cases r with
 |some p =>
  obtain⟨x,nx⟩:=p
  dsimp only
  refine ah (wpAny_setField_rec hit (by simp) fun g1 e1 xt=>?_)
  refine ah (wpAny_setField_rec (s:={ s with heap:=g1 }) e1 (by simp) fun g2 e2 HZ=>?_)
  exact aE ⟨x,rfl,h1 x nx g2 rfl (by unfold pf;simpa[rawInt] using e2) (xt.trans HZ)⟩
 |none =>
  dsimp only
  refine ah (wpAny_setField_rec hit (by simp) fun g1 e1 xt=>?_)
  exact vO (s:={ s with heap:=g1 }) hh fun h' k=>h2 h' rfl fun b o hb e=>k b o (xt.extBut b o hb e)
theorem jY{Q:Option Value->Shared->Prop}{T:Addr}{ix:List Nat}{oT:Obj}{kT:Nat}(hh:A.handled=none)(hit:pf s.heap I (.ref T) i a es.size ep)(EJ:zo s.heap a es ep t)(hf:t.fits es.size=true)
  (hT:s.heap.get? T=some oT) (hTd:oT.data=.seq (ix.map fun(k:Nat)=>Value.int k 0).toArray kT)
  (h1:∀ k e h',ix[i]? = some k->es[k]? = some e->pf h' I (.ref T) (i+1) a es.size ep->Heap.SameBut I s.heap h'->Q (some e.2) { s with heap:=h' }) (vj:∀ k∈ix,k<es.size)
  (h2:∀ h',ix[i]? = none->(∀ b o,b≠I->s.heap.get? b=some o->h'.get? b=some o)->Q none { s with heap:=h' }) :
  wpAny (model prog w) A (pyNext (.ref I)) Q E s:=by
 obtain⟨o,ho,hd⟩:=EJ
 refine uA hit ?_
 unfold Builtin.«set_iterator.__next__»
 refine ah (m:=slotArgs "__next__" 0 ⟨[.ref I],[]⟩) (wpAny_of_eq (a:=(.ref I,[])) rfl ?_)
 dsimp only
 refine ah (wpAny_fieldsOf hit rfl ?_)
 dsimp only
 refine ah (wpAny_setEntries_of ho hd hf ?_)
 rw[if_neg (by simp)]
 refine ah (wpAny_seqItems hT hTd ?_)
 dsimp only
 simp only[FE,List.getElem?_toArray,nL]
 cases hk:ix[i]? with
 |some k =>
  dsimp only[Option.map]
  have kL:=vj k (kP hk)
  refine ah ?_
  unfold setNextDrawn
  refine ah (wpAny_setState_of ho hd hf ?_)
  dsimp only
  simp only[FE]
  rw[if_neg (by simp),x8 kL]
  refine aE ?_
  refine ah (wpAny_setField_rec hit (by simp) fun g1 e1 xt=>?_)
  exact aE ⟨_,rfl,h1 k es[k] g1 hk (x8 kL) (by unfold pf;simpa[rawInt] using e1) xt⟩
 |none =>
  dsimp only[Option.map]
  refine ah (wpAny_setField_rec hit (by simp) fun g1 e1 xt=>?_)
  refine ah (wpAny_setField_rec (s:={ s with heap:=g1 }) e1 (by simp) fun g2 e2 HZ=>?_)
  exact vO (s:={ s with heap:=g2 }) hh fun h' k=>h2 h' hk fun b o hb e=>k b o ((xt.trans HZ).extBut b o hb e)
theorem lL (a:Value):argsOk "set_iterator.__iter__" ⟨[a],[]⟩:=by
 unfold argsOk;rw[signature?_of (id := "set_iterator.__iter__") (n:=['_','_','r','e','t','i','_','_']) (o:=['r','o','t','a','r','e','t','i','_','t','e','s']) (by kernel_rfl) mU];kernel_rfl
theorem jR:entryFor table "set_iterator.__iter__" = some Builtin.«dict_keyiterator.__iter__» :=
 entryFor_alias (id' := "dict_keyiterator.__iter__") (by kernel_rfl) rfl (by decide +kernel) (by kernel_rfl)
theorem iZ(hit:pf s.heap I first i a n ep)(h:Q (.ref I) s):wpAny (model prog w) A (pyIter (.ref I)) Q E s:=by
 refine wpAny_pyIter_slot hit.typeIs fV (wpAny_call_entry fV hit.typeIs jR ?_ (lL _))
 show wpAny _ _ (ret (.ref I)) _ _ s
 exact aE ⟨_,rfl, "set_iterator",_,hit.typeIs,bB.lookup,h⟩
theorem nu {slot:Nat} {Q:Option (Value × Nat)->Shared->Prop} (hb:w.params.followText "set-order" = true) (EJ:zo s.heap a es ep t) (hf:t.fits es.size=true)
  (h:Q (((pickOrder (w.params.setOrder a ep) es)[i]?).map fun e=>(e.2,slot)) s):wpAny (model prog w) A (setNext a slot i ep) Q E s:=by
 obtain⟨o,ho,hd⟩:=EJ
 unfold setNext
 refine ah (wpAny_setState_of ho hd hf ?_)
 dsimp only
 unfold setsByText
 refine ah (ah (wpAny_askSetting (aE ?_)))
 dsimp only
 rw[if_pos (by exact hb),if_neg (by simp)]
 refine ah ?_
 unfold setWalk
 refine ah (wpAny_setState_of ho hd hf ?_)
 dsimp only
 unfold setsByText
 refine ah (ah (wpAny_askSetting (aE ?_)))
 dsimp only
 rw[if_pos (by exact hb)]
 refine ah (wpAny_askSetting (aE ?_))
 exact aE h
theorem kJ {slot:Nat} {Q:Option (Value × Nat)->Shared->Prop} (hb:w.params.followText "set-order" = false) (hl:t.led=true) (Ic:(!t.plain && decide (es.size>1))=false) (EJ:zo s.heap a es ep t) (hf:t.fits es.size=true)
  (h:Q (match es[below t.place slot]?,t.place[below t.place slot]? with
  |some (_,x),some j=>some (x,j+1)
  |_,_=>none) s):wpAny (model prog w) A (setNext a slot i ep) Q E s:=by
 obtain⟨o,ho,hd⟩:=EJ
 unfold setNext
 refine ah (wpAny_setState_of ho hd hf ?_)
 dsimp only
 unfold setsByText
 refine ah (ah (wpAny_askSetting (aE ?_)))
 dsimp only
 rw[if_neg (by rw[show(model prog w).w.params.followText "set-order" = false from hb];exact gI)]
 have e0:lK es t=(!t.plain && decide (es.size>1)):=rfl
 unfold lK at e0
 rw[e0,Ic,if_neg gI]
 refine ah (m:=Gy es t) ?_
 show wpAny _ _ (if (!t.led && !es.isEmpty)=true then unsupported "set:maker-not-led" else pure ()) _ _ s
 rw[if_neg (by rw[hl];simp)]
 exact aE (aE h)
def PV(ys:List (Int × Value))(i:Nat)(v:Value):Prop:=∃ e,ys[i]? = some e/\v=e.2
theorem pf.keep(x:pf h I first i a n ep)(e:∀ o,h.get? I=some o->h'.get? I=some o):pf h' I first i a n ep:=e _ x
theorem zo.keep(x:zo h a es ep t)(e:∀ o,h.get? a=some o->h'.get? a=some o):zo h' a es ep t:=let ⟨o,ho,r⟩:=x;⟨o,e _ ho,r⟩
theorem vP (hh:A.handled=none) (jI:a≠I) (hb:w.params.followText "set-order" = true) (hf:t.fits es.size=true) :
  Walks prog w A I [I,a] [I] es.size (PV (pickOrder (w.params.setOrder a ep) es).toList) (fun i h=>(∃ slot:Nat,pf h I (.int slot 0) i a es.size ep)/\zo h a es ep t) where
 sub:=fun b hb=>by simp at hb;simp[hb]
 frame:=fun _ _ _ ⟨⟨sl,x⟩,y⟩ hk=>⟨⟨sl,x.keep fun o e=>hk I (by simp) o e⟩,y.keep fun o e=>hk a (by simp) o e⟩
 item:=fun i s Q E hi ⟨⟨sl,x⟩,y⟩ hQ=>by
  have hlen:(pickOrder (w.params.setOrder a ep) es).size=es.size:=by
   have:=(jy (w.params.setOrder a ep) es).length_eq
   simpa using this
  refine fW hh jI x y hf (r:=((pickOrder (w.params.setOrder a ep) es)[i]?).map fun e=>(e.2,sl)) (fun A' E' Q' q=>nu hb y hf q) (fun v nx h' e x' sb=>?_) fun h' e k=>?_
  ·rw[x8 (by lia)] at e
   cases e
   exact hQ _ h' s.toks ⟨_,by rw[kR];exact x8 (by lia),rfl⟩ ⟨⟨_,x'⟩,y.keep fun o e=>sb.extBut _ _ jI e⟩ fun b o hb e=>sb.extBut b o (fun h=>hb (by simp[h])) e
  ·rw[x8 (by lia)] at e
   cases e
 done:=fun s Q E ⟨⟨sl,x⟩,y⟩ hQ=>by
  have hlen:(pickOrder (w.params.setOrder a ep) es).size=es.size:=by
   have:=(jy (w.params.setOrder a ep) es).length_eq
   simpa using this
  refine fW hh jI x y hf (r:=((pickOrder (w.params.setOrder a ep) es)[es.size]?).map fun e=>(e.2,sl)) (fun A' E' Q' q=>nu hb y hf q) (fun v nx h' e x' sb=>?_) fun h' e k=>?_
  ·rw[BO (by lia)] at e
   cases e
  ·exact hQ h' s.toks fun b o hb e=>k b o (fun h=>hb (by simp[h])) e
 self:=fun _ _ _ _ ⟨⟨sl,x⟩,y⟩ hQ=>iZ x hQ
def slotAt(t:SetTable):Nat->Nat
 |0=>0
 |i+1=>t.place.getD i 0+1
theorem gW(U:Up t.place)(h:i<=t.place.size):below t.place (slotAt t i)=i:=by
 cases i with
 |zero =>
  obtain⟨_,b,_⟩:=bf U 0
  by_cases z:below t.place 0=0
  ·exact z
  ·exact absurd (b 0 (Nat.pos_of_ne_zero z)) (xS _)
 |succ i=>exact sU U (by lia)
theorem sG (hh:A.handled=none) (jI:a≠I) (hb:w.params.followText "set-order" = false) (hl:t.led=true) (Ic:(!t.plain && decide (es.size>1))=false) (U:Up t.place) (hz:t.place.size=es.size) (hf:t.fits es.size=true) :
  Walks prog w A I [I,a] [I] es.size (PV es.toList) (fun i h=>pf h I (.int (slotAt t i:Nat) 0) i a es.size ep/\zo h a es ep t) where
 sub:=fun b hb=>by simp at hb;simp[hb]
 frame:=fun _ _ _ ⟨x,y⟩ hk=>⟨x.keep fun o e=>hk I (by simp) o e,y.keep fun o e=>hk a (by simp) o e⟩
 item:=fun i s Q E hi ⟨x,y⟩ hQ=>by
  have HV:=gW (t:=t) U (i:=i) (by lia)
  have e1:es[below t.place (slotAt t i)]? = some es[i]:=by rw[HV];exact x8 hi
  have e2:t.place[below t.place (slotAt t i)]? = some (t.place.getD i 0):=by rw[HV];exact uh (by lia)
  refine fW hh jI x y hf (r:=some (es[i].2,t.place.getD i 0+1)) (fun A' E' Q' q=>kJ hb hl Ic y hf (by rw[e1,e2];exact q)) (fun v nx h' e x' sb=>?_) fun h' e k=>nomatch e
  cases e
  exact hQ _ h' s.toks ⟨_,by rw[kR];exact x8 hi,rfl⟩ ⟨x',y.keep fun o e=>sb.extBut _ _ jI e⟩ fun b o hb e=>sb.extBut b o (fun h=>hb (by simp[h])) e
 done:=fun s Q E ⟨x,y⟩ hQ=>by
  have HV:=gW (t:=t) U (i:=es.size) (by lia)
  have e1:es[below t.place (slotAt t es.size)]? = none:=by rw[HV];exact BO (bX _)
  refine fW hh jI x y hf (r:=none) (fun A' E' Q' q=>kJ hb hl Ic y hf (by rw[e1];exact q)) (fun v nx h' e x' sb=>nomatch e) fun h' e k=>?_
  exact hQ h' s.toks fun b o hb e=>k b o (fun h=>hb (by simp[h])) e
 self:=fun _ _ _ _ ⟨x,y⟩ hQ=>iZ x hQ
theorem sJ{T:Addr}{ix:List Nat}{kT:Nat}(hh:A.handled=none)(jI:a≠I)(hTI:T≠I)(hf:t.fits es.size=true)(hp:ix.Perm (List.range es.size)) :
  Walks prog w A I [I,a,T] [I] es.size (PV (ix.filterMap fun k=>es[k]?)) (fun i h=>pf h I (.ref T) i a es.size ep/\zo h a es ep t/\∃ o,h.get? T=some o/\o.data=.seq (ix.map fun(k:Nat)=>Value.int k 0).toArray kT):=by
 have hlen:ix.length=es.size:=by simpa using hp.length_eq
 have vj:∀ k∈ix,k<es.size:=fun k hk=>rh.mp (hp.mem_iff.mp hk)
 obtain⟨f1,f2⟩:=qz (l:=ix) (f:=fun k=>es[k]?) fun k hk=>by simp[vj k hk]
 exact {
  sub:=fun b hb=>by simp at hb;simp[hb]
  frame:=fun _ _ _ ⟨x,y,o,z,zd⟩ hk=>⟨x.keep fun o e=>hk I (by simp) o e,y.keep fun o e=>hk a (by simp) o e,o,hk T (by simp) o z,zd⟩
  item:=fun i s Q E hi ⟨x,y,o,z,zd⟩ hQ=>by
   refine jY hh x y hf z zd (fun k e h' e1 e2 x' sb=>?_) vj fun h' e k=>?_
   ·refine hQ _ h' s.toks ⟨e,by rw[f2,e1];exact e2,rfl⟩ ⟨x',y.keep fun o e=>sb.extBut _ _ jI e,o,sb.extBut _ _ hTI z,zd⟩ fun b o hb e=>sb.extBut b o (fun h=>hb (by simp[h])) e
   ·rw[kN (by lia)] at e;cases e
  done:=fun s Q E ⟨x,y,o,z,zd⟩ hQ=>by
   refine jY hh x y hf z zd (fun k e h' e1 e2 x' sb=>?_) vj fun h' e k=>?_
   ·rw[sL (by lia)] at e1;cases e1
   ·exact hQ h' s.toks fun b o hb e=>k b o (fun h=>hb (by simp[h])) e
  self:=fun _ _ _ _ ⟨x,_⟩ hQ=>iZ x hQ }
end
section
variable {prog:Program}{w:World}{A:Around}{E:Value->Shared->Prop}{s:Shared}{a:Addr}{o:Obj}{es:Array (Int × Value)}{ep:Nat}{t:SetTable}
theorem yl (hh:A.handled=none) (ho:s.heap.get? a=some o) (hex:o.ExactSet) (hd:o.data=.set es ep t) (hf:t.fits es.size=true) (U:Up t.place) (hz:t.place.size=es.size) (hl:t.led=(!w.params.followText "set-order")) (hn:es.size<=sizeLine)
  (h:∀ (I:Addr) (h2:Heap) d (fp:List Addr) (St:Nat->Heap->Prop) (ys:List (Int × Value)),(∀ b o,s.heap.get? b=some o->h2.get? b=some o)->s.heap.objs.size<=I->(∀ b∈fp,b=a\/s.heap.objs.size<=b)->ys.Perm es.toList ->
   Walks prog w A I fp [I] es.size (PV ys) St->St 0 h2->Q (.ref I) { s with heap:=h2,drawn:=d }):wpAny (model prog w) A (pyIter (.ref a)) Q E s:=by
 have hT:s.TypeIs (.ref a) "set" := ⟨o,ho,hex.1⟩
 have cS:a<s.heap.objs.size:=dn ho
 refine wpAny_pyIter_slot hT F.slot_set_iter (wpAny_call_entry F.slot_set_iter hT jK ?_ (F.args_set_iter_1 _))
 unfold Builtin.«frozenset.__iter__»
 refine ah (m:=Builtin.Frozenset.slot0 "__iter__" ⟨[.ref a],[]⟩) (wpAny_of_eq (a:=a) rfl ?_)
 refine ah ?_
 unfold Builtin.Frozenset.sizeOf
 refine ah (wpAny_setEntries_of ho hd hf (aE ?_))
 refine ah ?_
 unfold setDrawn
 refine ah (wpAny_setState_of ho hd hf ?_)
 dsimp only
 unfold setsByText
 refine ah (ah (wpAny_askSetting (aE ?_)))
 refine aE ?_
 have e0:lK es t=(!t.plain && decide (es.size>1)):=rfl
 unfold lK at e0
 rw[e0]
 show wpAny _ _ (if (!w.params.followText "set-order" && (!t.plain && decide (es.size>1)))=true then _ else _) _ _ s
 cases hb:w.params.followText "set-order" with
 |true =>
  rw[if_neg (by simp)]
  refine ah (aE ?_)
  refine ah (wpAny_setEpoch_of ho hd hf ?_)
  refine ah (wpAny_newObj_type ?_)
  refine aE ⟨_,rfl, "set_iterator",_,⟨_,i6 _ rfl,rfl⟩,bB.lookup,?_⟩
  have kU:(s.heap.push { cls:=.type "set_iterator",data:=.fields #[rawInt 0,rawInt 0,.ref a,rawInt es.size,rawInt ep] }).get? a=some o:=eS _ ho
  exact h s.heap.objs.size _ s.drawn _ _ _ (fun b o e=>eS _ e) (bX _) (fun b hb=>by
   rcases cK.mp hb with rfl|hb
   ·exact .inr (bX _)
   ·exact .inl (pV.mp hb)) (jy _ _) (vP (ep:=ep) hh (eP cS) hb hf) ⟨⟨0,i6 _ rfl⟩,o,kU,hd⟩
 |false =>
  cases Ic:(!t.plain && decide (es.size>1)) with
  |false =>
   rw[if_neg (by simp)]
   refine ah (aE ?_)
   refine ah (wpAny_setEpoch_of ho hd hf ?_)
   refine ah (wpAny_newObj_type ?_)
   refine aE ⟨_,rfl, "set_iterator",_,⟨_,i6 _ rfl,rfl⟩,bB.lookup,?_⟩
   have kU:(s.heap.push { cls:=.type "set_iterator",data:=.fields #[rawInt 0,rawInt 0,.ref a,rawInt es.size,rawInt ep] }).get? a=some o:=eS _ ho
   exact h s.heap.objs.size _ s.drawn _ _ _ (fun b o e=>eS _ e) (bX _) (fun b hb=>by
    rcases cK.mp hb with rfl|hb
    ·exact .inr (bX _)
    ·exact .inl (pV.mp hb)) (.refl _) (sG (ep:=ep) hh (eP cS) hb (by rw[hl,hb];rfl) Ic U hz hf) ⟨i6 _ rfl,o,kU,hd⟩
  |true =>
   rw[if_pos (by simp)]
   refine ah (Al es.size (List.range es.size) s _ (by simp) fun ix d hp=>?_)
   refine ah (wpAny_newObj_type ?_ ?hzz)
   case hzz =>
    have:=hp.length_eq
    rw[OV] at this
    show(ix.map fun(i:Nat)=>rawInt i).toArray.size<=sizeLine
    rw[i9,dc,this];exact hn
   have y8:(s.heap.push { cls:=.type "tuple",data:=.seq (ix.map fun(i:Nat)=>rawInt i).toArray }).get? a=some o:=eS _ ho
   refine ah (wpAny_setEpoch_of y8 hd hf ?_)
   refine ah (wpAny_newObj_type ?_)
   refine aE ⟨_,rfl, "set_iterator",_,⟨_,i6 _ rfl,rfl⟩,bB.lookup,?_⟩
   have N_:(s.heap.push { cls:=.type "tuple",data:=.seq (ix.map fun(i:Nat)=>rawInt i).toArray }).objs.size=s.heap.objs.size+1:=Heap.size_push ..
   refine h (s.heap.push { cls:=.type "tuple",data:=.seq (ix.map fun(i:Nat)=>rawInt i).toArray }).objs.size _ d [(s.heap.push { cls:=.type "tuple",data:=.seq (ix.map fun(i:Nat)=>rawInt i).toArray }).objs.size,a,s.heap.objs.size] _ (ix.filterMap fun k=>es[k]?) (fun b o e=>eS _ (eS _ e)) (by rw[N_];exact Nat.le_succ _) (fun b hb=>?_) ?_
    (sJ (ep:=ep) (kT:=0) (T:=s.heap.objs.size) (ix:=ix) (t:=t) hh (by rw[N_];exact eP (sM cS)) (by rw[N_];exact eP (Nat.lt_succ_self _)) hf hp) ⟨i6 _ rfl,⟨o,eS _ y8,hd⟩,_,eS _ (i6 _ rfl),rfl⟩
   ·rcases cK.mp hb with rfl|hb
    ·exact .inr (by rw[N_];exact Nat.le_succ _)
    ·rcases cK.mp hb with rfl|hb
     ·exact .inl rfl
     ·rw[pV.mp hb];exact .inr (bX _)
   ·have:=hp.filterMap fun k=>es[k]?
    rw[qp] at this
    exact this
theorem ym (hT:s.TypeIs (.ref a) "set") (h:Q false s):wpAny (model prog w) A (Builtin.List.listLengthHint (.ref a)) Q E s:=by
 unfold Builtin.List.listLengthHint
 refine ah (wpAny_specialOf hT PySem.F.slot_set_len.lookup ?_)
 generalize VL:("set.__len__" : String)=id0
 wp_delta
 rw[show splitId id0=some ("set", "__len__") from by subst VL;decide +kernel]
 subst VL
 refine ah (wpAny_isInstance (T := "set") (b:=true) hT (by rw[isSubtype_type];kernel_rfl) ?_)
 refine wpAny_ite_split (fun mI=>absurd mI (by decide)) (fun _=>?_)
 refine wpAny_ite_split (fun _=>?_) (fun mI=>absurd (by decide +kernel) mI)
 refine ah (wpAny_typeOf hT ?_)
 exact aE h
theorem zZ {R:Result->Shared->Prop} (hh:A.handled=none) (ho:s.heap.get? a=some o) (hex:o.ExactSet) (hd:o.data=.set es ep t) (hf:t.fits es.size=true) (U:Up t.place) (hz:t.place.size=es.size) (hl:t.led=(!w.params.followText "set-order")) (hn:es.size<=sizeLine)
  (S:Addr) (VM:S≠a) (res:Value) (c₀:Nat) (hS:s.heap.get? S=some { cls:=.type "list",data:=.seq #[] c₀ })
  (hR:∀ h' tk d xa c' ys,(∀ b o,b≠S->s.heap.get? b=some o->h'.get? b=some o)->h'.get? S=some { cls:=.type "list",dict:=none,data:=.seq xa c',slots:=#[] }->ys.Perm es.toList->ItemsOf (PV ys) xa es.size->R (.ok (.ret res)) { s with heap:=h',toks:=tk,drawn:=d }) :
  wpAny (model prog w) A.in1 (Builtin.List.listExtendWith (.ref S) (.ref a) res)
   (fun fin s'=>match fin with|.done f=>R (.ok f) s'|.again c'=>c'.quiet=true/\codeAny (model prog w) A c' R s') (fun e s'=>R (.error e) s') s:=by
 have hT:s.TypeIs (.ref a) "set" := ⟨o,ho,hex.1⟩
 have hSl:=dn hS
 unfold Builtin.List.listExtendWith
 refine ah (wpAny_typeOf hT ?_)
 have h1:Builtin.List.listSameRef (.ref S) (.ref a)=false:=by simp[Builtin.List.listSameRef,VM]
 simp only[h1,show(Value.type "set" == Value.type "list")=false by decide,show(Value.type "set" == Value.type "tuple")=false by decide,Bool.or_false,gL,if_false]
 refine ah (yl (A:=A.in1) hh ho hex hd hf U hz hl hn fun I h2 d fp St ys kp hI hfp hp W st=>?_)
 have EI:S∉fp:=fun hm=>by
  rcases hfp S hm with z|z
  ·exact VM z
  ·exact absurd hSl (Nat.not_lt.mpr z)
 have key:∀ (h:Heap) (c₁ tk:Nat),St 0 h->(∀ b o,b≠S->s.heap.get? b=some o->h.get? b=some o) ->
   h.get? S=some { cls:=.type "list",data:=.seq #[] c₁ }->codeAny (model prog w) A (.builtin "list.extend.loop" ⟨[.ref S,.ref I,res],[]⟩) R { s with heap:=h,toks:=tk,drawn:=d }:=by
  intro h c₁ tk jv hk LP
  refine codeAny_extend_loopS W.toS hn S EI res es.size 0 _ #[] c₁ rfl (dQ _) jv LP (ItemsOf.nil _) fun s' xa c' hm LN AU=>?_
  rw[Moved.eq_with hm]
  refine hR s'.heap s'.toks d xa c' ys (fun b o hb e=>hm.heap b o (fun Ln=>?_) (hk b o hb e)) LN hp AU
  rcases cK.mp Ln with e'|Ln
  ·exact hb e'
  ·exact absurd (dn e) (by rw[pV.mp Ln];exact Nat.not_lt.mpr hI)
 have LP:h2.get? S=some { cls:=.type "list",data:=.seq #[] c₀ }:=kp _ _ hS
 refine ah (wpAny_holding (ym (s:={ s with heap:=h2,drawn:=d }) ⟨o,kp _ _ ho,hex.1⟩ ?_))
 refine wpAny_ite_split (fun _=>?_) (fun _=>aE ⟨plainId_quiet PySem.F.plain_extend_loop _,key _ c₀ _ st (fun b o _ e=>kp b o e) LP⟩)
 refine ah (wpAny_rule ?_)
 refine ah ?_
 show wpAny _ _ (updateSeq S (·.push .none) >>= fun _=>updateSeq S (·.pop)) _ _ _
 refine ah (wpAny_updateSeq LP rfl ?_)
 have VN:=IY (Obj.mapSeq (·.push Value.none)) LP rfl
 refine wpAny_updateSeq (hz:=by seq_fits) VN rfl ?_
 have bO':=IY (Obj.mapSeq (·.pop)) VN rfl
 refine aE ⟨plainId_quiet PySem.F.plain_extend_loop _,key _ _ _ ?_ (fun b o hb e=>?_) bO'⟩
 ·refine W.frame 0 _ _ st fun b hb o e=>?_
  have LK:b≠S:=fun h=>EI (h ▸ hb)
  exact(IX _ _ (Ne.symm LK)).trans ((IX _ _ (Ne.symm LK)).trans e)
 ·exact(IX _ _ (Ne.symm hb)).trans ((IX _ _ (Ne.symm hb)).trans (kp _ _ e))
theorem sS(h:ItemsOf (PV ys) acc n)(hn:ys.length=n):acc.toList=ys.map (·.2):=by
 apply BG
 intro i
 rw[nL]
 by_cases hi:i<n
 ·have iA:i<acc.size:=by rw[h.1];exact hi
  have e1:acc[i]? = some acc[i]:=x8 iA
  obtain⟨e,he,hv⟩:=h.2 i acc[i] e1
  rw[kR,e1,he,hv];rfl
 ·rw[sL (by rw[zS,h.1];lia),sL (by lia)];rfl
theorem iw {R:Result->Shared->Prop} (hh:A.handled=none) (ho:s.heap.get? a=some o) (hex:o.ExactSet) (hd:o.data=.set es ep t) (hf:t.fits es.size=true) (U:Up t.place) (hz:t.place.size=es.size) (hl:t.led=(!w.params.followText "set-order")) (hn:es.size<=sizeLine)
  (hR:∀ h' tk d xa c' ys,(∀ b o,s.heap.get? b=some o->h'.get? b=some o)->h'.get? s.heap.objs.size=some { cls:=.type "list",dict:=none,data:=.seq xa c',slots:=#[] }->ys.Perm es.toList->ItemsOf (PV ys) xa es.size->R (.ok (.ret (.ref s.heap.objs.size))) { s with heap:=h',toks:=tk,drawn:=d }) :
  codeAny (model prog w) A (.builtin "proto.collect" ⟨[.ref a],[]⟩) R s:=by
 have cS:a<s.heap.objs.size:=dn ho
 have hS:(s.heap.push { cls:=.type "list",data:=.seq ([]:List Value).toArray }).get? s.heap.objs.size=some { cls:=.type "list",data:=.seq ([]:List Value).toArray }:=i6 _ rfl
 refine codeAny_builtin F.entry_proto_collect ?_
 rw[Around.under_plainId F.plain_proto_collect _]
 show wpAny _ A.in1 (newList [] >>= fun l=>again (.builtin "list.__iadd__" ⟨[l,.ref a],[]⟩)) _ _ s
 refine ah (wpAny_newObj_type ?_)
 refine aE ⟨plainId_quiet F.plain_list_iadd _,codeAny_builtin F.entry_list_iadd ?_⟩
 rw[Around.under_plainId F.plain_list_iadd _]
 show wpAny _ A.in1 (Builtin.List.listExtendWith (.ref s.heap.objs.size) (.ref a) (.ref s.heap.objs.size)) _ _ _
 exact zZ (R:=R) (s:={ s with heap:=s.heap.push { cls:=.type "list",data:=.seq ([]:List Value).toArray } }) hh (eS _ ho) hex hd hf U hz hl hn s.heap.objs.size (Jn cS) _ 0 hS fun h' tk d xa c' ys kp eo hp ia =>
  hR h' tk d xa c' ys (fun b o e=>kp b o (eP (dn e)) (eS _ e)) eo hp ia
theorem pC (hh:A.handled=none) (ho:s.heap.get? a=some o) (hex:o.ExactSet) (hd:o.data=.set es ep t) (hf:t.fits es.size=true) (U:Up t.place) (hz:t.place.size=es.size) (hl:t.led=(!w.params.followText "set-order")) (hn:es.size<=sizeLine)
  (hQ:∀ h' tk d vs,(∀ b o,s.heap.get? b=some o->h'.get? b=some o)->s.heap.objs.size<=h'.objs.size->vs.Perm (es.toList.map (·.2))->Q vs { s with heap:=h',toks:=tk,drawn:=d }):wpAny (model prog w) A (collect (.ref a)) Q E s:=by
 unfold collect
 refine ah (wpAny_runValue (iw hh ho hex hd hf U hz hl hn fun h' tk d acc c ys kp eo hp ia=>?_))
 show wpAny _ A (load s.heap.objs.size >>= _) _ _ { s with heap:=h',toks:=tk,drawn:=d }
 refine ah (wpAny_load eo ?_)
 refine aE (hQ h' tk d _ kp (kc (dn eo)) ?_)
 rw[sS ia (by rw[hp.length_eq];simp)]
 exact hp.map _
end
end TS
namespace wt
open PySem PyProof.Rows
section
variable {prog:Program}{w:World}{A:Around}{E:Value->Shared->Prop}{s:Shared}{κ:SortKind}{r:Value->Int}{P:Value->Prop}
theorem oY{R:List Value->Prop}
  (QF:∀ (A':Around) (E':Value->Shared->Prop) (Q':List Value->Shared->Prop),A'.handled=A.handled->(∀ vs h1 tk d,R vs->(∀ b o,s.heap.get? b=some o->h1.get? b=some o)->s.heap.objs.size<=h1.objs.size->Q' vs { s with heap:=h1,toks:=tk,drawn:=d })->wpAny (model prog w) A' (collect v) Q' E' s)
  (hsz:∀ vs,R vs->vs.length<=sizeLine) (hP:∀ vs,R vs->∀ v∈vs,P v)
  (hk:∀ vs,R vs->2<=vs.length->∀ (A':Around) (E':Value->Shared->Prop) (s':Shared),(∀ b o,s.heap.get? b=some o->s'.heap.get? b=some o)->∀ (Q:SortKind->Shared->Prop),Q κ s'->wpAny (model prog w) A' (keyKind' vs.toArray) Q E' s')
  (C:∀ (s':Shared),(∀ b o,s.heap.get? b=some o->s'.heap.get? b=some o)->kE prog w A.in1.in1 s' κ r P)
  (h:∀ (vs:List Value) (h':Heap) (a:Addr) (out:List Value) (n tk:Nat) d,R vs->out.Perm vs->(out.Pairwise fun x y=>r x<=r y)->(∀ b o,s.heap.get? b=some o->h'.get? b=some o)->s.heap.objs.size<=a->h'.get? a=some (seqObj "list" out.toArray n)->Q (.ref a) { s with heap:=h',toks:=tk,drawn:=d }) :
  wpAny (model prog w) A (call (.builtin "sorted") [v]) Q E s:=by
 refine Calls.call_function_entry kind_sorted plain_sorted entry_sorted (args_sorted1 _) ?_
 unfold Builtin.«sorted»
 refine ah (m:=checkCount "sorted" 1 1 _) (aE ?_)
 refine ah (QF _ _ _ rfl fun vs h1 tk d hR kp hz=>?_)
 have zh:=hsz vs hR
 refine ah (wpAny_newList ?_ (by simpa using zh))
 have ui:(h1.push (seqObj "list" vs.toArray 0)).get? h1.objs.size=some (seqObj "list" vs.toArray 0):=i6 _ rfl
 have old:∀ b o,s.heap.get? b=some o->(cN (h1.push (seqObj "list" vs.toArray 0)) h1.objs.size vs).get? b=some o:=fun b o e=>by
  have cS:b<h1.objs.size:=dn (kp b o e)
  rw[fD (eP cS) (by rw[size_push'];exact sM cS)]
  exact eS _ (kp b o e)
 show wpAny _ _ _ _ _ { s with heap:=h1.push (seqObj "list" vs.toArray 0),toks:=tk,drawn:=d }
 refine ah (wpAny_holding (wpAny_call_entry slot_list_sort ⟨_,ui,rfl⟩ entry_list_sort (eO (r:=r) (s:={ s with heap:=h1.push (seqObj "list" vs.toArray 0),toks:=tk,drawn:=d }) ui zh (hP vs hR)
  (fun h2=>hk vs hR h2 _ _ _ old) (fun h2=>C _ old) fun out a1 a2=>⟨_,rfl,?_⟩) (args_list_sort _)))
 obtain⟨n,e⟩:=sortedHeap_at (out:=out) ui
 refine aE ⟨_,rfl,h vs _ h1.objs.size out.toList n tk d hR a1 a2 (fun b o e=>?_) hz (by rw[MQ];exact e)⟩
 have cS:b<h1.objs.size:=dn (kp b o e)
 rw[sortedHeap_old (eP cS) (by rw[size_push'];exact sM cS)]
 exact eS _ (kp b o e)
end
end wt
namespace TS
open PySem PySem.SetTable PyProof.Rows
section
variable {prog:Program}{w:World}{K:Type}[DecidableEq K]{knd:KeyKind prog w K}{A:Around}{E:Value->Shared->Prop}{s:Shared}
theorem xg(led:Bool):TI (α:=α) (SetTable.fresh 0 0 led) #[] :=
 ⟨⟨3,rfl,bX _⟩,rfl,fun i j h hj=>absurd hj (xS _),fun i hi=>absurd hi (xS _),rfl,(by show 0*5<7*3;decide),fun i h x e=>by simp at e⟩
theorem nO{l:Addr}{items:Array Value}{xs:List (List K × Addr)}{Q:Value->Shared->Prop}(hh:A.handled=none)(hu:A.units+8<cLine)(hl:s.heap.IsList l items)(hi:items.toList=xs.map fun p=>Value.ref p.2)
  (CD:∀ p∈xs,IsTupleKey knd s.heap p.1 p.2) (hz:xs.length<=1000) (AR:∀ k v,knd.is k v=true->v.scannable=true)
  (h:∀ h' tk ks,HM knd h' s.heap.objs.size ks->(∀ k,k∈ks.map (·.1)↔k∈xs.map (·.1))->(∀ p∈ks,p∈xs)->(∀ b o,s.heap.get? b=some o->h'.get? b=some o)->Q (.ref s.heap.objs.size) { s with heap:=h',toks:=tk }) :
  wpAny (model prog w) A (call (.type "set") [.ref l]) Q E s:=by
 have lt:∀ p∈xs,p.2<s.heap.objs.size:=fun p hp=>by
  obtain⟨o,_,_,ho,_⟩:=CD p hp
  exact dn ho
 refine mV hh hl (fun i h=>∃ ks,HM knd h s.heap.objs.size ks/\(∀ k,k∈ks.map (·.1)↔k∈(xs.take i).map (·.1))/\(∀ p∈ks,p∈xs)/\ks.length<=i/\∀ p∈xs,IsTupleKey knd h p.1 p.2) (fun h e k=>?_) (fun i h h' ⟨ks,S,m1,m2,m3,m4⟩ k=>?_) (fun i v s' E' Q' hv ⟨ks,S,m1,m2,m3,m4⟩ q=>?_) fun h' tk ⟨ks,S,m1,m2,m3,m4⟩ k=>?_
 ·exact⟨[],⟨⟨_,#[],0,_,e,⟨rfl,rfl,rfl⟩,rfl,xg _,(by show 7<=8191;decide),rfl,rfl⟩,oz,fun p hp=>nomatch hp⟩,fun k=>by simp,(fun p hp=>nomatch hp),bX _,fun p hp=>IsTupleKey.eJ (CD p hp) fun o ho=>k _ _ ho⟩
 ·obtain⟨⟨o,es,ep,t,ho,r⟩,nd,is⟩:=S
  exact⟨ks,⟨⟨o,es,ep,t,k _ _ (bX _) ho,r⟩,nd,fun p hp=>IsTupleKey.eJ (is p hp) fun o ho=>k _ _ (kc (lt p (m2 p hp))) ho⟩,m1,m2,m3,fun p hp=>IsTupleKey.eJ (m4 p hp) fun o ho=>k _ _ (kc (lt p hp)) ho⟩
 ·have LR:items.toList[i]? = some v:=by rw[kR];exact hv
  rw[hi,nL] at LR
  cases ex:xs[i]? with
  |none=>rw[ex] at LR;cases LR
  |some p =>
   rw[ex] at LR
   cases LR
   have hp:=kP ex
   have hil:i<xs.length:=(hX.mp ex).1
   have tk1:(xs.take (i+1)).map (·.1)=(xs.take i).map (·.1)++[p.1]:=by
    rw[E8,ex,DF];rfl
   unfold setAdd
   refine wpAny_holding (ah (wpAny_pyHash_tuple (by show A.units+3<cLine;lia) (m4 p hp) ?_))
   refine Eg (s:={ s' with toks:=s'.toks+(p.1.length+1) }) S (m4 p hp) (by lia) (by show A.units+3<cLine;lia) AR fun b h' g0 sb S' c=>?_
   refine q b h' _ sb ⟨g0,S',fun k=>?_,fun p' iF=>?_,?_,fun p' iF=>IsTupleKey.eJ (m4 p' iF) fun o ho=>sb.extBut _ _ (eP (lt p' iF)) ho⟩
   ·rw[tk1,dP,pV,<- m1]
    rcases c with⟨c1,rfl⟩|⟨c1,c2⟩
    ·exact⟨.inl,fun z=>z.elim id fun e=>e ▸ c1⟩
    ·rw[(c2.map _).mem_iff,fm,cK]
     exact⟨fun z=>z.symm,fun z=>z.symm⟩
   ·rcases c with⟨c1,rfl⟩|⟨c1,c2⟩
    ·exact m2 p' iF
    ·rcases cK.mp (c2.mem_iff.mp iF) with rfl|z
     ·exact hp
     ·exact m2 p' z
   ·rcases c with⟨c1,rfl⟩|⟨c1,c2⟩
    ·exact Nat.le_succ_of_le ‹_›
    ·rw[c2.length_eq];simp;lia
 ·have e:items.size=xs.length:=by
   have:=congrArg List.length hi
   simpa using this
  rw[e,OZ] at m1
  exact h h' tk ks S m1 m2 fun b o ho=>k b o (dn ho) ho
end
end TS
namespace L2
open PySem PySem.Spec PyProof.Rows
section
variable {X:Cx}{pins:List (Addr × Obj)}{σ:St}{H:Hp}{s:Shared}
theorem Inv.drawn{d}(I:Inv X pins σ H s):Inv X pins σ H { s with drawn:=d }:=⟨I.ok,I.os,I.bare,I.base,I.loc,I.cell,I.free,I.mh,I.pin,I.bp,I.len⟩
theorem xU:∀ (k:Key) (v:Value),(lT prog w).is k v=true->v.scannable=true:=fun k v h=>by
 rcases ya h with⟨i,t,rfl,rfl⟩|⟨x,t,rfl,rfl⟩<;>rfl
def fX(K:PySem.W.Frag):V->Hp->VK->Prop:=fun x H Q=>match x with
 |.ref p=>∃ ys ks b0 sh,eh K H p ys/\ys.length<=1000/\cu H ys ks/\(∀ k∈ks,gE k=b0 :: sh) /\
   ∀ zs ms l,cu H zs ms->ms.Nodup->(∀ k,k∈ms↔k∈ks)->(ms.Pairwise fun a b=>fh b a=false)->H l=none->Q (.ref l) (upd H l (.lst zs))
 |_=>False
theorem cu.pairs(h:cu H ys ks)(hv:Vals ys vs):∃ xs:List (List Key × Addr),vs=xs.map (fun p=>Value.ref p.2)/\xs.map (·.1)=ks/\∀ p∈xs,H p.2=some (.tup (p.1.map kV)):=by
 induction ys generalizing ks vs with
 |nil=>exact⟨[],Paired.n0 hv,(show ks=[] from Paired.n0 h).symm,fun p hp=>nomatch hp⟩
 |cons y ys ih =>
  obtain⟨k,ks,rfl,⟨b,rfl,g⟩,t⟩:=Paired.c h
  obtain⟨v,vs,rfl,rfl,rs⟩:=Paired.c hv
  obtain⟨xs,e1,e2,e3⟩:=ih t rs
  refine⟨(k,b) :: xs,by rw[e1];rfl,by rw[<- e2];rfl,fun p hp=>?_⟩
  rcases cK.mp hp with rfl|hp
  ·exact g
  ·exact e3 p hp
end
section
variable {X:Cx}{e:Expr}{te:TE}{p p2 pos EK:Pos}
theorem pG (hc:X.calm=true) (hu:X.A.units+64<cLine) (hg:Gl X "sorted") (hm:X.mg "sorted" = none) (Ri:Gl X "set") (vi:X.mg "set" = none) (he:PE X e te)
  (hv:bootBuiltins "sorted" = some (.builtin "sorted")) (hv2:bootBuiltins "set" = some (.type "set"))
  (vn:starEach [e] X.env=(false,eval e X.env) :: starEach [] X.env:=by rfl)
  (hs:starEach [.Call (.Name "set" p2) [e] [] EK] X.env=(false,eval (.Call (.Name "set" p2) [e] [] EK) X.env) :: starEach [] X.env:=by rfl) :
  PE X (.Call (.Name "sorted" p) [.Call (.Name "set" p2) [e] [] EK] [] pos) (Tv (fX X.K) te):=by
 intro pins s σ H Q I h
 refine wpAny_Call_Name_kw (FL I hg hm hv ?_ (by decide) (by decide))
 refine PyProof.Rows.callWith_builtin1 ?_ hs rfl
 rw[hs]
 refine Calls.spliced_cons ?_
 refine wpAny_Call_Name_kw (FL I Ri vi hv2 ?_ (by decide) (by decide))
 refine PyProof.Rows.callWith_type1 ?_ vn rfl
 rw[vn]
 refine Calls.spliced_cons (ck (he pins s σ H _ I h) fun u s1 cw=>L2.gi cw fun x H1 I1 r1 q1=>Calls.spliced_nil ?_)
 have q1:fX X.K x H1 Q:=q1
 obtain⟨a,rfl⟩:∃ a,x=.ref a:=by
  unfold fX at q1
  split at q1
  ·exact⟨_,rfl⟩
  ·exact q1.elim
 obtain⟨ys,ks,b0,sh,hl,Oa,ht,FY,q⟩:=q1
 cases r1
 obtain⟨vs,rv,pl,hz⟩:=I1.list hl
 obtain⟨xs,ex,ek,hx⟩:=ht.pairs rv
 have VP:X.A.handled=none:=I1.ok.hd hc
 have hlen:xs.length=ys.length:=by rw[rv.length,ex,dc]
 have CD:∀ p∈xs,IsTupleKey (lT X.prog X.w) s1.heap p.1 p.2:=fun p hp=>by
  obtain⟨us,ru,o,e1,c1,n1,d1⟩:=I1.tup (hx p hp)
  exact⟨o,us.toArray,n1,e1,c1,d1,by simpa using P6 ru⟩
 refine TS.nO (knd:=lT X.prog X.w) VP (by lia) pl.isList (by simpa using ex) CD (by lia) xU fun h2 tk g0 S m1 m2 kp=>?_
 refine Calls.spliced_nil ?_
 obtain⟨⟨o,es,ep,t,ho,hex,hd,T,hM,hL,HL⟩,nd,is⟩:=S
 have bR':es.toList.map (·.2)=g0.map fun p=>Value.ref p.2:=by rw[HL,mM];rfl
 have fv':g0.length<=1000:=by
  have:=TS.fQ nd (m:=ks) fun k hk=>by rw[<- ek];exact(m1 k).mp hk
  rw[dc] at this
  have:ks.length=xs.length:=by rw[<- ek,dc]
  lia
 have bS':es.size=g0.length:=by
  have:=congrArg List.length HL
  simpa using this
 have bT':∀ p∈g0,p.1∈ks:=fun p hp=>by rw[<- ek];exact dr.mpr ⟨p,m2 p hp,rfl⟩
 have mem:∀ hV:List Value,hV.Perm (g0.map fun p=>Value.ref p.2)->∀ v∈hV,∃ b k,v=.ref b/\H1 b=some (.tup (k.map kV))/\k∈ks:=fun hV pv v hv=>by
  obtain⟨p,hp,rfl⟩:=dr.mp (pv.mem_iff.mp hv)
  exact⟨p.2,p.1,rfl,hx p (m2 p hp),bT' p hp⟩
 have VQ:s1.heap.objs.size<=h2.objs.size:=kc (dn ho)
 refine wt.oY (s:={ s1 with heap:=h2,toks:=tk }) (κ:=tuples' true) (R:=fun hV=>hV.Perm (g0.map fun p=>Value.ref p.2)) (r:=fun v=>GV ks (jU H1 v)) (P:=fun v=>∃ b k,v=.ref b/\H1 b=some (.tup (k.map kV))/\gE k=b0 :: sh/\k∈ks)
  (fun A' E' Q' hA hQ=>TS.pC (s:={ s1 with heap:=h2,toks:=tk }) (hA.trans VP) ho hex hd T.fits T.up T.sz hL (by rw[bS',sizeLine_eq];lia) fun h' LM d hV EL VR pv=>hQ hV h' LM d (by rw[<- bR'];exact pv) EL VR)
  (fun hV pv=>by rw[pv.length_eq,dc,sizeLine_eq];lia) (fun hV pv v hv=>?_) (fun hV pv h2' A' E' s' EL Q' q'=>?_) (fun s' EL=>qH I1 fun b o e=>EL b o (kp b o e)) fun hV h' a' out n LM d pv pm pw EL ha eo=>?_
 ·obtain⟨b,k,e1,e2,e3⟩:=mem hV pv v hv
  exact⟨b,k,e1,e2,FY k e3,e3⟩
 ·obtain⟨zs,z1,z2⟩:=cu.of (H:=H1) (ks:=ks) hV (mem hV pv)
  obtain⟨fs,f1,f2,f3⟩:=kat_tups I1 (s':=s') (fun b o e=>EL b o (kp b o e)) z1 z2 fun k hk=>by
   obtain⟨v,hv,rfl⟩:=dr.mp hk
   obtain⟨b,k,rfl,e2,e3⟩:=mem hV pv v hv
   rw[cg e2];exact FY k e3
  cases b0 with
  |true =>
   refine PySem.W.kat_kind (T:=.type "int") f1 (by lia) (fun f hf=>?_) (by decide) q'
   obtain⟨i,t,rfl⟩:=(f3 f hf).1 rfl
   exact .now
  |false =>
   refine PySem.W.kat_kind (T:=.type "str") f1 (by lia) (fun f hf=>?_) (by decide) q'
   obtain⟨i,t,rfl⟩:=(f3 f hf).2 rfl
   exact .now
 ·have LS:=pm.trans pv
  obtain⟨zs,z1,z2⟩:=cu.of (H:=H1) (ks:=ks) out fun v hv=>mem _ LS v hv
  have zl:=z2.length
  have ol:=LS.length_eq
  rw[dc] at ol
  have ekk:(g0.map fun p=>Value.ref p.2).map (jU H1)=g0.map (·.1):=by
   rw[mM]
   exact OO fun p hp=>cg (hx p (m2 p hp))
  have Ob:(out.map (jU H1)).Perm (g0.map (·.1)):=by rw[<- ekk];exact LS.map _
  refine⟨.ref a',_,(I1.laid (a:=a') (t':=LM) (fun b o e=>EL b o (kp b o e)) (hG VQ ha) (show eR X.prog X.w _ h' _ (.lst zs) from⟨by rw[sizeLine_eq];lia,out,n,z2,eo⟩)).drawn,rfl,
   q zs _ _ z1 (Ob.nodup_iff.mpr nd) (fun k=>by rw[Ob.mem_iff,m1,ek]) ?_ (I1.bp.fresh (hG VQ ha))⟩
  rw[qa]
  refine pw.imp_of_mem fun {x y} mx my hle=>?_
  obtain⟨b,k,rfl,hb,kk⟩:=mem _ LS x mx
  obtain⟨c,m,rfl,DU,km⟩:=mem _ LS y my
  rw[cg hb,cg DU] at *
  have:=tQ (L:=ks) ((FY m km).trans (FY k kk).symm) km
  rw[<- this]
  exact decide_eq_false (by lia)
end
end L2
namespace TS
open PySem PySem.SetTable PyProof.Rows
end TS
namespace L2
open PySem PySem.Spec PyProof.Rows
end L2
namespace L2.Q
open PySem PySem.Spec PyProof.Rows
section
variable {X:Cx}{K:PySem.W.Frag}{e:Expr}{te:WE}{p p2 pos EK:Pos}
theorem DR:bootBuiltins "set" = some (.type "set"):=by decide +kernel
def dR:W1:=fun _ x Q=>match x with
 |.list xs=>∃ (ks:List (List Key)) (sh:List Bool),xs=ks.map pd/\ks.length<=1000/\(∀ k∈ks,gE k=false :: sh)/\∀ ms:List (List Key),ms.Nodup->(∀ k,k∈ms↔k∈ks)->(ms.Pairwise fun a b=>fh b a=false)->Q (.ow true) (.list (ms.map pd))
 |_=>False
theorem pL:QM K (fX K) dR:=by
 intro Hs H m x v As Qd Qv w rx h f
 have r1:=rx.rep w
 cases r1 with
 |list z s q =>
  obtain⟨ks,sh,rfl,hz,hs,h⟩:=h
  obtain⟨ta,ok⟩:=Bc q
  have hl:=q.length
  rw[dc] at hl
  refine⟨_,ks,false,sh,s,by lia,ta,hs,fun zs ms l tz nd mm pw hl'=>?_⟩
  have rr:=lJ (K:=K) tz fun k hk=>ok k ((mm k).mp hk)
  have:ms.length<=ks.length:=TS.fQ nd fun k hk=>(mm k).mp hk
  exact f.lst w (by rw[dc,sizeLine_eq];lia) rr (fU ms) (h ms nd mm pw) l hl'
 |_=>exact h.elim
theorem rP (hu:X.A.units+64<cLine) (hg:Gl X "sorted") (hm:X.mg "sorted" = none) (Ri:Gl X "set") (vi:X.mg "set" = none) (he:QE X K e te) (hc:X.calm=true:=by rfl) (hK:X.K=K:=by rfl)
  (vn:starEach [e] X.env=(false,eval e X.env) :: starEach [] X.env:=by rfl)
  (hs:starEach [.Call (.Name "set" p2) [e] [] EK] X.env=(false,eval (.Call (.Name "set" p2) [e] [] EK) X.env) :: starEach [] X.env:=by rfl) :
  QE X K (.Call (.Name "sorted" p) [.Call (.Name "set" p2) [e] [] EK] [] pos) (kr dR te):=by
 subst hK
 refine PE.imp (pG hc hu hg hm Ri vi he jm DR vn hs) fun σ H Qv df=>?_
 obtain⟨Hs,ρ,ag,Q,sr,h,fin⟩:=df
 exact⟨Hs,ρ,ag,_,sr,h,fun v H1 aS m x As g1 r1 f1 q1=>pL aS H1 m x v As Q Qv g1.wf r1 q1 (Fin.after fin g1)⟩
end
end L2.Q
namespace L2.Q.R
open PySem PySem.Spec PyProof.Rows L2.Q
section
variable {Q:Md->L2.Q.D->Prop}{m:Md}{xs:List L2.Q.D}
theorem Cz:dR m (.list xs) Q = ∃ (ks:List (List Key)) (sh:List Bool),xs=ks.map pd/\ks.length<=1000/\(∀ k∈ks,gE k=false :: sh)/\∀ ms:List (List Key),ms.Nodup->(∀ k,k∈ms↔k∈ks)->(ms.Pairwise fun a b=>fh b a=false)->Q (.ow true) (.list (ms.map pd)):=rfl
end
end L2.Q.R
namespace L2
open PySem PySem.Spec PyProof.Rows
end L2
namespace L2.Q
open PySem PySem.Spec PyProof.Rows
end L2.Q
namespace L2.Q.R
open PySem PySem.Spec PyProof.Rows L2.Q
end L2.Q.R
namespace L2.Q
open PySem PySem.Spec PyProof.Rows PySem.W
abbrev VS:List Value:=[.type "ValueError",.type "Exception",.type "BaseException",.type "object"]
structure ll(K:PySem.W.Frag)(C:Addr):Prop where
 ex:excIn K C VS "ValueError.__new__" = true
 gx:findIn K (.ref C) "__getattr__" = some none
 ga:findIn K (.ref C) "__getattribute__" = some (some (.builtin "BaseException.__getattribute__"))
 cl:findIn K (.ref C) "__class__" = some (some (.builtin "object.__class__"))
 ob:mroIn K C (.type "object")=some true
theorem ll.obj{K:PySem.W.Frag}(x:ll K C)(X:K.In h):∃ bm N nm q bs hdct sn sub ab col dd k0 k1 k2 k3 k5 mN,
  h.get? C=some (excClassObj nm q C N bs bm hdct sn sub ab col dd k0 k1 k2 k3 k5 "ValueError.__new__")/\h.Ns N mN/\mN "__init__" = none/\OwnTail h VS bm:=by
 have q:=x.ex
 unfold excIn at q
 split at q
 ·rename_i dd cd sl ho
  split at q
  ·rename_i C' bm k0 k1 k2 k3 n k5 hm hs
   simp only[kQ,beq_iff_eq,O4] at q
   obtain⟨⟨⟨⟨⟨e1,e2⟩,VW⟩,ht⟩,bp⟩,Bi⟩:=q
   cases e1;cases e2
   cases cd
   dsimp only at hm VW bp Bi
   cases hm;cases VW
   have N9:sl = #[k0,k1,k2,k3,some (.builtin "ValueError.__new__"),k5]:=by
    cases sl
    dsimp only at hs
    rw[hs]
   cases N9
   exact⟨bm,_,_,_,_,_,_,_,_,_,dd,k0,k1,k2,k3,k5,_,X _ _ ho,.of_isNs (isNs_of_in X bp),nsMap_none_of_in X bp Bi,tail_of_in X ht⟩
  ·cases q
 ·cases q
section
variable {prog:Program}{w:World}{A:Around}{E:Value->Shared->Prop}{h:Heap}{g:Array GenState}{d:Drawn}{t:Nat}{os:OsState}{a C:Addr}{o:Obj}{K:PySem.W.Frag}
theorem wM{R:Result->Shared->Prop}(x:ll K C)(X:K.In h)(hx:h.get? a=some o)(hc:o.cls=.ref C)(hq:R (.ok (.ret (.ref C))) ⟨h,g,d,t,os⟩) :
  codeAny (model prog w) A (.call (.builtin "getset_descriptor.__get__") ⟨[.builtin "object.__class__",.ref a,.ref C],[]⟩) R ⟨h,g,d,t,os⟩:=by
 obtain⟨bm,N,nm,q,bs,hdct,sn,sub,ab,col,dd,k0,k1,k2,k3,k5,mN,hC,hN,Bi,T⟩:=x.obj X
 have VX:(⟨h,g,d,t,os⟩:Shared).TypeIs (.builtin "object.__class__") "getset_descriptor" := F.typeOf_object_class
 have LV:(Value.ref C :: bm).contains (.type (".".intercalate ("object.__class__".cutAt '.').dropLast))=true:=by
  rw[F.owner_object_class,OU,T.hasType (X := "object") (b:=true) rfl];rfl
 refine codeAny_call_builtin F.slot_gs_get.plain F.entry_gs_get (F.slot_gs_get.check _ _ _ _ _ _ _ _ VX (F.args_gs_get _ _ _) ?_)
 repeat (any_goals (first|assumption|(with_reducible refine wpAny_loadPart_at hx ?_;rw[hc])|(with_reducible refine wpAny_isSubtype_exc hC ?_;rw[LV])|wp_step))
 refine⟨Code.quiet_builtin _ (by decide +kernel),codeAny_builtin F.entry_object_class ?_⟩
 repeat (any_goals (first|assumption|(with_reducible refine wpAny_loadPart_at hx ?_;rw[hc])|wp_step))
theorem rR(x:ll K C)(X:K.In h)(hx:h.get? a=some o)(hc:o.cls=.ref C)(hq:Q (.done (.ret (.ref C))) ⟨h,g,d,t,os⟩) :
  wpAny (model prog w) A (Builtin.«object.__getattribute__» ⟨[.ref a,.str "__class__" tk],[]⟩) Q E ⟨h,g,d,t,os⟩:=by
 have VX:(⟨h,g,d,t,os⟩:Shared).TypeIs (.builtin "object.__class__") "getset_descriptor" := F.typeOf_object_class
 have f5:=F.typeOf_object_class
 have f6:=F.slot_gs_get.lookup
 have f7:=F.slot_gs_set.lookup
 have Lk:=looks_findIn (M:=model prog w) X x.cl
 repeat (any_goals (first|assumption|(with_reducible refine wpAny_loadPart_at hx ?_;rw[hc])|with_reducible refine Lk.at ?_|wp_step))
 refine wM x X hx hc ?_
 repeat (any_goals (first|assumption|wp_step))
theorem zU(x:ll K C)(X:K.In h)(hx:h.get? a=some o)(hc:o.cls=.ref C)(hq:Q (.ref C) ⟨h,g,d,t,os⟩) :
  wpAny (model prog w) A (getAttrBy (.ref a) (.str "__class__" tk) false) Q E ⟨h,g,d,t,os⟩:=by
 have f3:=F.attr_ValueError.ga.bind (.ref a)
 have Rj:(Value.builtin "BaseException.__getattribute__" == Value.builtin "object.__getattribute__")=false:=by decide +kernel
 have VY:(onTheHeap (Value.ref C) && Value.builtin "BaseException.__getattribute__" == Value.builtin "object.__getattribute__")=false:=by rw[Rj];rfl
 have Lk:=looks_findIn (M:=model prog w) X x.ga
 have Lg:=looks_findIn (M:=model prog w) X x.gx
 repeat (any_goals (first|assumption|(with_reducible refine wpAny_loadPart_at hx ?_;rw[hc])|with_reducible refine Lk.at ?_|with_reducible refine Lg.at ?_|wp_step))
 obtain⟨bm,N,nm,q,bs,hdct,sn,sub,ab,col,dd,k0,k1,k2,k3,k5,mN,hC,hN,Bi,T⟩:=x.obj X
 have hk:builtinKind "BaseException.__getattribute__" = some .slot:=by decide +kernel
 have hsplit:splitId "BaseException.__getattribute__" = some ("BaseException", "__getattribute__"):=by decide +kernel
 have LV:(Value.ref C :: bm).contains (.type "BaseException")=true:=by rw[OU,T.hasType (X := "BaseException") (b:=true) rfl];rfl
 have chk:∀ {Q':Unit->Shared->Prop} {E':Value->Shared->Prop} {A':Around},Q' () ⟨h,g,d,t,os⟩->wpAny (model prog w) A' (checkBuiltinCall "BaseException.__getattribute__" ⟨[.ref a,.str "__class__" tk],[]⟩) Q' E' ⟨h,g,d,t,os⟩:=fun {Q' E' A'} VZ=>by
  have ha:=F.args_bexc_ga (.ref a) (.str "__class__" tk)
  simp only[checkBuiltinCall,hk,hsplit]
  refine ah ?_
  unfold isInstance
  repeat (first|(with_reducible refine wpAny_loadPart_at hx ?_;rw[hc])|(with_reducible refine wpAny_isSubtype_exc hC ?_;rw[LV])|wp_step)
  exact VZ
 refine codeAny_call_builtin F.attr_ValueError.ga.plain F.entry_bexc_ga (chk (rR x X hx hc ?_))
 repeat (any_goals (first|assumption|wp_step))
theorem wA (x:ll K C) (X:K.In h) (hx:h.get? a=some o) (hc:o.cls=.ref C) (hq:Q (some (.ref C)) ⟨h,g,d,t+1,os⟩):wpAny (model prog w) A (getAttr? (.ref a) "__class__") Q E ⟨h,g,d,t,os⟩:=by
 unfold getAttr? getAttrBy?
 repeat (any_goals (first|assumption|with_reducible apply zU x X hx hc|wp_step))
end
def V0(a C:Addr)(h:Heap):Prop:=∃ o,h.get? a=some o/\o.cls=.ref C
theorem ll.bX'{K:PySem.W.Frag}(x:ll K C)(X:K.In h):Looks M h (isType (.ref C)) true:=by
 obtain⟨bm,N,nm,q,bs,hdct,sn,sub,ab,col,dd,k0,k1,k2,k3,k5,mN,hC,hN,Bi,T⟩:=x.obj X
 intro A' Q' E' s' k q
 unfold isType loadHead
 exact ah (wpAny_loadPart (k _ _ hC) (aE q))
theorem qF{K:PySem.W.Frag}(x:ll K C):KitX K (.ref a) (.ref C) (V0 a C) where
 ty:=fun M h X p=>by
  obtain⟨o,h1,h2⟩:=p
  exact h2 ▸ (Looks.ld h1).andThen .now
 it:=fun M h X p=>x.bX' X
 ne:=fun h tp dd its n sl X htp=>by
  obtain⟨bm,N,nm,q,bs,hdct,sn,sub,ab,col,dd,k0,k1,k2,k3,k5,mN,hC,hN,Bi,T⟩:=x.obj X
  refine Bool.eq_false_iff.mpr fun q=>?_
  have e:C=tp:=Value.ref.inj (beq_iff_eq.mp q)
  subst e
  have z:=congrArg (fun o=>o.map (·.data)) (hC.symm.trans htp)
  cases z
 ca:=fun {prog w A E Q s} X p k=>by
  obtain⟨h,g,d,t,os⟩:=s
  obtain⟨o,h1,h2⟩:=p
  exact wA x X h1 h2 k
theorem pN{K:PySem.W.Frag}{a C R:Addr}{os:OsState}(x:ll K C)(r:ll K R)(sub:mroIn K C (.ref R)=some true)(X:K.In h)(p:V0 a C h)
  (hq:Q true ⟨h,g,d,t,os⟩):wpAny M A (excMatches (.ref a) (.ref R)) Q E ⟨h,g,d,t,os⟩:=by
 obtain⟨bm,N,nm,q,bs,hdct,sn,fx',ab,col,dd,k0,k1,k2,k3,k5,mN,hC,hN,Bi,T⟩:=r.obj X
 obtain⟨oe,he,Pj⟩:=p
 have LV:(Value.ref R :: bm).contains (.type "BaseException")=true:=by rw[OU,T.hasType (X := "BaseException") (b:=true) rfl];rfl
 have f:=tc_notTuple
 have Lk:=looks_mroIn (M:=M) X sub
 unfold excMatches
 repeat (first|(with_reducible refine wpAny_loadPart_at he ?_;rw[Pj])|with_reducible refine wpAny_loadPart_at hC ?_|(with_reducible refine wpAny_isSubtype_exc hC ?_;rw[LV])|with_reducible refine Lk.at ?_|wp_step)
 exact hq
theorem FunFrames.rebase{h base B:Heap}:∀ {l:List PySem.Env},h.FunFrames base l->(∀ b∈eK l,B.get? b=none)->h.FunFrames B l
 |[],_,_=>trivial
 |env :: rest,⟨hk,⟨L,o,hf,hn,ho,hd⟩,hr⟩,hB=>⟨hk,⟨L,o,hf,hB L (by unfold eK;rw[xE,hf];exact cc),ho,hd⟩,
   FunFrames.rebase hr fun b hb=>hB b (by unfold eK;rw[xE,hf];exact b9 _ hb)⟩
theorem eR.there{P:Program}(x:eR P w H h a o):∃ u,h.get? a=some u:=by
 cases o with
 |lst xs=>obtain⟨_,_,_,_,e⟩:=x;exact⟨_,e⟩
 |tup xs=>obtain⟨_,_,_,_,e,_⟩:=x;exact⟨_,e⟩
 |dK kvs=>obtain⟨_,_,_,_,o,_,_,e,_⟩:=x;exact⟨_,e⟩
 |dT kvs=>obtain⟨_,_,_,_,o,_,_,e,_⟩:=x;exact⟨_,e⟩
 |set S n=>obtain⟨o,_,_,_,e,_⟩:=x;exact⟨_,e⟩
 |ins C dx fs=>obtain⟨_,_,_,e,_⟩:=x;exact⟨_,e⟩
 |own y=>exact x
 |xd fs=>obtain⟨_,⟨_,_,_,e,_⟩,_⟩:=x;exact⟨_,e⟩
 |MT lo hi=>obtain⟨_,_,_,e⟩:=x;exact⟨_,e⟩
 |kS ob u=>obtain⟨e,_⟩:=x;exact⟨_,e⟩
 |BQ ps=>exact⟨_,(show h.get? a=some _ from x)⟩
 |met f y=>exact⟨_,(show h.get? a=some _ from x)⟩
 |ext φ=>obtain⟨_,e,_⟩:=x;exact e
def xv(B:Heap)(fs:List Addr)(H':Hp)(h₀ h:Heap):Prop:=∀ b o,h.get? b=some o->(H' b≠none\/h₀.get? b≠none)->b∉fs->B.get? b=some o
def nE(P:Program)(w:World)(mg:Str->Option Value)(rn:List Str):AG:=fun outer H s E e s' =>
 ∃ a n C a0 H' B,e=.ref a/\(n∈rn/\mg n=some (.ref C))/\s'.os=s.os/\AllBare s'.gens/\Un (eK outer) [] H H' s.heap s'.heap/\fo P w H' s'.heap /\
  Heap.FlyingW B outer a (.ref C) a0 s'.heap/\xv B (eK outer) H' s.heap s'.heap/\(∀ b∈eK outer,H' b=none)/\E (.ref C) none H'
structure dD(fs:List Addr)(H':Hp)(h₀ h h':Heap):Prop where
 keep:∀ b o,h.get? b=some o->(H' b≠none\/h₀.get? b≠none)->b∉fs->h'.get? b=some o
 slot:∀ b o,h.get? b=some o->b∈fs->∃ sl,h'.get? b=some { o with slots:=sl }
theorem dD.of{B:Heap}(c:xv B (eK l) H' h₀ h)(st:B.StaysIn h')(up:h.UpToSlots h')(ff:h.FunFrames base l):dD (eK l) H' h₀ h h' :=
 ⟨fun b o e k n=>st b o (c b o e k n),fun b o e m=>by
  obtain⟨_,o',e',d⟩:=ff.mem m
  rw[e] at e';cases e'
  exact up b o e d⟩
theorem dD.trans(a:dD fs H' h₀ h h1)(b:dD fs H' h₀ h1 h2):dD fs H' h₀ h h2 :=
 ⟨fun x o e k n=>b.keep x o (a.keep x o e k n) k n,fun x o e m=>by
  obtain⟨_,e1⟩:=a.slot x o e m
  obtain⟨sl,e2⟩:=b.slot x _ e1 m
  exact⟨sl,e2⟩⟩
theorem dD.un(m:dD fs H' h₀ h h')(u:Un fs [] H H' h₀ h):Un fs [] H H' h₀ h' where
 keep:=fun b o e n nb nx=>m.keep b o (u.keep b o e n nb nx) (.inr (by rw[e];exact fun z=>nomatch z)) nb
 slot:=fun b o e n hb nx=>by
  obtain⟨_,e1⟩:=u.slot b o e n hb nx
  obtain⟨sl,e2⟩:=m.slot b _ e1 hb
  exact⟨sl,e2⟩
 free:=u.free
 there:=fun b o e nx=>by
  obtain⟨o',e1⟩:=u.there b o e nx
  by_cases hb:b∈fs
  ·obtain⟨sl,e2⟩:=m.slot b o' e1 hb
   exact⟨_,e2⟩
  ·exact⟨o',m.keep b o' e1 (.inr (by rw[e];exact fun z=>nomatch z)) hb⟩
 ic:=u.ic
 rq:=u.rq
 sP:=u.sP
theorem dD.bp{P:Program}(m:dD fs H' h₀ h h')(f:∀ b∈fs,H' b=none)(x:fo P w H' h):fo P w H' h':=fun a o e =>
 (x a o e).eJ (fun b u hb q=>by
  have hH:H' b≠none:=by
   rcases hb with z|z
   ·rw[z,e];exact fun z=>nomatch z
   ·rw[z];exact fun z=>nomatch z
  exact m.keep b u q (.inl hH) fun z=>hH (f b z)) (fun _ q=>q) fun _ _ q=>q
section
variable {X:Cx}{pins:List (Addr × Obj)}{σ:St}{H H':Hp}{s:Shared}{e:Value}
theorem xv.up{B h h':Heap}(jv:X.stack=X.env :: X.outer)(hf:X.env.frame=some X.env.locals)(hex:X.ex=[])(I:Inv X pins σ H s)(un:Un (eK X.stack) [] H H' s.heap h)(c:xv B (eK X.stack) H' s.heap h)(m:dD (eK X.stack) H' s.heap h h')(fr:∀ b∈eK X.stack,H' b=none)(bp:fo X.prog X.w H' h) :
  Un X.fs [] X.vT H' X.dz.heap h'/\xv B X.fs H' X.dz.heap h':=by
 have hs:∀ b,b∈eK X.stack↔b=X.env.locals\/b∈X.fs:=fun b=>by
  rw[jv];unfold eK;rw[xE,hf];exact cK
 have Kb:∀ b o,X.dz.heap.get? b=some o->b≠X.env.locals:=fun b o e=>eP (kA (dn e) I.ok.above)
 have Iq:∀ b:Addr,b∉X.ex:=fun b z=>by rw[hex] at z;exact nomatch z
 have m':=m.un un
 have th:∀ b o,X.dz.heap.get? b=some o->∃ o',s.heap.get? b=some o':=fun b o e=>I.base.there b o e (Iq b)
 refine⟨⟨fun b o e n nb nx=>?_,fun b o e n hb nx=>?_,fun b o e n nx=>?_,fun b o e nx=>?_,fun b xs e=>un.ic b xs (I.base.ic b xs e),fun b ob u e=>un.rq b ob u (I.base.rq b ob u e),fun b ps e=>?_⟩,fun b o e k nb=>?_⟩
 ·exact m'.keep b o (I.base.keep b o e n nb (Iq b)) (I.base.free b o e n (Iq b)) (fun z=>((hs b).mp z).elim (Kb b o e) nb) (by simp)
 ·obtain⟨_,e1⟩:=I.base.slot b o e n hb (Iq b)
  obtain⟨sl,e2⟩:=m'.slot b _ e1 (I.base.free b o e n (Iq b)) ((hs b).mpr (.inr hb)) (by simp)
  exact⟨sl,e2⟩
 ·obtain⟨o',e1⟩:=th b o e
  exact un.free b o' e1 (I.base.free b o e n (Iq b)) (by simp)
 ·obtain⟨o',e1⟩:=th b o e
  exact m'.there b o' e1 (by simp)
 ·obtain⟨m1,e1⟩:=I.base.sP b ps e
  obtain⟨m2,e2⟩:=un.sP b _ e1
  exact⟨m1++m2,by rw[e2,JJ]⟩
 ·have key:∀ o',h.get? b=some o'->(H' b≠none\/s.heap.get? b≠none)->b∉eK X.stack->B.get? b=some o:=fun o' e' k' n'=>by
   have:=m.keep b o' e' k' n'
   rw[e] at this;cases this
   exact c b o e' k' n'
  rcases k with k|k
  ·have nf:b∉eK X.stack:=fun z=>k (fr b z)
   cases q:H' b with
   |none=>exact absurd q k
   |some u =>
    obtain⟨o',e'⟩:=eR.there (bp b u q)
    exact key o' e' (.inl k) nf
  ·cases q:X.dz.heap.get? b with
   |none=>exact absurd q k
   |some o0 =>
    obtain⟨o1,e1⟩:=th b o0 q
    obtain⟨o2,e2⟩:=un.there b o1 e1 (by simp)
    exact key o2 e2 (.inr (by rw[e1];exact fun z=>nomatch z)) fun z=>((hs b).mp z).elim (Kb b o0 q) nb
end
section
variable {P:Program}{w:World}{K:PySem.W.Frag}{mg:Str->Option Value}{base:Heap}{N:List Str}{qual:Str}{scope:Scope}{f:Addr}{cd:Value}{A:Around}{outer:List PySem.Env}{dz:Shared}{vT:Hp}{E:XK}{rn:List Str}
theorem vK(hf:env.frame=some L)(h:b∈eK l):b∈eK (env :: l):=by
 unfold eK;rw[xE,hf];exact b9 _ h
theorem Ew:Passes (nE P w mg rn) (rL (nE P w mg rn) P w K mg base N qual scope f cd A outer dz vT E) E:=by
 intro pins σ H s e s' I hx
 obtain⟨a,n,C,a0,H',B,he,hn,os,bare,un,bp,CF,cov,fr,hE⟩:=hx
 subst he
 refine wpAny_leaves_onW I.ok.frames rfl CF fun h' V1 up=>?_
 have mv:=dD.of cov V1.1 up CF.2.2.1
 obtain⟨u1,c1⟩:=xv.up (X:=rL (nE P w mg rn) P w K mg base N qual scope f cd A outer dz vT E) rfl rfl rfl I un cov mv fr bp
 exact⟨a,n,C,a0,H',B,rfl,hn,os.trans I.os,bare,u1,mv.bp fr bp,V1,c1,fun b hb=>fr b (vK rfl hb),hE⟩
def p_(X:Cx)(rn:List Str)(E:XK):Prop:=∀ (pins:List (Addr × Obj)) (σ:St) (H:Hp) (s:Shared) (h':Heap) (e:Addr) (n:Str) (C:Addr) (vs:List Value),Inv X pins σ H s->Heap.MadeExcOf s.heap h' e (.ref C) vs ->
 n∈rn->X.mg n=some (.ref C)->E (.ref C) none H->X.xe (.ref e) { s with heap:=h' }
theorem Ff:p_ (rL (nE P w mg rn) P w K mg base N qual scope f cd A outer dz vT E) rn E:=by
 intro pins σ H s h' e n C vs I hx hn hm hE
 have st:=I.stack
 have ff:s.heap.FunFrames (hideAll s.heap (eK (envOfC qual scope dz.heap.objs.size f cd :: outer))) (envOfC qual scope dz.heap.objs.size f cd :: outer):=FunFrames.rebase st fun b hb=>hideAll_none _ hb
 refine wpAny_leaves_madeW (h:=s.heap) I.ok.frames rfl (fun b o q=>of_hideAll _ q) ff hx fun Rk t CF tup hnt up=>?_
 have ff':h'.FunFrames (hideAll s.heap (eK (envOfC qual scope dz.heap.objs.size f cd :: outer))) (envOfC qual scope dz.heap.objs.size f cd :: outer):=ff.of_keeps fun b o q _=>⟨o,hx.keeps b o q,rfl⟩
 have bp:fo P w H h':=I.bp.kept hx.keeps
 have fr:∀ b∈eK (envOfC qual scope dz.heap.objs.size f cd :: outer),H b=none:=I.Pa
 have cov:xv (hideAll s.heap (eK (envOfC qual scope dz.heap.objs.size f cd :: outer))) (eK (envOfC qual scope dz.heap.objs.size f cd :: outer)) H s.heap h':=fun b o q k nb=>by
  have ho:∃ o1,s.heap.get? b=some o1:=by
   rcases k with k|k
   ·cases z:H b with
    |none=>exact absurd z k
    |some u=>exact eR.there (I.bp b u z)
   ·exact Option.ne_none_iff_exists'.mp k
  obtain⟨o1,e1⟩:=ho
  have e2:=hx.keeps b o1 e1
  rw[q] at e2;cases e2
  exact hideAll_get _ e1 nb
 have mv:dD (eK (envOfC qual scope dz.heap.objs.size f cd :: outer)) H s.heap h' Rk:=dD.of cov CF.1 up ff'
 obtain⟨u1,c1⟩:=xv.up (X:=rL (nE P w mg rn) P w K mg base N qual scope f cd A outer dz vT E) rfl rfl rfl I (Un.kept hx.keeps) cov mv fr bp
 exact⟨e,n,C,_,H,_,rfl,⟨hn,hm⟩,I.os,I.bare,u1,mv.bp fr bp,CF,c1,fun b hb=>fr b (vK rfl hb),hE⟩
theorem G4{X:Cx}:Passes (nE P w mg rn) X E0:=by
 intro _ _ _ _ _ _ _ hx
 obtain⟨_,_,_,_,_,_,_,_,_,_,_,_,_,_,_,h⟩:=hx
 exact h.elim
def LX(rn:List Str)(mg:Str->Option Value)(E:XK):Str->Hp->Prop:=fun n H'=>n∈rn->∀ C,mg n=some (.ref C)->E (.ref C) none H'
def dM(K:PySem.W.Frag)(rn:List Str)(mg:Str->Option Value)(sp:iX):Sp:=fun vs H Qv E=>∃ ds Qd,ay K H ds vs/\sp ds Qd /\
 (∀ v H' av m d As,ax H av->Wf av H'->RM K av H' m d v As->As.Nodup->(∀ a∈As,av a=none)->Qd m d->Qv v H') /\
 ∀ n H',ax H H'->Qd (.ow false) (.str n)->LX rn mg E n H'
theorem sH(h:dM K rn mg sp vs H Qv E)(hp:∀ ds Q,sp ds Q->t { nx:=fun _=>Q .sh .non,rt:=Q } (aX N.length ds)) :
  xi K (LX rn mg E) t { nx:=fun _ H'=>Qv .non H',rt:=Qv } (start N vs) H:=by
 obtain⟨ds,Qd,rs,hs,fin,fx⟩:=h
 have hl:=rs.length
 refine⟨H,aX N.length ds,[],{ nx:=fun _=>Qd .sh .non,rt:=Qd },⟨?_,⟨ax.refl _,fun _ _ e=>e⟩,oz,fun a h=>nomatch h⟩,hp ds Qd hs,?_,?_,?_,?_,fx⟩
 ·unfold aX start
  rw[hl]
  exact SR.start rs
 ·exact fun aI H' av bG bS s sr q=>fin .non H' av .sh .non [] s sr.wf ⟨rfl,.non⟩ oz (fun a h=>nomatch h) q
 ·exact fun aI H' av bG bS s sr q=>q.elim
 ·exact fun aI H' av bG bS s sr q=>q.elim
 ·exact fun v H' av m d As s w r nd own q=>fin v H' av m d As s w r nd own q
theorem V2.ok{st:Stmt}{ps:List Str}(F:iq K x qual st f fd)(S:mr N ps (cy st))(len:∀ ds Q,sp ds Q->ds.length=ps.length)
  (AH:∀ (cE:Value) (A:Around) (outer:List PySem.Env) (s:Shared) (H:Hp) (E:XK),i7 k (A.deeper (envOfC qual (cy st) s.heap.objs.size f cE))->oS (rL (nE P w mg rn) P w K mg base N qual (cy st) f cE A outer s H E) K (LX rn mg E) (iP st) t)
  (hp:∀ ds Q,sp ds Q->t { nx:=fun _=>Q .sh .non,rt:=Q } (aX N.length ds)):hJ P w K mg base (nE P w mg rn) (k+1) f fd ps (dM K rn mg sp):=by
 obtain⟨oc,od,kV,doc,pm,an,cE,ct,D2,rfl,lk,nX⟩:=F.ex
 exact T4 lk nX S (fun vs H Q E ⟨ds,Qd,rs,hs,_⟩=>by rw[<- rs.length];exact len ds Qd hs) fun A outer s H vs Q E hr yB=>⟨_,AH cE A outer s H E hr,sH yB hp⟩
structure Bn(P:Program)(w:World)(K:PySem.W.Frag)(mg:Str->Option Value)(base:Heap)(rn:List Str)(k:Nat)(x:Str)(ps:List Str)(sp:iX):Prop where
 ex:∃ (g:Addr) (fd:FuncData),mg x=some (.ref g)/\PySem.W.keepIn K (.ref g)=true/\Binds K fd ps []/\hJ P w K mg base (nE P w mg rn) k g fd ps (dM K rn mg sp)
theorem iq.V3{st:Stmt}{ps:List Str}(F:iq K x qual st f fd)(hm:mg x=some (.ref f))(ok:hJ P w K mg base (nE P w mg rn) k f fd ps (dM K rn mg sp))
  (h:∀ (kV doc pm:Value) (an:Option Addr) (cE ct:Value) (us:List Value),us.length=ps.length->bindArgs (PySem.W.fnOf x qual (kC st) (iP st) (cy st) .none kV doc pm an cE ct) ⟨us,[]⟩=pure (ps.zip us)):Bn P w K mg base rn k x ps sp:=⟨f,fd,hm,F.kp,F.binds h,ok⟩
end
def V4(K:PySem.W.Frag)(mg:Str->Option Value)(n:Str):Prop:=∃ C,mg n=some (.ref C)/\ll K C
def oo(m:Md)(d:D)(Y:Str->Prop)(N:Prop):Prop:=match m,d with
 |.ow false,.str n=>Y n
 |_,_=>N
theorem uQ{K:PySem.W.Frag}(r:RM K Hs H m d v As)(h:oo m d Y N):N:=by
 unfold oo at h
 split at h
 ·obtain⟨r,ne⟩:=r
  cases r
  exact absurd rfl ne
 ·exact h
section
variable {X:Cx}{K:PySem.W.Frag}{rn:List Str}{E:XK}{e:Expr}{es:List Expr}{te:WE}{t:WA}{pos:Pos}
def ud(n:Str)(te:WE):WS:=fun E ρ=>te ρ fun _ _=>E.rt (.ow false) (.str n)
theorem wX (hc:X.calm=true) (ok:p_ X rn E) (hn:x∈rn) (hm:X.mg x=some (.ref C)) (xc:ll X.K C) (ha:PA X [e] ta) (hg:Gl X x) (ip:(x == ("__debug__" : Str))=false)
  (he:starEach [e] X.env=[(false,eval e X.env)]):PS X (.Raise (some (.Call (.Name x np) [e] [] ft)) none pos) (fun D σ H=>ta σ H fun vs H1=>vs.length<=sizeLine/\E (.ref C) none H1):=by
 intro pins s σ H D I h
 obtain⟨bm,N,nm,q,bs,hdct,sn,sub,ab,col,dd,k0,k1,k2,k3,k5,mN,hC,hN,Bi,T⟩:=xc.obj I.mod.MX
 refine wpAny_Raise_call_subT (C:=C) (nm:=nm) (q:=q) (N:=N) (bs:=bs) (bm:=bm) (hdct:=hdct) (sn:=sn) (sub:=sub) (ab:=ab) (col:=col) (dd:=dd) (k0:=k0) (k1:=k1) (k2:=k2) (k3:=k3) (k5:=k5)
  F.excBase_ValueError (mN:=mN) (T.hasType F.excBase_ValueError.hasBase) (I.ok.hd hc) (by rw[he];rfl) Bi (MZ I hg hm ⟨rfl,?_⟩ ip)
 have h2:=ha ft pins s σ H _ I h
 rw[he] at h2 ⊢
 exact Calls.evalArgs_plain (ck h2 fun vs s1 ⟨xs,H1,I1,r,hl,q⟩=>⟨rfl,by rw[<- r.length];exact hl,I1.bk _ _ hC,hN.keeps I1.bk,T.keeps I1.bk,fun h' e' hx=>ok pins σ H1 s1 h' e' x C vs I1 hx hn hm q⟩)
theorem yp (hc:X.calm=true) (ok:p_ X rn E) (xc:V4 K X.mg x) (hn:x∈rn) (he:QE X K e te) (hg:Gl X x:=by rfl) (ip:(x == ("__debug__" : Str))=false:=by decide) (hK:X.K=K:=by rfl)
  (hs:starEach [e] X.env=[(false,eval e X.env)]:=by rfl):QS X K (LX rn X.mg E) (.Raise (some (.Call (.Name x np) [e] [] ft)) none pos) (ud x te):=by
 subst hK
 obtain⟨C,hm,xc⟩:=xc
 refine PS.imp (wX hc ok hn hm xc (nc he rz hs) hg ip hs) fun D σ H hx=>gG hx fun Hs ρ ag E' sr h k1 k2 k3 k4 kx=>?_
 exact⟨Hs,ρ,ag,_,sr,h,fun v H1 aS m d As g1 r1 f1 q1=>⟨(by decide:1<=sizeLine),kx x H1 (g1.sh.trans g1.wf.sub) q1 hn C hm⟩⟩
section
variable {k:Nat}{x:Str}{ps:List Str}{sp:iX}{p ft:Pos}
theorem uF (C:Bn X.prog X.w X.K X.mg X.base rn k x ps sp) (hr:i7 k X.A) (hx:Passes (nE X.prog X.w X.mg rn) X E) (ha:PA X (e :: es) ta) (hg:Gl X x) (ip:(x == ("__debug__" : Str))=false) (he:starEach (e :: es) X.env=(false,eval e X.env) :: starEach es X.env)
  (fq:(backTo pos (starEach es X.env)).any (·.1)=false):PE X (.Call (.Name x p) (e :: es) [] pos) (KP (dM X.K rn X.mg sp) [] E ta):=by
 obtain⟨g,fd,hm,hk,hb,F⟩:=C.ex
 exact TQ F hr hg hm hk hb .nil hx ha ip he fq
theorem jW{σ:St}{H:Hp}{Qv:VK}{Hs:Hp}{ρ:Env}{ag:List Addr}{Y:Str->Prop}{Q:Md->D->Prop}(sr:dk K Hs ρ σ H ag)(h:t ρ fun ps=>sp (ps.map (·.2)) fun m d=>oo m d Y (bI (m,d) (f:=fun p=>Q (vt p.1 p.2) p.2) ⟨⟩))
  (f:∀ v H' av m d As,eL Hs H av H'->RM K av H' m d v As->cz av H As->Q m d->Qv v H') (fx:∀ n H',ax Hs H'->Y n->LX rn X.mg E n H'):KP (dM K rn X.mg sp) [] E (QH K t) σ H Qv:=by
 refine⟨Hs,ρ,ag,_,sr,h,fun vs H1 aS ps As g1 r1 f1 q1=>?_⟩
 refine⟨_,_,by rw[nV];exact r1.reps g1.wf,q1,fun v H' av m d As s w r nd own q=>?_,fun n H' s q=>fx n H' (g1.sh.trans (g1.wf.sub.trans s)) q⟩
 obtain⟨fN,r',fr⟩:=mF g1.wf s w r nd own
 exact Fin.after f g1 v H' _ (vt m d) d fN (dU g1.wf s w) r' fr (uQ r q)
def nJ(sp:iX)(t:WA):WE:=fun ρ Q=>t ρ fun ps=>sp (ps.map (·.2)) fun m d=>oo m d (fun _=>False) (bI (m,d) (f:=fun p=>Q (vt p.1 p.2) p.2) ⟨⟩)
def nR(sp:iX)(t:WA):WS:=fun E ρ=>t ρ fun ps=>sp (ps.map (·.2)) fun m d=>oo m d (fun n=>E.rt (.ow false) (.str n)) (bI (m,d) (f:=fun _=>E.nx ρ) ⟨⟩)
variable (C:Bn X.prog X.w X.K X.mg X.base rn k x ps sp)(hr:i7 k X.A)
include C hr
theorem vf (ha:QA X K (e :: es) t) (hK:X.K=K:=by rfl) (hg:Gl X x:=by rfl) (ip:(x == ("__debug__" : Str))=false:=by decide) (he:starEach (e :: es) X.env=(false,eval e X.env) :: starEach es X.env:=by rfl)
  (fq:(backTo pos (starEach es X.env)).any (·.1)=false:=by rfl):QE X K (.Call (.Name x p) (e :: es) [] pos) (nJ sp t):=by
 subst hK
 exact PE.imp (uF C hr G4 ha hg ip he fq) fun σ H Qv h=>iS h fun Hs ρ ag Q sr h f=>jW sr h f fun n H' _ z=>z.elim
variable (hx:Passes (nE X.prog X.w X.mg rn) X E)
include hx
theorem lF (ha:QA X K (e :: es) t) (hs:swapsWith (.Call (.Name x p) (e :: es) [] ft) none pos.line X.env=pure false:=by rfl) (hK:X.K=K:=by rfl) (hg:Gl X x:=by rfl) (ip:(x == ("__debug__" : Str))=false:=by decide) (he:starEach (e :: es) X.env=(false,eval e X.env) :: starEach es X.env:=by rfl)
  (fq:(backTo ft (starEach es X.env)).any (·.1)=false:=by rfl):QS X K (LX rn X.mg E) (.Expr (.Call (.Name x p) (e :: es) [] ft) pos) (nR sp t):=by
 subst hK
 exact PS.imp (Pn (uF C hr hx ha hg ip he fq) hs) fun D σ H hx=>gG hx fun Hs ρ ag E' sr h k1 k2 k3 k4 kx=>jW (Q:=fun _ _=>E'.nx ρ) sr h (fun v H1 aS m d As g1 r1 f1 q1=>k1 σ H1 aS ρ ag g1.sh (sr.grow g1) q1) kx
end
def ER(j:Nat)(a:Addr)(b:Bool):WE:=fun ρ Q=>ρ[j]? = some (some (.xc a))/\Q .sh (.bl b)
theorem Ej (hm:X.mg "isinstance" = none) (hp:(a,oe)∈X.pn) (nh:oe.cls=.ref C) (xc:ll X.K C) (hk:kitOne X.K (.ref C) c=some b) (he:PE X e (AB j)) (ht:PE X e2 (tC vc)) (hvc:∀ u,RelV vc u->u=c)
  (hg:Gl X "isinstance" := by rfl) (hs:starEach (e :: [e2]) X.env=(false,eval e X.env) :: starEach [e2] X.env:=by rfl) (vn:starEach (e2 :: []) X.env=(false,eval e2 X.env) :: starEach [] X.env:=by rfl) (fq:(backTo pos (starEach [e2] X.env)).any (·.1)=false:=by rfl) :
  QE X K (.Call (.Name "isinstance" p) [e,e2] [] pos) (ER j a b):=by
 have hc:iO X (.builtin "isinstance") (fun xs H Q=>xs=[.ref a,vc]/\Q (.bl b) H):=by
  intro pins s σ H xs us Q I r h
  obtain⟨rfl,q⟩:=h
  obtain⟨u,v,rfl,ru,rv⟩:=Vals.two r
  obtain rfl:u=Value.ref a:=ru
  obtain rfl:=hvc v rv
  obtain⟨ho,_⟩:=I.pin (a,oe) (i5 _ hp)
  exact kia_one (qF xc) I.js ⟨oe,ho,nh⟩ hk (fun z=>nomatch z) fun tk=>⟨.bl b,H,I.tok tk,rfl,q⟩
 refine PE.imp (K0 hc hg hm dH (nc he (nc ht rz vn) hs) (by decide) (by decide) hs fq) fun σ H Qv hx=>iS hx fun Hs ρ ag Q sr h f=>?_
 obtain⟨ea,q⟩:=h
 obtain⟨v,e1,r⟩:=sr.sr.get ea
 have r:v=V.ref a:=r
 subst r
 exact⟨_,e1,rfl,Fin.sh f sr.wf (.bl _) q⟩
end
abbrev fj(X:Cx)(pn:List (Addr × Obj))(xe:Value->Shared->Prop):Cx:={ X with pn:=pn,xe:=xe }
abbrev Bz(X:Cx)(pn:List (Addr × Obj))(a:Addr):Cx:={ X with A:=X.A.mark (some (.ref a)),calm:=false,pn:=pn,xe:=fun _ _=>False }
abbrev Am(X:Cx)(H:Hp)(s:Shared)(p:Addr × Obj):Prop:=s.heap.get? p.1=some p.2/\H p.1=none/\p.1≠X.env.locals/\p.1∉X.fs/\∀ v,p.2.data≠.cell v
section
variable {X:Cx}{pins mn pn:List (Addr × Obj)}{σ:St}{H:Hp}{s:Shared}{xe:Value->Shared->Prop}{a:Addr}
theorem Inv.fj(I:Inv X pins σ H s)(h:∀ p∈pn++mn,Am X H s p):Inv (fj X pn xe) mn σ H s :=
 ⟨⟨I.ok.mod,I.ok.kind,I.ok.glob,I.ok.blt,I.ok.above,I.ok.inj,I.ok.has,I.ok.yb,I.ok.hd,I.ok.frames,I.ok.Au,I.ok.AA,I.ok.bs,I.ok.sQ,I.ok.yi,I.ok.yk,I.ok.oB,I.ok.wa⟩,I.os,I.bare,I.base,I.loc,I.cell,I.free,I.mh,h,I.bp,I.len⟩
theorem Inv.jB(I:Inv (L2.Q.fj X pn xe) mn σ H s)(h:∀ p∈X.pn++pins,p∈pn++mn):Inv X pins σ H s :=
 ⟨⟨I.ok.mod,I.ok.kind,I.ok.glob,I.ok.blt,I.ok.above,I.ok.inj,I.ok.has,I.ok.yb,I.ok.hd,I.ok.frames,I.ok.Au,I.ok.AA,I.ok.bs,I.ok.sQ,I.ok.yi,I.ok.yk,I.ok.oB,I.ok.wa⟩,I.os,I.bare,I.base,I.loc,I.cell,I.free,I.mh,fun p hp=>I.pin p (h p hp),I.bp,I.len⟩
theorem Inv.Bz(I:Inv (L2.Q.fj X pn xe) mn σ H s)(h:∀ p∈pn2++cc',Am X H s p):Inv (L2.Q.Bz X pn2 a) cc' σ H s :=
 ⟨⟨I.ok.mod,I.ok.kind,I.ok.glob,I.ok.blt,I.ok.above,I.ok.inj,I.ok.has,I.ok.yb,(fun z=>nomatch z),I.ok.frames,I.ok.Au,I.ok.AA,I.ok.bs,I.ok.sQ,I.ok.yi,I.ok.yk,I.ok.oB,I.ok.wa⟩,I.os,I.bare,I.base,I.loc,I.cell,I.free,I.mh,h,I.bp,I.len⟩
theorem Inv.Ho(I:Inv (L2.Q.fj X pn xe) pins σ H s):Inv (L2.Q.fj X pn xe2) pins σ H s :=
 ⟨⟨I.ok.mod,I.ok.kind,I.ok.glob,I.ok.blt,I.ok.above,I.ok.inj,I.ok.has,I.ok.yb,I.ok.hd,I.ok.frames,I.ok.Au,I.ok.AA,I.ok.bs,I.ok.sQ,I.ok.yi,I.ok.yk,I.ok.oB,I.ok.wa⟩,I.os,I.bare,I.base,I.loc,I.cell,I.free,I.mh,I.pin,I.bp,I.len⟩
theorem Inv.Cp(I:Inv (L2.Q.Bz X pn a) mn σ H s)(hd:X.calm=true->X.A.handled=none)(h:∀ p∈X.pn++pins,p∈pn++mn):Inv X pins σ H s :=
 ⟨⟨I.ok.mod,I.ok.kind,I.ok.glob,I.ok.blt,I.ok.above,I.ok.inj,I.ok.has,I.ok.yb,hd,I.ok.frames,I.ok.Au,I.ok.AA,I.ok.bs,I.ok.sQ,I.ok.yi,I.ok.yk,I.ok.oB,I.ok.wa⟩,I.os,I.bare,I.base,I.loc,I.cell,I.free,I.mh,fun p hp=>I.pin p (h p hp),I.bp,I.len⟩
theorem SP.jB{D:Ends}(h:SP (L2.Q.fj X pn xe) mn D f s)(hp:∀ p∈X.pn++pins,p∈pn++mn):SP X pins D f s:=by
 cases f with
 |next=>obtain⟨aI,H',I,q⟩:=h;exact⟨aI,H',Inv.jB I hp,q⟩
 |brk=>obtain⟨aI,H',I,q⟩:=h;exact⟨aI,H',Inv.jB I hp,q⟩
 |cont=>obtain⟨aI,H',I,q⟩:=h;exact⟨aI,H',Inv.jB I hp,q⟩
 |ret u=>obtain⟨v,aI,H',I,r,q⟩:=h;exact⟨v,aI,H',Inv.jB I hp,r,q⟩
theorem Inv.forget(I:Inv X pins σ H s)(hn:h'.Ns X.env.locals m)(hs:Heap.SameBut X.env.locals s.heap h'):Inv X pins (List.replicate X.N.length none) H { s with heap:=h',toks:=t }:=by
 have ne:∀ b o,X.dz.heap.get? b=some o->b≠X.env.locals:=fun b o e=>eP (kA (dn e) I.ok.above)
 refine⟨I.ok,I.os,I.bare,⟨fun b o e n hb hx=>(hs.2 b (ne b o e)).trans (I.base.keep b o e n hb hx),fun b o e n hb hx=>?_,I.base.free,fun b o e hx=>?_,I.base.ic,I.base.rq,I.base.sP⟩,⟨m,hn,fun i x v e1 e2=>?_⟩,fun x c e=>?_,I.free,I.mh,fun p hp=>?_,fun b o e=>?_,OG⟩
 ·obtain⟨sl,e1⟩:=I.base.slot b o e n hb hx
  exact⟨sl,(hs.2 b (ne b o e)).trans e1⟩
 ·obtain⟨o',e1⟩:=I.base.there b o e hx
  exact⟨o',(hs.2 b (ne b o e)).trans e1⟩
 ·rw[OB] at e2
  split at e2<;>cases e2
 ·obtain⟨v,z⟩:=I.cell x c e
  exact⟨v,z.sameBut hs (I.yn x c e)⟩
 ·obtain⟨e,n,nl,nf,d⟩:=I.pin p hp
  exact⟨(hs.2 p.1 nl).trans e,n,nl,nf,d⟩
 ·refine(I.bp b o e).eJ (fun c u hc q=>(hs.2 c ?_).trans q) (fun _ q=>q) fun _ _ q=>q
  intro z
  rcases hc with w|w
  ·rw[<- w,z,I.free] at e;cases e
  ·rw[z,I.free] at w;cases w
end
theorem SR.V5{K:PySem.W.Frag}:∀ σ:St,SR K Hs H (List.replicate σ.length none) σ []
 |[]=>.nil
 |_ :: σ=>.non (SR.V5 σ)
theorem SR.exc{K:PySem.W.Frag}:∀ (σ:St) (j:Nat),SR K Hs H ((List.replicate σ.length none).set j (some (.xc a))) (σ.set j (some (.ref a))) []
 |[],_=>.nil
 |_ :: σ,0=>.xc (SR.V5 σ)
 |_ :: σ,j+1=>.non (SR.exc σ j)
theorem xv.next{P:Program}{B:Heap}(c:xv B fs H' h₀ h)(m:dD fs H' h₀ h h')(bp:fo P w H' h)(th:∀ b o,h₀.get? b=some o->∃ o',h.get? b=some o'):xv B fs H' h₀ h':=fun b o e k nb=>by
 have ho:∃ o',h.get? b=some o':=by
  rcases k with k|k
  ·cases z:H' b with
   |none=>exact absurd z k
   |some u=>exact eR.there (bp b u z)
  ·obtain⟨o0,e0⟩:=Option.ne_none_iff_exists'.mp k
   exact th b o0 e0
 obtain⟨o',e'⟩:=ho
 have e2:=m.keep b o' e' k nb
 rw[e] at e2;cases e2
 exact c b o e' k nb
structure Df(K:PySem.W.Frag)(mg:Str->Option Value)(rn:List Str)(R:Str):Prop where
 ex:∃ r,mg R=some (.ref r)/\ll K r/\∀ n C,n∈rn->mg n=some (.ref C)->ll K C/\mroIn K C (.ref r)=some true
end L2.Q
namespace L2.Q
open PySem PySem.Spec PyProof.Rows
theorem lC:bootBuiltins "ValueError" = some (.type "ValueError"):=by decide +kernel
end L2.Q
namespace L2.Q.R
open PySem PySem.Spec PyProof.Rows L2.Q
section
variable {E:lA}{ρ:Env}{Q:Md->L2.Q.D->Prop}{te:WE}{tar:WA}{j:Nat}{a:Addr}{b:Bool}{sp:iX}{n:Str}{d:L2.Q.D}{Y:Str->Prop}{N:Prop}
theorem Gr:ud n te E ρ=te ρ fun _ _=>E.rt (.ow false) (.str n):=rfl
theorem G7:nJ sp tar ρ Q=tar ρ fun ps=>sp (ps.map (·.2)) fun m d=>oo m d (fun _=>False) (bI (m,d) (f:=fun p=>Q (vt p.1 p.2) p.2) ⟨⟩):=rfl
theorem Gh:nR sp tar E ρ=tar ρ fun ps=>sp (ps.map (·.2)) fun m d=>oo m d (fun n=>E.rt (.ow false) (.str n)) (bI (m,d) (f:=fun _=>E.nx ρ) ⟨⟩):=rfl
theorem Kd:ER j a b ρ Q=(ρ[j]? = some (some (.xc a))/\Q .sh (.bl b)):=rfl
theorem K1:oo (.ow false) (.str n) Y N=Y n:=rfl
theorem IK:oo .sh d Y N=N:=rfl
theorem Ji:oo .bo d Y N=N:=rfl
theorem Jp:oo (.ow true) d Y N=N:=rfl
theorem J4:oo (.ow b) (.list xs) Y N=N:=by cases b<;>rfl
theorem JH:oo (.ow b) (.tup xs) Y N=N:=by cases b<;>rfl
theorem KY:oo (.ow b) (.dK xs) Y N=N:=by cases b<;>rfl
theorem Ks:oo (.ow b) (.dT xs) Y N=N:=by cases b<;>rfl
end
end L2.Q.R
namespace L2.Q
open PySem PySem.Spec PyProof.Rows PySem.W
theorem j_{K:Frag}:kitAny K t []=some false:=rfl
theorem bx{K:Frag}(h:kitOne K t c=some a)(g:kitAny K t r=some b):kitAny K t (c :: r)=some (a || b):=by
 unfold kitAny
 rw[h]
 cases a
 ·exact g
 ·rfl
section
variable {X:Cx}{K:PySem.W.Frag}{e:Expr}{es:List Expr}{pos:Pos}
def Oc(vs:List V):TA:=fun _ H Q=>Q vs H
theorem vq:PA X [] (Oc []):=rz
theorem cP(h:PE X e (tC v))(r:PA X es (Oc vs))(hs:starEach (e :: es) X.env=(false,eval e X.env) :: starEach es X.env:=by rfl):PA X (e :: es) (Oc (v :: vs)):=nc h r hs
theorem Bp{cs:List Addr}{us:List Value}(h:Vals (cs.map V.ref) us):us=cs.map Value.ref:=by
 induction cs generalizing us with
 |nil=>exact Paired.n0 h
 |cons c cs ih =>
  obtain⟨u,us,rfl,r,t⟩:=Paired.c h
  rw[show u=Value.ref c from r,ih t];rfl
theorem yK {j:Nat} {a C:Addr} {oe:Obj} {cs:List Addr} {b:Bool} {x1} {p p2:Pos} (hm:X.mg "isinstance" = none) (hp:(a,oe)∈X.pn) (nh:oe.cls=.ref C) (xc:ll X.K C) (hk:kitAny X.K (.ref C) (cs.map Value.ref)=some b) (hz:cs.length<=100) (he:PE X e (AB j)) (ht:PA X es (Oc (cs.map V.ref)))
  (hg:Gl X "isinstance" := by rfl) (hs:starEach (e :: [.Tuple es x1 p2]) X.env=(false,eval e X.env) :: starEach [.Tuple es x1 p2] X.env:=by rfl) (vn:starEach (.Tuple es x1 p2 :: []) X.env=(false,eval (.Tuple es x1 p2) X.env) :: starEach [] X.env:=by rfl) (fq:(backTo pos (starEach [.Tuple es x1 p2] X.env)).any (·.1)=false:=by rfl) :
  QE X K (.Call (.Name "isinstance" p) [e,.Tuple es x1 p2] [] pos) (ER j a b):=by
 have hc:iO X (.builtin "isinstance") (fun xs H Q=>∃ t,xs=[.ref a,.ref t]/\H t=some (.tup (cs.map V.ref))/\Q (.bl b) H):=by
  intro pins s σ H xs us Q I r h
  obtain⟨t,rfl,et,q⟩:=h
  obtain⟨u,v,rfl,ru,rv⟩:=Vals.two r
  obtain rfl:u=Value.ref a:=ru
  obtain rfl:v=Value.ref t:=rv
  obtain⟨ho,_⟩:=I.pin (a,oe) (i5 _ hp)
  obtain⟨its,ri,o,e1,e2,n,e3⟩:=I.tup et
  obtain⟨c',d',dt,sl⟩:=o
  cases e2
  cases e3
  rw[Bp ri] at e1
  exact kia_tup (qF xc) I.js ⟨oe,ho,nh⟩ e1 hk (fun z=>nomatch z) fun tk=>⟨.bl b,H,I.tok tk,rfl,q⟩
 refine PE.imp (K0 hc hg hm dH (nc he (nc (TN ht) rz vn) hs) (by decide) (by decide) hs fq) fun σ H Qv hx=>iS hx fun Hs ρ ag Q sr h f=>?_
 obtain⟨ea,q⟩:=h
 obtain⟨v,e1,r⟩:=sr.sr.get ea
 have r:v=V.ref a:=r
 subst r
 refine⟨_,e1,by rw[dc];exact hG hz (by decide),fun t hT=>⟨t,rfl,jS,?_⟩⟩
 have g:=QL (vs:=cs.map V.ref) sr.wf hT
 exact Fin.sh (Fin.after f g) g.wf (.bl _) q
end
theorem Aa{α:Type}{l:List α}(h:l.Nodup){i j:Nat}{x:α}(a:l[i]? = some x)(b:l[j]? = some x):i=j:=by
 obtain⟨hi,ei⟩:=hX.mp a
 obtain⟨hj,ej⟩:=hX.mp b
 rcases Nat.lt_trichotomy i j with q|q|q
 ·exact absurd (ei.trans ej.symm) (xD.mp h i j hi hj q)
 ·exact q
 ·exact absurd (ej.trans ei.symm) (xD.mp h j i hj hi q)
section
variable {X:Cx}{pins:List (Addr × Obj)}{σ:St}{H:Hp}{s:Shared}
theorem Inv.drop{h':Heap}{m:Str->Option Value}{t j:Nat}{en:Str}{v:Option Value}(I:Inv X pins σ H s)(hN:X.N.Nodup)(hj:X.N[j]? = some en)(lk:∀ (i:Nat) (x:Str) (v:V),X.N[i]? = some x->σ[i]? = some (some v)->FK X.env.scope x->∃ u,RelV v u/\Look X.env s.heap m x u)
  (hn:h'.Ns X.env.locals fun x=>if x=en then v else m x) (hs:Heap.SameBut X.env.locals s.heap h'):Inv X pins (σ.set j none) H { s with heap:=h',toks:=t }:=by
 have F:=Inv.forget (t:=t) I hn hs
 refine⟨F.ok,F.os,F.bare,F.base,⟨_,hn,fun i x v' e1 e2 vs=>?_⟩,F.cell,F.free,F.mh,F.pin,F.bp,by rw[MA];exact I.len⟩
 have fA:j≠i:=fun z=>by
  subst z
  rw[OW] at e2
  split at e2
  ·split at e2<;>cases e2
  ·rename_i z;exact z rfl
 rw[DB fA] at e2
 obtain⟨u,r,l⟩:=lk i x v' e1 e2 vs
 refine⟨u,r,?_⟩
 rcases l with⟨a,b⟩|⟨a,c,b,d⟩
 ·refine .inl ⟨a,?_⟩
  show(if x=en then v else m x)=some u
  rw[if_neg fun z=>fA ?_]
  ·exact b
  ·subst z
   exact Aa hN hj e1
 ·exact .inr ⟨a,c,b,d.sameBut hs (I.yn x c b)⟩
end
end L2.Q
namespace L2.Q.R
open PySem PySem.Spec PyProof.Rows L2.Q
end L2.Q.R
namespace L2.Q
open PySem PySem.Spec PyProof.Rows PySem.W
theorem xx{α:Type}{l:List α}(h:l.Nodup){i j:Nat}{x:α}(a:l[i]? = some x)(b:l[j]? = some x):i=j:=by
 obtain⟨hi,ei⟩:=hX.mp a
 obtain⟨hj,ej⟩:=hX.mp b
 exact(List.getElem_inj h).mp (ei.trans ej.symm)
section
variable {X:Cx}{pins:List (Addr × Obj)}{σ:St}{H:Hp}{s:Shared}
theorem Inv.Gk{h':Heap}{m:Str->Option Value}{t j:Nat}{en:Str}{v:Option Value}(I:Inv X pins σ H s)(hN:X.N.Nodup)(hj:X.N[j]? = some en)(lk:∀ (i:Nat) (x:Str) (v:V),X.N[i]? = some x->σ[i]? = some (some v)->FK X.env.scope x->∃ u,RelV v u/\Look X.env s.heap m x u)
  (hn:h'.Ns X.env.locals fun x=>if x=en then v else m x) (hs:Heap.SameBut X.env.locals s.heap h'):Inv X pins (σ.set j none) H { s with heap:=h',toks:=t }:=by
 have F:=Inv.forget (t:=t) I hn hs
 refine⟨F.ok,F.os,F.bare,F.base,⟨_,hn,fun i x v' e1 e2 vs=>?_⟩,F.cell,F.free,F.mh,F.pin,F.bp,by rw[MA];exact I.len⟩
 have fA:j≠i:=fun z=>by
  subst z
  rw[OW] at e2
  split at e2
  ·split at e2<;>cases e2
  ·rename_i z;exact z rfl
 rw[DB fA] at e2
 obtain⟨u,r,l⟩:=lk i x v' e1 e2 vs
 refine⟨u,r,?_⟩
 rcases l with⟨a,b⟩|⟨a,c,b,d⟩
 ·refine .inl ⟨a,?_⟩
  show(if x=en then v else m x)=some u
  rw[if_neg fun z=>fA ?_]
  ·exact b
  ·subst z
   exact xx hN hj e1
 ·exact .inr ⟨a,c,b,d.sameBut hs (I.yn x c b)⟩
end
def Bw(body:WS)(ρk:Addr->Env)(wr:Addr->Str->WS):WS:=fun E ρ =>
 body { E with nx:=fun _=>False,rt:=fun m d=>oo m d (fun n=>∀ a,wr a n E (ρk a)) (E.rt m d) } ρ
theorem yC{X:Cx}{K:PySem.W.Frag}{R:Str}{body rest:List Stmt}{wr:Addr->Str->WS}
  (xr:Df X.K X.mg rn R) (hN:X.N.Nodup) (hj:X.N[j]? = some en) (hl:X.env.scope.names.lookup en=some .local) (hi:X.N[i]? = some y) (hy:X.env.scope.names.lookup y=some .local) (jv:X.stack=X.env :: X.outer) (hf:X.env.frame=some X.env.locals)
  (hρ:∀ a,ρk a=(List.replicate X.N.length none).set i (some (.xc a)))
  (hb:∀ pn xe E1,Passes (nE X.prog X.w X.mg rn) (fj X pn xe) E1->oS (fj X pn xe) K (LX rn X.mg E1) body wb)
  (hk:∀ pn a oe n C,n∈rn->X.mg n=some (.ref C)->ll X.K C->(a,oe)∈pn->oe.cls=.ref C->oS (fj X pn X.xe) K L rest (wr a n)) (fA:i≠j:=by decide) (hg:Gl X R:=by rfl) (ip:(R == ("__debug__" : Str))=false:=by decide)
  (hd1:(en == ("__debug__" : Str))=false:=by decide) (hd2:(en == ("__classdict__" : Str))=false:=by decide) (K8:swapsWith (.Name en p2) (some (.Name y p1)) p3.line X.env=pure false:=by rfl) :
  oS X K L (.Try body [.ExceptHandler (some (.Name R np)) (some en) [.Assign [.Name y p1] (.Name en p2) p3] Vt] [] [] pos :: rest) (Bw wb ρk wr):=by
 intro pins s σ H D I hx
 obtain⟨Hs,ρ,ag,E,sr,h,k1,k2,k3,k4,kx⟩:=hx
 obtain⟨r,hm,xr,sub⟩:=xr.ex
 have sp0:∀ p∈X.pn++pins,p∈(X.pn++pins)++[]:=fun p hp=>by rw[nV];exact hp
 have AH:=hb (X.pn++pins) (fun e s'=>∃ mn aI H1 s1,Inv (fj X (X.pn++pins) X.xe) mn aI H1 s1/\nE X.prog X.w X.mg rn X.stack H1 s1 (fun c _ H'=>∃ n C,c=.ref C/\n∈rn/\X.mg n=some (.ref C)/\ax Hs H'/\∀ a,wr a n E (ρk a)) e s') _
  (fun mn aI H1 s1 e s' I1 c=>⟨mn,aI,H1,s1,Inv.Ho I1,c⟩)
  [] s σ H { D with nx:=fun _ _=>False } (Inv.fj I fun p hp=>I.pin p (by rw[nV] at hp;exact hp)) ⟨Hs,ρ,ag,_,sr,h,fun _ _ _ _ _ _ _ z=>z,k2,k3,fun v H' av m d As s2 w2 r2 nd own q=>k4 v H' av m d As s2 w2 r2 nd own (uQ r2 q),fun n H' s2 q hn C hC=>⟨n,C,rfl,hn,hC,s2,q⟩⟩
 refine wpAny_execs_cons (wpAny_Try_except (oy AH (fun f s1 hs=>?_) fun e s' hx=>?_))
 ·have hs:=SP.jB hs sp0
  cases f with
  |next =>
   obtain⟨aI,H',I',q⟩:=hs
   exact q.elim
  |brk=>exact hs
  |cont=>exact hs
  |ret u=>exact hs
 ·obtain⟨mn,aI,H1,s1,I1,a,n',C,a0,H',B,rfl,Kj,os,bare,un,bp,CF,cov,fr,n,C2,eC,hn,vi,sm,hq⟩:=hx
  cases eC
  obtain⟨xc,Rg⟩:=sub n C hn vi
  obtain⟨Rl,g',d',t',PJ⟩:=s'
  obtain rfl:PJ=s1.os:=os
  have cg':Heap.FlyingW B (X.env :: X.outer) a (.ref C) a0 Rl:=jv ▸ CF
  have th:∀ b o,s1.heap.get? b=some o->∃ o',Rl.get? b=some o':=fun b o e=>un.there b o e (by simp)
  refine wpAny_looks_onW (jv ▸ I.ok.frames) hf cg' fun h4 held up4=>wpAny_landsW held fun h5 Od up5=>?_
  have Rm:dD (eK X.stack) H' s1.heap Rl h5:=dD.of cov Od.1 (up4.trans up5) CF.2.2.1
  have V6:=cov.next Rm bp th
  have Rn:=Rm.un un
  have Ro:=Rm.bp fr bp
  have I5:Inv (fj X (X.pn++pins) X.xe) mn aI H' ⟨h5,g',d',t',s1.os⟩:=I1.call (h':=h5) (g':=g') (d':=d') (t':=t') (ch:=[]) Rn Ro bare (fun b z=>absurd z (by simp))
  refine wpAny_handleBy_cons (codeAny_handlers_test ?_) (by intro q;cases q)
  refine MZ (X:=Bz X (X.pn++pins) a) (pins:=mn) (Inv.Bz I5 fun p hp=>I5.pin p hp) hg hm ?_ ip
  refine pN xc xr Rg I5.js Od.there (codeAny_handlers_suite_as ?_)
  refine lands_againW Od fun h6 Oe up6=>?_
  have ff5:h5.FunFrames B X.stack:=jv ▸ Od.2.2.1
  have Rp:dD (eK X.stack) H' s1.heap h5 h6:=dD.of V6 Oe.1 up6 ff5
  have un6:=Rp.un Rn
  have cm':=Rp.bp fr Ro
  have I6:Inv (fj X (X.pn++pins) X.xe) mn aI H' ⟨h6,g',d',t',s1.os⟩:=I1.call (h':=h6) (g':=g') (d':=d') (t':=t') (ch:=[]) un6 cm' bare (fun b z=>absurd z (by simp))
  obtain⟨oe,vs,he,nh,LW,_⟩:=Oe.first
  have nf:a∉eK X.stack:=fun z=>by
   have ff6:h6.FunFrames B X.stack:=jv ▸ Oe.2.2.1
   obtain⟨_,o,e1,d1⟩:=ff6.mem z
   rw[he] at e1;cases e1
   exact d1 vs LW
  have na:H' a=none:=by
   cases z:H' a with
   |none=>rfl
   |some u =>
    have:=(V6.next Rp Ro fun b o e=>Rn.there b o e (by simp)) a oe he (.inl (by rw[z];exact fun z=>nomatch z)) nf
    rw[Oe.2.1] at this;cases this
  have frm:∀ b,b∈eK X.stack↔b=X.env.locals\/b∈X.fs:=fun b=>by
   rw[jv];unfold eK;rw[xE,hf];exact cK
  have pa:Am X H' ⟨h6,g',d',t',s1.os⟩ (a,oe):=⟨he,na,fun z=>nf ((frm a).mpr (.inl z)),fun z=>nf ((frm a).mpr (.inr z)),fun v z=>by rw[LW] at z;cases z⟩
  have I6h:Inv (Bz X ((a,oe) :: (X.pn++pins)) a) [] aI H' ⟨h6,g',d',t',s1.os⟩:=Inv.Bz I6 fun p hp=>by
   rw[nV] at hp
   rcases cK.mp hp with z|z
   ·rw[z];exact pa
   ·exact I6.pin p (i5 _ z)
  refine Ph (X:=Bz X ((a,oe) :: (X.pn++pins)) a) (v:=.ref a) I6h hN hj (.inl hl) rfl (fun s7 I7 _=>?_) (.inr hl)
  refine oy (Pm (Pw (X:=Bz X ((a,oe) :: (X.pn++pins)) a) hN hi (.inl hy) (Pl hj (.inl hl) hd1 hd2) K8 (.inr hy)) [] s7 (aI.set j (some (.ref a))) H' { nx:=fun V7 H8=>V7=(aI.set j (some (.ref a))).set i (some (.ref a))/\H8=H',rt:=fun _ _=>False } I7 ⟨.ref a,?_,rfl,rfl⟩) (fun f s8 hs=>?_) fun _ _ z=>z.elim
  ·rw[Mr (by rw[show aI.length=X.N.length from I1.len];exact(hX.mp hj).1)]
  cases f with
  |next =>
   obtain⟨V7,H8,I8,rfl,rfl⟩:=hs
   have I9:Inv (fj X ((a,oe) :: (X.pn++pins)) X.xe) [] _ H8 s8:=Inv.Cp (X:=fj X ((a,oe) :: (X.pn++pins)) X.xe) I8 I.ok.hd fun p hp=>hp
   obtain⟨m,hn8,lk⟩:=id I9.loc
   refine wpAny_nameGoes_keeps hl hn8 (by rw[I9.ok.kind];rfl) fun h9 v hn9 sb=>?_
   refine ck (hk ((a,oe) :: (X.pn++pins)) a oe n C hn vi xc cc nh [] _ _ H8 D (Inv.Gk I9 hN hj lk hn9 sb) ⟨H8,ρk a,[],E,⟨?_,⟨ax.refl _,fun _ _ e=>e⟩,oz,fun a h=>nomatch h⟩,hq a,
    fun fS H2 aC eI da s2=>k1 fS H2 aC eI da (sm.trans s2),fun fS H2 aC eI da s2=>k2 fS H2 aC eI da (sm.trans s2),fun fS H2 aC eI da s2=>k3 fS H2 aC eI da (sm.trans s2),fun v H2 aC m d As s2=>k4 v H2 aC m d As (sm.trans s2),fun n H2 s2=>kx n H2 (sm.trans s2)⟩) fun f Uv hs=>SP.jB hs fun p hp=>i5 _ (b9 _ hp)
   rw[List.set_comm _ _ fA,List.set_set,hρ a,show X.N.length=(aI.set j none).length by rw[MA];exact I1.len.symm]
   exact SR.exc (aI.set j none) i
  |brk=>obtain⟨_,_,_,z⟩:=hs;exact z.elim
  |cont=>obtain⟨_,_,_,z⟩:=hs;exact z.elim
  |ret u=>obtain⟨_,_,_,_,_,z⟩:=hs;exact z.elim
end L2.Q
namespace L2.Q.R
open PySem PySem.Spec PyProof.Rows L2.Q
theorem Jo{wr:Addr->Str->WS}:Bw t ρk wr E ρ=t { E with nx:=fun _=>False,rt:=fun m d=>oo m d (fun n=>∀ a,wr a n E (ρk a)) (E.rt m d) } ρ:=rfl
end L2.Q.R
namespace L2.Q
open PySem PySem.Spec PyProof.Rows
def LZ(m:Md)(d:D)(S:D->D->Prop)(O:D->D->Prop):Prop:=match m,d with
 |.sh,.tup [a,b]=>S a b
 |.ow true,.tup [a,b]=>a.flat=false/\b.flat=false/\O a b
 |_,_=>False
def zB(i j:Nat)(te:WE):WS:=fun E ρ=>te ρ fun m d=>LZ m d (fun a b=>E.nx ((ρ.set i (some (.sh a))).set j (some (.sh b)))) fun a b=>E.nx ((ρ.set i (some (.ow true a))).set j (some (.ow true b)))
theorem Bg{X:Cx}{K:PySem.W.Frag}(hc:X.calm=true)(hN:X.N.Nodup)(hi:X.N[i]? = some x)(hx:Loc X.env.scope x)(hj:X.N[j]? = some y)(hy:Loc X.env.scope y)(he:QE X K e te)(hK:X.K=K:=by rfl)
  (hf:X.fn x=true\/X.env.scope.names.lookup x=some .local:=by first|exact .inl rfl|exact .inr rfl|assumption) (hf2:X.fn y=true\/X.env.scope.names.lookup y=some .local:=by first|exact .inl rfl|exact .inr rfl|assumption)
  (hn:(assignEach [.Name x p1,.Name y p2] X.env).length=2:=by rfl) (jv:(assignEach [.Name x p1,.Name y p2] X.env).findIdx? (·.1)=none:=by rfl)
  (hs:swapsWithSole [.Tuple [.Name x p1,.Name y p2] k p3] e pos.line X.env=pure false:=by rfl) (hw:swappedStores [.Tuple [.Name x p1,.Name y p2] k p3] e X.env=pure none:=by rfl)
  (h1:(assignEach [.Tuple [.Name x p1,.Name y p2] k p3] X.env).map (·.2)=[assign (.Tuple [.Name x p1,.Name y p2] k p3) X.env]:=by rfl) (h2:(assignEach [.Name x p1,.Name y p2] X.env).map (·.2)=assign (.Name x p1) X.env :: (assignEach [.Name y p2] X.env).map (·.2):=by rfl)
  (h3:(assignEach [.Name y p2] X.env).map (·.2)=assign (.Name y p2) X.env :: (assignEach [] X.env).map (·.2):=by rfl) :
  QS X K L (.Assign [.Tuple [.Name x p1,.Name y p2] k p3] e pos) (zB i j te):=by
 subst hK
 refine PS.imp (XC he (To hc (Pt (Pq hN hi hx hf) (Pt (Pq hN hj hy hf2) Tn h3) h2) hn jv) hs hw h1) fun D σ H hx=>gf hx fun Hs ρ ag E sr h k1 k2 k3 k4=>?_
 refine⟨Hs,ρ,ag,_,sr,h,fun v H1 aS m d As g1 r1 f1 q1=>?_⟩
 have Og:=sr.grow g1
 unfold LZ at q1
 split at q1
 ·rename_i a b
  obtain⟨_,r⟩:=r1
  cases r with
  |tup z e rs =>
   cases rs with
   |cons ra rs=>cases rs with
    |cons rb rs=>cases rs with
     |nil =>
      obtain⟨t1,m1,s1⟩:=Og.Bj i ra
      obtain⟨t2,m2,s2⟩:=s1.Bj j rb
      exact⟨_,_,rfl,.inl (.inl (g1.wf.sub _ _ e)),rfl,_,_,rfl,_,_,rfl,rfl,k1 _ H1 aS _ t2 g1.sh s2 q1⟩
 ·rename_i a b
  obtain⟨fa,fb,q1⟩:=q1
  obtain⟨r,ne⟩:=r1
  cases r with
  |sh _ _=>exact absurd rfl ne
  |tup z e n rs =>
   cases rs with
   |@cons _ v1 _ _ A1 _ ra rs=>cases rs with
    |@cons _ v2 _ _ A2 _ rb rs=>cases rs with
     |nil =>
      obtain⟨nd,fr⟩:=f1
      rw[nV] at nd fr
      obtain⟨n1,n2,n3⟩:=ja.mp nd
      have dj:∀ c∈A1++A2,c∉ag:=fun c hc z=>(sr.sr.own c z).ne (fr c hc).2
      obtain⟨t1,a1,b1,c1⟩:=SR.wy (ra.ne fa) ra n1 i Og.sr Og.sf fun c hc=>dj c (i5 _ hc)
      obtain⟨t2,a2,b2,c2⟩:=SR.wy (rb.ne fb) rb n2 j c1 a1 fun c hc z=>by
       rcases b1 c z with w|w
       ·exact dj c (fe _ hc) w
       ·exact n3 c w c hc rfl
      refine⟨_,_,rfl,.inl (.inl (g1.wf.sub _ _ e)),rfl,_,_,rfl,_,_,rfl,rfl,k1 _ H1 aS _ t2 g1.sh ⟨c2,g1.wf,a2,fun c hc=>?_⟩ q1⟩
      rcases b2 c hc with w|w
      ·rcases b1 c w with w|w
       ·exact Og.own c w
       ·exact(fr c (i5 _ w)).1
      ·exact(fr c (fe _ w)).1
 ·exact q1.elim
end L2.Q
namespace L2.Q.R
open PySem PySem.Spec PyProof.Rows L2.Q
section
variable {E:lA}{ρ:Env}{te:WE}{i j:Nat}{x y:L2.Q.D}{S O:L2.Q.D->L2.Q.D->Prop}
theorem JG:zB i j te E ρ=te ρ fun m d=>bI (m,d) (f:=fun p=>LZ p.1 p.2 (fun a b=>E.nx ((ρ.set i (some (.sh a))).set j (some (.sh b)))) fun a b=>E.nx ((ρ.set i (some (.ow true a))).set j (some (.ow true b)))) ⟨⟩:=rfl
theorem Hc:LZ .sh (.tup [x,y]) S O=S x y:=rfl
theorem Gu:LZ (.ow true) (.tup [x,y]) S O=(x.flat=false/\y.flat=false/\O x y):=rfl
end
end L2.Q.R
namespace L2
open PySem PySem.Spec PyProof.Rows Builtin Builtin.Str Builtin.Int
end L2
namespace L2.Q
open PySem PySem.Spec PyProof.Rows
section
variable {X:Cx}{K:PySem.W.Frag}{a:Expr}{ta:WE}
def Rq(t:WE):WE:=fun ρ Q=>t ρ fun m d=>nZ m/\Q .sh d
theorem ct'(h:QE X K a ta):QE X K a (Rq ta):=by
 refine PE.imp h fun σ H Qv hx=>iS hx fun Hs ρ ag Q sr h fin=>?_
 refine⟨Hs,ρ,ag,_,sr,h,fun v H1 aS m d As g1 r1 f1 q1=>?_⟩
 obtain⟨nb,q⟩:=q1
 cases m with
 |sh=>exact fin v H1 aS .sh d As g1 r1 f1 q
 |bo=>exact nb.elim
 |ow fl =>
  obtain⟨r,ne⟩:=r1
  have hn:∀ a∈As,aS a=none:=fun a h=>(f1.2 a h).1
  have s:=gj (H:=H1) hn
  refine fin v H1 (sA aS H1 As) .sh d [] ⟨g1.all,g1.sh.trans s,sZ g1.wf r.own,fun c hc=>?_⟩ ⟨rfl,r.rep s fun c hc=>by unfold sA;rw[if_pos hc]⟩ ⟨oz,fun _ h=>AZ h⟩ q
  unfold sA at hc
  split at hc
  ·rename_i m
   exact .inr (f1.2 c m).2
  ·exact g1.new c hc
def BD(ys:List D)(x:D):Bool:=ys.any fun z=>fT z x
def Oh(neg:Bool):W2:=fun _ x _ y Q=>∃ ys,(y=.list ys\/y=.tup ys)/\b4 12 x=true/\b4 12 y=true/\Q .sh (.bl (if neg then !BD ys x else BD ys x))
def Rr(K:PySem.W.Frag)(neg:Bool):R2:=fun x y H Q=>∃ d e xs,L2.Rep K H d x/\L2.Rep K H e y/\(e=.list xs\/e=.tuple xs)/\d.canLay0=true/\PyData.canLayAll0 xs=true/\d.depth<=60/\Q (.bl (if neg then !(xs.any fun z=>PyData.eqv z d) else xs.any fun z=>PyData.eqv z d)) H
theorem uR(hu:X.A.units+64<cLine):cq X (compareOp .NotIn) (Rr X.K true):=by
 intro pins s σ H x y v u Q I rx ry h
 obtain⟨d,e,xs,h1,h2,h3,h4,h5,h6,q⟩:=h
 obtain⟨as,r1⟩:=h1.reads I rx
 obtain⟨bs,r2⟩:=h2.reads I ry
 rcases h3 with rfl|rfl
 ·exact PySem.SeqAt.notIn_list_reads r2 r1 h5 h4 (by lia) ⟨.bl _,H,I,rfl,q⟩
 ·exact PySem.SeqAt.notIn_tuple_reads r2 r1 h5 h4 (by lia) ⟨.bl _,H,I,rfl,q⟩
theorem zE(hu:X.A.units+64<cLine)(hK:X.K=K:=by rfl):cq X (compareOp .NotIn) (Rr K true):=by subst hK;exact uR hu
theorem Bd(ys:List D)(x:D):((kg ys).any fun z=>PyData.eqv z x.py)=BD ys x:=by
 induction ys with
 |nil=>rfl
 |cons y ys ih =>
  rw[kg,DI,ih]
  rfl
theorem CP:hU K (Rr K neg) (Oh neg):=by
 intro Hs H m x v As n y u Bs Qd Qv w rx ry h f
 obtain⟨ys,hy,o1,o2,q⟩:=h
 have l1:=h_ 12 x o1
 have l2:=h_ 12 y o2
 refine⟨x.py,y.py,kg ys,(rx.rep w).l2 o1,(ry.rep w).l2 o2,?_,l1.1,?_,by lia,?_⟩
 ·rcases hy with rfl|rfl
  ·exact .inl rfl
  ·exact .inr rfl
 ·rcases hy with rfl|rfl
  ·exact l2.1
  ·exact l2.1
 ·rw[Bd]
  exact f.sh w (.bl _) q
def EV(o:Option (Option Sl))(k:List D->Prop):Prop:=match o with
 |some (some (.ow true (.list xs)))=>k xs
 |_=>False
def intD(y:D)(k:Int->Prop):Prop:=match y with
 |.int i=>k i
 |_=>False
def L4(d:D):Md:=bif d.flat then .sh else .ow true
end
end L2.Q
namespace L2.Q.R
open PySem PySem.Spec PyProof.Rows L2.Q
section
variable {ρ:Env}{te:WE}{m m':Md}{x:L2.Q.D}{ys:List L2.Q.D}{Q:Md->L2.Q.D->Prop}
theorem HW:EV (some (some (.ow true (.list ys)))) k=k ys:=rfl
theorem Jl:intD (.int i) k=k i:=rfl
theorem cu':Rq te ρ Q=te ρ fun m d=>nZ m/\Q .sh d:=rfl
theorem JC:Oh neg m x m' (.list ys) Q=(b4 12 x=true/\b4 12 (.list ys)=true/\Q .sh (.bl (if neg then !BD ys x else BD ys x))):=by
 apply propext
 exact⟨fun⟨zs,h,a,b,c⟩=>by rcases h with h|h<;>cases h;exact⟨a,b,c⟩,fun⟨a,b,c⟩=>⟨ys,.inl rfl,a,b,c⟩⟩
theorem Hy:Oh neg m x m' (.tup ys) Q=(b4 12 x=true/\b4 12 (.tup ys)=true/\Q .sh (.bl (if neg then !BD ys x else BD ys x))):=by
 apply propext
 exact⟨fun⟨zs,h,a,b,c⟩=>by rcases h with h|h<;>cases h;exact⟨a,b,c⟩,fun⟨a,b,c⟩=>⟨ys,.inr rfl,a,b,c⟩⟩
end
end L2.Q.R
namespace L2
open PySem PySem.Spec PyProof.Rows
end L2
namespace L2.Q
open PySem PySem.Spec PyProof.Rows
section
def V8(x:D)(f:List (Key × D)->Prop)(g:List (List Key × D)->Prop):Prop:=match x with
 |.dK kvs=>f kvs
 |.dT kvs=>g kvs
 |_=>False
def cv'(y:D)(k:List D->Prop):Prop:=match y with
 |.tup ys=>k ys
 |_=>False
def V9(o:Option D)(m n:Md)(z:D)(Q:Md->D->Prop):Prop:=match o with
 |some d=>Q (kG m d) d
 |none=>Q n z
def cw'(o:Option (Option Sl))(k:List (List Key × D)->Prop):Prop:=match o with
 |some (some (.ow true (.dT kvs)))=>k kvs
 |_=>False
end
end L2.Q
namespace L2
open PySem PySem.Spec PyProof.Rows
end L2
namespace L2.Q
open PySem PySem.Spec PyProof.Rows
section
variable {K:PySem.W.Frag}{a b c:Expr}
def cx'(d:D)(k:List (Key × D)->Prop):Prop:=match d with
 |.dK kvs=>k kvs
 |_=>False
theorem SR.take(i:Nat)(s:SR K Hs H ρ σ ag):ρ[i]? = some (some (.ow fl d))->ag.Nodup ->
  ∃ (v:V) (As bS:List Addr),σ[i]? = some (some v)/\bE K Hs H fl d v As/\As.Sublist ag/\bS.Sublist ag/\(∀ a∈As,a∉bS)/\SR K Hs H (ρ.set i none) σ bS:=by
 induction s generalizing i with
 |nil=>intro e;simp at e
 |non q ih =>
  intro e n
  cases i with
  |zero=>simp at e
  |succ i =>
   obtain⟨v,As,t,o,a,b,c,d,f⟩:=ih i e n
   exact⟨v,As,t,o,a,b,c,d,.non f⟩
 |sh r q ih =>
  intro e n
  cases i with
  |zero=>simp at e
  |succ i =>
   obtain⟨v,As,t,o,a,b,c,d,f⟩:=ih i e n
   exact⟨v,As,t,o,a,b,c,d,.sh r f⟩
 |xc q ih =>
  intro e n
  cases i with
  |zero=>simp at e
  |succ i =>
   obtain⟨v,As,t,o,a,b,c,d,f⟩:=ih i e n
   exact⟨v,As,t,o,a,b,c,d,.xc f⟩
 |ow ne r q ih =>
  intro e n
  obtain⟨n1,n2,n3⟩:=ja.mp n
  cases i with
  |zero =>
   simp at e
   obtain⟨rfl,rfl⟩:=e
   exact⟨_,_,_,rfl,r,IH _ _,pT _ _,fun a h m=>n3 a h a m rfl,.non q⟩
  |succ i =>
   obtain⟨v,As,t,o,a,b,c,d,f⟩:=ih i e n2
   exact⟨v,As,_,o,a,b.trans (pT _ _),c.append_left _,lE n b d,.ow ne r f⟩
 |lk ne r q ih =>
  intro e n
  obtain⟨n1,n2,n3⟩:=ja.mp n
  cases i with
  |zero=>simp at e
  |succ i =>
   obtain⟨v,As,t,o,a,b,c,d,f⟩:=ih i e n2
   exact⟨v,As,_,o,a,b.trans (pT _ _),c.append_left _,lE n b d,.lk ne r f⟩
theorem zp(h:EV o k):∃ xs,o=some (some (.ow true (.list xs)))/\k xs:=by
 unfold EV at h
 split at h
 ·exact⟨_,rfl,h⟩
 ·exact h.elim
theorem zP(fA:i≠j)(sr:dk K Hs ρ σ H ag)(ei:ρ[i]? = some (some (.ow true (.list hs))))(ej:ρ[j]? = some (some (.ow true (.list xs))))
  (fl:cf xs=true) (Oa:hs.length<sizeLine) :
  ∃ a ws c vs da,σ[i]? = some (some (.ref a))/\H a=some (.lst ws)/\ws.length<sizeLine/\σ[j]? = some (some (.ref c))/\upd H a (.lst (ws++[.ref c])) c=some (.lst vs)/\ay K Hs xs vs/\vs.length<=sizeLine /\
   dk K Hs ((ρ.set j none).set i (some (.ow true (.list (hs++[.list xs]))))) σ (upd H a (.lst (ws++[.ref c]))) da:=by
 obtain⟨v,As,bS,e1,r,sb,st,dj,s1⟩:=SR.take j sr.sr ej sr.sf
 have ei':(ρ.set j none)[i]? = some (some (.ow true (.list hs))):=by rw[DB (Ne.symm fA)];exact ei
 obtain⟨u,Ai,_,e2,ne,ri,si,g⟩:=SR.put i s1 ei' (st.nodup sr.sf)
 cases r with
 |sh hf _=>exact absurd (hf rfl) (by simp[D.flat])
 |@list c vs _ B hz ec rs =>
  cases ri with
  |sh _ _=>exact absurd rfl ne
  |@list a ws _ A hw ea ra =>
   have V_:c≠a:=fun z=>dj c cc (si.subset (z ▸ cc))
   have nd1:=si.nodup (st.nodup sr.sf)
   obtain⟨na,nA⟩:=lS.mp nd1
   have ndj:=sb.nodup sr.sf
   have dA:∀ x∈c :: B,x∉a :: A:=fun x hx m=>dj x hx (si.subset m)
   have nB:∀ x∈c :: B,x≠a:=fun x hx z=>dA x hx (z ▸ cc)
   have hl:=ra.length
   have r3:bE K Hs (upd H a (.lst (ws++[.ref c]))) true (.list (hs++[.list xs])) (.ref a) (a :: (A++((c :: B)++[]))):=by
    refine .list (by rw[tS,<- hl];exact Oa) jS ((ra.eJ (H':=upd H a (.lst (ws++[.ref c]))) (ax.refl _) fun b hb=>fw fun z=>na (by subst z;exact hb)).append (.cons (.list hz ((fw V_).trans ec) (rs.eJ (ax.refl _) fun b hb=>fw (nB b (b9 _ hb)))) .nil))
   obtain⟨da,n2,i2,s2⟩:=g Hs _ true _ _ (ax.refl _) r3 (by simp) (lS.mpr ⟨fun m=>(dP.mp m).elim na fun m=>nB a (by simpa using m) rfl,ja.mpr ⟨nA,by simpa using ndj,fun x hx y hy e=>dA y (by simpa using hy) (e ▸ b9 _ hx)⟩⟩)
    (fun b hb m=>by
     rcases cK.mp hb with rfl|hb
     ·exact cc
     ·rcases dP.mp hb with hb|hb
      ·exact b9 _ hb
      ·exact absurd m (dj b (by simpa using hb)))
    (fun b _ nb=>fw fun z=>nb (z ▸ cc))
   have Ha:Hs a=none:=sr.own a (st.subset (si.subset cc))
   refine⟨a,ws,c,vs,da,e2,ea,by lia,e1,(fw V_).trans ec,(rs.reps sr.wf.sub fun _ _=>rfl).fM sr.wf.ic fl,hz,s2,vD sr.wf Ha (fun _ z=>nomatch z),n2,fun b hb=>?_⟩
   rcases i2 b hb with m|m
   ·exact sr.own b (st.subset m)
   ·rcases cK.mp m with rfl|m
    ·exact Ha
    ·rcases dP.mp m with m|m
     ·exact sr.own b (st.subset (si.subset (b9 _ m)))
     ·exact sr.own b (sb.subset (by simpa using m))
end
end L2.Q
namespace L2.Q.R
open PySem PySem.Spec PyProof.Rows L2.Q
section
variable {ys:List L2.Q.D}{Q:Md->L2.Q.D->Prop}{k:Nat}
theorem JL{kvs:List (Key × L2.Q.D)}{k:List (Key × L2.Q.D)->Prop}:cx' (.dK kvs) k=k kvs:=rfl
theorem Kp:V8 (.dK kvs) f g=f kvs:=rfl
theorem J8:V8 (.dT kvs) f g=g kvs:=rfl
theorem KH{k:List L2.Q.D->Prop}:cv' (.tup ys) k=k ys:=rfl
theorem JK{kvs:List (List Key × L2.Q.D)}{k:List (List Key × L2.Q.D)->Prop}:cw' (some (some (.ow true (.dT kvs)))) k=k kvs:=rfl
end
end L2.Q.R
namespace L2
open PySem PySem.Spec PyProof.Rows
end L2
namespace L2.Q
open PySem PySem.Spec PyProof.Rows
section
variable {K:PySem.W.Frag}
theorem yQ:bootBuiltins "int" = some (.type "int"):=by decide +kernel
def Oi:W1:=fun _ x Q=>match x with
 |.int i=>Q .sh (.int i)
 |.bl b=>Q .sh (.int (if b then 1 else 0))
 |_=>False
theorem Dk:A8 K (fun xs H Q=>(∃ i,xs=[.int i]/\Q (.int i) H)\/∃ k,xs=[.bl k]/\Q (.int (if k then 1 else 0)) H) Oi:=by
 intro Hs H m x v As Qd Qv w rx h f
 have r1:=rx.rep w
 cases r1 with
 |int i=>exact .inl ⟨i,rfl,f.sh w (.int _) h⟩
 |bl b=>exact .inr ⟨b,rfl,f.sh w (.int _) h⟩
 |_=>exact h.elim
end
end L2.Q
namespace L2.Q.R
open PySem PySem.Spec PyProof.Rows L2.Q
section
variable {m:Md}{Q:Md->L2.Q.D->Prop}{xs:List L2.Q.D}{k:List L2.Q.D->Prop}
def cB'(d:L2.Q.D)(k:List L2.Q.D->Prop):Prop:=match d with
 |.list xs=>k xs
 |_=>False
theorem KR:cB' (.list xs) k=k xs:=rfl
theorem Jq:V9 (some d) m n z Q=Q (kG m d) d:=rfl
theorem Ju:V9 none m n z Q=Q n z:=rfl
theorem Hz:Oi m (.int i) Q=Q .sh (.int i):=rfl
theorem I_:Oi m (.bl b) Q=Q .sh (.int (if b then 1 else 0)):=rfl
end
end L2.Q.R
namespace PySem.SeqAt
open AutoSeq1 (wpAny_loadPart')
open MeetsSeq MeetsSeq2 MeetsSeq3 SeqRoads2
def ly(A:Around)(s:Shared)(u v:Value)(b:Bool):Prop:=∀ (prog:Program) (w:World) (Q:Value->Shared->Prop) (E:Value->Shared->Prop),Q (.bool b) s->wpAny (model prog w) A (richCompare .Lt u v) Q E s
def sC(e f:Nat->Bool)(m n:Nat):Nat->Nat->Bool
 |0,_=>decide (m<n)
 |k+1,i=>if e i then sC e f m n k (i+1) else f i
theorem vX(l b:Addr)(items cv:Array Value)(n n2:Nat)(dd qf:Option Addr)(sl qh:Array (Option Value))(e f:Nat->Bool)(k:Nat) :
  ∀ i:Nat,min items.size cv.size-i=k->i<=min items.size cv.size->Meets (Builtin.«list.__eq__.loop» ⟨[.ref l,.ref b,rawInt i,rawInt 0],[]⟩)
   (fun A R s=>s.heap.get? l=some { cls:=.type "list",dict:=dd,data:=.seq items n,slots:=sl }/\s.heap.get? b=some { cls:=.type "list",dict:=qf,data:=.seq cv n2,slots:=qh } /\
    (∀ j (h1:j<items.size) (h2:j<cv.size),EqAt A.in1 s items[j] cv[j] (e j))/\(∀ j (h1:j<items.size) (h2:j<cv.size),e j=false->ly A.in1 s items[j] cv[j] (f j)) /\
    R (.ok (.ret (.bool (sC e f items.size cv.size k i)))) s):=by
 induction k with
 |zero =>
  intro i hk hle prog w A R s h
  obtain⟨hp,g,d,tk,os⟩:=s;obtain⟨hl,hb,he,hf,h⟩:=h
  wp_walk using wpAny_loadPart' hl,wpAny_loadPart' hb
  rcases (show items.size<=i\/cv.size<=i by lia) with z|z
  ·have gv:items[((i:Nat):Int).toNat]? = none:=by simp;lia
   rw[gv]
   wp_walk using wpAny_loadPart' hl,wpAny_loadPart' hb
   exact h
  ·have gV:cv[((i:Nat):Int).toNat]? = none:=by simp;lia
   rw[gV]
   cases items[((i:Nat):Int).toNat]?<;>wp_walk using wpAny_loadPart' hl,wpAny_loadPart' hb<;>exact h
 |succ k ih =>
  intro i hk hle prog w A R s h
  obtain⟨hp,g,d,tk,os⟩:=s;obtain⟨hl,hb,he,hf,h⟩:=h
  wp_walk using wpAny_loadPart' hl,wpAny_loadPart' hb
  have cS:i<items.size:=by lia
  have Rt:i<cv.size:=by lia
  have gv:items[((i:Nat):Int).toNat]? = some items[i]:=by simp[cS]
  have gV:cv[((i:Nat):Int).toNat]? = some cv[i]:=by simp[Rt]
  have hc:((i:Int)+1)=((i+1:Nat):Int):=by push_cast;rfl
  rw[gv,gV]
  refine ah (he i cS Rt prog w _ _ ?_)
  cases EW:e i with
  |true =>
   rw[sC,EW,if_pos rfl] at h
   wp_walk
   rw[hc]
   exact⟨plainId_quiet plain_eq_loop _,codeAny_builtin entry_eq_loop (by
    rw[Around.under_plainId plain_eq_loop _]
    exact ih (i+1) (by lia) (by lia) prog w A R _ ⟨hl,hb,he,hf,h⟩)⟩
  |false =>
   rw[sC,EW,if_neg gI] at h
   wp_walk using wpAny_loadPart' hl,wpAny_loadPart' hb
   rw[gv,gV]
   refine ah (hf i cS Rt EW prog w _ _ ?_)
   wp_walk
   exact h
theorem ur(l b:Addr)(items cv:Array Value)(n n2:Nat)(dd qf:Option Addr)(sl qh:Array (Option Value))(e f:Nat->Bool) :
  Meets (Builtin.«list.__lt__» ⟨[.ref l,.ref b],[]⟩)
   (fun A R s=>s.heap.get? l=some { cls:=.type "list",dict:=dd,data:=.seq items n,slots:=sl }/\s.heap.get? b=some { cls:=.type "list",dict:=qf,data:=.seq cv n2,slots:=qh } /\
    (∀ j (h1:j<items.size) (h2:j<cv.size),EqAt A.in1 s items[j] cv[j] (e j))/\(∀ j (h1:j<items.size) (h2:j<cv.size),e j=false->ly A.in1 s items[j] cv[j] (f j)) /\
    R (.ok (.ret (.bool (sC e f items.size cv.size (min items.size cv.size) 0)))) s):=by
 intro prog w A R s h
 obtain⟨hp,g,d,tk,os⟩:=s;obtain⟨hl,hb,he,hf,h⟩:=h
 have f3:=AutoSeq1.sub_list_list
 wp_walk using wpAny_loadPart' hl,wpAny_loadPart' hb
 exact⟨plainId_quiet plain_eq_loop _,codeAny_builtin entry_eq_loop (by
  rw[Around.under_plainId plain_eq_loop _]
  exact vX l b items cv n n2 dd qf sl qh e f _ 0 (Nat.sub_zero _) (dQ _) prog w A R _ ⟨hl,hb,he,hf,h⟩)⟩
theorem rY(l b:Addr)(items cv:Array Value)(n n2:Nat)(dd qf:Option Addr)(sl qh:Array (Option Value))(e f:Nat->Bool) :
  Meets (Builtin.«tuple.__lt__» ⟨[.ref l,.ref b],[]⟩)
   (fun A R s=>s.heap.get? l=some { cls:=.type "tuple",dict:=dd,data:=.seq items n,slots:=sl }/\s.heap.get? b=some { cls:=.type "tuple",dict:=qf,data:=.seq cv n2,slots:=qh } /\
    (∀ j (h1:j<items.size) (h2:j<cv.size),EqAt A.in1 s items[j] cv[j] (e j))/\(∀ j (h1:j<items.size) (h2:j<cv.size),e j=false->ly A.in1 s items[j] cv[j] (f j)) /\
    R (.ok (.ret (.bool (sC e f items.size cv.size (min items.size cv.size) 0)))) s) :=
 .of_wp fun prog w A R s h=>by
  obtain⟨hp,g,d,tk,os⟩:=s;obtain⟨hl,hb,he,hf,h⟩:=h
  have f2:=AutoSeq1.sub_tuple_tuple
  have hZ:(items.toList.zip cv.toList).length=min items.size cv.size:=by simp
  wp_walk using wpAny_loadPart' hl,wpAny_loadPart' hb,wpAny_forIn_list _ (fun rest b s'=>b.1=none/\s'=⟨hp,g,d,tk,os⟩/\∃ i,rest=(items.toList.zip cv.toList).drop i/\i<=min items.size cv.size /\
   R (.ok (.ret (.bool (sC e f items.size cv.size (min items.size cv.size-i) i)))) ⟨hp,g,d,tk,os⟩) _
  case turn =>
   rintro⟨y,x⟩ rest b s' ⟨EW,rfl,i,hz,hi,hR⟩
   have cS:i<(items.toList.zip cv.toList).length:=by
    rcases Fu i (items.toList.zip cv.toList).length with h'|h'
    ·exact h'
    ·rw[OD h'] at hz;cases hz
   have hm:i<min items.size cv.size:=hZ ▸ cS
   have h1:i<items.size:=kA hm (Nat.min_le_left _ _)
   have h2:i<cv.size:=kA hm (Nat.min_le_right _ _)
   rw[vE cS] at hz
   injection hz with Wa cC'
   have hy:y=items[i]:=by have:=congrArg Prod.fst Wa;simpa using this
   have hx:x=cv[i]:=by have:=congrArg Prod.snd Wa;simpa using this
   subst hy hx
   rw[show min items.size cv.size-i=(min items.size cv.size-(i+1))+1 by lia,sC] at hR
   refine ah (he i h1 h2 prog w _ _ ?_)
   cases hy:e i with
   |true =>
    rw[hy,if_pos rfl] at hR
    wp_walk
    exact⟨rfl,rfl,i+1,cC',hm,hR⟩
   |false =>
    rw[hy,if_neg gI] at hR
    simp only[Bool.not_false,if_true]
    refine ah (wpAny_rule ?_)
    refine ah (hf i h1 h2 hy prog w _ _ ?_)
    wp_walk
    exact⟨_,rfl,hR⟩
  case fin =>
   rintro⟨b1,b2⟩ s' ⟨EW,rfl,i,hz,hi,hR⟩
   simp only at EW
   subst EW
   have oi:min items.size cv.size<=i:=by
    rcases Fu i (items.toList.zip cv.toList).length with h'|h'
    ·rw[vE h'] at hz;cases hz
    ·exact hZ ▸ h'
   rw[show min items.size cv.size-i=0 by lia,sC] at hR
   wp_walk
   exact⟨_,rfl,by simpa[Builtin.Tuple.tupleCompareSizes] using hR⟩
  case h =>
   exact⟨rfl,rfl,0,rfl,dQ _,h⟩
section
variable {A:Around}{s:Shared}
theorem ly.tuples(hl:s.heap.IsTuple l items)(hb:s.heap.IsTuple b cv)(hu:A.units<cLine)
  (he:∀ j (h1:j<items.size) (h2:j<cv.size),EqAt A.in1 s items[j] cv[j] (e j)) (hf:∀ j (h1:j<items.size) (h2:j<cv.size),e j=false->ly A.in1 s items[j] cv[j] (f j)) :
  ly A s (.ref l) (.ref b) (sC e f items.size cv.size (min items.size cv.size) 0):=fun prog w Q E h=>by
 obtain⟨⟨cls,dd,data,sl⟩,ho,hc,n,hd⟩:=id hl
 obtain⟨⟨PL,qf,data2,qh⟩,oD,wm,n2,hd2⟩:=id hb
 simp only at hc hd wm hd2
 subst hc hd wm hd2
 exact richCompare_meets_room (op:=.Lt) ⟨_,ho,rfl⟩ ⟨_,oD,rfl⟩ F.slot_tuple_lt F.entry_tuple_lt (F.args_tuple_lt_2 _ _) (rY l b items cv n n2 dd qf sl qh e f)
  ⟨ho,oD,he,hf,show Value.bool _≠Value.notImplemented/\Q (.bool _) s from⟨(fun x=>nomatch x),h⟩⟩ hu
theorem ly.lists(hl:s.heap.IsList l items)(hb:s.heap.IsList b cv)(hu:A.units<cLine)
  (he:∀ j (h1:j<items.size) (h2:j<cv.size),EqAt A.in1 s items[j] cv[j] (e j)) (hf:∀ j (h1:j<items.size) (h2:j<cv.size),e j=false->ly A.in1 s items[j] cv[j] (f j)) :
  ly A s (.ref l) (.ref b) (sC e f items.size cv.size (min items.size cv.size) 0):=fun prog w Q E h=>by
 obtain⟨⟨cls,dd,data,sl⟩,ho,hc,n,hd⟩:=id hl
 obtain⟨⟨PL,qf,data2,qh⟩,oD,wm,n2,hd2⟩:=id hb
 simp only at hc hd wm hd2
 subst hc hd wm hd2
 exact richCompare_meets_room (op:=.Lt) ⟨_,ho,rfl⟩ ⟨_,oD,rfl⟩ F.slot_list_lt F.entry_list_lt (F.args_list_lt_2 _ _) (ur l b items cv n n2 dd qf sl qh e f)
  ⟨ho,oD,he,hf,show Value.bool _≠Value.notImplemented/\Q (.bool _) s from⟨(fun x=>nomatch x),h⟩⟩ hu
theorem ly.int(a:Int)(t:Tok)(b:Int)(u:Tok):ly A s (.int a t) (.int b u) (decide (a<b)):=fun prog w Q E h=>(show wpAny _ _ (compareOp .Lt _ _) _ _ _ from PyProof.Rows.lt_int h)
theorem ly.str(a:Str)(t:Tok)(b:Str)(u:Tok):ly A s (.str a t) (.str b u) (decide (a.cps.toList<b.cps.toList)):=fun prog w Q E h=>(show wpAny _ _ (compareOp .Lt _ _) _ _ _ from PySem.P.lt_str h)
end
def lI(lt:PyData->PyData->Bool):List PyData->List PyData->Bool
 |[],ys=>!ys.isEmpty
 |_ :: _,[]=>false
 |x :: xs,y :: ys=>if PyData.eqv x y then lI lt xs ys else lt x y
def b6:Nat->PyData->PyData->Bool
 |_,.int i,.int j=>decide (i<j)
 |_,.str x,.str y=>decide (x.cps.toList<y.cps.toList)
 |n+1,.list xs,.list ys=>lI (b6 n) xs ys
 |n+1,.tuple xs,.tuple ys=>lI (b6 n) xs ys
 |_,_,_=>false
def nI:Nat->PyData->PyData->Prop
 |_,.int _,.int _=>True
 |_,.str _,.str _=>True
 |n+1,.list xs,.list ys=>∀ (j:Nat) (x y:PyData),xs[j]? = some x->ys[j]? = some y->PyData.eqv x y=false->nI n x y
 |n+1,.tuple xs,.tuple ys=>∀ (j:Nat) (x y:PyData),xs[j]? = some x->ys[j]? = some y->PyData.eqv x y=false->nI n x y
 |_,_,_=>False
def at2(g:PyData->PyData->Bool)(xs ys:List PyData)(j:Nat):Bool:=match xs[j]?,ys[j]? with
 |some x,some y=>g x y
 |_,_=>false
theorem kO(hx:xs[j]? = some x)(hy:ys[j]? = some y):at2 g xs ys j=g x y:=by
 unfold at2
 rw[hx,hy]
theorem yP(lt:PyData->PyData->Bool)(xs ys:List PyData)(k:Nat):∀ i,min xs.length ys.length-i=k->i<=min xs.length ys.length->sC (at2 PyData.eqv xs ys) (at2 lt xs ys) xs.length ys.length k i=lI lt (xs.drop i) (ys.drop i):=by
 induction k with
 |zero =>
  intro i hk hi
  rw[sC]
  rcases Fu xs.length ys.length with z|z
  ·rw[decide_eq_true z,OD (show xs.length<=i by lia),vE (show i<ys.length by lia)]
   rfl
  ·rw[decide_eq_false (by lia),OD (show ys.length<=i by lia)]
   cases xs.drop i<;>rfl
 |succ k ih =>
  intro i hk hi
  have h1:i<xs.length:=by lia
  have h2:i<ys.length:=by lia
  rw[sC,kO (kN h1) (kN h2),kO (kN h1) (kN h2),ih (i+1) (by lia) (by lia),
   vE h1,vE h2,lI]
theorem cJ:∀ {vs:List Value} {as:List Addr},ReadsAll h vs xs as->∀ (j:Nat) (v:Value),vs[j]? = some v->∃ x bs,xs[j]? = some x/\Reads h v x bs:=by
 induction xs with
 |nil =>
  intro vs as r j v hv
  cases r
  simp at hv
 |cons x xs ih =>
  intro vs as r j v hv
  cases r with
  |cons r rs =>
   cases j with
   |zero =>
    simp at hv
    subst hv
    exact⟨x,_,rfl,r⟩
   |succ j=>exact ih rs j v (by simpa using hv)
theorem il{xs:List PyData}(h:PyData.canLayAll0 xs=true){j:Nat}{x:PyData}(hx:xs[j]? = some x):x.canLay0=true:=by
 induction xs generalizing j with
 |nil=>simp at hx
 |cons y xs ih =>
  have h:y.canLay0=true/\PyData.canLayAll0 xs=true:=by simpa[PyData.canLayAll0] using h
  cases j with
  |zero=>simp at hx;subst hx;exact h.1
  |succ j=>exact ih h.2 (by simpa using hx)
theorem kZ{xs:List PyData}{j:Nat}{x:PyData}(hx:xs[j]? = some x):x.depth<=PyData.depthAll xs:=by
 induction xs generalizing j with
 |nil=>simp at hx
 |cons y xs ih =>
  simp only[PyData.depthAll]
  cases j with
  |zero=>simp at hx;subst hx;lia
  |succ j=>have:=ih (j:=j) (by simpa using hx);lia
theorem xu(n:Nat):∀ (d e:PyData) (A:Around) (s:Shared) (a b:Value) (as bs:List Addr),Reads s.heap a d as->Reads s.heap b e bs->d.canLay0=true->e.canLay0=true->nI n d e->d.depth<=20->A.units+n+30<cLine->ly A s a b (b6 n d e):=by
 induction n with
 |zero =>
  intro d e A s a b as bs ra rb _ _ c _ _
  cases ra<;>cases rb<;>first|(rw[b6];exact ly.int _ _ _ _)|(rw[b6];exact ly.str _ _ _ _)|exact absurd c (by simp[nI])
 |succ n ih =>
  intro d e A s a b as bs ra rb la lb c dd hu
  cases ra with
  |int i t=>cases rb<;>first|(rw[b6];exact ly.int _ _ _ _)|exact absurd c (by simp[nI])
  |str x t=>cases rb<;>first|(rw[b6];exact ly.str _ _ _ _)|exact absurd c (by simp[nI])
  |@list l o vs m xs Ru h1 h2 h3 h4 =>
   cases rb with
   |@list l' o' hV m' ys Wb k1 k2 k3 k4 =>
    have n1:vs.size=xs.length:=by simpa using ReadsAll.length _ _ _ h4
    have n2:hV.size=ys.length:=by simpa using ReadsAll.length _ _ _ k4
    have L5:∀ j (h1:j<vs.size),∃ x cs,xs[j]? = some x/\Reads s.heap vs[j] x cs:=fun j hj=>cJ h4 j vs[j] (by simp[hj])
    have L6:∀ j (h1:j<hV.size),∃ x cs,ys[j]? = some x/\Reads s.heap hV[j] x cs:=fun j hj=>cJ k4 j hV[j] (by simp[hj])
    have dx:PyData.depthAll xs<20:=by simp only[PyData.depth] at dd;lia
    have:=ly.lists (A:=A) (s:=s) (e:=at2 PyData.eqv xs ys) (f:=at2 (b6 n) xs ys) ⟨_,h1,h2,_,h3⟩ ⟨_,k1,k2,_,k3⟩ (by lia) (fun j j1 j2=>by
     obtain⟨x,cs,ex,rx⟩:=L5 j j1
     obtain⟨y,Rv,ey,ry⟩:=L6 j j2
     rw[kO ex ey]
     have:=kZ ex
     exact eqAt_reads x y A.in1 s _ _ _ _ rx ry (il la ex) (il lb ey) (by show A.units+1+_<cLine;lia)) (fun j j1 j2 ne=>by
     obtain⟨x,cs,ex,rx⟩:=L5 j j1
     obtain⟨y,Rv,ey,ry⟩:=L6 j j2
     rw[kO ex ey] at ne ⊢
     have:=kZ ex
     exact ih x y A.in1 s _ _ _ _ rx ry (il la ex) (il lb ey) (c j x y ex ey ne) (by lia) (by show A.units+1+n+30<cLine;lia))
    rw[n1,n2,yP (b6 n) xs ys _ 0 (Nat.sub_zero _) (dQ _)] at this
    exact this
   |_=>exact absurd c (by simp[nI])
  |@tuple l o vs m xs Ru h1 h2 h3 h4 =>
   cases rb with
   |@tuple l' o' hV m' ys Wb k1 k2 k3 k4 =>
    have n1:vs.size=xs.length:=by simpa using ReadsAll.length _ _ _ h4
    have n2:hV.size=ys.length:=by simpa using ReadsAll.length _ _ _ k4
    have L5:∀ j (h1:j<vs.size),∃ x cs,xs[j]? = some x/\Reads s.heap vs[j] x cs:=fun j hj=>cJ h4 j vs[j] (by simp[hj])
    have L6:∀ j (h1:j<hV.size),∃ x cs,ys[j]? = some x/\Reads s.heap hV[j] x cs:=fun j hj=>cJ k4 j hV[j] (by simp[hj])
    have dx:PyData.depthAll xs<20:=by simp only[PyData.depth] at dd;lia
    have:=ly.tuples (A:=A) (s:=s) (e:=at2 PyData.eqv xs ys) (f:=at2 (b6 n) xs ys) ⟨_,h1,h2,_,h3⟩ ⟨_,k1,k2,_,k3⟩ (by lia) (fun j j1 j2=>by
     obtain⟨x,cs,ex,rx⟩:=L5 j j1
     obtain⟨y,Rv,ey,ry⟩:=L6 j j2
     rw[kO ex ey]
     have:=kZ ex
     exact eqAt_reads x y A.in1 s _ _ _ _ rx ry (il la ex) (il lb ey) (by show A.units+1+_<cLine;lia)) (fun j j1 j2 ne=>by
     obtain⟨x,cs,ex,rx⟩:=L5 j j1
     obtain⟨y,Rv,ey,ry⟩:=L6 j j2
     rw[kO ex ey] at ne ⊢
     have:=kZ ex
     exact ih x y A.in1 s _ _ _ _ rx ry (il la ex) (il lb ey) (c j x y ex ey ne) (by lia) (by show A.units+1+n+30<cLine;lia))
    rw[n1,n2,yP (b6 n) xs ys _ 0 (Nat.sub_zero _) (dQ _)] at this
    exact this
   |_=>exact absurd c (by simp[nI])
  |_=>cases rb<;>exact absurd c (by simp[nI])
end PySem.SeqAt
namespace L2
open PySem PySem.Spec PyProof.Rows PySem.SeqAt
structure g9(lt:PyData->PyData->Bool)(S:PyData->Prop):Prop where
 oq:∀ x,S x->lt x x=false
 tr:∀ x y z,S x->S y->S z->lt x y=true->lt y z=true->lt x z=true
 ag:∀ x y,S x->S y->lt x y=false->lt y x=false->x=y
 eqv:∀ x y,S x->S y->(PyData.eqv x y=true↔x=y)
theorem g9.int(n:Nat):g9 (b6 n) fun x=>∃ i,x=.int i where
 oq:=by rintro x ⟨i,rfl⟩;rw[b6];simp
 tr:=by rintro x y z ⟨i,rfl⟩ ⟨j,rfl⟩ ⟨k,rfl⟩;rw[b6,b6,b6];simp only[decide_eq_true_eq];lia
 ag:=by rintro x y ⟨i,rfl⟩ ⟨j,rfl⟩;rw[b6,b6];simp only[decide_eq_false_iff_not,PyData.int.injEq];lia
 eqv:=by rintro x y ⟨i,rfl⟩ ⟨j,rfl⟩;simp[PyData.eqv]
theorem g9.str(n:Nat):g9 (b6 n) fun x=>∃ s,x=.str s where
 oq:=by rintro x ⟨i,rfl⟩;rw[b6];exact uK i
 tr:=by rintro x y z ⟨i,rfl⟩ ⟨j,rfl⟩ ⟨k,rfl⟩;rw[b6,b6,b6];exact fun h g=>y_ (y:=j) h g
 ag:=by rintro x y ⟨i,rfl⟩ ⟨j,rfl⟩;rw[b6,b6];exact fun h g=>by rw[vm (x:=i) (y:=j) h g]
 eqv:=by rintro x y ⟨i,rfl⟩ ⟨j,rfl⟩;simp[PyData.eqv]
section
variable {lt:PyData->PyData->Bool}{S:PyData->Prop}
theorem wU(T:g9 lt S)(xs:List PyData)(h:∀ x∈xs,S x):lI lt xs xs=false:=by
 induction xs with
 |nil=>rfl
 |cons x xs ih =>
  rw[lI,if_pos ((T.eqv x x (h x cc) (h x cc)).mpr rfl)]
  exact ih fun y hy=>h y (b9 _ hy)
open Classical in
theorem cO(T:g9 lt S)(hx:S x)(hy:S y):lI lt (x :: xs) (y :: ys)=if x=y then lI lt xs ys else lt x y:=by
 rw[lI]
 by_cases e:x=y
 ·rw[if_pos e,if_pos ((T.eqv x y hx hy).mpr e)]
 ·rw[if_neg e,if_neg fun z=>e ((T.eqv x y hx hy).mp z)]
theorem yg(T:g9 lt S)(xs:List PyData):∀ ys:List PyData,(∀ x∈xs,S x)->(∀ y∈ys,S y)->lI lt xs ys=false->lI lt ys xs=false->xs=ys:=by
 induction xs with
 |nil =>
  intro ys _ _ h _
  cases ys with
  |nil=>rfl
  |cons y ys=>cases h
 |cons x xs ih =>
  intro ys hx hy h1 h2
  cases ys with
  |nil=>cases h2
  |cons y ys =>
   have sx:=hx x cc
   have sy:=hy y cc
   rw[cO T sx sy] at h1
   rw[cO T sy sx] at h2
   by_cases e:x=y
   ·subst e
    rw[if_pos rfl] at h1 h2
    rw[ih ys (fun z hz=>hx z (b9 _ hz)) (fun z hz=>hy z (b9 _ hz)) h1 h2]
   ·rw[if_neg e] at h1
    rw[if_neg fun z=>e z.symm] at h2
    exact absurd (T.ag x y sx sy h1 h2) e
theorem zx(T:g9 lt S)(xs:List PyData):∀ ys zs:List PyData,(∀ x∈xs,S x)->(∀ y∈ys,S y)->(∀ z∈zs,S z)->lI lt xs ys=true->lI lt ys zs=true->lI lt xs zs=true:=by
 induction xs with
 |nil =>
  intro ys zs _ _ _ h1 h2
  cases zs with
  |cons z zs=>rfl
  |nil =>
   cases ys with
   |nil=>cases h1
   |cons y ys=>cases h2
 |cons x xs ih =>
  intro ys zs hx hy hz h1 h2
  cases ys with
  |nil=>cases h1
  |cons y ys =>
   cases zs with
   |nil=>cases h2
   |cons z zs =>
    have sx:=hx x cc
    have sy:=hy y cc
    have sz:=hz z cc
    rw[cO T sx sy] at h1
    rw[cO T sy sz] at h2
    rw[cO T sx sz]
    have tl:=ih ys zs (fun z hz=>hx z (b9 _ hz)) (fun z hz=>hy z (b9 _ hz)) fun w hw=>hz w (b9 _ hw)
    by_cases e1:x=y
    ·subst e1
     rw[if_pos rfl] at h1
     by_cases e2:x=z
     ·subst e2
      rw[if_pos rfl] at h2 ⊢
      exact tl h1 h2
     ·rw[if_neg e2] at h2 ⊢
      exact h2
    ·rw[if_neg e1] at h1
     by_cases e2:y=z
     ·subst e2
      rw[if_neg e1]
      exact h1
     ·rw[if_neg e2] at h2
      have t:=T.tr x y z sx sy sz h1 h2
      by_cases e3:x=z
      ·subst e3
       rw[T.oq x sx] at t
       cases t
      ·rw[if_neg e3];exact t
theorem rM(T:g9 lt S)(xs:List PyData):∀ ys:List PyData,(∀ x∈xs,S x)->(∀ y∈ys,S y)->(PyData.eqvAll xs ys=true↔xs=ys):=by
 induction xs with
 |nil=>intro ys _ _;cases ys<;>simp[PyData.eqvAll]
 |cons x xs ih =>
  intro ys hx hy
  cases ys with
  |nil=>simp[PyData.eqvAll]
  |cons y ys =>
   have h1:=T.eqv x y (hx x cc) (hy y cc)
   have h2:=ih ys (fun z hz=>hx z (b9 _ hz)) fun z hz=>hy z (b9 _ hz)
   simp only[PyData.eqvAll,kQ,List.cons.injEq]
   exact and_congr h1 h2
end
theorem g9.list{S:PyData->Prop}(T:g9 (b6 n) S):g9 (b6 (n+1)) fun x=>∃ xs,x=.list xs/\∀ y∈xs,S y where
 oq:=by rintro x ⟨xs,rfl,h⟩;rw[b6];exact wU T xs h
 tr:=by rintro x y z ⟨xs,rfl,h⟩ ⟨ys,rfl,h'⟩ ⟨zs,rfl,Rk⟩;rw[b6,b6,b6];exact zx T xs ys zs h h' Rk
 ag:=by
  rintro x y ⟨xs,rfl,h⟩ ⟨ys,rfl,h'⟩
  rw[b6,b6]
  exact fun h1 h2=>by rw[yg T xs ys h h' h1 h2]
 eqv:=by
  rintro x y ⟨xs,rfl,h⟩ ⟨ys,rfl,h'⟩
  rw[PyData.list.injEq]
  exact rM T xs ys h h'
open Classical in
theorem dq{S U:PyData->Prop}(T:g9 (b6 n) S)(T2:g9 (b6 n) U)(ha:S a)(hb:U b)(hc:S c)(hd:U d):lI (b6 n) [a,b] [c,d]=if a=c then b6 n b d else b6 n a c:=by
 rw[cO T ha hc,cO T2 hb hd]
 by_cases e:b=d
 ·subst e
  rw[if_pos rfl,show lI (b6 n) [] []=false from rfl,T2.oq b hb]
 ·rw[if_neg e]
theorem g9.pair{S U:PyData->Prop}(T:g9 (b6 n) S)(T2:g9 (b6 n) U):g9 (b6 (n+1)) fun x=>∃ a b,x=.tuple [a,b]/\S a/\U b where
 oq:=by rintro x ⟨a,b,rfl,ha,hb⟩;rw[b6,dq T T2 ha hb ha hb,if_pos rfl];exact T2.oq b hb
 tr:=by
  rintro x y z ⟨a,b,rfl,ha,hb⟩ ⟨c,d,rfl,hc,hd⟩ ⟨e,f,rfl,he,hf⟩
  rw[b6,b6,b6,dq T T2 ha hb hc hd,dq T T2 hc hd he hf,dq T T2 ha hb he hf]
  intro h1 h2
  by_cases e1:a=c
  ·subst e1
   rw[if_pos rfl] at h1
   by_cases e2:a=e
   ·subst e2
    rw[if_pos rfl] at h2 ⊢
    exact T2.tr b d f hb hd hf h1 h2
   ·rw[if_neg e2] at h2 ⊢
    exact h2
  ·rw[if_neg e1] at h1
   by_cases e2:c=e
   ·subst e2
    rw[if_neg e1];exact h1
   ·rw[if_neg e2] at h2
    have t:=T.tr a c e ha hc he h1 h2
    by_cases e3:a=e
    ·subst e3
     rw[T.oq a ha] at t;cases t
    ·rw[if_neg e3];exact t
 ag:=by
  rintro x y ⟨a,b,rfl,ha,hb⟩ ⟨c,d,rfl,hc,hd⟩
  rw[b6,b6,dq T T2 ha hb hc hd,dq T T2 hc hd ha hb]
  intro h1 h2
  by_cases e:a=c
  ·subst e
   rw[if_pos rfl] at h1 h2
   rw[T2.ag b d hb hd h1 h2]
  ·rw[if_neg e] at h1
   rw[if_neg fun z=>e z.symm] at h2
   exact absurd (T.ag a c ha hc h1 h2) e
 eqv:=by
  rintro x y ⟨a,b,rfl,ha,hb⟩ ⟨c,d,rfl,hc,hd⟩
  have h1:=T.eqv a c ha hc
  have h2:=T2.eqv b d hb hd
  simp only[PyData.eqv,PyData.eqvAll,kQ,ML,PyData.tuple.injEq,List.cons.injEq,and_true]
  exact and_congr h1 h2
section
variable {prog:Program}{w:World}{A:Around}{E:Value->Shared->Prop}{s:Shared}{Q:Bool->Shared->Prop}
theorem yH(xs:List PyData):∀ (ys:List PyData) (us vs:List Value) (as bs:List Addr) (i:Nat),ReadsAll s.heap us xs as->ReadsAll s.heap vs ys bs->PyData.canLayAll0 xs=true->PyData.canLayAll0 ys=true->PyData.depthAll xs<=20 ->
  (∀ (j:Nat) (x y:PyData),xs[j]? = some x->ys[j]? = some y->PyData.eqv x y=false->nI n x y)->(i=0->∀ x y,xs[0]? = some x->ys[0]? = some y->(∃ k,x=.int k)/\∃ k,y=.int k)->xs.length=ys.length->A.units+n+30<cLine->Q (lI (b6 n) xs ys) s ->
  PySem.W.KatLex prog w A true false Q (us.zip vs) i s:=by
 induction xs with
 |nil =>
  intro ys us vs as bs i ra rb _ _ _ _ _ hl _ q
  cases ys with
  |cons y ys=>cases hl
  |nil =>
   cases ra
   exact PySem.W.kat_nil q
 |cons x xs ih =>
  intro ys us vs as bs i ra rb la lb dp c hi hl hu q
  cases ys with
  |nil=>cases hl
  |cons y ys =>
   cases ra with
   |cons r rs =>
    cases rb with
    |cons r' Rw =>
     have Rx:x.canLay0=true/\PyData.canLayAll0 xs=true:=by simpa[PyData.canLayAll0] using la
     have Ry:y.canLay0=true/\PyData.canLayAll0 ys=true:=by simpa[PyData.canLayAll0] using lb
     have Wc:x.depth<=20/\PyData.depthAll xs<=20:=by simp only[PyData.depthAll] at dp;lia
     rw[zv]
     rw[lI] at q
     refine PySem.W.kat_cons (eqAt_reads x y A s _ _ _ _ r r' Rx.1 Ry.1 (by lia) prog w _ _ (PySem.W.kat_go (fun h=>PySem.W.kat_yes ?_) (fun h=>PySem.W.kat_no ?_)))
     ·rw[if_pos h] at q
      exact ih ys _ _ _ _ (i+1) rs Rw Rx.2 Ry.2 Wc.2 (fun j=>c (j+1)) (fun z=>by lia) (by simpa using hl) hu q
     ·rw[if_neg (by rw[h];exact gI)] at q
      by_cases h0:i=0
      ·obtain⟨⟨a,rfl⟩,⟨b,rfl⟩⟩:=hi h0 x y rfl rfl
       subst h0
       cases r
       cases r'
       rw[b6] at q
       exact oneLt_int q
      ·rw[show(true && i == 0)=false by simp[h0]]
       exact PySem.W.kat_one _ _ (xu n x y A s _ _ _ _ r r' Rx.1 Ry.1 (c 0 x y rfl rfl h) Wc.1 (by lia) prog w _ _ q)
structure EX(n:Nat)(S:PyData->Prop):Prop where
 ag:g9 (b6 (n+1)) S
 tup:∀ x,S x->∃ i xs,x=.tuple (.int i :: xs)/\x.canLay0=true/\x.depth<=20
 len:∀ xs ys,S (.tuple xs)->S (.tuple ys)->xs.length=ys.length
 cm:∀ x y,S x->S y->nI (n+1) x y
open Classical in
def jq(h:Heap)(v:Value):PyData:=if z:∃ d as,Reads h v d as/\d.canLay0=true then z.choose else .none
theorem eY(r:Reads h v d as)(l:d.canLay0=true):jq h v=d:=by
 have z:∃ d as,Reads h v d as/\d.canLay0=true:=⟨d,as,r,l⟩
 unfold jq
 rw[dif_pos z]
 obtain⟨bs,r2,l2⟩:=z.choose_spec
 exact Reads.unique _ _ _ _ _ l2 r2 r
def EZ(n:Nat)(L:List PyData)(d:PyData):Int:=(L.countP fun e=>b6 n e d:Nat)
theorem yI{S:PyData->Prop}(T:g9 (b6 n) S)(hL:∀ d∈L,S d)(ha:a∈L)(hb:S b):decide (EZ n L a<EZ n L b)=b6 n a b:=by
 have sa:=hL a ha
 unfold EZ
 cases h:b6 n a b with
 |true =>
  have:=lg (fun j=>b6 n j a) (fun j=>b6 n j b) a (T.oq a sa) h L ha fun x hx z=>T.tr x a b (hL x hx) sa hb z h
  exact decide_eq_true (by lia)
 |false =>
  refine decide_eq_false ?_
  cases g:b6 n b a with
  |false =>
   rw[T.ag a b sa hb h g]
   lia
  |true =>
   have:=count_le (fun j=>b6 n j b) (fun j=>b6 n j a) L fun x hx z=>T.tr x b a (hL x hx) hb sa z g
   lia
theorem xW{S:PyData->Prop}(K:EX n S)(kp:∀ b o,h0.get? b=some o->s.heap.get? b=some o)(hL:∀ d∈L,S d)(hu:A.units+n+31<cLine) :
  wt.kE prog w A s (tuples' true) (fun v=>EZ (n+1) L (jq h0 v)) (fun v=>∃ d as,d∈L/\Reads h0 v d as):=by
 rintro x y ⟨d,as,md,rd⟩ ⟨e,bs,me,re⟩ Q E q
 have sd:=hL d md
 have se:=hL e me
 obtain⟨i,xs,rfl,ld,dd⟩:=K.tup d sd
 obtain⟨j,ys,rfl,le,de⟩:=K.tup e se
 replace q:Q (decide (EZ (n+1) L (jq h0 x)<EZ (n+1) L (jq h0 y))) s:=q
 rw[eY rd ld,eY re le,yI K.ag hL md se,b6] at q
 have rd':=PyProof.Rows.Reads.keeps kp rd
 have re':=PyProof.Rows.Reads.keeps kp re
 have cm:=K.cm _ _ sd se
 have hl:=K.len _ _ sd se
 cases rd' with
 |@tuple a o us m _ Ru h1 h2 h3 h4 =>
  cases re' with
  |@tuple b o' vs m' _ Wb k1 k2 k3 k4 =>
   have n1:us.size=(PyData.int i :: xs).length:=by simpa using ReadsAll.length _ _ _ h4
   have n2:vs.size=(PyData.int j :: ys).length:=by simpa using ReadsAll.length _ _ _ k4
   refine PySem.W.kat_lt h1 h3 k1 k3 ?_
   rw[show decide (us.size<vs.size)=false from decide_eq_false (by lia)]
   exact yH (n:=n) _ _ _ _ _ _ 0 h4 k4 ld le (by simp only[PyData.depth] at dd;lia) cm (fun _ x y hx hy=>by cases hx;cases hy;exact⟨⟨_,rfl⟩,_,rfl⟩) hl (by lia) q
end
section
variable {X:Cx}{pins:List (Addr × Obj)}{σ:St}{H:Hp}{s:Shared}
theorem uN(I:Inv X pins σ H s):∀ {ds:List PyData} {ys:List V} {vs:List Value},ay X.K H ds ys->Vals ys vs->∀ v∈vs,∃ d y as,d∈ds/\Rep X.K H d y/\RelV y v/\Reads s.heap v d as
 |_,_,_,.nil,.nil,v,hv=>nomatch hv
 |_,_,_,.cons r rs,.cons q qs,v,hv=>by
  rcases cK.mp hv with rfl|hv
  ·obtain⟨as,z⟩:=r.reads I q
   exact⟨_,_,as,cc,r,q,z⟩
  ·obtain⟨d,y,as,a,b,c,z⟩:=uN I rs qs v hv
   exact⟨d,y,as,b9 _ a,b,c,z⟩
theorem qd{S:PyData->Prop}(K:EX n S):∀ (vs:List Value),(∀ v∈vs,∃ d as,S d/\Reads h0 v d as)->∃ fs:List Value,PySem.W.KatTups h0 vs fs/\fs.length=vs.length/\∀ f∈fs,∃ i t,f=Value.int i t
 |[],_=>⟨[],.nil,rfl,fun f hf=>nomatch hf⟩
 |v :: vs,h=>by
  obtain⟨fs,f1,f2,f3⟩:=qd K vs fun u hu=>h u (b9 _ hu)
  obtain⟨d,as,sd,r⟩:=h v cc
  obtain⟨i,xs,rfl,_,_⟩:=K.tup d sd
  cases r with
  |@tuple a o us m _ Ru h1 h2 h3 h4 =>
   obtain⟨us⟩:=us
   cases h4 with
   |cons r rs =>
    cases r with
    |int _ t =>
     exact⟨_ :: fs,.cons h1 h2 h3 rfl f1,by simp[f2],fun f hf=>by
      rcases cK.mp hf with rfl|hf
      ·exact⟨_,_,rfl⟩
      ·exact f3 f hf⟩
def E2:Value->V
 |.ref a=>.ref a
 |_=>.non
theorem uX{S:PyData->Prop}(K:EX n S)(sd:S d)(q:RelV y v)(r:Reads h0 v d as):E2 v=y:=by
 obtain⟨i,xs,rfl,_,_⟩:=K.tup d sd
 cases r with
 |tuple h1 h2 h3 h4 =>
  cases y with
  |ref b=>cases (show Value.ref _=Value.ref b from q);rfl
  |_=>simp[RelV] at q
theorem qQ{S:PyData->Prop}(K:EX n S)(I:Inv X pins σ H s):∀ {ds:List PyData} {ys:List V} {vs:List Value},ay X.K H ds ys->Vals ys vs->(∀ d∈ds,S d)->vs.map (fun v=>(jq s.heap v,E2 v))=ds.zip ys
 |_,_,_,.nil,.nil,_=>rfl
 |_,_,_,.cons r rs,.cons q qs,h=>by
  obtain⟨as,z⟩:=r.reads I q
  have sd:=h _ cc
  obtain⟨_,_,_,l,_⟩:=K.tup _ sd
  rw[fm,eY z l,uX K sd q z,qQ K I rs qs fun d hd=>h d (b9 _ hd),zv]
def kY(K:PySem.W.Frag)(n:Nat)(S:PyData->Prop):List V->Hp->VK->Prop:=fun xs H Q=>match xs with
 |[.ref p]=>∃ ys ds,eh K H p ys/\ay K H ds ys/\(∀ d∈ds,S d)/\∀ (ps:List (PyData × V)) l,ps.Perm (ds.zip ys)->(ps.Pairwise fun a b=>b6 (n+1) b.1 a.1=false)->H l=none->Q (.ref l) (upd H l (.lst (ps.map (·.2))))
 |_=>False
theorem rG {S:PyData->Prop} (K:EX n S) (hu:X.A.units+n+40<cLine):iO X (.builtin "sorted") (kY X.K n S):=by
 intro pins s σ H xs us Q I r h
 unfold kY at h
 split at h
 ·rename_i p
  obtain⟨ys,ds,hl,hr,hS,q⟩:=h
  obtain⟨u,rfl,ru⟩:=Vals.one r
  cases ru
  obtain⟨vs,rv,pl,hz⟩:=I.list hl
  have lay:∀ d∈ds,d.canLay0=true:=fun d hd=>by obtain⟨_,_,_,l,_⟩:=K.tup d (hS d hd);exact l
  have mem:=uN I hr rv
  have hlen:=rv.length
  refine wt.v_ (κ:=tuples' true) (r:=fun v=>EZ (n+1) ds (jq s.heap v)) (P:=fun v=>∃ d as,d∈ds/\Reads s.heap v d as) pl.isList (by lia) (fun v hv=>?_) (fun h2 A' E' s' kp Q' q'=>?_) (fun h2 s' kp=>xW K kp hS (by show X.A.units+1+1+n+31<cLine;lia)) fun h' out m pm pw kp eo=>?_
  ·obtain⟨d,y,as,a,b,c,z⟩:=mem v hv
   exact⟨d,as,a,z⟩
  ·obtain⟨fs,f1,f2,f3⟩:=qd (h0:=s'.heap) K vs fun v hv=>by
    obtain⟨d,y,as,a,b,c,z⟩:=mem v hv
    exact⟨d,as,hS d a,PyProof.Rows.Reads.keeps kp z⟩
   refine PySem.W.kat_kind (T:=.type "int") f1 (by lia) (fun f hf=>?_) (by decide) q'
   obtain⟨i,t,rfl⟩:=f3 f hf
   exact .now
  ·have back:∀ v∈out,∃ d y as,d∈ds/\Rep X.K H d y/\RelV y v/\Reads s.heap v d as:=fun v hv=>mem v (pm.mem_iff.mp hv)
   have rel:∀ l:List Value,(∀ v∈l,v∈out)->Vals (l.map E2) l:=by
    intro l
    induction l with
    |nil=>exact fun _=>.nil
    |cons v l ih =>
     intro hm
     obtain⟨d,y,as,a,b,c,z⟩:=back v (hm v cc)
     exact .cons (by rw[uX K (hS d a) c z];exact c) (ih fun u hu=>hm u (b9 _ hu))
   have z2:=rel out fun _ h=>h
   have ol:=pm.length_eq
   have e2:(out.map fun v=>(jq s.heap v,E2 v)).map (·.2)=out.map E2:=by rw[mM];rfl
   have q':=q (out.map fun v=>(jq s.heap v,E2 v)) (s.heap.objs.size+1) (by rw[<- qQ K I hr rv hS];exact pm.map _) ?_ (I.bp.fresh (Nat.le_succ _))
   ·rw[e2] at q'
    exact⟨.ref (s.heap.objs.size+1),_,I.laid (a:=s.heap.objs.size+1) (t':=s.toks) kp (Nat.le_succ _) (show eR X.prog X.w _ h' _ (.lst (out.map E2)) from⟨by rw[dc];lia,out,m,z2,eo⟩),rfl,q'⟩
   rw[qa]
   refine pw.imp_of_mem fun {x y} mx my hle=>?_
   obtain⟨d,_,as,md,_,_,rd⟩:=back x mx
   obtain⟨e,_,bs,me,_,_,re⟩:=back y my
   rw[eY rd (lay d md),eY re (lay e me)] at *
   have:=yI K.ag hS me (hS d md)
   rw[<- this]
   exact decide_eq_false (by lia)
 ·exact h.elim
end
end L2
namespace L2.Q
open PySem PySem.Spec PyProof.Rows PySem.SeqAt
section
variable {X:Cx}{K:PySem.W.Frag}{Hs H:Hp}
theorem gK(xs:List D):kg xs=xs.map D.py:=by
 induction xs with
 |nil=>rfl
 |cons x xs ih=>rw[kg,ih];rfl
theorem yw:∀ {vs:List V},ay K H xs vs->∀ p∈xs.zip vs,Rep K H p.1 p.2:=by
 induction xs with
 |nil=>intro vs r p hp;simp at hp
 |cons x xs ih =>
  intro vs r p hp
  obtain⟨u,us,rfl,r1,rs⟩:=r.c
  rw[zv] at hp
  rcases cK.mp hp with rfl|hp
  ·exact r1
  ·exact ih rs p hp
theorem rB(l:List (D × V))(h:∀ p∈l,Rep K H p.1 p.2):ay K H (l.map (·.1)) (l.map (·.2)):=by
 induction l with
 |nil=>exact .nil
 |cons p l ih=>exact .cons (h p cc) (ih fun q hq=>h q (b9 _ hq))
def yS(n:Nat)(S:PyData->Prop):W1:=fun m x Q=>match x with
 |.list xs=>m=.sh/\(∀ d∈xs,b4 12 d=true/\S d.py)/\∀ ms:List D,ms.Perm xs->(ms.Pairwise fun a b=>b6 (n+1) b.py a.py=false)->Q (.ow false) (.list ms)
 |_=>False
theorem yf{S:PyData->Prop}:A8 K (kY K n S) (yS n S):=by
 intro Hs H m x v As Qd Qv w rx h f
 have r1:=rx.rep w
 cases r1 with
 |@list _ _ Oj z s q =>
  obtain⟨rfl,hS,h⟩:=h
  obtain⟨_,rx⟩:=rx
  cases rx with
  |@list _ hV _ z' s' q' =>
   have hl:=q'.length
   have ez:(kg Oj).zip hV=(Oj.zip hV).map fun p=>(p.1.py,p.2):=by
    rw[gK,List.zip_map_left]
    rfl
   refine⟨_,kg Oj,ax.seq w.sub s',Rep.QJ.2 (q'.same w.sub) 12 fun d hd=>(hS d hd).1,fun d hd=>?_,fun ps l hp hw hn=>?_⟩
   ·rw[gK] at hd
    obtain⟨e,he,rfl⟩:=dr.mp hd
    exact(hS e he).2
   ·obtain⟨m',rfl,pm⟩:=TS.gU hp ez
    have p1:(m'.map (·.1)).Perm Oj:=by
     have:=pm.map (·.1)
     rwa[Mv (JA hl)] at this
    have rr:=rB (K:=K) (H:=Hs) m' fun p hp=>yw q' p (pm.mem_iff.mp hp)
    rw[show(m'.map fun p=>(p.1.py,p.2)).map (·.2)=m'.map (·.2) by rw[mM];rfl]
    refine f.Lp w (by rw[p1.length_eq];lia) rr (h _ p1 ?_) l hn
    rw[qa] at hw ⊢
    exact hw
 |_=>exact h.elim
theorem Ei {S:PyData->Prop} (KS:EX n S) (hu:X.A.units+n+40<cLine) (hK:X.K=K:=by rfl):iO X (.builtin "sorted") (kY K n S):=by subst hK;exact rG KS hu
end
end L2.Q
namespace L2
open PySem PySem.Spec PyProof.Rows PySem.SeqAt
section
variable {X:Cx}
def B_(K:PySem.W.Frag):V->List V->Hp->VK->Prop:=fun x xs H Q=>∃ l ys ds y d,∃ j:Nat,x=.ref l/\xs=[y]/\eh K H l ys/\ay K H ds ys/\Rep K H d y/\(∀ e∈ds,e.canLay0=true/\e.depth<=20)/\d.canLay0=true /\
 (∃ e,ds[j]? = some e/\PyData.eqv e d=true)/\(∀ (m:Nat) e,m<j->ds[m]? = some e->PyData.eqv e d=false)/\Q (.int j) H
theorem yj (hu:X.A.units+64<cLine):PX X "list.index" (B_ X.K):=by
 intro pins s σ H x vs v us Q I rx rv h
 obtain⟨l,ys,ds,y,d,j,rfl,rfl,hl,hr,hd,hS,ld,⟨e,ej,eq⟩,B4,q⟩:=h
 cases rx
 obtain⟨u,rfl,ru⟩:=Vals.one rv
 obtain⟨its,Wd,pl,hz⟩:=I.list hl
 obtain⟨as,rd⟩:=hd.reads I ru
 obtain⟨bs,ra⟩:=ay.reads I hr Wd
 have len:its.length=ds.length:=ReadsAll.length _ _ _ ra
 have at':∀ (m:Nat) (v:Value),its[m]? = some v->∃ e cs,ds[m]? = some e/\Reads s.heap v e cs/\jq s.heap v=e:=fun m v hv=>by
  obtain⟨e,cs,h1,h2⟩:=cJ ra m v hv
  exact⟨e,cs,h1,h2,eY h2 (hS e (kP h1)).1⟩
 have jl:j<ds.length:=(hX.mp ej).1
 have Wg:j<its.toArray.size:=by rw[i9];lia
 have zs:sizeLine<2 ^ 62:=by rw[sizeLine_eq];decide
 have hlen:=Wd.length
 obtain⟨⟨cls,dd,data,sl⟩,ho,hc,n,LW⟩:=id pl.isList
 simp only at hc LW
 subst hc LW
 refine call_meets F.slot_list_index ⟨_,ho,rfl⟩ F.entry_list_index (F.args_list_index_2 _ _) (list_indexAt l its.toArray n dd sl u (fun v=>PyData.eqv (jq s.heap v) d) j Wg (by lia) ?_ fun m hm h'=>?_) ⟨ho,fun v hv=>?_,⟨.int j,H,I.tok _,⟨_,rfl⟩,q⟩⟩
 ·obtain⟨e',cs,h1,_,h3⟩:=at' j its.toArray[j] (by simp at Wg ⊢)
  rw[h3]
  rw[ej] at h1
  cases h1
  exact eq
 ·obtain⟨e',cs,h1,_,h3⟩:=at' m its.toArray[m] (by simp at hm ⊢)
  rw[h3]
  exact B4 m e' h' h1
 ·obtain⟨m,hm⟩:=IJ.mp (show v∈its by simpa using hv)
  obtain⟨e',cs,h1,h2,h3⟩:=at' m v hm
  rw[h3]
  have:=hS e' (kP h1)
  exact eqAt_reads e' d X.A.in1 s _ _ _ _ h2 rd this.1 ld (by show X.A.units+1+_<cLine;lia)
def k_:List V->Hp->VK->Prop:=fun xs H Q=>match xs with
 |[.ref p]=>∃ kvs b0 sh,Rd H p (.dT kvs)/\(∀ k∈kvs.map (·.1),gE k=b0 :: sh) /\
   ∀ zs ms l,cu H zs ms->ms.Perm (kvs.map (·.1))->(ms.Pairwise fun a b=>fh b a=false)->H l=none->Q (.ref l) (upd H l (.lst zs))
 |_=>False
theorem pD (hc:X.calm=true):iO X (.builtin "sorted") k_:=by
 intro pins s σ H xs us Q I r h
 unfold k_ at h
 split at h
 ·rename_i p
  obtain⟨kvs,b0,sh,e,hs,q⟩:=h
  obtain⟨u,rfl,ru⟩:=Vals.one r
  cases ru
  obtain⟨z,y,ps,rel,o,es,ep,h1,h2,h3,h4,h5⟩:=(show eR X.prog X.w H s.heap p (.dT kvs) from I.rd e)
  obtain⟨ta,va⟩:=uH (prog:=X.prog) (w:=X.w) rel
  have hlen:es.size=kvs.length:=by
   have:=congrArg List.length h4
   rw[zS,dc] at this
   rw[this];exact rel.length.symm
  have fq:ps.length=kvs.length:=rel.length.symm
  refine wt.sI (κ:=tuples' true) (R:=fun vs=>Vals (ps.map fun q=>V.ref q.2.1) vs) (r:=fun v=>GV (kvs.map (·.1)) (jU H v)) (P:=fun v=>∃ b k,v=.ref b/\H b=some (.tup (k.map kV))/\gE k=b0 :: sh/\k∈kvs.map (·.1)) (fun A' E' Q' hA hQ=>?_) (fun vs rv=>?_) (fun vs rv v hv=>?_)
   (fun vs rv h2 A' E' s' kp Q' q'=>?_) (fun s' kp=>qH I kp) fun vs h' a out n tk rv pm pw kp ha eo=>?_
  ·refine wt.pY (uU (es:=es) (ep:=ep) y) (hA.trans (I.ok.hd hc)) ⟨o,h1,h2,h3⟩ (by lia) fun h' tk acc kp hz AU=>hQ _ h' tk ?_ kp hz
   have hv:acc.toList=(ps.map (entryOfKey (tupleKind (lT X.prog X.w)))).map (·.key):=by
    apply BG
    intro i
    by_cases hi:i<es.size
    ·have gV:i<acc.size:=by rw[AU.1];exact hi
     obtain⟨en,e1,e2⟩:=AU.2 i acc[i] (by simp[gV])
     rw[<- h4,nL,kR,kR,e1]
     simp[gV,e2]
    ·rw[<- h4,nL,kR,kR,BO (by rw[AU.1];lia),BO (by lia)]
     rfl
   rw[hv];exact va
  ·have:=rv.length
   rw[dc] at this
   lia
  ·obtain⟨_,mem⟩:=ta.keys rv
   obtain⟨b,k,e1,e2,e3⟩:=mem v hv
   exact⟨b,k,e1,e2,hs k e3,e3⟩
  ·obtain⟨fs,f1,f2,f3⟩:=kat_tups I kp ta rv hs
   cases b0 with
   |true =>
    refine PySem.W.kat_kind (T:=.type "int") f1 (by lia) (fun f hf=>?_) (by decide) q'
    obtain⟨i,t,rfl⟩:=(f3 f hf).1 rfl
    exact .now
   |false =>
    refine PySem.W.kat_kind (T:=.type "str") f1 (by lia) (fun f hf=>?_) (by decide) q'
    obtain⟨i,t,rfl⟩:=(f3 f hf).2 rfl
    exact .now
  ·obtain⟨ek,mem⟩:=ta.keys rv
   obtain⟨zs,z1,z2⟩:=cu.of (H:=H) (ks:=kvs.map (·.1)) out fun v hv=>mem v (pm.mem_iff.mp hv)
   have zl:=z2.length
   have ol:=pm.length_eq
   have vl:=rv.length
   rw[dc] at vl
   have Ob:(out.map (jU H)).Perm (kvs.map (·.1)):=by rw[<- ek];exact pm.map _
   refine⟨.ref a,_,I.laid (a:=a) (t':=tk) kp ha (show eR X.prog X.w _ h' _ (.lst zs) from⟨by lia,out,n,z2,eo⟩),rfl,q zs _ _ z1 Ob ?_ (I.bp.fresh ha)⟩
   rw[qa]
   refine pw.imp_of_mem fun {x y} mx my hle=>?_
   obtain⟨b,k,rfl,hb,kk⟩:=mem x (pm.mem_iff.mp mx)
   obtain⟨c,m,rfl,hc,km⟩:=mem y (pm.mem_iff.mp my)
   rw[cg hb,cg hc] at *
   have:=tQ (L:=kvs.map (·.1)) ((hs m km).trans (hs k kk).symm) km
   rw[<- this]
   exact decide_eq_false (by lia)
 ·exact h.elim
end
end L2
namespace L2.Q
open PySem PySem.Spec PyProof.Rows PySem.SeqAt
section
variable {X:Cx}{K:PySem.W.Frag}
def pW:W1:=fun _ x Q=>match x with
 |.dT kvs=>∃ b0 sh,(∀ p∈kvs,gE p.1=b0 :: sh)/\∀ ms:List (List Key),ms.Perm (kvs.map (·.1))->(ms.Pairwise fun a b=>fh b a=false)->Q (.ow true) (.list (ms.map pd))
 |_=>False
theorem vd:A8 K k_ pW:=by
 intro Hs H m x v As Qd Qv w rx h f
 have r1:=rx.rep w
 cases r1 with
 |@dT a vs kvs kk e q =>
  obtain⟨b0,sh,hs,h⟩:=h
  have hlen:=q.length
  rw[dc] at hlen
  have ez:((kvs.map (·.1)).zip vs).map (·.1)=kvs.map (·.1):=Mv (by rw[dc];exact JA hlen)
  refine⟨_,b0,sh,e,fun k hk=>?_,fun zs ms l tz pm pw hl=>?_⟩
  ·rw[ez] at hk
   obtain⟨p,hp,rfl⟩:=dr.mp hk
   exact hs p hp
  ·rw[ez] at pm
   refine f.lst w (by rw[dc,pm.length_eq,dc];exact kk.1) (lJ (K:=K) tz fun k hk=>?_) (fU ms) (h ms pm pw) l hl
   obtain⟨p,hp,rfl⟩:=dr.mp (pm.mem_iff.mp hk)
   exact kk.2 p hp
 |_=>exact h.elim
theorem z7 (hc:X.calm=true:=by rfl):iO X (.builtin "sorted") k_:=pD hc
end
end L2.Q
namespace L2.Q.R
open PySem PySem.Spec PyProof.Rows L2.Q PySem.SeqAt
section
variable {Q:Md->L2.Q.D->Prop}{m:Md}
theorem Ft:pW m (.dT kvs) Q = ∃ b0 sh,(∀ p∈kvs,gE p.1=b0 :: sh)/\∀ ms:List (List Key),ms.Perm (kvs.map (·.1))->(ms.Pairwise fun a b=>fh b a=false)->Q (.ow true) (.list (ms.map pd)):=rfl
end
end L2.Q.R
namespace L2
open PySem PySem.Spec PyProof.Rows PySem.SeqAt
section
variable {X:Cx}
def zG(K:PySem.W.Frag):R2:=fun x y H Q=>∃ l xs n,x=.ref l/\y=.int n/\eh K H l xs/\0<=n/\n<=1000/\xs.length<=1000/\∀ p,H p=none->Q (.ref p) (upd H p (.lst (List.replicate n.toNat xs).flatten))
theorem yz(h:Vals xs vs)(k:Nat):Vals (List.replicate k xs).flatten (List.replicate k vs).flatten:=by
 induction k with
 |zero=>exact .nil
 |succ k ih=>rw[xI,xI,zC,zC];exact h.append ih
theorem qy(xs:List α)(k:Nat):(List.replicate k xs).flatten.length=xs.length*k:=by
 induction k with
 |zero=>rfl
 |succ k ih=>rw[xI,zC,tS,ih,Nat.mul_succ];lia
theorem Bx:cq X (binaryOp .Mult) (zG X.K):=by
 intro pins s σ H x y v u Q I rx ry h
 obtain⟨l,xs,n,rfl,rfl,hH,h0,h1,h2,q⟩:=h
 cases rx
 obtain⟨t,rfl⟩:=ry
 obtain⟨its,r,pl,z⟩:=I.list hH
 have hl:=r.length
 obtain⟨⟨cls,dd,data,sl⟩,ho,hc,k,hd⟩:=id pl.isList
 simp only at hc hd
 subst hc hd
 have hm:its.toArray.size*n.toNat<=1000*1000:=Nat.mul_le_mul (by rw[i9];lia) (by lia)
 have hsz:=sizeLine_eq
 refine wpAny_binaryOp_repeat_ref (T := "list") (U := "int") (by decide) ⟨_,ho,rfl⟩ (fun s'=>typeIs_int s' n t) noFill_list_mul PySem.F.fills_int_mul PySem.F.slot_int_rmul repeat_list PySem.F.slot_int_index.lookup
  (call_meets PySem.F.slot_int_rmul (typeIs_int s n t) PySem.F.entry_int_rmul (PySem.F.args_int_rmul_2 _ _) (lm_int_rmul_list_any n t l its.toArray k dd sl)
   ⟨ho,rfl,⟨_,ho,rfl⟩,call_meets PySem.F.slot_list_mul ⟨_,ho,rfl⟩ PySem.F.entry_list_mul (PySem.F.args_list_mul_2 _ _)
    (lm_list_mul_any l its.toArray k dd sl n t (by simp[Builtin.List.listFitsIndex];lia) (by lia) (by simp only[Builtin.List.listTooLong,decide_eq_true_eq];lia))
    ⟨ho,?_⟩⟩)
 rw[listMul_foldl_if]
 exact⟨.ref _,_,I.P1 (t':=s.toks) (yz r _) (by
  rw[qy]
  have:xs.length*n.toNat<=1000*1000:=Nat.mul_le_mul h2 (by lia)
  lia),rfl,q _ I.fresh⟩
end
theorem g9.sub{S U:PyData->Prop}(T:g9 lt S)(h:∀ x,U x->S x):g9 lt U :=
 ⟨fun x a=>T.oq x (h x a),fun x y z a b c=>T.tr x y z (h x a) (h y b) (h z c),fun x y a b=>T.ag x y (h x a) (h y b),fun x y a b=>T.eqv x y (h x a) (h y b)⟩
def jP(p:Str × Int):PyData:=.tuple [.str p.1,.int p.2]
def sD(x:PyData):Prop:=∃ (i:Int) (ps:List (Str × Int)),x=.tuple [.int i,.list (ps.map jP)]/\∀ p∈ps,PyData.strOk p.1=true
theorem zQ(p q:Str × Int):nI 1 (jP p) (jP q):=by
 unfold jP
 rw[nI]
 intro j x y hx hy _
 match j with
 |0=>cases hx;cases hy;rw[nI];trivial
 |1=>cases hx;cases hy;rw[nI];trivial
 |j+2=>simp at hx
theorem Ag(ps:List (Str × Int))(h:∀ p∈ps,PyData.strOk p.1=true):PyData.canLayAll0 (ps.map jP)=true/\PyData.depthAll (ps.map jP)<=2:=by
 induction ps with
 |nil=>exact⟨rfl,by simp[PyData.depthAll]⟩
 |cons p ps ih =>
  have ih:=ih fun q hq=>h q (b9 _ hq)
  have hp:=h p cc
  rw[fm]
  constructor
  ·simp only[PyData.canLayAll0,kQ]
   refine⟨?_,ih.1⟩
   simp[jP,PyData.canLay0,PyData.canLayAll0,hp]
  ·have h2:=ih.2
   simp only[PyData.depthAll]
   have:(jP p).depth<=2:=by simp[jP,PyData.depth,PyData.depthAll]
   lia
theorem Ol:EX 2 sD where
 ag:=((g9.pair (g9.int 2) (g9.list (g9.pair (g9.str 0) (g9.int 0)))).sub) fun x ⟨i,ps,e,_⟩=>⟨_,_,e,⟨i,rfl⟩,_,rfl,fun y hy=>by
  obtain⟨p,_,rfl⟩:=dr.mp hy
  exact⟨_,_,rfl,⟨_,rfl⟩,_,rfl⟩⟩
 tup:=by
  rintro x ⟨i,ps,rfl,h⟩
  have:=Ag ps h
  refine⟨i,_,rfl,?_,?_⟩
  ·simp[PyData.canLay0,PyData.canLayAll0,this.1]
  ·simp only[PyData.depth,PyData.depthAll];lia
 len:=by
  rintro xs ys ⟨i,ps,e,_⟩ ⟨j,qs,e2,_⟩
  cases e;cases e2;rfl
 cm:=by
  rintro x y ⟨i,ps,rfl,_⟩ ⟨j,qs,rfl,_⟩
  rw[nI]
  intro k x y hx hy _
  match k with
  |0=>cases hx;cases hy;rw[nI];trivial
  |1 =>
   cases hx;cases hy
   rw[nI]
   intro k x y hx hy _
   obtain⟨p,_,rfl⟩:=dr.mp (kP hx)
   obtain⟨q,_,rfl⟩:=dr.mp (kP hy)
   exact zQ p q
  |k+2=>simp at hx
end L2
namespace L2.Q
open PySem PySem.Spec PyProof.Rows PySem.SeqAt
section
variable {X:Cx}{K:PySem.W.Frag}{a b:Expr}{ta tb:WE}{pos:Pos}
def yh:W2:=fun _ x _ y Q=>match x with
 |.list xs=>match y with
  |.int n=>(0<=n/\n<=1000/\xs.length<=1000)/\cf xs=true/\Q (.ow true) (.list (List.replicate n.toNat xs).flatten)
  |_=>False
 |_=>False
theorem xF(h:ay K H xs vs)(k:Nat):ay K H (List.replicate k xs).flatten (List.replicate k vs).flatten:=by
 induction k with
 |zero=>exact .nil
 |succ k ih=>rw[xI,xI,zC,zC];exact h.append ih
theorem tU(h:cf xs=true)(k:Nat):cf (List.replicate k xs).flatten=true:=by
 induction k with
 |zero=>rfl
 |succ k ih=>rw[xI,zC,eE,h,ih];rfl
theorem Bo:hU K (zG K) yh:=by
 intro Hs H m x v As n y u Bs Qd Qv w rx ry h f
 have r1:=rx.rep w
 have r2:=ry.rep w
 cases r1 with
 |list z s q=>cases r2 with
  |int n =>
   obtain⟨⟨h0,h1,h2⟩,fl,h⟩:=h
   have hl:=q.length
   refine⟨_,_,_,rfl,rfl,s,h0,h1,by lia,?_⟩
   refine f.lst w ?_ (xF q _) (tU fl _) h
   rw[qy,sizeLine_eq]
   have:List.length _*n.toNat<=1000*1000:=Nat.mul_le_mul h2 (by lia)
   exact hG this (by decide)
  |_=>exact h.elim
 |_=>exact h.elim
theorem Hd(hK:X.K=K:=by rfl):cq X (binaryOp .Mult) (zG K):=by subst hK;exact Bx
theorem Eu(ha:QE X K a ta)(hb:QE X K b tb)(hK:X.K=K:=by rfl):QE X K (.BinOp a .Mult b pos) (aw yh ta tb):=EA (Hd hK) Bo ha hb
def qT(to te:WE):WE:=fun ρ Q=>to ρ fun _ x=>match x with
 |.list xs=>te ρ fun _ y=>b4 12 (.list xs)=true/\b4 12 y=true/\∃ j:Nat,(∃ z,xs[j]? = some z/\fT z y=true)/\(∀ (i:Nat) z,i<j->xs[i]? = some z->fT z y=false)/\Q .sh (.int j)
 |_=>False
theorem zH(hu:X.A.units+64<cLine)(ho:QE X K o to)(he:QE X K e te)(hK:X.K=K:=by rfl)
  (D3:attributeBase o "index" X.env (eval o X.env)=eval o X.env:=by rfl)
  (AO:((backTo ft (starEach [e] X.env)).all (fun x=>!x.1) && (backToKw ft (keywordEach [] X.env)).all (fun x=>x.1.isSome)
   && decide ([e].length+([]:List Keyword).length+(if ([]:List Keyword).isEmpty then 0 else 1)<30))=true:=by rfl)
  (hline:(apos.endLine == ft.line)=true:=by rfl) (CC:starEach (e :: []) X.env=(false,eval e X.env) :: starEach [] X.env:=by rfl) (D4:(backTo ft (starEach [] X.env)).any (·.1)=false:=by rfl) :
  QE X K (.Call (.Attribute o "index" apos) [e] [] ft) (qT to te):=by
 subst hK
 refine PE.imp (Nm PySem.F.plainAttrs_list PySem.F.slot_list_index PySem.F.type_list_index (yj hu) ho (nc he rz CC) D3 AO hline CC D4) fun σ H Qv hx=>iS hx fun Hs ρ ag Q sr h f=>?_
 refine⟨Hs,ρ,ag,_,sr,h,fun v H1 aS m x As g1 r1 f1 q1=>?_⟩
 have r:=r1.rep g1.wf
 cases r with
 |list hz s rs =>
  refine⟨.inl ⟨rfl,_,s⟩,aS,ρ,ag,_,sr.grow g1,q1,fun y H2 aC m2 x2 fE g2 r2 f2 q2=>?_⟩
  obtain⟨o1,o2,j,⟨z,ez,eq⟩,B4,q⟩:=q2
  have rr:=(r1.grow g2).rep g2.wf
  cases rr with
  |list VR s' Rw =>
   have l2:=h_ 12 _ o2
   have Wh:∀ d∈_,b4 11 d=true:=IQ.mp (show List.all _ (b4 11)=true from o1)
   refine⟨_,_,_,_,_,j,rfl,rfl,s',Rep.QJ.2 Rw 11 Wh,(r2.rep g2.wf).l2 o2,fun e he=>?_,l2.1,⟨z.py,?_,eq⟩,fun m e hm he=>?_,Fin.sh (Fin.after f (g1.trans g2)) g2.wf (.int _) q⟩
   ·rw[gK] at he
    obtain⟨d,hd,rfl⟩:=dr.mp he
    have:=h_ 11 d (Wh d hd)
    exact⟨this.1,by lia⟩
   ·rw[gK,nL,ez];rfl
   ·rw[gK,nL] at he
    obtain⟨d,hd,rfl⟩:=Option.map_eq_some_iff.mp he
    exact B4 m d hm hd
 |_=>exact q1.elim
abbrev vC:W1:=yS 2 sD
theorem Du (hu:X.A.units+64<cLine) (hK:X.K=K:=by rfl):iO X (.builtin "sorted") (kY K 2 sD):=Ei Ol (by lia) hK
theorem yu:A8 K (kY K 2 sD) vC:=yf
end
end L2.Q
namespace L2.Q.R
open PySem PySem.Spec PyProof.Rows L2.Q PySem.SeqAt
section
variable {Q:Md->L2.Q.D->Prop}{m m':Md}{x y:L2.Q.D}{xs:List L2.Q.D}{LH te:WE}{ρ:Env}{a:Int}
theorem JD:yh m (.list xs) m' (.int a) Q=((0<=a/\a<=1000/\xs.length<=1000)/\cf xs=true/\Q (.ow true) (.list (List.replicate a.toNat xs).flatten)):=rfl
theorem G5:qT LH te ρ Q=LH ρ fun _ x=>bI x (f:=fun x=>tP x fun xs=>te ρ fun _ y=>b4 12 (.list xs)=true/\b4 12 y=true/\∃ j:Nat,(∃ z,xs[j]? = some z/\fT z y=true)/\(∀ (i:Nat) z,i<j->xs[i]? = some z->fT z y=false)/\Q .sh (.int j)) ⟨⟩:=by unfold qT bI tP;rfl
theorem G8:vC m (.list xs) Q=(m=.sh/\(∀ d∈xs,b4 12 d=true/\sD d.py)/\∀ ms:List L2.Q.D,ms.Perm xs->(ms.Pairwise fun a b=>PySem.SeqAt.b6 3 b.py a.py=false)->Q (.ow false) (.list ms)):=rfl
end
end L2.Q.R
namespace L2
open PySem PySem.Spec PyProof.Rows
end L2
namespace L2.Q
open PySem PySem.Spec PyProof.Rows
section
variable {X:Cx}{K:PySem.W.Frag}{a b c e:Expr}{ta tb te:WE}{pos p2:Pos}
def Om(ta tb:WE):WE:=fun ρ Q=>ta ρ fun m x=>m=.ow true/\match x with
 |.list xs=>tb ρ fun _ y=>intD y fun k=>∃ d,L2.eu xs k=some d/\Q (L4 d) d
 |_=>False
theorem GD(ha:QE X K a ta)(hb:QE X K b tb)(hs:Nk b:=by exact fun _ _=>rfl)(hK:X.K=K:=by rfl):QE X K (.Subscript a b pos) (Om ta tb):=by
 refine PE.imp (PY (Z0 hK) ha hb hs) fun σ H Qv hx=>iS hx fun Hs ρ ag Q sr h f=>?_
 refine⟨Hs,ρ,ag,_,sr,h,fun v H1 aS m x As g1 r1 f1 q1=>?_⟩
 obtain⟨rfl,q1⟩:=q1
 obtain⟨r1,ne⟩:=r1
 cases r1 with
 |sh _ r=>exact absurd rfl ne
 |@list a vs xs As z e rs =>
  refine⟨aS,ρ,ag,_,sr.grow g1,q1,fun u H2 aC m2 y Bs g2 r2 f2 q2=>?_⟩
  have ry:=r2.rep g2.wf
  cases ry with
  |int k =>
   obtain⟨d,e3,q⟩:=q2
   obtain⟨j,ej,ed⟩:=Dc e3
   have nd:As.Nodup:=(lS.mp f1.1).2
   obtain⟨w,B,ew,ng,sB,_⟩:=rs.at ed nd
   have r3:=ng.grow g2.sh g2.all
   refine .inl ⟨vs,w,.inl (.inl (g2.all _ _ e)),tE (by rw[<- rs.length];exact ej) ew,?_⟩
   cases hf:d.flat with
   |true =>
    rw[L4,hf] at q
    exact f w H2 aC .sh d [] (g1.trans g2) ⟨rfl,(r3.rep g2.wf.sub fun _ _=>rfl).fM g2.wf.ic hf⟩ ⟨oz,fun _ h=>AZ h⟩ q
   |false =>
    rw[L4,hf] at q
    refine f w H2 aC (.ow true) d B (g1.trans g2) ⟨r3,r3.ne hf⟩ ⟨sB.nodup nd,fun c hc=>?_⟩ q
    have:=f1.2 c (b9 _ (sB.subset hc))
    exact⟨g2.oj this.1 (ng.own c hc).ne,this.2⟩
  |_=>exact q2.elim
 |_=>exact q1.elim
theorem SR.view(G:Hp)(s:ax Hs H)(r:SR K Hs H ρ σ ag):SR K H G (ρ.map (Option.map LB)) σ []:=by
 induction r with
 |nil=>exact .nil
 |non _ ih=>exact .non ih
 |sh r _ ih=>exact .sh (r.same s) ih
 |xc _ ih=>exact .xc ih
 |ow _ r _ ih=>exact .sh (r.rep s fun _ _=>rfl) ih
 |lk _ r _ ih=>exact .sh (r.rep s fun _ _=>rfl) ih
def Oo(i j:Nat)(hs xs:List D)(ρ:Env):Env:=(ρ.set j none).set i (some (.ow true (.list (hs++[.list xs]))))
def Rz(i j:Nat)(hs xs:List D)(ρ:Env):Env:=((Oo i j hs xs ρ).map (Option.map LB)).set j (some (.sh (.list xs)))
def cF'(o:Option Sl)(k:Sl->Prop):Prop:=match o with
 |some s=>k s
 |none=>False
def vz(i j:Nat)(te:WE):WS:=fun E ρ=>EV ρ[i]? fun hs=>EV ρ[j]? fun xs=>cf xs=true/\hs.length<sizeLine /\
 te (Rz i j hs xs ρ) fun m d=>cF' (asg (vt m d) d) fun sl=>E.nx ((Oo i j hs xs ρ).set j (some sl))
theorem yx(hN:X.N.Nodup)(hj0:X.N[j]? = some x)(hx:Loc X.env.scope x)(hi:PE X a (AB i))(hj:PE X b (AB j))(he:QE X K e te)(jI:i≠j:=by decide)(hK:X.K=K:=by rfl)
  (s1:swapsWith (.Call (.Attribute a "append" p1) [b] [] p2) none pos.line X.env=pure false:=by rfl) (b1:attributeBase a "append" X.env (eval a X.env)=eval a X.env:=by rfl)
  (f1:((backTo p2 (starEach [b] X.env)).all (fun x=>!x.1) && (backToKw p2 (keywordEach [] X.env)).all (fun x=>x.1.isSome) && decide ([b].length+([]:List Keyword).length+(if ([]:List Keyword).isEmpty then 0 else 1)<30))=true:=by rfl)
  (l1:(p1.endLine == p2.line)=true:=by rfl) (t1:starEach (b :: []) X.env=(false,eval b X.env) :: starEach [] X.env:=by rfl) (q1:(backTo p2 (starEach [] X.env)).any (·.1)=false:=by rfl)
  (hs:swapsWith e (some (.Name x p3)) pos'.line X.env=pure false:=by rfl) (hf:X.fn x=true\/X.env.scope.names.lookup x=some .local:=by first|exact .inl rfl|exact .inr rfl|assumption) :
  oS X K L [.Expr (.Call (.Attribute a "append" p1) [b] [] p2) pos,.Assign [.Name x p3] e pos'] (vz i j te):=by
 subst hK
 refine kX.imp (Ti (Pn (Nm PySem.F.plainAttrs_list PySem.F.slot_list_append PySem.F.type_list_append P4 hi (nc hj rz t1) b1 f1 l1 t1 q1) s1)
  (Pm (Pw hN hj0 hx he hs hf))) fun D σ H hx=>gf hx fun Hs ρ ag E sr h k1 k2 k3 k4=>?_
 obtain⟨hs,ei,h⟩:=zp h
 obtain⟨xs,ej,fl,Oa,h⟩:=zp h
 obtain⟨a,ws,c,vs,da,u1,u2,u3,u4,u5,u6,u7,iL⟩:=zP jI sr ei ej fl Oa
 refine⟨_,u1,.inl ⟨rfl,_,.inl (.inl u2)⟩,_,u4,a,ws,_,rfl,rfl,u2,u3,?_⟩
 have rc:Rep X.K (upd H a (.lst (ws++[.ref c]))) (.list xs) (.ref c):=.list u7 (.inl (.inl u5)) (u6.same iL.wf.sub)
 have v0:=SR.view (upd H a (.lst (ws++[.ref c]))) iL.wf.sub iL.sr
 obtain⟨t,st,v1⟩:=v0.tL rc j
 have e0:σ.set j (some (.ref c))=σ:=by
  apply BG
  intro m
  by_cases hm:j=m
  ·subst hm;rw[Mr (by have:=(hX.mp u4).1;exact this),u4]
  ·rw[DB hm]
 rw[e0] at v1
 have et:t=[]:=List.eq_nil_of_subset_nil st.subset
 subst et
 refine⟨upd H a (.lst (ws++[.ref c])),_,[],_,⟨v1,⟨ax.refl _,fun _ _ z=>z⟩,oz,fun _ h=>AZ h⟩,h,fun v H1 aS m d As g1 r1 f1 q1=>?_⟩
 obtain⟨fN,r',fr⟩:=mF iL.wf g1.sh g1.wf r1 f1.1 fun a ha=>(f1.2 a ha).1
 have gb:=dU iL.wf g1.sh g1.wf
 cases ea:asg (vt m d) d with
 |none=>rw[ea] at q1;exact q1.elim
 |some sl =>
  rw[ea] at q1
  obtain⟨bS,s'⟩:=(iL.grow gb).set j r' fr.1 (fun a ha=>⟨(fr.2 a ha).1,fun m=>(iL.sr.own a m).ne (fr.2 a ha).2⟩) ea
  exact k1 _ H1 _ _ bS gb.sh s' q1
end
end L2.Q
namespace L2.Q.R
open PySem PySem.Spec PyProof.Rows L2.Q
section
variable {Q:Md->L2.Q.D->Prop}{m:Md}{x y:L2.Q.D}{xs:List L2.Q.D}{ta tb te:WE}{ρ:L2.Q.Env}{E:lA}{i j:Nat}
theorem J0:Om ta tb ρ Q=ta ρ fun m x=>m=.ow true/\bI x (f:=fun x=>tP x fun xs=>tb ρ fun _ y=>bI y (f:=fun y=>intD y fun k=>∃ d,L2.eu xs k=some d/\bI d (f:=fun d=>Q (L4 d) d) ⟨⟩) ⟨⟩) ⟨⟩:=by unfold Om bI tP;rfl
theorem Gw:vz i j te E ρ=bI ρ[i]? (f:=fun o=>EV o fun hs=>bI ρ[j]? (f:=fun o=>EV o fun xs=>cf xs=true/\hs.length<sizeLine /\
 te (Rz i j hs xs ρ) fun m d=>bI (asg (vt m d) d) (f:=fun o=>put o fun sl=>E.nx ((Oo i j hs xs ρ).set j (some sl))) ⟨⟩) ⟨⟩) ⟨⟩:=rfl
end
end L2.Q.R
namespace L2.Q
open PySem PySem.Spec PyProof.Rows
section
variable {X:Cx}{K:PySem.W.Frag}
theorem Ek:cq X (compareOp .Is) (fun x y H Q=>∃ i j,x=.bl i/\y=.bl j/\Q (.bl (i == j)) H):=by
 intro pins s σ H x y v u Q I rx ry h
 obtain⟨i,j,rfl,rfl,q⟩:=h
 cases rx
 cases ry
 exact is_bool (fI I q rfl)
def RA:W2:=fun _ x _ y Q=>match x,y with
 |.bl i,.bl j=>Q .sh (.bl (i == j))
 |_,_=>False
theorem CT:hU K (fun x y H Q=>∃ i j,x=.bl i/\y=.bl j/\Q (.bl (i == j)) H) RA:=by
 intro Hs H m x v As n y u Bs Qd Qv w rx ry h f
 have r1:=rx.rep w
 have r2:=ry.rep w
 cases r1 with
 |bl i=>cases r2 with
  |bl j=>exact⟨i,j,rfl,rfl,f.sh w (.bl _) h⟩
  |_=>exact h.elim
 |_=>exact h.elim
theorem Aj:cq X (compareOp .IsNot) (fun x y H Q=>∃ i j,x=.bl i/\y=.bl j/\Q (.bl (!(i == j))) H):=by
 intro pins s σ H x y v u Q I rx ry h
 obtain⟨i,j,rfl,rfl,q⟩:=h
 cases rx
 cases ry
 exact isnot_bool (fI I q rfl)
def By:W2:=fun _ x _ y Q=>match x,y with
 |.bl i,.bl j=>Q .sh (.bl (!(i == j)))
 |_,_=>False
theorem Ci:hU K (fun x y H Q=>∃ i j,x=.bl i/\y=.bl j/\Q (.bl (!(i == j))) H) By:=by
 intro Hs H m x v As n y u Bs Qd Qv w rx ry h f
 have r1:=rx.rep w
 have r2:=ry.rep w
 cases r1 with
 |bl i=>cases r2 with
  |bl j=>exact⟨i,j,rfl,rfl,f.sh w (.bl _) h⟩
  |_=>exact h.elim
 |_=>exact h.elim
end
namespace R
theorem Ii:By m (.bl i) m' (.bl j) Q=Q .sh (.bl (!(i == j))):=rfl
theorem K3:RA m (.bl i) m' (.bl j) Q=Q .sh (.bl (i == j)):=rfl
theorem Jg:A6 m (.bl i) m' (.bl j) Q=Q .sh (.bl (!decide (i=j))):=rfl
end R
end L2.Q
local macro_rules | `(tactic| walk_at "q") => do
 let nm (s:String):Lean.Ident:=Lean.mkIdent ((s.splitOn ".").foldl Lean.Name.mkStr .anonymous)
 let ds ← ("Ij J7 Jr H_ Gq Jc Kg KJ GJ Fy Im Hx Jd Hw Ip HF KD IV HJ Jj Jo KR Jq Ju Hz I_ JL Kp J8 KH JK KN Kh Jv Ia JM JZ Jw Fw KZ Jf wB_ Kv JV aW' KQ JQ Hi G3 wC_ aY' aZ' Hj Jt Js Jh Kq KC JP JB Gj Gb Hr Gi Gm G9 GX FN Hb Io Jm IW Iw Je Hv Iz HH Kf JT JW Ik Jy JN JR Kw HX Cz JD G5 Ft G8 J0 Gw K3 Ii Jg J1 Kz Ka J3 Kl Km Ja Ir HN Jb Il J_ Hq GZ Hu ba' Jx Jk JX Ko Ke Iu Hm FZ bb' Fp Ku Ht J9 J5 Ie JS Ga JF GR Fx Fq Fv gN_ gT_ HR Kr Jz Ib Ig G_ Gx Hn Kc HB Ih Gr G7 Gh Kd K1 IK Ji Jp J4 JH KY Ks JG Hc Gu HW Jl cu' JC Hy".splitOn " ").toArray.mapM fun s=>`(Lean.Parser.Tactic.simpLemma| ↓$(nm ("L2.Q.R." ++ s)):ident)
 let us ← ("L2.Q.Oo L2.Q.Rz L2.Q.aQ' L2.Q.L4 L2.Q.Ax L2.Q.Ay L2.Q.zk L2.Q.He L2.Q.ED L2.Q.vt L2.Q.iy L2.Q.LC L2.Q.Lz L2.Q.LB L2.Q.kh L2.Q.zW L2.Q.asg L2.Q.kG L2.Q.aX L2.Q.D.flat L2.Q.cf L2.Q.D.ty L2.Q.az' L2.Q.D.key1 L2.Q.gr L2.Q.Fe L2.Q.HQ List.length_map List.map_cons List.map_nil List.length_cons List.length_nil List.replicate_succ List.replicate_zero List.cons_append List.nil_append List.append_nil List.getElem?_cons_zero List.getElem?_cons_succ List.getElem?_nil List.set_cons_zero List.set_cons_succ List.all_cons List.all_nil Option.some.injEq Option.join_some Option.map_some Option.map_none Nat.reduceAdd Nat.reduceSub true_and and_true Bool.and_true Bool.true_and Bool.and_false Bool.false_and Bool.not_true Bool.not_false Bool.false_eq_true if_true if_false decide_true decide_false reduceIte cond_true cond_false PySem.sizeLine_eq L2.Q.aR' L2.Q.aS' L2.Q.aT' L2.Q.cM L2.Q.Es L2.Q.empty_app Nat.zero_add exists_eq_left' Int.reduceLT Int.reduceLE Int.reducePow Int.reduceNeg Int.reduceToNat Int.reduceAdd Int.reduceMul Int.reduceSub Nat.reduceLeDiff Nat.reduceLT false_or or_false and_self L2.J2".splitOn " ").toArray.mapM fun s=>`(Lean.Parser.Tactic.simpLemma| $(nm s):ident)
 let as:Lean.TSyntaxArray [`Lean.Parser.Tactic.simpStar,`Lean.Parser.Tactic.simpErase,`Lean.Parser.Tactic.simpLemma]:=(ds++us).map fun x=>⟨x.raw⟩
 `(tactic| simp -dsimp only [$as,*])
namespace L2.Q.RC
open PySem PySem.Spec PyProof.Rows
def isLet(c:Nat):Bool:=decide (97<=c/\c<=122)
abbrev abc:Str := "abcdefghijklmnopqrstuvwxyz"
theorem wW:sg abc=(List.range 26).map (97 + ·):=by decide +kernel
theorem vR{i:Int}(h0:0<=i)(h1:i<26):∃ c,eu (sg abc) i=some c/\isLet c=true:=by
 refine⟨97+i.toNat,?_,?_⟩
 ·have:eu (sg abc) ((i.toNat:Nat):Int)=some (97+i.toNat):=FX (by
   rw[wW]
   have:i.toNat<26:=by lia
   simp[this])
  rwa[DS h0] at this
 ·simp[isLet];lia
theorem pK(x:Int):∃ c,eu (sg abc) (x % 26)=some c/\isLet c=true:=vR (MS _ (by decide)) (O8 _ (by decide))
def lets(x:Str):Prop:=∀ c∈sg x,isLet c=true
def Open(x:Str):Prop:=1<=x.length/\x.length<=6/\lets x
def L7 (x:Str):Prop:=x = "*"\/Open x
theorem wY{x y:Str}(hx:lets x)(hy:lets y):lets (x++y):=fun c hc=>by
 rw[qD] at hc
 exact(dP.mp hc).elim (hx c) (hy c)
theorem yc{c:Nat}(h:isLet c=true):lets ⟨#[c]⟩:=fun d hd=>by
 have:d=c:=by simpa[sg] using hd
 rw[this];exact h
theorem gQ(c:Nat):(⟨#[c]⟩:Str).length=1:=rfl
theorem L7.ok{x:Str}(h:L7 x):PyData.strOk x=true:=by
 rw[Aq]
 rcases h with rfl|h
 ·have:sg "*" = [42]:=by decide +kernel
  intro c hc
  rw[this] at hc
  have:c=42:=by simpa using hc
  lia
 ·intro c hc
  have:=h.2.2 c hc
  simp[isLet] at this
  lia
abbrev bP:=Int × Str × Int
def fv(s:bP):List Key:=[.inl s.1,.inr s.2.1,.inl s.2.2]
def eW(s:bP):D:=.tup [.int s.1,.str s.2.1,.int s.2.2]
def mD(many:Int)(steps:List bP):D:=.tup [.int many,.list (steps.map eW)]
theorem mY:∀ (l:List bP),cf (l.map eW)=true
 |[]=>rfl
 |x :: l=>by simp[cf,mY l,eW,D.flat]
def CH(many:Int)(s:bP):Prop:=0<=s.1/\s.1<many/\L7 s.2.1/\0<=s.2.2/\s.2.2<many
theorem De{many:Int}{s:bP}(n:Nat)(h:CH many s):b4 (n+1) (eW s)=true:=by
 have:=h.2.2.1.ok
 simp[b4,eW,this]
theorem Aw{many:Int}{l:List bP}(n:Nat)(h:∀ s∈l,CH many s):b4 (n+2) (.list (l.map eW))=true:=by
 simp only[b4,List.all_map,IQ]
 intro s hs
 exact De n (h s hs)
theorem Wi{many:Int}{l:List bP}(n:Nat)(h:∀ s∈l,CH many s):b4 (n+3) (mD many l)=true:=by
 have h2:=Aw n h
 show(b4 (n+2) (.int many) && (b4 (n+2) (.list (l.map eW)) && true))=true
 rw[h2]
 rfl
theorem um:∀ (l:List bP),sv (l.map eW)=true
 |[]=>rfl
 |x :: l=>by simp[sv,um l,eW,D.nb]
theorem cH'(many:Int)(l:List bP):(mD many l).nb=true:=by simp[mD,D.nb,sv,um]
theorem eq_self{x:D}(h:x.nb=true):fT x x=true:=(lU x x h h).mpr rfl
theorem qb{s t:bP}(h:fv s=fv t):s=t:=by
 obtain⟨a,b,c⟩:=s
 obtain⟨a',b',c'⟩:=t
 simp[fv] at h
 obtain⟨rfl,rfl,rfl⟩:=h
 rfl
def b6(s t:bP):Bool:=fh (fv s) (fv t)
theorem pZ{P:bP->Prop}:∀ {ks:List (List Key)},(∀ k∈ks,∃ s,k=fv s/\P s)->∃ l:List bP,ks=l.map fv/\∀ s∈l,P s
 |[],_=>⟨[],rfl,fun s h=>nomatch h⟩
 |k :: ks,h=>by
  obtain⟨s,rfl,p⟩:=h k cc
  obtain⟨l,rfl,q⟩:=pZ fun k hk=>h k (b9 _ hk)
  refine⟨s :: l,rfl,fun t ht=>?_⟩
  rcases cK.mp ht with rfl|ht
  ·exact p
  ·exact q t ht
abbrev Kn:=List (List Key × D)
def sF(P:bP->Prop)(kvs:Kn):Prop:=(∀ p∈kvs,∃ s,p.1=fv s/\P s)/\(kvs.map (·.1)).Nodup
theorem uW{κ β:Type}[DecidableEq κ](kvs:List (κ × β))(k:κ)(v:β):(ki kvs k v).map (·.1)=if k∈kvs.map (·.1) then kvs.map (·.1) else kvs.map (·.1)++[k]:=by
 unfold ki
 by_cases h:k∈kvs.map (·.1)
 ·have:(kvs.any fun kv=>decide (kv.1=k))=true:=by
   obtain⟨p,hp,e⟩:=dr.mp h
   exact My.mpr ⟨p,hp,decide_eq_true e⟩
  rw[if_pos this,if_pos h,mM]
  apply OO
  intro p _
  show(if p.1=k then (p.1,v) else p).1=p.1
  split<;>rfl
 ·have:¬ (kvs.any fun kv=>decide (kv.1=k))=true:=by
   intro z
   obtain⟨p,hp,e⟩:=My.mp z
   exact h (dr.mpr ⟨p,hp,of_decide_eq_true e⟩)
  rw[if_neg this,if_neg h,DF]
  rfl
theorem sF.put{P:bP->Prop}{kvs:Kn}{s:bP}{d:D}(h:sF P kvs)(hs:P s):sF P (ki kvs (fv s) d):=by
 refine⟨fun p hp=>?_,?_⟩
 ·rcases lH hp with e|e
  ·exact⟨s,e,hs⟩
  ·obtain⟨q,hq,e⟩:=dr.mp e
   rw[<- e]
   exact h.1 q hq
 ·rw[uW]
  split
  ·exact h.2
  ·rename_i hn
   exact ja.mpr ⟨h.2,by simp,fun a ha b hb e=>by
    have:b=fv s:=by simpa using hb
    subst this;subst e;exact hn ha⟩
theorem sF.nil{P:bP->Prop}:sF P []:=⟨(fun p hp=>nomatch hp),oz⟩
theorem sF.sorted{P:bP->Prop}{kvs:Kn}(h:sF P kvs){Q:Md->D->Prop}(k:∀ steps:List bP,(steps.map fv).Perm (kvs.map (·.1))->(∀ s∈steps,P s)->steps.Pairwise (fun a b=>b6 a b=true)->steps.length=kvs.length->Q (.ow true) (.list (steps.map eW))) :
  Fe (.ow true) (.list (kvs.map fun kv=>.tup (kv.1.map tI))) Q:=by
 refine⟨kvs.map (·.1),[false,true],by rw[mM];rfl,fun k hk=>?_,fun ms pm pw=>?_⟩
 ·obtain⟨p,hp,rfl⟩:=dr.mp hk
  obtain⟨s,e,_⟩:=h.1 p hp
  rw[e];rfl
 ·obtain⟨l,rfl,hl⟩:=pZ (P:=P) (ks:=ms) fun k hk=>by
   obtain⟨p,hp,e⟩:=dr.mp (pm.mem_iff.mp hk)
   rw[<- e]
   exact h.1 p hp
  have e:(l.map fv).map pd=l.map eW:=by rw[mM];rfl
  rw[e]
  refine k l pm hl ?_ (by have:=pm.length_eq;simpa using this)
  have nd:(l.map fv).Nodup:=pm.nodup_iff.mpr h.2
  rw[qa] at pw
  have L8:l.Pairwise fun a b=>fv a≠fv b:=by
   rw[List.Nodup,qa] at nd
   exact nd
  refine(pw.and L8).imp fun {a b} ⟨h1,h2⟩=>?_
  unfold b6
  cases h3:fh (fv a) (fv b) with
  |true=>rfl
  |false=>exact absurd (jj (a:=fv a) (b:=fv b) rfl h3 h1) h2
theorem jA:∀ (l:List Str),cf (l.map D.str)=true
 |[]=>rfl
 |x :: l=>by simp[cf,jA l,D.flat]
theorem nU:∀ (l:List Int),cf (l.map D.int)=true
 |[]=>rfl
 |x :: l=>by simp[cf,nU l,D.flat]
theorem xQ(l:List Str)(x:Str):l.map D.str++[D.str x]=(l++[x]).map D.str:=by simp
theorem bN{n i:Nat}{lo:Int}{x:D}(h:(oH lo n)[i]? = some x):i<n/\x=.int (lo+(i:Nat)):=by
 unfold oH at h
 rw[nL] at h
 by_cases hi:i<n
 ·rw[List.getElem?_range hi] at h
  exact⟨hi,(Option.some.inj h).symm⟩
 ·rw[sL (by simpa using hi)] at h
  cases h
theorem bH(lo:Int)(n:Nat):(oH lo n).length=n:=by simp[oH]
theorem tK{names:List Str}{i:Int}(h0:0<=i)(h1:i<names.length):∃ n,n∈names/\eu (names.map D.str) i=some (.str n):=by
 have hn:i.toNat<names.length:=by lia
 refine⟨names[i.toNat],DC hn,?_⟩
 have:=FX (xs:=names.map D.str) (j:=i.toNat) (v:=.str names[i.toNat]) (by simp[hn])
 rwa[DS h0] at this
theorem xf{n d:Nat}{k:Int}(h0:0<=k)(h1:k<=n):HT.bq n d (some k)=k.toNat:=by
 simp only[HT.bq]
 rw[if_neg (by lia)]
 lia
theorem fO{α:Type}[DecidableEq α]:∀ {l m:List α},l.Nodup->(∀ x∈l,x∈m)->l.length<=m.length
 |[],_,_,_=>dQ _
 |x :: l,m,nd,h=>by
  obtain⟨hx,nd⟩:=lS.mp nd
  have hm:=h x cc
  have:=fO (l:=l) (m:=m.erase x) nd fun y hy=>(List.mem_erase_of_ne (fun e=>by subst e;exact hx hy)).mpr (h y (b9 _ hy))
  rw[List.length_erase_of_mem hm] at this
  have:=List.length_pos_of_mem hm
  simp only[qc]
  lia
def dW(n:Nat):List Int:=(List.range n).map fun i=>((i:Nat):Int)
theorem rE(n:Nat):(dW n).length=n:=by simp[dW]
theorem cZ{n:Nat}{x:Int}:x∈dW n↔0<=x/\x<n:=by
 unfold dW
 rw[dr]
 constructor
 ·rintro⟨i,hi,rfl⟩
  have:=rh.mp hi
  lia
 ·intro ⟨h0,h1⟩
  exact⟨x.toNat,rh.mpr (by lia),by lia⟩
def fi(many:Int)(steps:List bP):Prop:=∀ s∈steps,CH many s
theorem wD{κ β:Type}[DecidableEq κ]{kvs:List (κ × β)}{k:κ}:(kvs.any fun kv=>decide (kv.1=k))=true↔k∈kvs.map (·.1):=by
 rw[My,dr]
 exact⟨fun⟨p,hp,e⟩=>⟨p,hp,of_decide_eq_true e⟩,fun⟨p,hp,e⟩=>⟨p,hp,decide_eq_true e⟩⟩
theorem je{κ β:Type}[DecidableEq κ]:∀ {kvs:List (κ × β)} {k:κ},(gS kvs k).isSome=true↔k∈kvs.map (·.1)
 |[],k=>by simp[gS]
 |p :: kvs,k=>by
  have ih:=je (kvs:=kvs) (k:=k)
  rw[fm,cK]
  by_cases h:p.1=k
  ·subst h;simp[gS]
  ·have:gS (p :: kvs) k=gS kvs k:=by simp[gS,h]
   rw[this,ih]
   exact⟨.inr,fun z=>z.elim (fun e=>absurd e.symm h) id⟩
theorem En{steps:List bP}{i:Nat}{x:D}(h:(steps.map eW)[i]? = some x):∃ p d r,x=.tup [.int p,.str d,.int r]/\(p,d,r)∈steps/\steps.take (i+1)=steps.take i++[(p,d,r)]:=by
 rw[nL] at h
 cases e:steps[i]? with
 |none=>rw[e] at h;cases h
 |some s =>
  rw[e] at h
  cases h
  obtain⟨p,d,r⟩:=s
  exact⟨p,d,r,rfl,kP e,by rw[E8,e];rfl⟩
abbrev Pr:=Str × Int
abbrev Ky:=Int × List Pr
def ot(p:Pr):List Key:=[.inr p.1,.inl p.2]
def ku(p:Pr):D:=.tup [.str p.1,.int p.2]
def fF(k:Ky):D:=.tup [.int k.1,.list (k.2.map ku)]
def zt(r:List Int):D:=.list (r.map .int)
def pj(a b:Ky):Bool:=PySem.SeqAt.b6 3 (fF a).py (fF b).py
def qB(k:Ky):Prop:=∀ p∈k.2,PyData.strOk p.1=true
theorem Br(k:Ky):(fF k).py=.tuple [.int k.1,.list (k.2.map L2.jP)]:=by
 show PyData.tuple [.int k.1,.list (kg (k.2.map ku))]=_
 rw[gK,mM]
 rfl
theorem qB.sD{k:Ky}(h:qB k):L2.sD (fF k).py:=⟨k.1,k.2,Br k,h⟩
theorem iR(a:Ky)(h:qB a):pj a a=false:=L2.Ol.ag.oq _ h.sD
theorem yM{a b c:Ky}(ha:qB a)(hb:qB b)(hc:qB c):pj a b=true->pj b c=true->pj a c=true:=L2.Ol.ag.tr _ _ _ ha.sD hb.sD hc.sD
theorem zy{p q:Pr}(h:ku p=ku q):p=q:=by
 obtain⟨a,b⟩:=p
 obtain⟨c,d⟩:=q
 simp[ku] at h
 rw[h.1,h.2]
theorem Bv{p q:Pr}(h:ot p=ot q):p=q:=by
 obtain⟨a,b⟩:=p
 obtain⟨c,d⟩:=q
 simp[ot] at h
 rw[h.1,h.2]
theorem map_inj{α β:Type}{f:α->β}(hf:∀ a b,f a=f b->a=b):∀ {l m:List α},l.map f=m.map f->l=m
 |[],[],_=>rfl
 |[],_ :: _,h=>by simp at h
 |_ :: _,[],h=>by simp at h
 |x :: l,y :: m,h=>by
  simp only[fm,List.cons.injEq] at h
  rw[hf _ _ h.1,map_inj hf h.2]
theorem vo{a b:Ky}(h:fF a=fF b):a=b:=by
 simp only[fF,D.tup.injEq,List.cons.injEq,D.int.injEq,D.list.injEq] at h
 exact Prod.ext h.1 (map_inj (fun _ _=>zy) h.2.1)
theorem zb:∀ l:List Pr,sv (l.map ku)=true
 |[]=>rfl
 |x :: l=>by simp[sv,zb l,ku,D.nb]
theorem DN(k:Ky):(fF k).nb=true:=by simp[fF,D.nb,sv,zb]
theorem rK(a b:Ky):fT (fF a) (fF b)=decide (a=b):=by
 rw[BI,lU _ _ (DN a) (DN b),decide_eq_true_iff]
 exact⟨vo,fun e=>by rw[e]⟩
theorem Av{a b:Ky}(ha:qB a)(hb:qB b)(h1:pj a b=false)(h2:pj b a=false):a=b:=by
 have e:=L2.Ol.ag.ag _ _ ha.sD hb.sD h1 h2
 have:fT (fF a) (fF b)=fT (fF a) (fF a):=by unfold fT;rw[e]
 rw[rK,rK] at this
 simpa using this
theorem BP{a b:Ky}(h:a.1<b.1):pj a b=true:=by
 unfold pj
 rw[Br,Br,PySem.SeqAt.b6,PySem.SeqAt.lI]
 have:PyData.eqv (.int a.1) (.int b.1)=false:=by
  have:a.1≠b.1:=by lia
  simpa[PyData.eqv] using this
 rw[this,if_neg gI,PySem.SeqAt.b6]
 exact decide_eq_true h
theorem xn{k:Ky}(h:qB k)(n:Nat):b4 (n+3) (fF k)=true:=by
 have:∀ p∈k.2.map ku,b4 (n+1) p=true:=fun d hd=>by
  obtain⟨p,hp,rfl⟩:=dr.mp hd
  simp[ku,b4,h p hp]
 simp only[fF,b4,DH,List.all_nil,ML,Bool.true_and,IQ]
 exact this
theorem zc{l:List Ky}(h:∀ k∈l,qB k)(n:Nat):b4 (n+4) (.list (l.map fF))=true:=by
 simp only[b4,List.all_map,IQ]
 exact fun k hk=>xn (h k hk) n
theorem Eb(l:List Ky)(k:Ky):BD (l.map fF) (fF k)=decide (k∈l):=by
 unfold BD
 rw[List.any_map,BI,My,decide_eq_true_iff]
 constructor
 ·rintro⟨j,hj,e⟩
  have e:fT (fF j) (fF k)=true:=e
  rw[rK,decide_eq_true_iff] at e
  rwa[<- e]
 ·exact fun hk=>⟨k,hk,by show fT (fF k) (fF k)=true;rw[rK];exact decide_eq_true rfl⟩
theorem pA:∀ l:List Int,sv (l.map D.int)=true
 |[]=>rfl
 |x :: l=>by simp[sv,pA l,D.nb]
theorem Hf(a b:List Int):fT (.list (a.map .int)) (.list (b.map .int))=decide (a=b):=by
 rw[BI,lU _ _ (by simp[D.nb,pA]) (by simp[D.nb,pA]),decide_eq_true_iff]
 refine⟨fun h=>map_inj (f:=D.int) (fun _ _=>D.int.inj) (D.list.inj h),fun e=>by rw[e]⟩
theorem vV(l:List Int)(n:Nat):b4 (n+1) (.list (l.map .int))=true:=by
 simp[b4,List.all_map]
theorem RD{α β:Type}{f:β->α}{P:β->Prop}:∀ {ks:List α},(∀ k∈ks,∃ s,k=f s/\P s)->∃ l:List β,ks=l.map f/\∀ s∈l,P s
 |[],_=>⟨[],rfl,fun s h=>nomatch h⟩
 |k :: ks,h=>by
  obtain⟨s,rfl,p⟩:=h k cc
  obtain⟨l,rfl,q⟩:=RD fun k hk=>h k (b9 _ hk)
  refine⟨s :: l,rfl,fun t ht=>?_⟩
  rcases cK.mp ht with rfl|ht
  ·exact p
  ·exact q t ht
theorem iJ{α:Type}{lt:α->α->Prop}:∀ {l m:List α},(∀ a∈l,∀ b∈l,lt a b->lt b a->False)->l.Pairwise lt->m.Pairwise lt->(∀ x,x∈l↔x∈m)->l=m
 |[],[],_,_,_,_=>rfl
 |[],y :: m,_,_,_,h=>absurd ((h y).mpr cc) (by simp)
 |x :: l,[],_,_,_,h=>absurd ((h x).mp cc) (by simp)
 |x :: l,y :: m,as,hl,hm,h=>by
  obtain⟨a1,a2⟩:=List.pairwise_cons.mp hl
  obtain⟨b1,b2⟩:=List.pairwise_cons.mp hm
  have e:x=y:=by
   rcases cK.mp ((h x).mp cc) with e|e
   ·exact e
   ·rcases cK.mp ((h y).mpr cc) with e'|e'
    ·exact e'.symm
    ·exact(as x cc y (b9 _ e') (a1 y e') (b1 x e)).elim
  subst e
  have oq:¬ lt x x:=fun z=>as x cc x cc z z
  rw[iJ (fun a ha b hb=>as a (b9 _ ha) b (b9 _ hb)) a2 b2 fun z=>⟨fun hz=>by
   rcases cK.mp ((h z).mp (b9 _ hz)) with e|e
   ·subst e;exact absurd (a1 z hz) oq
   ·exact e,fun hz=>by
   rcases cK.mp ((h z).mpr (b9 _ hz)) with e|e
   ·subst e;exact absurd (b1 z hz) oq
   ·exact e⟩]
def rk(bT:List Int)(s:Int):Int:=bT.getD s.toNat 0
structure CL(steps:List bP)(bT:List Int)(s:Int)(k:Ky):Prop where
 fst:k.1=rk bT s
 up:k.2.Pairwise fun a b=>fh (ot a) (ot b)=true
 mem:∀ p,p∈k.2↔∃ t∈steps,t.1=s/\p=(t.2.1,rk bT t.2.2)
theorem CL.uniq{steps:List bP}{bT:List Int}{s:Int}{k j:Ky}(a:CL steps bT s k)(b:CL steps bT s j):k=j:=by
 have h2:k.2=j.2:=iJ (fun x _ y _ h1 h2=>by have:=n8 h1 h2;rw[lB] at this;cases this) a.up b.up fun p=>(a.mem p).trans (b.mem p).symm
 exact Prod.ext (a.fst.trans b.fst.symm) h2
theorem CL.ok{many:Int}{steps:List bP}{bT:List Int}{s:Int}{k:Ky}(a:CL steps bT s k)(h:fi many steps):qB k:=fun p hp=>by
 obtain⟨t,ht,_,rfl⟩:=(a.mem p).mp hp
 exact(h t ht).2.2.1.ok
structure px(many:Int)(steps:List bP)(bT r:List Int)(ky:Int->Ky)(diff:List Ky):Prop where
 len:r.length=many.toNat
 key:∀ s,0<=s->s<many->CL steps bT s (ky s)
 up:diff.Pairwise fun a b=>pj a b=true
 mem:∀ k,k∈diff↔∃ s,(0<=s/\s<many)/\k=ky s
 pos:∀ s,0<=s->s<many->0<=rk r s/\diff[(rk r s).toNat]? = some (ky s)
def RB(many:Int)(steps:List bP)(bT r:List Int):Prop:=∃ ky diff,px many steps bT r ky diff
section
variable {many:Int}{steps:List bP}{bT r r2:List Int}{ky Wj:Int->Ky}{diff Wk:List Ky}
theorem px.ok(h:px many steps bT r ky diff)(aT:fi many steps){k:Ky}(hk:k∈diff):qB k:=by
 obtain⟨s,hs,rfl⟩:=(h.mem k).mp hk
 exact(h.key s hs.1 hs.2).ok aT
theorem px.as(h:px many steps bT r ky diff)(aT:fi many steps):∀ a∈diff,∀ b∈diff,pj a b=true->pj b a=true->False:=fun a ha b hb h1 h2=>by
 have:=yM (h.ok aT ha) (h.ok aT hb) (h.ok aT ha) h1 h2
 rw[iR a (h.ok aT ha)] at this
 cases this
theorem Ds{l m:List Int}(hl:l.length=many.toNat)(hm:m.length=many.toNat)(h:∀ s,0<=s->s<many->rk l s=rk m s):l=m:=by
 apply List.ext_getElem (by lia)
 intro i h1 h2
 have:=h (i:Nat) (by lia) (by lia)
 unfold rk at this
 simpa[List.getD,h1,h2] using this
theorem px.inj(h:px many steps bT r ky diff)(aT:fi many steps){i j:Nat}{k:Ky}(hi:diff[i]? = some k)(hj:diff[j]? = some k):i=j:=by
 obtain⟨gv,gV⟩:=hX.mp hi
 obtain⟨w_,Iy⟩:=hX.mp hj
 have hk:k∈diff:=kP hi
 have oq:=iR k (h.ok aT hk)
 have pw:=xD.mp h.up
 rcases Nat.lt_trichotomy i j with e|e|e
 ·have:=pw i j gv w_ e
  rw[gV,Iy,oq] at this;cases this
 ·exact e
 ·have:=pw j i w_ gv e
  rw[gV,Iy,oq] at this;cases this
theorem px.same(h:px many steps bT r ky diff)(h2:px many steps bT r2 Wj Wk)(aT:fi many steps):r=r2:=by
 have ek:∀ s,0<=s->s<many->ky s=Wj s:=fun s a b=>(h.key s a b).uniq (h2.key s a b)
 have ed:diff=Wk:=iJ (h.as aT) h.up h2.up fun k=>by
  rw[h.mem,h2.mem]
  exact⟨fun⟨s,a,e⟩=>⟨s,a,e.trans (ek s a.1 a.2)⟩,fun⟨s,a,e⟩=>⟨s,a,e.trans (ek s a.1 a.2).symm⟩⟩
 subst ed
 refine Ds h.len h2.len fun s a b=>?_
 have p1:=h.pos s a b
 have p2:=h2.pos s a b
 rw[<- ek s a b] at p2
 have:=h.inj aT p1.2 p2.2
 lia
theorem RB.uniq(h:RB many steps bT r)(h2:RB many steps bT r2)(aT:fi many steps):r=r2:=by
 obtain⟨_,_,h⟩:=h
 obtain⟨_,_,h2⟩:=h2
 exact h.same h2 aT
theorem px.uP(h:px many steps bT r ky diff){s t:Int}(hs:0<=s/\s<many)(ht:0<=t/\t<many)(e:rk r s=rk r t):ky s=ky t:=by
 have p1:=(h.pos s hs.1 hs.2).2
 have p2:=(h.pos t ht.1 ht.2).2
 rw[e,p2] at p1
 exact(Option.some.inj p1).symm
theorem px.lt(h:px many steps bT r ky diff)(aT:fi many steps){s t:Int}(hs:0<=s/\s<many)(ht:0<=t/\t<many):rk r s<rk r t↔pj (ky s) (ky t)=true:=by
 have p1:=h.pos s hs.1 hs.2
 have p2:=h.pos t ht.1 ht.2
 have k1:=h.ok aT (kP p1.2)
 have k2:=h.ok aT (kP p2.2)
 obtain⟨a1,a2⟩:=hX.mp p1.2
 obtain⟨b1,b2⟩:=hX.mp p2.2
 have pw:=xD.mp h.up
 constructor
 ·intro l
  have:=pw _ _ a1 b1 (by lia)
  rwa[a2,b2] at this
 ·intro l
  by_cases z:rk r t<rk r s
  ·have:=pw _ _ b1 a1 (by lia)
   rw[a2,b2] at this
   have:=yM k1 k2 k1 l this
   rw[iR _ k1] at this;cases this
  ·by_cases z2:rk r s=rk r t
   ·have:=h.uP hs ht z2
    rw[this,iR _ k2] at l;cases l
   ·lia
theorem RB.mono(h:RB many steps bT r)(aT:fi many steps){s t:Int}(hs:0<=s/\s<many)(ht:0<=t/\t<many)(l:rk bT s<rk bT t):rk r s<rk r t:=by
 obtain⟨ky,diff,h⟩:=h
 refine(h.lt aT hs ht).mpr (BP ?_)
 rw[(h.key s hs.1 hs.2).fst,(h.key t ht.1 ht.2).fst]
 exact l
theorem RB.cI'(h:RB many steps bT r){s t:Int}(hs:0<=s/\s<many)(ht:0<=t/\t<many)(e:rk r s=rk r t):rk bT s=rk bT t:=by
 obtain⟨ky,diff,h⟩:=h
 have:=h.uP hs ht e
 rw[<- (h.key s hs.1 hs.2).fst,<- (h.key t ht.1 ht.2).fst,this]
theorem RB.Wl(h:RB many steps bT r)(aT:fi many steps){t:bP}(ht:t∈steps){s:Int}(hs:0<=s/\s<many)(e:rk r t.1=rk r s):∃ u∈steps,u.1=s/\u.2.1=t.2.1/\rk bT u.2.2=rk bT t.2.2:=by
 obtain⟨ky,diff,h⟩:=h
 have hk:=h.uP ⟨(aT t ht).1,(aT t ht).2.1⟩ hs e
 have hm:=((h.key t.1 (aT t ht).1 (aT t ht).2.1).mem (t.2.1,rk bT t.2.2)).mpr ⟨t,ht,rfl,rfl⟩
 rw[hk] at hm
 obtain⟨u,hu,e1,e2⟩:=((h.key s hs.1 hs.2).mem _).mp hm
 exact⟨u,hu,e1,(Prod.mk.inj e2).1.symm,(Prod.mk.inj e2).2.symm⟩
def rF(many:Int)(r:List Int):Prop:=r.length=many.toNat/\(∀ s,0<=s->s<many->0<=rk r s/\rk r s<many)/\∀ s,0<=s->s<many->0<rk r s->∃ t,(0<=t/\t<many)/\rk r t=rk r s-1
theorem px.short(h:px many steps bT r ky diff)(aT:fi many steps):diff.length<=many.toNat:=by
 have nd:diff.Nodup:=by
  rw[Mp]
  have:=xD.mp h.up
  rw[xD]
  intro i j hi hj fA e
  have z:=this i j hi hj fA
  rw[e,iR _ (h.ok aT (DC hj))] at z
  cases z
 have:=fO (m:=(dW many.toNat).map ky) nd fun k hk=>by
  obtain⟨s,hs,rfl⟩:=(h.mem k).mp hk
  exact dr.mpr ⟨s,cZ.mpr (by lia),rfl⟩
 rwa[dc,rE] at this
theorem RB.xG(h:RB many steps bT r)(aT:fi many steps):rF many r:=by
 obtain⟨ky,diff,h⟩:=h
 have sh:=h.short aT
 refine⟨h.len,fun s a b=>?_,fun s a b c=>?_⟩
 ·have p:=h.pos s a b
  have:=(hX.mp p.2).1
  lia
 ·have p:=h.pos s a b
  have l:=(hX.mp p.2).1
  have l2:(rk r s-1).toNat<diff.length:=by lia
  obtain⟨t,ht,e⟩:=(h.mem _).mp (DC l2)
  have p2:=h.pos t ht.1 ht.2
  have:=h.inj aT p2.2 (hX.mpr ⟨l2,e⟩)
  exact⟨t,ht,by lia⟩
theorem RB.grows(h:RB many steps bT r)(aT:fi many steps)(d:rF many bT):∀ (n:Nat) (s:Int),0<=s->s<many->rk bT s=n->rk bT s<=rk r s
 |0,s,a,b,e=>by rw[e];exact((h.xG aT).2.1 s a b).1
 |n+1,s,a,b,e=>by
  obtain⟨t,ht,et⟩:=d.2.2 s a b (by lia)
  have:=RB.grows h aT d n t ht.1 ht.2 (by lia)
  have:=h.mono aT ht ⟨a,b⟩ (by lia)
  lia
theorem RB.le(h:RB many steps bT r)(aT:fi many steps)(d:rF many bT){s:Int}(a:0<=s)(b:s<many):rk bT s<=rk r s :=
 h.grows aT d (rk bT s).toNat s a b (by have:=(d.2.1 s a b).1;lia)
end
theorem yR:∀ {l m:List Int},l.length=m.length->(∀ (i:Nat) (h1:i<l.length) (h2:i<m.length),l[i]<=m[i])->l.sum<=m.sum/\(l≠m->l.sum<m.sum)
 |[],[],_,_=>⟨by simp,fun h=>absurd rfl h⟩
 |[],y :: m,h,_=>by simp at h
 |x :: l,[],h,_=>by simp at h
 |x :: l,y :: m,h,hl=>by
  have ih:=yR (l:=l) (m:=m) (by simpa using h) fun i h1 h2=>by
   have:=hl (i+1) (by simp;lia) (by simp;lia)
   simpa using this
  have h0:x<=y:=by have:=hl 0 (by simp) (by simp);simpa using this
  simp only[List.sum_cons]
  refine⟨by have:=ih.1;lia,fun ne=>?_⟩
  by_cases e:x=y
  ·subst e
   have:l≠m:=fun z=>ne (by rw[z])
   have:=ih.2 this
   lia
  ·have:=ih.1
   lia
theorem sum_bound{l:List Int}{b:Int}(h:∀ x∈l,x<=b)(hb:0<=b):l.sum<=l.length*b:=by
 induction l with
 |nil=>simp
 |cons x l ih =>
  have:=ih fun y hy=>h y (b9 _ hy)
  have:=h x cc
  simp only[List.sum_cons,qc]
  have e:((l.length+1:Nat):Int)*b=l.length*b+b:=by rw[Int.natCast_add,Int.add_mul];simp
  lia
theorem Cg{r:List Int}{i:Nat}(h:i<r.length):r[i]=rk r i:=by simp[rk,List.getD,h]
theorem RB.sum{many:Int}{steps:List bP}{bT r:List Int}(h:RB many steps bT r)(aT:fi many steps)(d:rF many bT)(hm:0<=many)(ne:r≠bT):bT.sum<r.sum/\r.sum<=many*many:=by
 have d2:=h.xG aT
 have hl:=d.1
 have ve:=d2.1
 refine⟨(yR (by lia) fun i h1 h2=>?_).2 fun e=>ne e.symm,?_⟩
 ·rw[Cg h1,Cg h2]
  exact h.le aT d (by lia) (by lia)
 ·have:=sum_bound (l:=r) (b:=many) (fun x hx=>by
   obtain⟨i,hi,rfl⟩:=List.mem_iff_getElem.mp hx
   rw[Cg hi]
   have:=(d2.2.1 i (by lia) (by lia)).2
   lia) hm
  rwa[ve,DS hm] at this
def Chain(many:Int)(steps:List bP):List Int->List (List Int)->Prop
 |cur,[]=>RB many steps cur cur
 |cur,kz :: rest=>RB many steps cur kz/\kz≠cur/\Chain many steps kz rest
theorem Chain.uniq{many:Int}{steps:List bP}(aT:fi many steps):∀ {cur:List Int} {a b:List (List Int)},Chain many steps cur a->Chain many steps cur b->a=b
 |_,[],[],_,_=>rfl
 |_,[],y :: b,h,g=>absurd (g.1.uniq h aT) g.2.1
 |_,x :: a,[],h,g=>absurd (h.1.uniq g aT) h.2.1
 |_,x :: a,y :: b,h,g=>by
  have:=h.1.uniq g.1 aT
  subst this
  rw[Chain.uniq aT h.2.2 g.2.2]
def gA(cur:List Int)(rest:List (List Int)):List Int:=(cur :: rest).getLast (by simp)
theorem rC(cur kz:List Int)(rest:List (List Int)):gA cur (kz :: rest)=gA kz rest:=by simp[gA]
theorem Chain.last{many:Int}{steps:List bP}:∀ {cur:List Int} {rest:List (List Int)},Chain many steps cur rest->RB many steps (gA cur rest) (gA cur rest)
 |_,[],h=>h
 |cur,kz :: rest,h=>by rw[rC];exact h.2.2.last
def zeros(many:Int):List Int:=List.replicate many.toNat 0
theorem iG(many s:Int):rk (zeros many) s=0:=by
 unfold rk zeros
 by_cases h:s.toNat<many.toNat
 ·simp[List.getD,h]
 ·rw[List.getD,sL (by simpa using h)];rfl
theorem pI{many:Int}(h:1<=many):rF many (zeros many) :=
 ⟨by simp[zeros],fun s _ _=>by rw[iG];lia,fun s _ _ z=>by rw[iG] at z;lia⟩
def Kinds(many:Int)(steps:List bP)(k:List Int):Prop:=∃ rest,Chain many steps (zeros many) rest/\k=gA (zeros many) rest
theorem Kinds.uniq{many:Int}{steps:List bP}(aT:fi many steps){k l:List Int}(h:Kinds many steps k)(g:Kinds many steps l):k=l:=by
 obtain⟨a,ha,rfl⟩:=h
 obtain⟨b,hb,rfl⟩:=g
 rw[ha.uniq aT hb]
theorem yG{ps:List Pr}(hl:ps.length<=1000){m:Md}{Q:Md->D->Prop}(k:∀ l:List Pr,l.Pairwise (fun a b=>fh (ot a) (ot b)=true)->(∀ p,p∈l↔p∈ps)->Q (.ow true) (.list (l.map ku))) :
  dR m (.list (ps.map ku)) Q:=by
 refine⟨ps.map ot,[true],by rw[mM];rfl,by rw[dc];exact hl,fun k hk=>?_,fun ms nd mm pw=>?_⟩
 ·obtain⟨p,_,rfl⟩:=dr.mp hk
  rfl
 ·obtain⟨l,rfl,hp⟩:=RD (f:=ot) (P:=fun p=>p∈ps) (ks:=ms) fun k hk=>by
   obtain⟨p,hp,e⟩:=dr.mp ((mm k).mp hk)
   exact⟨p,e.symm,hp⟩
  have e:(l.map ot).map pd=l.map ku:=by rw[mM];rfl
  rw[e]
  refine k l ?_ fun p=>⟨hp p,fun iF=>?_⟩
  ·rw[qa] at pw
   have L8:l.Pairwise fun a b=>ot a≠ot b:=by
    rw[List.Nodup,qa] at nd
    exact nd
   refine(pw.and L8).imp fun {a b} ⟨h1,h2⟩=>?_
   cases h3:fh (ot a) (ot b) with
   |true=>rfl
   |false=>exact absurd (jj (a:=ot a) (b:=ot b) rfl h3 h1) h2
  ·obtain⟨q,hq,e⟩:=dr.mp ((mm (ot p)).mpr (dr.mpr ⟨p,iF,rfl⟩))
   rw[<- Bv e]
   exact hq
def ov(steps:List bP)(s:Int):List Pr:=(steps.filter fun t=>decide (t.1=s)).map (·.2)
def qE(many:Int)(steps:List bP):List D:=(dW many.toNat).map fun s=>.list ((ov steps s).map ku)
def IA(many:Int)(steps:List bP):D:=.list (qE many steps)
theorem Dv(many:Int):((oH 0 many.toNat).filter fun _=>true).map (fun _=>D.list [])=qE many []:=by
 unfold qE oH dW
 rw[List.filter_eq_self.mpr fun _ _=>rfl,mM,mM]
 rfl
theorem zJ{many s:Int}(steps:List bP)(h0:0<=s)(h1:s<many):(qE many steps)[s.toNat]? = some (.list ((ov steps s).map ku)):=by
 have:s.toNat<many.toNat:=by lia
 simp[qE,dW,this,DS h0]
theorem oA(many:Int)(steps:List bP):(qE many steps).length=many.toNat:=by simp[qE,dW]
theorem uv{n:Nat}{i:Int}(h0:0<=i)(h1:i<n):kB n i=some i.toNat:=by unfold kB;rw[if_pos h0,if_pos h1]
theorem xY(steps:List bP)(p:Int)(d:Str)(r s:Int):ov (steps++[(p,d,r)]) s=if p=s then ov steps s++[(d,r)] else ov steps s:=by
 unfold ov
 by_cases h:p=s
 ·simp[h]
 ·simp[h]
theorem Fb{many p:Int}(steps:List bP)(d:Str)(r:Int)(h0:0<=p)(h1:p<many):(qE many steps).set p.toNat (.list ((ov steps p).map ku++[.tup [.str d,.int r]]))=qE many (steps++[(p,d,r)]):=by
 apply BG
 intro i
 by_cases hi:i<many.toNat
 ·have e:∀ st,(qE many st)[i]? = some (.list ((ov st (i:Nat)).map ku)):=fun st=>by
   have:=zJ (many:=many) (s:=(i:Nat)) st (by lia) (by lia)
   simpa using this
  rw[e,xY]
  by_cases hp:p=(i:Nat)
  ·subst hp
   rw[if_pos rfl]
   simp[oA,hi,ku]
  ·rw[if_neg hp,DB (by lia),e]
 ·rw[sL (by rw[MA,oA];lia),sL (by rw[oA];lia)]
theorem Fz{many s:Int}(steps:List bP)(h0:0<=s)(h1:s<many):eu (qE many steps) s=some (.list ((ov steps s).map ku)) :=
 tE (uv h0 (by rw[oA];lia)) (zJ steps h0 h1)
theorem pR{many s:Int}{r:List Int}(hl:r.length=many.toNat)(h0:0<=s)(h1:s<many):eu (r.map D.int) s=some (.int (rk r s)):=by
 have h:s.toNat<r.length:=by lia
 refine tE (uv h0 (by rw[dc];lia)) ?_
 simp[rk,List.getD,h]
theorem wz{steps:List bP}{s:Int}{p:Pr}(h:p∈ov steps s):∃ t∈steps,t.1=s/\t.2=p:=by
 obtain⟨t,ht,e⟩:=dr.mp h
 obtain⟨ht,hs⟩:=IU.mp ht
 exact⟨t,ht,of_decide_eq_true hs,e⟩
theorem z9{steps:List bP}{t:bP}(h:t∈steps):t.2∈ov steps t.1:=dr.mpr ⟨t,IU.mpr ⟨h,decide_eq_true rfl⟩,rfl⟩
theorem uc(steps:List bP)(s:Int):(ov steps s).length<=steps.length:=by
 unfold ov
 rw[dc]
 exact List.length_filter_le _ _
theorem uM(many:Int):(List.replicate many.toNat [D.int 0]).flatten=(zeros many).map D.int:=by
 unfold zeros
 generalize many.toNat=n
 induction n with
 |zero=>rfl
 |succ n ih=>rw[xI,zC,ih,xI];rfl
theorem RB.len{many:Int}{steps:List bP}{bT r:List Int}(h:RB many steps bT r):r.length=many.toNat:=by
 obtain⟨ky,diff,h⟩:=h
 exact h.len
abbrev P2:=Int × Int
def BE(p:P2):D:=.tup [.int p.1,.int p.2]
theorem Gn{l:List P2}{i:Nat}{x:D}(h:(l.map BE)[i]? = some x):∃ p q,x=.tup [.int p,.int q]/\(p,q)∈l/\l.take (i+1)=l.take i++[(p,q)]:=by
 rw[nL] at h
 cases e:l[i]? with
 |none=>rw[e] at h;cases h
 |some s =>
  rw[e] at h
  cases h
  exact⟨s.1,s.2,rfl,kP e,by rw[E8,e];rfl⟩
def qS(many:Int)(p:P2):Prop:=(0<=p.1/\p.1<many)/\0<=p.2/\p.2<many
def Fwd(l:List bP)(ps:List P2)(p q:Int):Prop:=∀ d e,(p,d,e)∈l->∃ o,(q,d,o)∈l/\(e,o)∈ps
def Bwd(l:List bP)(ps:List P2)(p q:Int):Prop:=∀ d o,(q,d,o)∈l->∃ e,(p,d,e)∈l/\(e,o)∈ps
def cL'(l:List bP)(ps:List P2)(p:P2):Prop:=Fwd l ps p.1 p.2/\Bwd l ps p.1 p.2
theorem qS.app{many:Int}{a b:List P2}(ha:∀ p∈a,qS many p)(hb:∀ p∈b,qS many p):∀ p∈a++b,qS many p:=fun p hp=>(dP.mp hp).elim (ha p) (hb p)
theorem RB.iff{many:Int}{steps:List bP}{bT r:List Int}(h:RB many steps bT r)(aT:fi many steps){s t:Int}(hs:0<=s/\s<many)(ht:0<=t/\t<many) :
  rk r s=rk r t↔rk bT s=rk bT t/\(∀ d e,(s,d,e)∈steps->∃ o,(t,d,o)∈steps/\rk bT e=rk bT o)/\∀ d o,(t,d,o)∈steps->∃ e,(s,d,e)∈steps/\rk bT e=rk bT o:=by
 constructor
 ·intro e
  refine⟨h.cI' hs ht e,fun d x hx=>?_,fun d o ho=>?_⟩
  ·obtain⟨⟨a,b,c⟩,hu,e1,e2,e3⟩:=h.Wl aT hx ht e
   cases e1
   cases e2
   exact⟨c,hu,e3.symm⟩
  ·obtain⟨⟨a,b,c⟩,hu,e1,e2,e3⟩:=h.Wl aT ho hs e.symm
   cases e1
   cases e2
   exact⟨c,hu,e3⟩
 ·rintro⟨e0,f,b⟩
  obtain⟨ky,diff,h⟩:=h
  have ks:=h.key s hs.1 hs.2
  have kt:=h.key t ht.1 ht.2
  have e:ky s=ky t:=by
   refine Prod.ext (by rw[ks.fst,kt.fst,e0]) (iJ (fun x _ y _ h1 h2=>by have:=n8 h1 h2;rw[lB] at this;cases this) ks.up kt.up fun p=>?_)
   rw[ks.mem,kt.mem]
   constructor
   ·rintro⟨⟨a,d,e⟩,hu,rfl,rfl⟩
    obtain⟨o,ho,m⟩:=f d e hu
    exact⟨_,ho,rfl,by show(d,rk bT e)=(d,rk bT o);rw[m]⟩
   ·rintro⟨⟨a,d,o⟩,hu,rfl,rfl⟩
    obtain⟨e,he,m⟩:=b d o hu
    exact⟨_,he,rfl,by show(d,rk bT o)=(d,rk bT e);rw[m]⟩
  have p1:=h.pos s hs.1 hs.2
  have p2:=h.pos t ht.1 ht.2
  rw[<- e] at p2
  have:=h.inj aT p1.2 p2.2
  lia
structure Rds(many:Int)(steps:List bP)(rest:List (List Int))(f:Nat->List Int):Prop where
 zero:f 0=zeros many
 kz:∀ k,RB many steps (f k) (f (k+1))
 at':∀ k,k<=rest.length->(zeros many :: rest)[k]? = some (f k)
 eJ:∀ k,rest.length<=k->f k=f rest.length
theorem Chain.sq{many:Int}{steps:List bP}:∀ {cur:List Int} {rest:List (List Int)},Chain many steps cur rest->∃ f:Nat->List Int,f 0=cur/\(∀ k,RB many steps (f k) (f (k+1)))/\(∀ k,k<=rest.length->(cur :: rest)[k]? = some (f k))/\∀ k,rest.length<=k->f k=f rest.length
 |cur,[],h=>⟨fun _=>cur,rfl,fun _=>h,fun k hk=>by
   have:k=0:=Nat.le_zero.mp hk
   subst this
   rfl,fun _ _=>rfl⟩
 |cur,kz :: rest,h=>by
  obtain⟨f,f0,fn,fa,fs⟩:=h.2.2.sq
  refine⟨fun k=>Nat.casesOn k cur f,rfl,fun k=>?_,fun k hk=>?_,fun k hk=>?_⟩
  ·cases k with
   |zero=>show RB many steps cur (f 0);rw[f0];exact h.1
   |succ k=>exact fn k
  ·cases k with
   |zero=>rfl
   |succ k=>exact fa k (Nat.le_of_succ_le_succ hk)
  ·cases k with
   |zero=>exact absurd hk (by simp)
   |succ k=>exact fs k (Nat.le_of_succ_le_succ hk)
theorem Chain.rds{many:Int}{steps:List bP}{rest:List (List Int)}(h:Chain many steps (zeros many) rest):∃ f,Rds many steps rest f:=by
 obtain⟨f,a,b,c,d⟩:=h.sq
 exact⟨f,a,b,c,d⟩
theorem ye{κ β:Type}[DecidableEq κ](k k':κ)(d:β)(kvs:List (κ × β)):gS (ki kvs k d) k'=if k'=k then some d else gS kvs k':=by
 have cons:∀ (p:κ × β) (r:List (κ × β)),gS (p :: r) k'=if p.1=k' then some p.2 else gS r k':=fun p r=>by
  unfold gS
  rw[DE]
  by_cases e:p.1=k'<;>simp[e]
 have mp:∀ kvs:List (κ × β),gS (kvs.map fun p=>if p.1=k then (p.1,d) else p) k'=if k'=k/\(gS kvs k').isSome then some d else gS kvs k':=by
  intro kvs
  induction kvs with
  |nil=>simp[gS]
  |cons p r ih =>
   rw[fm,cons,cons,ih]
   by_cases e:p.1=k
   ·by_cases e2:k=k'
    ·simp[e,e2]
    ·simp[e,e2]
   ·by_cases e2:p.1=k'
    ·subst e2
     simp[e]
    ·simp[e,e2]
 have sn:∀ kvs:List (κ × β),gS (kvs++[(k,d)]) k'=(gS kvs k').or (if k=k' then some d else none):=by
  intro kvs
  induction kvs with
  |nil=>rw[zI,cons];simp[gS]
  |cons p r ih =>
   rw[List.cons_append,cons,cons,ih]
   by_cases e2:p.1=k'<;>simp[e2]
 unfold ki
 by_cases h:(kvs.any fun kv=>decide (kv.1=k))=true
 ·rw[if_pos h,mp]
  by_cases e:k'=k
  ·subst e
   have:=je.mpr (wD.mp h)
   simp[this]
  ·simp[e]
 ·rw[if_neg h,sn]
  by_cases e:k'=k
  ·subst e
   have:gS kvs k'=none:=by
    cases z:gS kvs k' with
    |none=>rfl
    |some v=>exact absurd (wD.mpr (je.mp (by rw[z];rfl))) h
   simp[this]
  ·have e2:¬ k=k':=fun z=>e z.symm
   simp[e,e2]
theorem wQ(cur:List Int)(rest:List (List Int)):(cur :: rest)[rest.length]? = some (gA cur rest):=by
 unfold gA
 rw[List.getLast_eq_getElem]
 simp
theorem Kinds.rb{many:Int}{l:List bP}{k:List Int}(h:Kinds many l k):RB many l k k:=by
 obtain⟨rest,hc,rfl⟩:=h
 exact hc.last
theorem Kinds.same{many:Int}{l:List bP}{k:List Int}{ps:List P2}(h:Kinds many l k)(aT:fi many l)(hi:∀ x∈ps,qS many x)(hb:∀ x∈ps,cL' l ps x):∀ x∈ps,rk k x.1=rk k x.2:=by
 obtain⟨rest,hc,rfl⟩:=h
 obtain⟨f,hf⟩:=hc.rds
 have go:∀ i,∀ x∈ps,rk (f i) x.1=rk (f i) x.2:=fun i=>by
  induction i with
  |zero=>intro x _;rw[hf.zero,iG,iG]
  |succ i ih =>
   intro x hx
   have b:=hb x hx
   refine((hf.kz i).iff aT (hi x hx).1 (hi x hx).2).mpr ⟨ih x hx,fun d e he=>?_,fun d o ho=>?_⟩
   ·obtain⟨o,ho,m⟩:=b.1 d e he
    exact⟨o,ho,ih _ m⟩
   ·obtain⟨e,he,m⟩:=b.2 d o ho
    exact⟨e,he,ih _ m⟩
 have e:=hf.at' rest.length (bX _)
 rw[wQ] at e
 rw[Option.some.inj e]
 exact go _
def qV(kvs:Kn)(t:bP):Prop:=fv t∈kvs.map (·.1)
theorem qU{kvs:Kn}{s t:bP}{d:D}:qV (ki kvs (fv s) d) t↔qV kvs t\/t=s:=by
 unfold qV
 rw[<- je,<- je,ye]
 by_cases e:t=s
 ·subst e;simp
 ·have:fv t≠fv s:=fun z=>e (qb z)
  simp[this,e]
def dig(c w m:Int):Int:=c*rk [48271,69621,16807,40692,39373,22571] w % rk [1000003,998244353,104729,2147483647,15485863,32452843] w / 11 % m
theorem qX{l:List Int}{i:Int}(h0:0<=i)(h1:i<l.length):∃ c,c∈l/\eu (l.map D.int) i=some (.int c)/\rk l i=c:=by
 have hn:i.toNat<l.length:=by lia
 exact⟨_,DC hn,(pR (many:=l.length) (by lia) h0 h1).trans (by simp[rk,List.getD,hn]),by simp[rk,List.getD,hn]⟩
def tw(h x:Int):Int:=if x<h then x+h else x-h
theorem Ec{h x:Int}(a:0<=x)(b:x<h+h):0<=tw h x/\tw h x<h+h:=by unfold tw;split<;>lia
theorem CG{h x:Int}(a:0<=x)(b:x<h+h):tw h (tw h x)=x:=by unfold tw;split<;>split<;>lia
def pz(h:Int)(S:bP->Prop):Prop:=∀ a d b,S (a,d,b)->∃ b',S (tw h a,d,b')/\(b'=b\/b'=tw h b)
def RG(h:Int)(n:Nat):List P2:=((dW n).map fun x=>(x,x))++(dW n).map fun x=>(x,tw h x)
theorem dX{h:Int}{n:Nat}{x:P2}:x∈RG h n↔(0<=x.1/\x.1<n)/\(x.2=x.1\/x.2=tw h x.1):=by
 unfold RG
 rw[dP,dr,dr]
 constructor
 ·rintro(⟨y,hy,rfl⟩|⟨y,hy,rfl⟩)
  ·exact⟨cZ.mp hy,.inl rfl⟩
  ·exact⟨cZ.mp hy,.inr rfl⟩
 ·rintro⟨h1,h2|h2⟩
  ·exact .inl ⟨x.1,cZ.mpr h1,Prod.ext rfl h2.symm⟩
  ·exact .inr ⟨x.1,cZ.mpr h1,Prod.ext rfl h2.symm⟩
theorem pz.kinds{h many:Int}{l:List bP}{k:List Int}(ht:pz h (·∈l))(hm:many=h+h)(aT:fi many l)(hk:Kinds many l k){x:Int}(x0:0<=x)(x1:x<many):rk k x=rk k (tw h x):=by
 refine hk.same (ps:=RG h many.toNat) aT (fun y hy=>?_) (fun y hy=>?_) (x,tw h x) (dX.mpr ⟨⟨x0,(by lia : x<(many.toNat:Nat))⟩,.inr rfl⟩)
 ·obtain⟨a,b⟩:=dX.mp hy
  refine⟨by lia,?_⟩
  rcases b with b|b
  ·rw[b];lia
  ·rw[b,hm]
   exact Ec a.1 (by lia)
 ·obtain⟨a,b⟩:=dX.mp hy
  refine⟨fun d e he=>?_,fun d o ho=>?_⟩
  ·have ie:=(aT _ he).2.2.2
   have ie:0<=e/\e<many:=ie
   rcases b with b|b
   ·exact⟨e,by rw[b];exact he,dX.mpr ⟨⟨ie.1,(by lia : e<(many.toNat:Nat))⟩,.inl rfl⟩⟩
   ·obtain⟨o,ho,e2⟩:=ht _ _ _ he
    exact⟨o,by rw[b];exact ho,dX.mpr ⟨⟨ie.1,(by lia : e<(many.toNat:Nat))⟩,e2⟩⟩
  ·have io:=(aT _ ho).2.2.2
   have io:0<=o/\o<many:=io
   rcases b with b|b
   ·exact⟨o,by rw[<- b];exact ho,dX.mpr ⟨⟨io.1,(by lia : o<(many.toNat:Nat))⟩,.inl rfl⟩⟩
   ·obtain⟨e,he,e2⟩:=ht _ _ _ ho
    rw[b,CG a.1 (by lia)] at he
    refine⟨e,he,?_⟩
    rcases e2 with rfl|rfl
    ·exact dX.mpr ⟨⟨io.1,(by lia : e<(many.toNat:Nat))⟩,.inl rfl⟩
    ·have:=Ec (h:=h) io.1 (by lia)
     exact dX.mpr ⟨⟨this.1,(by lia : tw h o<(many.toNat:Nat))⟩,.inr (CG io.1 (by lia)).symm⟩
def RH(one two states:Int)(n:Str)(j i:Nat):bP:=(one+states*(0+(j:Nat)),n,two+states*(0+(i:Nat)))
def Nw(way copies:Int)(j i:Nat):Prop:=way=2\/(0+(i:Nat):Int)=(way+(0+(j:Nat))) % copies
theorem zr{one states:Int}{j:Nat}(a0:0<=one)(a1:one<states)(hj:j<2):tw states (one+states*(0+(j:Nat)))=one+states*(0+((1-j:Nat):Nat)):=by
 have:j=0\/j=1:=by lia
 unfold tw
 rcases this with rfl|rfl<;>simp<;>lia
theorem pz.new{one two states way:Int}{n:Str}(a0:0<=one)(a1:one<states)(b0:0<=two)(b1:two<states){S S':bP->Prop}(h:pz states S)(hs:∀ t,S' t↔S t\/∃ j i:Nat,j<2/\i<2/\Nw way 2 j i/\t=RH one two states n j i):pz states S':=fun a d b mI=>by
 rcases (hs _).mp mI with z|⟨j,i,hj,hi,hn,e⟩
 ·obtain⟨b',h1,h2⟩:=h a d b z
  exact⟨b',(hs _).mpr (.inl h1),h2⟩
 ·obtain⟨i',iA,Kj⟩:∃ i':Nat,i'<2/\Nw way 2 (1-j) i':=by
   by_cases w:way=2
   ·exact⟨0,by lia,.inl w⟩
   ·exact⟨((way+(0+((1-j:Nat):Nat))) % 2).toNat,by lia,.inr (by lia)⟩
  cases e
  refine⟨two+states*(0+(i':Nat)),(hs _).mpr (.inr ⟨1-j,i',by lia,iA,Kj,?_⟩),?_⟩
  ·rw[zr a0 a1 hj];rfl
  ·rw[zr b0 b1 hi]
   by_cases z:i'=i
   ·rw[z];exact .inl rfl
   ·have:i'=1-i:=by lia
    rw[this];exact .inr rfl
theorem pz.chain{states:Int}{n:Str}(h1:1<=states){S S':bP->Prop}(h:pz states S)(hs:∀ t,S' t↔S t\/∃ k:Nat,(k:Int)<2*states-1/\0<((0+(k:Nat):Int)+1) % states/\t=((0+(k:Nat):Int),n,(0+(k:Nat):Int)+1)):pz states S':=fun a d b mI=>by
 rcases (hs _).mp mI with z|⟨k,hk,hm,e⟩
 ·obtain⟨b',h1,h2⟩:=h a d b z
  exact⟨b',(hs _).mpr (.inl h1),h2⟩
 ·cases e
  have ne:∀ x:Int,0<x % states->x≠states:=fun x hx e=>by rw[e,Int.emod_self] at hx;lia
  have n1:=ne _ hm
  by_cases l:(k:Int)<states
  ·refine⟨0+(k:Nat)+1+states,(hs _).mpr (.inr ⟨k+states.toNat,by lia,?_,?_⟩),.inr ?_⟩
   ·rw[show(0+((k+states.toNat:Nat):Nat):Int)+1=0+(k:Nat)+1+states by lia,Int.add_emod_right]
    exact hm
   ·unfold tw
    rw[if_pos (by lia),show(0+((k+states.toNat:Nat):Nat):Int)=0+(k:Nat)+states by lia,show(0+(k:Nat):Int)+states+1=0+(k:Nat)+1+states by lia]
   ·unfold tw
    rw[if_pos (by lia)]
  ·have e2:(0+((k-states.toNat:Nat):Nat):Int)=0+(k:Nat)-states:=by lia
   refine⟨0+(k:Nat)-states+1,(hs _).mpr (.inr ⟨k-states.toNat,by lia,?_,?_⟩),.inr ?_⟩
   ·rw[e2,<- Int.add_emod_right (0+(k:Nat)-states+1) states,show(0+(k:Nat):Int)-states+1+states=0+(k:Nat)+1 by lia]
    exact hm
   ·unfold tw
    rw[if_neg (by lia),e2]
   ·unfold tw
    rw[if_neg (by lia)]
    lia
theorem jh{l:List Int}{i:Int}(h0:0<=i)(h1:i<l.length):∃ c,c∈l/\eu (l.map D.int) i=some (.int c):=by
 have hn:i.toNat<l.length:=by lia
 refine⟨l[i.toNat],DC hn,?_⟩
 have:=FX (xs:=l.map D.int) (j:=i.toNat) (v:=.int l[i.toNat]) (by simp[hn])
 rwa[DS h0] at this
theorem tM(x:Int){m:Int}(h:0<m):0<=x % m/\x % m<m:=⟨MS _ (by lia),O8 _ h⟩
theorem bu{a b:Int}(h0:-1000<=b)(h1:b<=10000000000):yA a b:=.inr ⟨by lia,by lia⟩
theorem gM{a b:Int}(h0:-1000<=a)(h1:a<=10000000000):yA a b:=.inl ⟨by lia,by lia⟩
theorem gZ:∀ l:List Nat,sg (Str.join "" (l.map fun c=>(⟨#[c]⟩:Str)))=l
 |[]=>by decide +kernel
 |[c]=>rfl
 |c :: d :: l=>by
  have ih:=gZ (d :: l)
  show sg ((⟨#[c]⟩:Str) ++ "" ++ Str.join "" ((d :: l).map fun c=>(⟨#[c]⟩:Str)))=_
  rw[qD,qD,ih,show sg ("" : Str)=[] by decide +kernel]
  rfl
theorem qg:∀ l:List Nat,(l.map fun _=>1).sum=l.length
 |[]=>rfl
 |x :: l=>by simp[qg l];lia
theorem jV:∀ (l:List Str),iy (l.map D.str)=some l
 |[]=>rfl
 |x :: l=>by simp[iy,jV l]
def rg(n:Nat)(out:List D):Prop:=∃ cs:List Nat,out=cs.map (fun c=>D.str ⟨#[c]⟩)/\cs.length=n/\∀ c∈cs,isLet c=true
theorem rg.nil:rg 0 []:=⟨[],rfl,rfl,fun c hc=>nomatch hc⟩
theorem rg.push{n:Nat}{out:List D}{c:Nat}(h:rg n out)(hc:isLet c=true):rg (n+1) (out++[.str ⟨#[c]⟩]):=by
 obtain⟨cs,rfl,hl,ha⟩:=h
 refine⟨cs++[c],by simp,by simp[hl],fun d hd=>?_⟩
 rcases dP.mp hd with hd|hd
 ·exact ha d hd
 ·rw[pV.mp hd];exact hc
theorem rg.join{n:Nat}{out:List D}(h:rg n out)(hn:n<=100) :
  ∃ zs,iy out=some zs/\(zs.map (·.length)).sum+zs.length*(Str.ofString "").length<=16777216/\(Str.join "" zs).length=n/\lets (Str.join "" zs):=by
 obtain⟨cs,rfl,hl,ha⟩:=h
 refine⟨cs.map fun c=>⟨#[c]⟩,?_,?_,?_⟩
 ·rw[<- jV,mM];rfl
 ·rw[show(Str.ofString "").length=0 by decide,mM,Nat.mul_zero,Fs]
  show(cs.map fun _=>1).sum<=_
  rw[qg];lia
 ·have hw:=gZ cs
  generalize Str.join "" (cs.map fun c=>(⟨#[c]⟩:Str))=word at hw ⊢
  refine⟨?_,fun c hc=>ha c (by rwa[hw] at hc)⟩
  have:(sg word).length=n:=by rw[hw,hl]
  rw[<- this];unfold sg Str.length;simp
theorem wF(l:List Str)(lo hi:Option Int):nr (l.map D.str) lo hi=(nr l lo hi).map D.str:=by
 unfold nr
 rw[dc,List.map_take,List.map_drop]
theorem CN{α:Type}{l:List α}{a b:Int}(h0:0<=a)(h1:a<b)(h2:a<l.length):1<=(nr l (some a) (some b)).length/\(nr l (some a) (some b)).length<=l.length/\∀ x∈nr l (some a) (some b),x∈l:=by
 have e:HT.bq l.length 0 (some a)=a.toNat:=xf h0 (by lia)
 have e2:a.toNat<HT.bq l.length l.length (some b):=by
  simp only[HT.bq]
  rw[if_neg (by lia)]
  lia
 unfold nr
 rw[e,nS,BH]
 exact⟨by lia,by lia,fun x hx=>OL (Mu hx)⟩
theorem sF.Cj{P:bP->Prop}{kvs:Kn}(h:sF P kvs){R:List (List Key)->Prop}(k:∀ steps:List bP,(steps.map fv).Perm (kvs.map (·.1))->(∀ s∈steps,P s)->steps.Pairwise (fun a b=>b6 a b=true)->steps.length=kvs.length->R (steps.map fv)) :
  ∃ b0 sh,(∀ p∈kvs,gE p.1=b0 :: sh)/\∀ ms:List (List Key),ms.Perm (kvs.map (·.1))->(ms.Pairwise fun a b=>fh b a=false)->R ms:=by
 refine⟨true,[false,true],fun p hp=>?_,fun ms pm pw=>?_⟩
 ·obtain⟨s,e,_⟩:=h.1 p hp
  rw[e];rfl
 ·obtain⟨l,rfl,hl⟩:=pZ (P:=P) (ks:=ms) fun k hk=>by
   obtain⟨p,hp,e⟩:=dr.mp (pm.mem_iff.mp hk)
   rw[<- e]
   exact h.1 p hp
  refine k l pm hl ?_ (by have:=pm.length_eq;simpa using this)
  have nd:(l.map fv).Nodup:=pm.nodup_iff.mpr h.2
  rw[qa] at pw
  have L8:l.Pairwise fun a b=>fv a≠fv b:=by
   rw[List.Nodup,qa] at nd
   exact nd
  refine(pw.and L8).imp fun {a b} ⟨h1,h2⟩=>?_
  unfold b6
  cases h3:fh (fv a) (fv b) with
  |true=>rfl
  |false=>exact absurd (jj (a:=fv a) (b:=fv b) rfl h3 h1) h2
theorem rQ(l:List bP):(l.map fv).map pd=l.map eW:=by rw[mM];rfl
theorem vJ{one states j copies:Int}(h0:0<=one)(h1:one<states)(hj:0<=j)(Iy:j<copies):0<=one+states*j/\one+states*j<copies*states:=by
 have a:=Int.mul_le_mul_of_nonneg_left (show j+1<=copies by lia) (show 0<=states by lia)
 rw[Int.mul_add,Int.mul_one,Int.mul_comm states copies] at a
 have b:=Int.mul_nonneg (show 0<=states by lia) hj
 lia
def dB:WS :=
 (mE (EB (wB (nM NX Lw (wC (.int 0)) (ai 1) (aw eT (ai 0) (wC (.int 0))))))
 (ud "NoState" (wC (.str "the machine has no such state")))
 dG)
def aL:iX:=fun ds Q=>∃ (many:Int) (l:List bP) (s:Int),ds=[mD many l,.int s]/\((0<=s/\s<many)->Q .sh .non)/\(¬ (0<=s/\s<many)->Q (.ow false) (.str "NoState"))
theorem iU (ds Q) (h:aL ds Q):ds.length=["m", "state"].length:=by obtain⟨_,_,_,rfl,_⟩:=h;rfl
theorem lQ:∀ ds Q,aL ds Q->dB { nx:=fun _=>Q .sh .non,rt:=Q } (aX 2 ds):=by
 rintro ds Q ⟨many,l,s,rfl,h1,h2⟩
 unfold dB mD
 walk_at "q"
 refine R.D (fun a=>?_) fun a=>?_
 ·walk_at "q"
  by_cases b:s<many
  ·refine R.F (by simp[b]) ?_
   walk_at "q"
   exact h1 ⟨a,b⟩
  ·refine R.T (by simp[b]) ?_
   walk_at "q"
   exact h2 fun z=>b z.2
 ·walk_at "q"
  exact h2 fun z=>a z.1
def gH:WS :=
 (cx (dE 1 (gw (cC (aw eT (ai 0) (wC (.int 0)))) (gN 0) vw (tF b5) 1 []))
 (cx (kK 0 (tJ (gm (aw eT (ai 0) (wC (.int 1)))) (gT 3 (di (gN 2) (di (gN 3) (di (gN 4) nG))))
 (kK 4 (kK 3 (EG (N7 (A9 1) (ai 2)) (nk (aj (ai 3) (aj (ai 4) b5))))))))
 (uE 1)))
def bZ:iX:=fun ds Q=>∃ (many:Int) (steps:List bP),ds=[mD many steps]/\(0<=many/\many<=1000)/\fi many steps/\steps.length<=1000/\Q (.ow true) (IA many steps)
theorem nF (ds Q) (h:bZ ds Q):ds.length=["m"].length:=by obtain⟨_,_,rfl,_⟩:=h;rfl
theorem rZ:∀ ds Q,bZ ds Q->gH { nx:=fun _=>Q .sh .non,rt:=Q } (aX 5 ds):=by
 rintro ds Q ⟨many,steps,rfl,hm,aT,hl,h⟩
 unfold gH mD
 walk_at "q"
 refine⟨by lia,by lia,?_⟩
 refine iM (fun _=>true) (fun _=>.list []) (fun ρ=>∃ o,ρ=[o]) _ _ _ ⟨_,rfl⟩ ?_ ?_
 ·rintro x hx ρ ⟨o,rfl⟩ N1 N2 n1 n2
  walk_at "q"
  exact⟨.inr rfl,n2 _ ⟨_,rfl⟩ rfl⟩
 rw[Dv]
 refine cI _ (fun i ρ=>∃ o2 o3 o4,ρ=[some (.sh (.tup [.int many,.list (steps.map eW)])),some (.ow true (.list (qE many (steps.take i)))),o2,o3,o4]) ⟨none,none,none,by simp⟩ ?_ ?_
 ·rintro i x ρ hx ⟨o2,o3,o4,rfl⟩ N hN
  obtain⟨p,d,r,rfl,hs,ht⟩:=En hx
  have ok:=aT _ hs
  walk_at "q"
  refine⟨p.toNat,.list ((ov (steps.take i) p).map ku),uv ok.1 (by rw[oA];have:=ok.2.1;lia),zJ _ ok.1 ok.2.1,rfl,?_⟩
  walk_at "q"
  refine⟨?_,?_⟩
  ·have:=uc (steps.take i) p
   have:(steps.take i).length<=steps.length:=by rw[nS];lia
   lia
  ·refine hN _ ⟨some (.sh (.int p)),some (.sh (.str d)),some (.sh (.int r)),?_⟩
   rw[Fb _ _ _ ok.1 ok.2.1,<- ht]
 ·rintro ρ ⟨o2,o3,o4,rfl⟩
  walk_at "q"
  rw[OZ]
  exact h
def lq:WS :=
 (mB (nk (aj (aw eT (ai 1) (ai 2)) (aj (kr dR (gw (nQ (aw eT (ai 0) (ai 2))) (gT 2 (di (gN 0) (di (gN 1) nG))) vw (nk (aj (ai 0) (aj (aw eT (ai 2) (ai 1)) b5))) 2 [1])) b5))))
def dh:iX:=fun ds Q=>∃ (many:Int) (steps:List bP) (bT:List Int) (s:Int),ds=[IA many steps,.list (bT.map .int),.int s]/\(0<=s/\s<many)/\bT.length=many.toNat/\fi many steps/\steps.length<=1000/\∀ k,CL steps bT s k->Q (.ow true) (fF k)
theorem sV (ds Q) (h:dh ds Q):ds.length=["exits", "ranks", "state"].length:=by obtain⟨_,_,_,_,rfl,_⟩:=h;rfl
theorem yD:∀ ds Q,dh ds Q->lq { nx:=fun _=>Q .sh .non,rt:=Q } (aX 3 ds):=by
 rintro ds Q ⟨many,steps,bT,s,rfl,hs,hr,aT,hl,h⟩
 unfold lq IA
 walk_at "q"
 refine⟨_,pR hr hs.1 hs.2,?_⟩
 walk_at "q"
 refine⟨_,Fz steps hs.1 hs.2,?_⟩
 walk_at "q"
 refine iM (fun _=>true) (fun d=>match d with
  |.tup [.str x,.int e]=>.tup [.str x,.int (rk bT e)]
  |d=>d) (fun ρ=>∃ o0 o1,ρ=[o0,o1,some (.sh (.list (bT.map .int)))]) _ _ _ ⟨_,_,rfl⟩ ?_ ?_
 ·rintro x hx ρ ⟨o0,o1,rfl⟩ N1 N2 n1 n2
  obtain⟨p,hp,rfl⟩:=dr.mp hx
  obtain⟨t,ht,e1,e2⟩:=wz hp
  obtain⟨x,e⟩:=p
  have ok:=aT t ht
  obtain⟨t1,t2,t3⟩:=t
  cases e2
  unfold ku
  walk_at "q"
  refine⟨_,pR hr ok.2.2.2.1 ok.2.2.2.2,?_⟩
  walk_at "q"
  exact⟨.inl rfl,n2 _ ⟨_,_,rfl⟩ rfl⟩
 have e1:((ov steps s).map ku |>.filter fun _=>true).map (fun d=>match d with
   |.tup [.str x,.int e]=>.tup [.str x,.int (rk bT e)]
   |d=>d)=((ov steps s).map fun p=>(p.1,rk bT p.2)).map ku:=by
  rw[List.filter_eq_self.mpr fun _ _=>rfl,mM,mM]
  rfl
 rw[e1]
 refine yG (ps:=(ov steps s).map fun p=>(p.1,rk bT p.2)) (m:=.ow true) (Q:=fun _ d=>Q (.ow true) (.tup [.int (rk bT s),d])) (by rw[dc];exact hG (uc steps s) hl) fun l up mem=>?_
 refine h (rk bT s,l) ⟨rfl,up,fun p=>(mem p).trans ⟨fun hp=>?_,fun hp=>?_⟩⟩
 ·obtain⟨q,hq,rfl⟩:=dr.mp hp
  obtain⟨t,ht,e1,rfl⟩:=wz hq
  exact⟨t,ht,e1,rfl⟩
 ·obtain⟨t,ht,rfl,rfl⟩:=hp
  exact dr.mpr ⟨t.2,z9 ht,rfl⟩
def cY:WS :=
 (cx (mE (wB (aw Lw (ai 1) (kr A7 (ai 0))))
 (mB (aw eT (ai 0) (ai 1)))
 dG)
 (mB (wC (.int 0))))
def aA:iX:=fun ds Q=>∃ (ns:List Int) (k:Int),ds=[.list (ns.map .int),.int k]/\0<=k/\Q .sh (.int (ns.getD k.toNat 0))
theorem iB (ds Q) (h:aA ds Q):ds.length=["_law_script", "_law_k"].length:=by obtain⟨_,_,rfl,_⟩:=h;rfl
theorem jL:∀ ds Q,aA ds Q->cY { nx:=fun _=>Q .sh .non,rt:=Q } (aX 2 ds):=by
 rintro ds Q ⟨ns,k,rfl,hk,h⟩
 unfold cY
 walk_at "q"
 refine R.D (fun hl=>?_) fun hl=>?_
 ·walk_at "q"
  have hn:k.toNat<ns.length:=by lia
  refine⟨.int ns[k.toNat],?_,?_⟩
  ·have:=FX (xs:=ns.map D.int) (j:=k.toNat) (v:=.int ns[k.toNat]) (by simp[hn])
   rwa[DS hk] at this
  ·show Q .sh _;simpa[List.getD,hn] using h
 ·walk_at "q"
  have:ns.getD k.toNat 0=0:=by
   have:ns.length<=k.toNat:=by lia
   simp[List.getD,sL this]
  rwa[this] at h
def dY:WS :=
 (cx (dE 3 (aw eT (tF (aj (wC (.int 1000003)) (aj (wC (.int 998244353)) (aj (wC (.int 104729)) (aj (wC (.int 2147483647)) (aj (wC (.int 15485863)) (aj (wC (.int 32452843)) b5))))))) (ai 1)))
 (mB (aw qA (aw A5 (aw qA (aw om (ai 0) (aw eT (tF (aj (wC (.int 48271)) (aj (wC (.int 69621)) (aj (wC (.int 16807)) (aj (wC (.int 40692)) (aj (wC (.int 39373)) (aj (wC (.int 22571)) b5))))))) (ai 1))) (ai 3)) (wC (.int 11))) (ai 2))))
def ao:iX:=fun ds Q=>∃ c w m:Int,ds=[.int c,.int w,.int m]/\(0<=w/\w<6)/\0<m/\∀ r,0<=r->r<m->r=dig c w m->Q .sh (.int r)
theorem jN (ds Q) (h:ao ds Q):ds.length=["_law_cell", "_law_way", "_law_many"].length:=by obtain⟨_,_,_,rfl,_⟩:=h;rfl
theorem oO:∀ ds Q,ao ds Q->dY { nx:=fun _=>Q .sh .non,rt:=Q } (aX 4 ds):=by
 rintro ds Q ⟨c,w,m,rfl,hw,hm,h⟩
 unfold dY
 walk_at "q"
 obtain⟨p,hp,ep,xp⟩:=qX (l:=[1000003,998244353,104729,2147483647,15485863,32452843]) hw.1 hw.2
 obtain⟨q,hq,eq,xq⟩:=qX (l:=[48271,69621,16807,40692,39373,22571]) hw.1 hw.2
 have iF:=(by decide:∀ p∈([1000003,998244353,104729,2147483647,15485863,32452843]:List Int),0<p) p hp
 have VZ:=(by decide:∀ p∈([48271,69621,16807,40692,39373,22571]:List Int),0<p/\p<100000) q hq
 refine⟨.int p,ep,?_⟩
 walk_at "q"
 refine⟨.int q,eq,?_⟩
 walk_at "q"
 have:=tM (c*q % p / 11) hm
 exact⟨bu (by lia) (by lia),iF,hm,h _ this.1 this.2 (by unfold dig;rw[xp,xq])⟩
def cW:WS :=
 (cx (dE 2 (gw (cC (kr A7 (ai 1))) (gN 0) vw (aV dh (aj (ai 1) (aj (ai 2) (aj (ai 0) b5)))) 1 [0,1]))
 (cx (dE 3 (tF b5))
 (cx (kK 2 (tJ (gm (kr vC (ai 2))) (gN 4)
 (mE (wB (aw (Oh true) (ai 4) (ai 3)))
 (kK 4 (EG (A9 3) (ai 4)))
 dG)))
 (mB (gw (nQ (ai 2)) (gN 0) vw (qT (ai 1) (ai 0)) 1 [3])))))
def aN:iX:=fun ds Q=>∃ (many:Int) (steps:List bP) (bT:List Int),ds=[IA many steps,.list (bT.map .int)]/\(0<=many/\many<=1000)/\bT.length=many.toNat/\fi many steps/\steps.length<=1000/\∀ r,RB many steps bT r->Q (.ow true) (.list (r.map .int))
theorem iD (ds Q) (h:aN ds Q):ds.length=["exits", "ranks"].length:=by obtain⟨_,_,_,rfl,_⟩:=h;rfl
theorem jT:∀ ds Q,aN ds Q->cW { nx:=fun _=>Q .sh .non,rt:=Q } (aX 5 ds):=by
 rintro ds Q ⟨many,steps,bT,rfl,hm,hr,aT,hl,h⟩
 unfold cW IA
 walk_at "q"
 refine⟨by lia,by lia,?_⟩
 refine bQ (fun n out=>∃ l:List Ky,out=l.map fF/\l.length=n/\∀ (i:Nat) k,l[i]? = some k->CL steps bT i k) (fun ρ=>∃ o,ρ=[o,some (.sh (.list (qE many steps))),some (.sh (.list (bT.map .int)))]) _ 0 [] _ _ ⟨_,rfl⟩ ⟨[],rfl,rfl,fun i k hk=>by simp at hk⟩ ?_ ?_
 ·rintro j y hy ρ ⟨o,rfl⟩ out ⟨l,rfl,RJ,hk⟩ N1 N2 oa
  have hj:=(bN hy).1
  obtain⟨_,rfl⟩:=bN hy
  walk_at "q"
  refine⟨many,steps,bT,0+(j:Nat),rfl,by lia,hr,aT,hl,fun k y6=>?_⟩
  walk_at "q"
  refine⟨.inr rfl,oa _ _ ⟨_,rfl⟩ ⟨l++[k],by simp,by simp[RJ],fun i k' iE=>?_⟩⟩
  rcases Fu i l.length with hi|hi
  ·rw[Dx hi] at iE
   exact hk i k' iE
  ·rw[xC hi] at iE
   have tf:i-l.length=0:=by
    rcases Nat.eq_zero_or_pos (i-l.length) with z|z
    ·exact z
    ·rw[sL (by simp;lia)] at iE;cases iE
   rw[tf] at iE
   cases iE
   have:((i:Nat):Int)=0+(j:Nat):=by lia
   rw[this]
   exact y6
 rintro out ⟨l,e,RJ,hk⟩
 simp only[zI] at e
 subst e
 rw[bH,rp] at RJ
 have E3:∀ k∈l,qB k:=fun k pE=>by
  obtain⟨i,hi⟩:=IJ.mp pE
  exact(hk i k hi).ok aT
 refine⟨fun d hd=>?_,fun ms pm pw=>?_⟩
 ·obtain⟨k,pE,rfl⟩:=dr.mp hd
  exact⟨xn (E3 k pE) 9,(E3 k pE).sD⟩
 obtain⟨l2,rfl,ve⟩:=RD (f:=fF) (P:=fun k=>k∈l) (ks:=ms) fun d hd=>by
  obtain⟨k,pE,e⟩:=dr.mp (pm.mem_iff.mp hd)
  exact⟨k,e.symm,pE⟩
 have back:∀ k∈l,k∈l2:=fun k pE=>by
  obtain⟨j,hj,e⟩:=dr.mp (pm.mem_iff.mpr (dr.mpr ⟨k,pE,rfl⟩))
  rw[<- vo e];exact hj
 have fA':l2.length=l.length:=by have:=pm.length_eq;simpa using this
 rw[qa] at pw
 have pw:l2.Pairwise fun a b=>pj b a=false:=pw
 refine cI _ (fun i ρ=>∃ (diff:List Ky) (fl:Bool) (o4:Option Sl),diff.Pairwise (fun a b=>pj a b=true)/\(∀ k,k∈diff↔k∈l2.take i)/\diff.length<=i/\ρ=[some (.sh (.list (qE many steps))),some (.sh (.list (bT.map .int))),some (.sh (.list (l.map fF))),some (.ow fl (.list (diff.map fF))),o4]) ⟨[],true,none,.nil,by simp,by simp,rfl⟩ ?_ ?_
 ·rintro i x ρ hx ⟨diff,fl,o4,up,mem,dl,rfl⟩ N hN
  obtain⟨hi,hx'⟩:=hX.mp hx
  have iA:i<l2.length:=by simpa using hi
  have hxe:x=fF l2[i]:=by rw[<- hx'];simp
  subst hxe
  have pE:l2[i]∈l:=ve _ (DC iA)
  have tk:l2.take (i+1)=l2.take i++[l2[i]]:=by rw[E8,kN iA];rfl
  have Oq:∀ k∈diff,qB k:=fun k L9=>E3 k (ve k (Mu ((mem k).mp L9)))
  generalize ek:l2[i]=k at *
  walk_at "q"
  refine⟨xn (E3 k pE) 9,zc Oq 8,?_⟩
  rw[Eb]
  by_cases hd:k∈diff
  ·refine R.F (by simp[hd]) ?_
   walk_at "q"
   refine hN _ ⟨diff,fl,_,up,fun k'=>?_,by lia,rfl⟩
   rw[mem,tk,dP,pV]
   exact⟨.inl,fun z=>z.elim id fun e=>by rw[e];exact(mem k).mp hd⟩
  ·refine R.T (by simp[hd]) ?_
   walk_at "q"
   refine⟨by lia,?_⟩
   refine hN _ ⟨diff++[k],fl && (fF k).flat,some (.sh (fF k)),?_,fun k'=>?_,by simp;lia,by simp⟩
   ·refine IL.mpr ⟨up,by simp,fun a ha b hb=>?_⟩
    rw[pV.mp hb]
    cases h3:pj a k with
    |true=>rfl
    |false =>
     have h4:pj k a=false:=by
      obtain⟨j,hj⟩:=IJ.mp ((mem a).mp ha)
      obtain⟨w_,Iy⟩:=hX.mp hj
      have Rc:j<i:=by rw[nS] at w_;lia
      have:=xD.mp pw j i (by lia) iA Rc
      rw[ek] at this
      rw[List.getElem_take] at Iy
      rwa[Iy] at this
     exact absurd (Av (Oq a ha) (E3 k pE) h3 h4) fun e=>hd (by rw[<- e];exact ha)
   ·rw[dP,pV,mem,tk,dP,pV]
 ·rintro ρ ⟨diff,fl,o4,up,mem,dl,rfl⟩
  rw[dc,OZ] at mem
  have md:∀ k,k∈diff↔k∈l:=fun k=>(mem k).trans ⟨ve k,back k⟩
  have Oq:∀ k∈diff,qB k:=fun k L9=>E3 k ((md k).mp L9)
  walk_at "q"
  refine bQ (fun n out=>∃ r:List Int,out=r.map .int/\r.length=n/\∀ (i:Nat) x,r[i]? = some x->0<=x/\diff[x.toNat]? = l[i]?) (fun ρ=>∃ o,ρ=[o,some (.sh (.list (diff.map fF)))]) _ 0 [] _ _ ⟨_,rfl⟩ ⟨[],rfl,rfl,fun i k hk=>by simp at hk⟩ ?_ ?_
  ·rintro j y hy ρ ⟨o,rfl⟩ out ⟨r,rfl,RK,D7⟩ N1 N2 oa
   obtain⟨hj,hy'⟩:=hX.mp hy
   have qq:j<l.length:=by simpa using hj
   have hye:y=fF l[j]:=by rw[<- hy'];simp
   subst hye
   have pE:l[j]∈l:=DC qq
   have hlj:l[j]? = some l[j]:=kN qq
   generalize l[j]=k at *
   have L9:=(md k).mpr pE
   have vj:=List.idxOf_lt_length_of_mem L9
   walk_at "q"
   refine⟨zc Oq 8,xn (E3 k pE) 9,diff.idxOf k,⟨fF k,?_,by rw[rK];exact decide_eq_true rfl⟩,fun i z hi hz=>?_,.inl rfl,oa _ _ ⟨_,rfl⟩ ⟨r++[((diff.idxOf k:Nat):Int)],by simp,by simp[RK],fun i x hx=>?_⟩⟩
   ·rw[nL,kN vj,List.getElem_idxOf vj];rfl
   ·rw[nL,kN (by lia)] at hz
    cases hz
    rw[rK]
    refine decide_eq_false fun e=>?_
    have:=List.not_of_lt_findIdx (p:=(· == k)) (xs:=diff) hi
    rw[show diff[i]=k from e] at this
    simp at this
   ·rcases Fu i r.length with hi|hi
    ·rw[Dx hi] at hx
     exact D7 i x hx
    ·rw[xC hi] at hx
     have tf:i-r.length=0:=by
      rcases Nat.eq_zero_or_pos (i-r.length) with z|z
      ·exact z
      ·rw[sL (by simp;lia)] at hx;cases hx
     rw[tf] at hx
     cases hx
     have:i=j:=by lia
     subst this
     refine⟨by lia,?_⟩
     rw[hlj,FE,kN vj,List.getElem_idxOf vj]
  rintro out ⟨r,e,RK,D7⟩
  simp only[zI] at e
  subst e
  rw[dc,rp] at RK
  refine h r ⟨fun s=>l.getD s.toNat (0,[]),diff,by lia,fun s a b=>?_,up,fun k=>?_,fun s a b=>?_⟩
  ·have hs:s.toNat<l.length:=by lia
   have:=hk s.toNat l[s.toNat] (kN hs)
   rw[DS a] at this
   simpa[List.getD,hs] using this
  ·rw[md]
   constructor
   ·intro pE
    obtain⟨i,hi,rfl⟩:=List.mem_iff_getElem.mp pE
    exact⟨(i:Nat),by lia,by simp[List.getD,hi]⟩
   ·rintro⟨s,hs,rfl⟩
    have hs:s.toNat<l.length:=by lia
    simp[List.getD,hs]
  ·have hs:s.toNat<r.length:=by lia
   have gu:s.toNat<l.length:=by lia
   have:=D7 s.toNat r[s.toNat] (kN hs)
   simpa[rk,List.getD,hs,gu] using this
def dI:WS :=
 (cx (tJ (cC (wC (.int 6))) (gN 7)
 (cx (dE 8 (iV (wC (.str "")) (gw (cC (ai 2)) (gN 0) vw (aw eT (ai 4) (aw qA (aw eM (aw eT (ai 2) (ai 0)) (aw om (ai 3) (kr Oi (aw kH (ai 0) (ai 1))))) (wC (.int 26)))) 1 [3,4,7,1])))
 (cx (mE (wB (aw kH (ai 5) (wC (.int 1))))
 (dE 8 (iV (wC (.str "")) (gw (cC (aw eM (ai 7) (wC (.int 1)))) (gN 0) vw (aw eT (ai 2) (aw eT (ai 1) (ai 0))) 1 [4,1])))
 dG)
 (cx (mE (wB (aw kH (ai 5) (wC (.int 2))))
 (cx (dE 9 (gw (cC (aV ao (aj (aw eM (ai 0) (ai 7)) (aj (wC (.int 4)) (aj (wC (.int 6)) b5))))) (gN 0) vw (aw eT (ai 2) (aw eT (ai 1) (ai 0))) 1 [4,1]))
 (dE 8 (aw eM (aw eT (ai 1) (aw qA (aw eM (aw eT (ai 4) (wC (.int 0))) (aw om (wC (.int 11)) (ai 7))) (wC (.int 26)))) (iV (wC (.str "")) (ai 9)))))
 dG)
 (cx (mE (wB (aw kH (ai 5) (wC (.int 3))))
 (dE 8 (iV (wC (.str "")) (gw (cC (wC (.int 6))) (gN 0) vw (aw eT (ai 3) (aw qA (aw eM (aw eT (ai 1) (wC (.int 0))) (aw qA (aw eM (ai 0) (ai 2)) (wC (.int 6)))) (wC (.int 26)))) 1 [4,7,1])))
 dG)
 (kK 8 (EG (A9 6) (ai 8))))))))
 (cx (dE 10 (aV ao (aj (ai 0) (aj (wC (.int 4)) (aj (wC (.int 2)) b5)))))
 (mB (QY (aw eM (tF (aj (wC (.str "*")) b5)) (ai 6)) (tY (ai 10)) (tY (aw eM (aw eM (ai 10) (wC (.int 1))) (aV ao (aj (ai 0) (aj (wC (.int 5)) (aj (wC (.int 7)) b5))))))))))
def fJ:WS :=
 (cx (dE 1 (wC (.str "abcdefghijklmnopqrstuvwxyz")))
 (cx (dE 2 (aw eM (wC (.int 1)) (aV ao (aj (ai 0) (aj (wC (.int 0)) (aj (wC (.int 6)) b5))))))
 (cx (dE 3 (aV ao (aj (ai 0) (aj (wC (.int 1)) (aj (ai 2) b5)))))
 (cx (dE 4 (gw (cC (wC (.int 6))) (gN 0) vw (aV ao (aj (aw eM (aw om (ai 1) (aw eM (ai 0) (wC (.int 1)))) (ai 0)) (aj (wC (.int 2)) (aj (wC (.int 26)) b5)))) 1 [0]))
 (cx (dE 5 (aV ao (aj (ai 0) (aj (wC (.int 3)) (aj (wC (.int 4)) b5)))))
 (cx (dE 6 (tF b5))
 dI))))))
def bM:iX:=fun ds Q=>∃ c:Int,ds=[.int c]/\∀ names:List Str,1<=names.length->names.length<=7->(∀ n∈names,L7 n)->Q (.ow true) (.list (names.map .str))
theorem mq (ds Q) (h:bM ds Q):ds.length=["_law_cell"].length:=by obtain⟨_,rfl,_⟩:=h;rfl
theorem lX(Q:Md->D->Prop)(c size at' kind:Int)(base:List Int)(hs:1<=size/\size<=6)(hk:0<=kind/\kind<4)(hb:base.length=6)(yT:∀ b∈base,0<=b/\b<26)
  (h:∀ names:List Str,1<=names.length->names.length<=7->(∀ n∈names,L7 n)->Q (.ow true) (.list (names.map .str))) :
  dI { nx:=fun _=>Q .sh .non,rt:=Q } [some (.sh (.int c)),some (.sh (.str abc)),some (.sh (.int size)),some (.sh (.int at')),some (.ow true (.list (base.map .int))),some (.sh (.int kind)),some (.ow true (.list [])),none,none,none,none]:=by
 unfold dI
 walk_at "q"
 refine cI _ (fun i ρ=>∃ (words:List Str) (o7 o8 o9:Option Sl),words.length=i/\(∀ n∈words,Open n)/\ρ=[some (.sh (.int c)),some (.sh (.str abc)),some (.sh (.int size)),some (.sh (.int at')),some (.ow true (.list (base.map .int))),some (.sh (.int kind)),some (.ow true (.list (words.map .str))),o7,o8,o9,none]) ⟨[],_,_,_,rfl,(fun n hn=>nomatch hn),rfl⟩ ?_ ?_
 ·rintro i x ρ hx ⟨words,o7,o8,o9,hl,ho,rfl⟩ N hN
  obtain⟨hi,rfl⟩:=bN hx
  have hi:i<6:=hi
  have push:∀ (w:Str) (Wm:Option Sl),Open w->N [some (.sh (.int c)),some (.sh (.str abc)),some (.sh (.int size)),some (.sh (.int at')),some (.ow true (.list (base.map .int))),some (.sh (.int kind)),some (.ow true (.list (words.map .str++[.str w]))),some (.sh (.int (0+(i:Nat)))),some (.sh (.str w)),Wm,none]:=fun w Wm hw=>by
   rw[xQ]
   refine hN _ ⟨words++[w],_,_,_,by simp[hl],fun n hn=>?_,rfl⟩
   rcases dP.mp hn with hn|hn
   ·exact ho n hn
   ·rw[pV.mp hn];exact hw
  walk_at "q"
  refine⟨by lia,by lia,?_⟩
  refine bQ (fun n out=>rg n out) (fun ρ=>∃ o,ρ=[o,some (.sh (.int at')),some (.sh (.list (base.map .int))),some (.sh (.int (0+(i:Nat)))),some (.sh (.str abc))]) _ 0 [] _ _ ⟨_,rfl⟩ rg.nil ?_ ?_
  ·rintro j y hy ρ ⟨o,rfl⟩ out ho N1 N2 oa
   obtain⟨hj,rfl⟩:=bN hy
   walk_at "q"
   obtain⟨b,_,eb⟩:=jh (l:=base) (i:=0+(j:Nat)) (by lia) (by lia)
   refine⟨.int b,eb,?_⟩
   walk_at "q"
   refine⟨gM (by lia) (by lia),?_⟩
   obtain⟨ch,ec,lc⟩:=pK (b+(0+(i:Nat))*(if decide (0+(j:Int)=at')=true then 1 else 0))
   refine⟨ch,ec,.inl rfl,oa _ _ ⟨_,rfl⟩ ?_⟩
   rw[rp] at ho ⊢
   exact ho.push lc
  intro out kF
  rw[bH] at kF
  simp only[rp,zI] at kF
  obtain⟨zs,ez,zl,wl0,we0⟩:=kF.join (by lia)
  refine⟨zs,ez,zl,?_⟩
  generalize Str.join _ zs=w0 at *
  have hw0:Open w0:=⟨by lia,by lia,we0⟩
  clear ez zl
  rcases (show kind=0\/kind=1\/kind=2\/kind=3 by lia) with rfl|rfl|rfl|rfl
  ·refine R.F (by decide) ?_
   walk_at "q"
   refine R.F (by decide) ?_
   walk_at "q"
   refine R.F (by decide) ?_
   walk_at "q"
   exact⟨by lia,push w0 _ hw0⟩
  ·refine R.T (by decide) ?_
   walk_at "q"
   refine⟨by lia,by lia,?_⟩
   refine bQ (fun n out=>rg n out) (fun ρ=>∃ o,ρ=[o,some (.sh (.list (base.map .int))),some (.sh (.str abc))]) _ 0 [] _ _ ⟨_,rfl⟩ rg.nil ?_ ?_
   ·rintro j y hy ρ ⟨o,rfl⟩ out ho N1 N2 oa
    obtain⟨hj,rfl⟩:=bN hy
    walk_at "q"
    obtain⟨b,mb,eb⟩:=jh (l:=base) (i:=0+(j:Nat)) (by lia) (by lia)
    refine⟨.int b,eb,?_⟩
    walk_at "q"
    obtain⟨ch,ec,lc⟩:=vR (yT b mb).1 (yT b mb).2
    refine⟨ch,ec,.inl rfl,oa _ _ ⟨_,rfl⟩ ?_⟩
    rw[rp] at ho ⊢
    exact ho.push lc
   intro out kF
   rw[bH] at kF
   simp only[rp,zI] at kF
   obtain⟨zs,ez,zl,Ot,L_⟩:=kF.join (by lia)
   refine⟨zs,ez,zl,?_⟩
   generalize Str.join _ zs=w1 at *
   refine R.F (by decide) ?_
   walk_at "q"
   refine R.F (by decide) ?_
   walk_at "q"
   exact⟨by lia,push w1 _ ⟨by lia,by lia,L_⟩⟩
  ·refine R.F (by decide) ?_
   walk_at "q"
   refine⟨_,4,6,rfl,by decide,by decide,fun r r0 r1 _=>?_⟩
   walk_at "q"
   refine⟨by lia,by lia,?_⟩
   refine bQ (fun n out=>rg n out) (fun ρ=>∃ o,ρ=[o,some (.sh (.list (base.map .int))),some (.sh (.str abc))]) _ 0 [] _ _ ⟨_,rfl⟩ rg.nil ?_ ?_
   ·rintro j y hy ρ ⟨o,rfl⟩ out ho N1 N2 oa
    obtain⟨hj,rfl⟩:=bN hy
    walk_at "q"
    obtain⟨b,mb,eb⟩:=jh (l:=base) (i:=0+(j:Nat)) (by lia) (by lia)
    refine⟨.int b,eb,?_⟩
    walk_at "q"
    obtain⟨ch,ec,lc⟩:=vR (yT b mb).1 (yT b mb).2
    refine⟨ch,ec,.inl rfl,oa _ _ ⟨_,rfl⟩ ?_⟩
    rw[rp] at ho ⊢
    exact ho.push lc
   intro out kF
   rw[bH] at kF
   simp only[rp,zI] at kF
   obtain⟨b0,mb0,eb0⟩:=jh (l:=base) (i:=0) (by lia) (by lia)
   refine⟨.int b0,eb0,?_⟩
   walk_at "q"
   obtain⟨ch,ec,lc⟩:=pK (b0+11*(0+(i:Nat)))
   refine⟨gM (by lia) (by lia),ch,ec,?_⟩
   obtain⟨zs,ez,zl,Ot,L_⟩:=kF.join (by lia)
   refine⟨zs,ez,zl,?_⟩
   generalize Str.join _ zs=w1 at *
   refine⟨by rw[gQ];lia,?_⟩
   refine R.F (by decide) ?_
   walk_at "q"
   exact⟨by lia,push _ _ ⟨by rw[cM,gQ];lia,by rw[cM,gQ];lia,wY (yc lc) L_⟩⟩
  ·refine R.F (by decide) ?_
   walk_at "q"
   refine R.F (by decide) ?_
   walk_at "q"
   refine bQ (fun n out=>rg n out) (fun ρ=>∃ o,ρ=[o,some (.sh (.list (base.map .int))),some (.sh (.int (0+(i:Nat)))),some (.sh (.str abc))]) _ 0 [] _ _ ⟨_,rfl⟩ rg.nil ?_ ?_
   ·rintro j y hy ρ ⟨o,rfl⟩ out ho N1 N2 oa
    obtain⟨hj,rfl⟩:=bN hy
    walk_at "q"
    obtain⟨b,mb,eb⟩:=jh (l:=base) (i:=0) (by lia) (by lia)
    refine⟨.int b,eb,?_⟩
    walk_at "q"
    obtain⟨ch,ec,lc⟩:=pK (b+(0+(j:Int)+(0+(i:Nat))) % 6)
    refine⟨ch,ec,.inl rfl,oa _ _ ⟨_,rfl⟩ ?_⟩
    rw[rp] at ho ⊢
    exact ho.push lc
   intro out kF
   rw[bH] at kF
   simp only[rp,zI] at kF
   obtain⟨zs,ez,zl,Ot,L_⟩:=kF.join (by decide)
   refine⟨zs,ez,zl,?_⟩
   generalize Str.join _ zs=w1 at *
   exact⟨by lia,push w1 _ ⟨by rw[Ot];decide,by rw[Ot];decide,L_⟩⟩
 ·rintro ρ ⟨words,o7,o8,o9,hl,ho,rfl⟩
  rw[bH] at hl
  walk_at "q"
  refine⟨c,4,2,rfl,by decide,by decide,fun f f0 f1 _=>?_⟩
  walk_at "q"
  refine⟨by lia,.inl ⟨jA words,?_⟩⟩
  refine⟨c,5,7,rfl,by decide,by decide,fun r r0 r1 _=>?_⟩
  walk_at "q"
  refine .inl ⟨jA words,?_⟩
  have e:(D.str "*" :: words.map D.str)=(("*" : Str) :: words).map D.str:=rfl
  rw[e,wF]
  have hc:=CN (l:=("*" : Str) :: words) (a:=f) (b:=f+1+r) f0 (by lia) (by simp;lia)
  refine h _ hc.1 (hG hc.2.1 (by simp;lia)) fun n hn=>?_
  rcases cK.mp (hc.2.2 n hn) with rfl|hn
  ·exact .inl rfl
  ·exact .inr (ho n hn)
theorem oW:∀ ds Q,bM ds Q->fJ { nx:=fun _=>Q .sh .non,rt:=Q } (aX 11 ds):=by
 rintro ds Q ⟨c,rfl,h⟩
 unfold fJ
 walk_at "q"
 refine⟨c,0,6,rfl,by decide,by decide,fun s s0 s1 _=>?_⟩
 walk_at "q"
 refine⟨c,1,1+s,rfl,by decide,by lia,fun at' a0 a1 _=>?_⟩
 walk_at "q"
 refine bQ (fun n out=>∃ bs:List Int,out=bs.map .int/\bs.length=n/\∀ b∈bs,0<=b/\b<26) (fun ρ=>∃ o,ρ=[o,some (.sh (.int c))]) _ 0 [] _ _ ⟨_,rfl⟩ ⟨[],rfl,rfl,fun b hb=>nomatch hb⟩ ?_ ?_
 ·rintro j y hy ρ ⟨o,rfl⟩ out ⟨bs,rfl,hl,yT⟩ N1 N2 oa
  have hj:=(bN hy).1
  obtain⟨hj,rfl⟩:=bN hy
  walk_at "q"
  refine⟨bu (by lia) (by lia),_,2,26,rfl,by decide,by decide,fun r r0 r1 _=>?_⟩
  walk_at "q"
  refine⟨.inl rfl,oa _ _ ⟨_,rfl⟩ ⟨bs++[r],by simp,by simp[hl],fun b hb=>?_⟩⟩
  rcases dP.mp hb with hb|hb
  ·exact yT b hb
  ·rw[pV.mp hb];exact⟨r0,r1⟩
 rintro out ⟨base,e,hb,yT⟩
 simp only[zI] at e
 subst e
 rw[bH] at hb
 refine⟨c,3,4,rfl,by decide,by decide,fun kind k0 k1 _=>?_⟩
 walk_at "q"
 exact lX Q c _ at' kind base (by lia) ⟨k0,k1⟩ (by simpa using hb) yT h
def fK:WS :=
 (cx (dE 4 (aV aA (aj (ai 0) (aj (aw eM (wC (.int 3)) (aw qA (aw eM (aw om (wC (.int 7)) (ai 1)) (aw om (wC (.int 11)) (ai 2))) (wC (.int 60)))) b5))))
 (mB (aV ao (aj (aw eM (aw eM (ai 4) (aw om (aV aA (aj (ai 0) (aj (wC (.int 2)) b5))) (aw eM (ai 1) (wC (.int 2))))) (aw om (aw eM (ai 1) (wC (.int 1))) (aw eM (aw eM (ai 1) (wC (.int 5))) (ai 2)))) (aj (ai 2) (aj (ai 3) b5))))))
def aH:iX:=fun ds Q=>∃ (ns:List Int) (k w m:Int),ds=[.list (ns.map .int),.int k,.int w,.int m]/\(0<=k/\k<=1000)/\(0<=w/\w<6)/\0<m/\∀ r,0<=r->r<m->Q .sh (.int r)
theorem lM (ds Q) (h:aH ds Q):ds.length=["_law_script", "_law_k", "_law_way", "_law_many"].length:=by obtain⟨_,_,_,_,rfl,_⟩:=h;rfl
theorem pM:∀ ds Q,aH ds Q->fK { nx:=fun _=>Q .sh .non,rt:=Q } (aX 5 ds):=by
 rintro ds Q ⟨ns,k,w,m,rfl,hk,hw,hm,h⟩
 unfold fK
 walk_at "q"
 have a:=tM (7*k+11*w) (show(0:Int)<60 by decide)
 refine⟨bu (by lia) (by lia),bu (by lia) (by lia),ns,_,rfl,by lia,?_⟩
 generalize ns.getD _ 0=c1
 walk_at "q"
 refine⟨ns,2,rfl,by decide,?_⟩
 generalize ns.getD _ 0=c2
 walk_at "q"
 refine⟨bu (by lia) (by lia),bu (by lia) (by lia),_,w,m,rfl,hw,hm,fun r r0 r1 _=>?_⟩
 walk_at "q"
 exact h r r0 r1
def fG:WS :=
 (cx (dE 1 (aV bZ (aj (ai 0) b5)))
 (cx (dE 2 (tF (aj (aw yh (tF (aj (wC (.int 0)) b5)) (aw eT (ai 0) (wC (.int 0)))) b5)))
 (cx (dE 3 (aV aN (aj (ai 1) (aj (aw eT (ai 2) (wC (.int 0))) b5))))
 (cx (zg (wB (aw A6 (ai 3) (aw eT (ai 2) (kr CB (wC (.int 1))))))
 (vz 2 3 (aV aN (aj (ai 1) (aj (ai 3) b5)))))
 (uE 2)))))
def Wn(rs:List (List Int)):D:=.list (rs.map zt)
def bL:iX:=fun ds Q=>∃ (many:Int) (steps:List bP),ds=[mD many steps]/\(1<=many/\many<=100)/\fi many steps/\steps.length<=1000/\∀ rest,Chain many steps (zeros many) rest->rest.length<=10000->Q (.ow true) (Wn (zeros many :: rest))
theorem lu (ds Q) (h:bL ds Q):ds.length=["m"].length:=by obtain⟨_,_,rfl,_⟩:=h;rfl
theorem wg(cur:List Int)(pre:List (List Int)):eu ((cur :: pre).map zt) (-1)=some (zt (gA cur pre)):=by
 have e:(cur :: pre).map zt=((cur :: pre).dropLast.map zt)++[zt (gA cur pre)]:=by
  conv=>lhs;rw[<- List.dropLast_concat_getLast (show cur :: pre≠[] by simp)]
  rw[DF]
  rfl
 rw[e]
 exact YN _ _
theorem sE(cur kz:List Int)(pre:List (List Int)):gA cur (pre++[kz])=kz:=by
 unfold gA
 rw[List.getLast_cons (by simp),List.getLast_concat]
theorem pF:∀ ds Q,bL ds Q->fG { nx:=fun _=>Q .sh .non,rt:=Q } (aX 4 ds):=by
 rintro ds Q ⟨many,steps,rfl,hm,aT,hl,h⟩
 unfold fG
 have hmm:many*many<=10000:=by
  have:=Int.mul_le_mul hm.2 hm.2 (by lia) (by lia)
  lia
 have e0:aX 4 [mD many steps]=[some (.sh (mD many steps)),none,none,none]:=rfl
 rw[e0]
 walk_at "q"
 refine⟨many,steps,rfl,by lia,aT,hl,?_⟩
 unfold IA
 walk_at "q"
 unfold mD
 walk_at "q"
 refine⟨by lia,?_⟩
 rw[uM]
 refine⟨many,steps,zeros many,rfl,by lia,by simp[zeros],aT,hl,fun r hr=>?_⟩
 walk_at "q"
 refine⟨fun ρ=>∃ (pre:List (List Int)) (cur kz:List Int),rF many cur/\RB many steps cur kz/\(∀ rest,Chain many steps cur rest->Chain many steps (zeros many) (pre++rest))/\gA (zeros many) pre=cur/\(pre.length:Int)<=cur.sum/\cur.sum<=many*many /\
   ρ=[some (.sh (.tup [.int many,.list (steps.map eW)])),some (.ow true (.list (qE many steps))),some (.ow true (.list ((zeros many :: pre).map zt))),some (.ow true (.list (kz.map .int)))],
  fun ρ=>match ρ with
   |[_,_,some (.ow _ (.list rs)),_]=>20000-rs.length
   |_=>0,⟨[],zeros many,r,pI hm.1,hr,fun rest hc=>hc,rfl,?_,?_,rfl⟩,?_⟩
 ·simp[zeros]
 ·have:0<=many*many:=Int.mul_nonneg (by lia) (by lia)
  simp[zeros];lia
 rintro ρ ⟨pre,cur,kz,hd,hb,hc,hla,hp,hs,rfl⟩
 walk_at "q"
 refine⟨_,wg _ _,?_⟩
 rw[hla]
 unfold zt
 walk_at "q"
 refine⟨vV _ _,vV _ _,?_⟩
 rw[Hf]
 by_cases e:kz=cur
 ·rw[if_neg (by simp[e])]
  rw[e] at hb
  have:=hc [] hb
  rw[nV] at this
  exact h pre this (by lia)
 ·rw[if_pos (by simp[e])]
  have cY':=hb.sum aT hd (by lia) e
  refine⟨nU _,by lia,?_⟩
  refine⟨many,steps,kz,rfl,by lia,(hb.xG aT).1,aT,hl,fun r2 Qz=>?_⟩
  walk_at "q"
  refine⟨⟨pre++[kz],kz,r2,hb.xG aT,Qz,fun rest ub=>?_,sE _ _ _,by simp;lia,cY'.2,by simp[zt]⟩,?_⟩
  ·have:=hc (kz :: rest) ⟨hb,e,ub⟩
   simpa using this
  ·simp
   lia
def bD:WS :=
 (cx (dE 7 (aV bM (aj (aV aA (aj (ai 0) (aj (wC (.int 1)) b5))) b5)))
 (cx (dE 8 vg)
 (cx (tJ (cC (aw BJ (ai 6) (aw A5 (ai 1) (aw om (ai 3) (ai 3))))) (gN 9)
 (cx (dE 10 (aV aH (aj (ai 0) (aj (ai 9) (aj (wC (.int 0)) (aj (ai 4) b5))))))
 (cx (dE 11 (aV aH (aj (ai 0) (aj (ai 9) (aj (wC (.int 1)) (aj (ai 4) b5))))))
 (cx (dE 12 (aw eT (ai 7) (aV aH (aj (ai 0) (aj (ai 9) (aj (wC (.int 2)) (aj (kr A7 (ai 7)) b5)))))))
 (cx (dE 13 (aV aH (aj (ai 0) (aj (ai 9) (aj (wC (.int 3)) (aj (wC (.int 3)) b5))))))
 (tJ (cC (ai 3)) (gN 14)
 (tJ (cC (ai 3)) (gN 15)
 (mE (Ls (wB (aw kH (ai 13) (wC (.int 2)))) (wB (aw kH (ai 15) (aw qA (aw eM (ai 13) (ai 14)) (ai 3)))))
 (tZ (A9 8) (nk (aj (aw eM (ai 10) (aw om (ai 4) (ai 14))) (aj (ai 12) (aj (aw eM (ai 11) (aw om (ai 4) (ai 15))) b5)))) (wC (.bl true)))
 dG))))))))
 (cx (tJ (cC (aw Lv (aw om (ai 3) (ai 4)) (wC (.int 1)))) (gN 9)
 (mE (QQ (wB (aw kH (aV ao (aj (ai 2) (aj (wC (.int 4)) (aj (wC (.int 3)) b5)))) (wC (.int 1)))) (wB (aw QV (aw qA (aw eM (ai 9) (wC (.int 1))) (ai 4)) (wC (.int 0)))))
 (tZ (A9 8) (nk (aj (ai 9) (aj (aw eT (ai 7) (wC (.int 0))) (aj (aw eM (ai 9) (wC (.int 1))) b5)))) (wC (.bl true)))
 dG))
 (mB (nk (aj (aw om (ai 3) (ai 4)) (aj (kr pW (ai 8)) b5))))))))
def bF:WS :=
 (cx (dE 6 (aV ao (aj (ai 2) (aj (wC (.int 3)) (aj (aw om (wC (.int 3)) (ai 4)) b5)))))
 (cx (mE (wB (aw kH (ai 5) (wC (.int 2))))
 (kK 1 (dE 6 (ai 1)))
 dG)
 bD))
def cU:WS :=
 (cx (dE 2 (aV aA (aj (ai 0) (aj (wC (.int 0)) b5))))
 (cx (dE 3 (aw eM (wC (.int 1)) (aw A5 (aV ao (aj (ai 2) (aj (wC (.int 0)) (aj (wC (.int 3)) b5)))) (wC (.int 2)))))
 (cx (dE 4 (aw eM (wC (.int 1)) (aV ao (aj (ai 2) (aj (wC (.int 1)) (aj (wC (.int 8)) b5))))))
 (cx (dE 5 (aV ao (aj (ai 2) (aj (wC (.int 2)) (aj (wC (.int 8)) b5)))))
 (cx (mE (wB (aw kH (ai 5) (wC (.int 1))))
 (dE 4 (aw A5 (wC (.int 20)) (ai 3)))
 dG)
 (cx (mE (wB (aw kH (ai 5) (wC (.int 3))))
 (dE 4 (aw eM (wC (.int 1)) (aV ao (aj (ai 2) (aj (wC (.int 5)) (aj (aw A5 (wC (.int 20)) (ai 3)) b5))))))
 dG)
 bF))))))
def aR:iX:=fun ds Q=>∃ (ns:List Int) (most:Int),ds=[.list (ns.map .int),.int most]/\(1<=most/\most<=100)/\∀ (many:Int) (steps:List bP),1<=many->many<=20->fi many steps->steps.length<=500->(dig (ns.getD 0 0) 0 3=2->∃ h,1<=h/\many=h+h/\pz h (·∈steps))->Q (.ow true) (mD many steps)
theorem iz (ds Q) (h:aR ds Q):ds.length=["_law_script", "_law_most"].length:=by obtain⟨_,_,rfl,_⟩:=h;rfl
theorem dJ{Q:Md->D->Prop}{ns:List Int}{most shape copies states size many:Int}(hc:copies=1\/copies=2)(hs:1<=states)(n5:copies*states<=20)(hmm:0<=many/\many<=1000)(E4:1<=most/\most<=100)
  (h:∀ (many:Int) (steps:List bP),1<=many->many<=20->fi many steps->steps.length<=500->(copies=2->∃ h,1<=h/\many=h+h/\pz h (·∈steps))->Q (.ow true) (mD many steps)) :
  bD { nx:=fun _=>Q .sh .non,rt:=Q } [some (.sh (.list (ns.map .int))),some (.sh (.int most)),some (.sh (.int shape)),some (.sh (.int copies)),some (.sh (.int states)),some (.sh (.int size)),some (.sh (.int many)),none,none,none,none,none,none,none,none,none]:=by
 have jv:states<=20:=by rcases hc with rfl|rfl<;>lia
 unfold bD
 walk_at "q"
 refine⟨ns,1,rfl,by decide,?_⟩
 generalize ns.getD _ 0=c1
 walk_at "q"
 refine⟨c1,rfl,fun names n1 n7 hd=>?_⟩
 walk_at "q"
 have wc:copies*copies=1\/copies*copies=4:=by rcases hc with rfl|rfl<;>decide
 refine⟨bu (by lia) (by lia),by lia,?_⟩
 have cZ':∃ r:Int,(if most / (copies*copies)<many then most / (copies*copies) else many)=r/\0<=r/\r<=100:=by
  refine⟨_,rfl,?_⟩
  have:0<=most / (copies*copies)/\most / (copies*copies)<=100:=by rcases wc with e|e<;>rw[e]<;>lia
  split<;>lia
 obtain⟨r,er,r0,r1⟩:=cZ'
 rw[er]
 refine⟨by lia,by lia,?_⟩
 refine cI _ (fun i ρ=>∃ (kvs:Kn) (o9 i3 pS Ma xA CM vx:Option Sl),sF (CH (copies*states)) kvs/\kvs.length<=4*i/\(copies=2->pz states (qV kvs))/\ρ=[some (.sh (.list (ns.map .int))),some (.sh (.int most)),some (.sh (.int shape)),some (.sh (.int copies)),some (.sh (.int states)),some (.sh (.int size)),some (.sh (.int many)),some (.ow true (.list (names.map .str))),some (.ow true (.dT kvs)),o9,i3,pS,Ma,xA,CM,vx]) ⟨[],_,_,_,_,_,_,_,sF.nil,bX _,fun _ a d b z=>(nomatch z),rfl⟩ ?_ ?_
 ·rintro i x ρ hx ⟨kvs,o9,i3,pS,Ma,xA,CM,vx,hk,kL,ht,rfl⟩ N hN
  obtain⟨hi,rfl⟩:=bN hx
  walk_at "q"
  refine⟨ns,_,0,states,rfl,by lia,by decide,by lia,fun one a0 a1=>?_⟩
  walk_at "q"
  refine⟨ns,_,1,states,rfl,by lia,by decide,by lia,fun two b0 b1=>?_⟩
  walk_at "q"
  refine⟨ns,_,2,(names.length:Nat),rfl,by lia,by decide,by lia,fun w w0 w1=>?_⟩
  obtain⟨n,hn,en⟩:=tK (names:=names) w0 w1
  walk_at "q"
  refine⟨_,en,?_⟩
  walk_at "q"
  refine⟨ns,_,3,3,rfl,by lia,by decide,by decide,fun way y0 y1=>?_⟩
  walk_at "q"
  refine⟨by lia,by lia,?_⟩
  refine cI _ (fun j ρ=>∃ (kM:Kn) (CM vx:Option Sl),sF (CH (copies*states)) kM/\kM.length<=4*i+2*j/\(∀ t,qV kM t↔qV kvs t\/∃ j2 i2:Nat,j2<j/\(i2:Int)<copies/\Nw way copies j2 i2/\t=RH one two states n j2 i2)/\ρ=[some (.sh (.list (ns.map .int))),some (.sh (.int most)),some (.sh (.int shape)),some (.sh (.int copies)),some (.sh (.int states)),some (.sh (.int size)),some (.sh (.int many)),some (.ow true (.list (names.map .str))),some (.ow true (.dT kM)),some (.sh (.int (0+(i:Nat)))),some (.sh (.int one)),some (.sh (.int two)),some (.sh (.str n)),some (.sh (.int way)),CM,vx]) ⟨kvs,_,_,hk,by lia,fun t=>⟨.inl,fun z=>z.elim id fun⟨_,_,z,_⟩=>absurd z (xS _)⟩,rfl⟩ ?_ ?_
  ·clear hk kL
   rintro j x ρ hx ⟨kM,CM,vx,hk,kL,w_,rfl⟩ N hN
   obtain⟨hj,rfl⟩:=bN hx
   walk_at "q"
   refine⟨by lia,by lia,?_⟩
   refine cI _ (fun l ρ=>∃ (xB:Kn) (vx:Option Sl),sF (CH (copies*states)) xB/\xB.length<=4*i+2*j+l/\(∀ t,qV xB t↔qV kM t\/∃ i2:Nat,i2<l/\Nw way copies j i2/\t=RH one two states n j i2)/\ρ=[some (.sh (.list (ns.map .int))),some (.sh (.int most)),some (.sh (.int shape)),some (.sh (.int copies)),some (.sh (.int states)),some (.sh (.int size)),some (.sh (.int many)),some (.ow true (.list (names.map .str))),some (.ow true (.dT xB)),some (.sh (.int (0+(i:Nat)))),some (.sh (.int one)),some (.sh (.int two)),some (.sh (.str n)),some (.sh (.int way)),some (.sh (.int (0+(j:Nat)))),vx]) ⟨kM,_,hk,by lia,fun t=>⟨.inl,fun z=>z.elim id fun⟨_,z,_⟩=>absurd z (xS _)⟩,rfl⟩ ?_ ?_
   ·clear hk kL
    rintro l x ρ hx ⟨xB,vx,hk,kL,vk,rfl⟩ N hN
    obtain⟨hl,rfl⟩:=bN hx
    have go:Nw way copies j l->yA states (0+(j:Nat))/\yA states (0+(l:Nat))/\xB.length<16777216/\N [some (.sh (.list (ns.map .int))),some (.sh (.int most)),some (.sh (.int shape)),some (.sh (.int copies)),some (.sh (.int states)),some (.sh (.int size)),some (.sh (.int many)),some (.ow true (.list (names.map .str))),some (.ow true (.dT (ki xB (fv (one+states*(0+(j:Nat)),n,two+states*(0+(l:Nat)))) (.bl true)))),some (.sh (.int (0+(i:Nat)))),some (.sh (.int one)),some (.sh (.int two)),some (.sh (.str n)),some (.sh (.int way)),some (.sh (.int (0+(j:Nat)))),some (.sh (.int (0+(l:Nat))))]:=fun nw=>by
     have c1:=vJ (one:=one) (states:=states) (j:=0+(j:Nat)) (copies:=copies) a0 a1 (by lia) (by lia)
     have c2:=vJ (one:=two) (states:=states) (j:=0+(l:Nat)) (copies:=copies) b0 b1 (by lia) (by lia)
     refine⟨bu (by lia) (by lia),bu (by lia) (by lia),by lia,?_⟩
     have:=iI xB (fv (one+states*(0+(j:Nat)),n,two+states*(0+(l:Nat)))) (D.bl true)
     refine hN _ ⟨_,_,hk.put (s:=(one+states*(0+(j:Nat)),n,two+states*(0+(l:Nat)))) ⟨c1.1,c1.2,hd n hn,c2.1,c2.2⟩,hG this (Nat.succ_le_succ kL),fun t=>?_,rfl⟩
     rw[qU,vk]
     constructor
     ·rintro((z|⟨i2,z1,z2⟩)|rfl)
      ·exact .inl z
      ·exact .inr ⟨i2,by lia,z2⟩
      ·exact .inr ⟨l,by lia,nw,rfl⟩
     ·rintro(z|⟨i2,z1,z2,z3⟩)
      ·exact .inl (.inl z)
      ·by_cases e:i2=l
       ·subst e;exact .inr z3
       ·exact .inl (.inr ⟨i2,by lia,z2,z3⟩)
    walk_at "q"
    refine R.D (fun e=>?_) fun e=>?_
    ·walk_at "q"
     exact go (.inl e)
    ·walk_at "q"
     refine⟨by lia,R.D (fun e2=>?_) fun e2=>?_⟩
     ·walk_at "q"
      exact go (.inr e2)
     ·walk_at "q"
      refine hN _ ⟨xB,_,hk,by lia,fun t=>(vk t).trans ⟨?_,?_⟩,rfl⟩
      ·rintro(z|⟨i2,z1,z2⟩)
       ·exact .inl z
       ·exact .inr ⟨i2,by lia,z2⟩
      ·rintro(z|⟨i2,z1,z2,z3⟩)
       ·exact .inl z
       ·by_cases e3:i2=l
        ·subst e3;exact absurd z2 fun z=>z.elim e e2
        ·exact .inr ⟨i2,by lia,z2,z3⟩
   ·clear hk kL
    rintro ρ ⟨xB,vx,hk,kL,vk,rfl⟩
    rw[bH] at kL vk
    refine hN _ ⟨xB,_,_,hk,by lia,fun t=>(vk t).trans ?_,rfl⟩
    rw[w_]
    constructor
    ·rintro((z|⟨j2,i2,z1,z2⟩)|⟨i2,z1,z2⟩)
     ·exact .inl z
     ·exact .inr ⟨j2,i2,by lia,z2⟩
     ·exact .inr ⟨j,i2,by lia,by lia,z2⟩
    ·rintro(z|⟨j2,i2,z1,z2,z3⟩)
     ·exact .inl (.inl z)
     ·by_cases e:j2=j
      ·subst e;exact .inr ⟨i2,by lia,z3⟩
      ·exact .inl (.inr ⟨j2,i2,by lia,z2,z3⟩)
  ·clear hk kL
   rintro ρ ⟨kM,CM,vx,hk,kL,w_,rfl⟩
   rw[bH] at kL w_
   refine hN _ ⟨kM,_,_,_,_,_,_,_,hk,by lia,fun c2=>?_,rfl⟩
   subst c2
   exact(ht rfl).new a0 a1 b0 b1 (way:=way) (n:=n) fun t=>(w_ t).trans ⟨fun z=>z.imp id fun⟨j2,i2,z1,z2,z3⟩=>⟨j2,i2,by lia,by lia,z3⟩,fun z=>z.imp id fun⟨j2,i2,z1,z2,z3⟩=>⟨j2,i2,by lia,by lia,z3⟩⟩
 ·rintro ρ ⟨kvs,o9,i3,pS,Ma,xA,CM,vx,hk,kL,ht,rfl⟩
  rw[bH] at kL
  walk_at "q"
  have fD':1<=copies*states:=by rcases hc with rfl|rfl<;>lia
  refine⟨bu (by lia) (by lia),by lia,by lia,?_⟩
  obtain⟨n,hn,en⟩:=tK (names:=names) (i:=0) (by decide) (by lia)
  refine cI _ (fun i ρ=>∃ (kM:Kn) (o9:Option Sl),sF (CH (copies*states)) kM/\kM.length<=400+i/\(∀ t,qV kM t↔qV kvs t\/(dig shape 4 3=1/\∃ k:Nat,k<i/\0<((0+(k:Nat):Int)+1) % states/\t=((0+(k:Nat):Int),n,(0+(k:Nat):Int)+1)))/\ρ=[some (.sh (.list (ns.map .int))),some (.sh (.int most)),some (.sh (.int shape)),some (.sh (.int copies)),some (.sh (.int states)),some (.sh (.int size)),some (.sh (.int many)),some (.ow true (.list (names.map .str))),some (.ow true (.dT kM)),o9,i3,pS,Ma,xA,CM,vx]) ⟨kvs,_,hk,by lia,fun t=>⟨.inl,fun z=>z.elim id fun⟨_,_,z,_⟩=>absurd z (xS _)⟩,rfl⟩ ?_ ?_
  ·clear hk kL
   rintro i x ρ hx ⟨kM,o9,hk,kL,gv,rfl⟩ N hN
   obtain⟨hi,rfl⟩:=bN hx
   have eJ:(dig shape 4 3=1->¬ 0<((0+(i:Nat):Int)+1) % states)->∀ t,qV kM t↔qV kvs t\/(dig shape 4 3=1/\∃ k:Nat,k<i+1/\0<((0+(k:Nat):Int)+1) % states/\t=((0+(k:Nat):Int),n,(0+(k:Nat):Int)+1)):=fun no t=>by
    rw[gv]
    constructor
    ·rintro(z|⟨z0,k,z1,z2⟩)
     ·exact .inl z
     ·exact .inr ⟨z0,k,by lia,z2⟩
    ·rintro(z|⟨z0,k,z1,z2,z3⟩)
     ·exact .inl z
     ·by_cases e3:k=i
      ·subst e3;exact absurd z2 (no z0)
      ·exact .inr ⟨z0,k,by lia,z2,z3⟩
   walk_at "q"
   refine⟨_,4,3,rfl,by decide,by decide,fun q q0 q1 qe=>?_⟩
   walk_at "q"
   refine R.D (fun e=>?_) fun e=>?_
   ·walk_at "q"
    refine⟨by lia,R.D (fun e2=>?_) fun e2=>?_⟩
    ·walk_at "q"
     refine⟨_,en,?_⟩
     walk_at "q"
     refine⟨by lia,?_⟩
     have:=iI kM (fv (0+(i:Nat),n,0+(i:Nat)+1)) (D.bl true)
     refine hN _ ⟨_,_,hk.put (s:=(0+(i:Nat),n,0+(i:Nat)+1)) ⟨(by lia : (0:Int)<=0+(i:Nat)),(by lia : 0+((i:Nat):Int)<copies*states),hd n hn,(by lia : (0:Int)<=0+(i:Nat)+1),(by lia : 0+((i:Nat):Int)+1<copies*states)⟩,by lia,fun t=>?_,rfl⟩
     rw[qU,gv]
     constructor
     ·rintro((z|⟨z0,k,z1,z2⟩)|rfl)
      ·exact .inl z
      ·exact .inr ⟨z0,k,by lia,z2⟩
      ·exact .inr ⟨by lia,i,by lia,e2,rfl⟩
     ·rintro(z|⟨z0,k,z1,z2,z3⟩)
      ·exact .inl (.inl z)
      ·by_cases e3:k=i
       ·subst e3;exact .inr z3
       ·exact .inl (.inr ⟨z0,k,by lia,z2,z3⟩)
    ·walk_at "q"
     exact hN _ ⟨kM,_,hk,by lia,eJ fun _=>e2,rfl⟩
   ·walk_at "q"
    exact hN _ ⟨kM,_,hk,by lia,eJ fun z=>absurd (qe.trans z) e,rfl⟩
  ·clear hk kL
   rintro ρ ⟨kM,o9,hk,kL,gv,rfl⟩
   rw[bH] at kL gv
   walk_at "q"
   refine⟨bu (by lia) (by lia),?_⟩
   refine hk.Cj fun steps pm hP pw hlen=>?_
   rw[rQ]
   refine h _ steps (by rcases hc with rfl|rfl<;>lia) n5 hP (by lia) fun c2=>⟨states,hs,by rw[c2];lia,?_⟩
   have hm:∀ t,t∈steps↔qV kM t:=fun t=>by
    unfold qV
    rw[<- pm.mem_iff,dr]
    exact⟨fun z=>⟨t,z,rfl⟩,fun⟨u,hu,e⟩=>by rwa[<- qb e]⟩
   have tt:=ht c2
   subst c2
   by_cases dg:dig shape 4 3=1
   ·exact tt.chain hs (n:=n) fun t=>(hm t).trans ((gv t).trans ⟨fun z=>z.imp id fun⟨_,k,z1,z2⟩=>⟨k,by lia,z2⟩,fun z=>z.imp id fun⟨k,z1,z2⟩=>⟨dg,k,by lia,z2⟩⟩)
   ·intro a d b mI
    have e1:∀ t,t∈steps↔qV kvs t:=fun t=>(hm t).trans ((gv t).trans ⟨fun z=>z.elim id fun z=>absurd z.1 dg,.inl⟩)
    obtain⟨b',y1,y2⟩:=tt a d b ((e1 _).mp mI)
    exact⟨b',(e1 _).mpr y1,y2⟩
theorem cA{Q:Md->D->Prop}{ns:List Int}{most shape copies states size:Int}(hc:copies=1\/copies=2)(hs:1<=states)(n5:copies*states<=20)(E4:1<=most/\most<=100)
  (h:∀ (many:Int) (steps:List bP),1<=many->many<=20->fi many steps->steps.length<=500->(copies=2->∃ h,1<=h/\many=h+h/\pz h (·∈steps))->Q (.ow true) (mD many steps)) :
  bF { nx:=fun _=>Q .sh .non,rt:=Q } [some (.sh (.list (ns.map .int))),some (.sh (.int most)),some (.sh (.int shape)),some (.sh (.int copies)),some (.sh (.int states)),some (.sh (.int size)),none,none,none,none,none,none,none,none,none,none]:=by
 have jv:states<=20:=by rcases hc with rfl|rfl<;>lia
 obtain⟨w8,e8⟩:∃ w8,w8=bD:=⟨_,rfl⟩
 unfold bF
 rw[<- e8]
 walk_at "q"
 refine⟨gM (by lia) (by lia),_,3,_,rfl,by decide,by lia,fun many m0 m1 _=>?_⟩
 walk_at "q"
 refine R.D (fun e=>?_) fun e=>?_
 ·walk_at "q"
  rw[e8]
  exact dJ hc hs n5 ⟨by lia,by lia⟩ E4 h
 ·walk_at "q"
  rw[e8]
  exact dJ hc hs n5 ⟨by lia,by lia⟩ E4 h
theorem jG:∀ ds Q,aR ds Q->cU { nx:=fun _=>Q .sh .non,rt:=Q } (aX 16 ds):=by
 rintro ds Q ⟨ns,most,rfl,E4,h⟩
 obtain⟨w6,e6⟩:∃ w6,w6=bF:=⟨_,rfl⟩
 unfold cU
 rw[<- e6]
 walk_at "q"
 refine⟨ns,0,rfl,by decide,?_⟩
 have h:∀ (many:Int) (steps:List bP),1<=many->many<=20->fi many steps->steps.length<=500->(dig (ns.getD (0:Int).toNat 0) 0 3=2->∃ h,1<=h/\many=h+h/\pz h (·∈steps))->Q (.ow true) (mD many steps):=h
 generalize ns.getD _ 0=shape at h ⊢
 walk_at "q"
 refine⟨shape,0,3,rfl,by decide,by decide,fun c c0 c1 ce=>?_⟩
 walk_at "q"
 refine⟨shape,1,8,rfl,by decide,by decide,fun st s0 s1 _=>?_⟩
 walk_at "q"
 refine⟨shape,2,8,rfl,by decide,by decide,fun size z0 z1 _=>?_⟩
 walk_at "q"
 have hc:1+c / 2=1\/1+c / 2=2:=by lia
 have wc:dig shape 0 3=2->1+c / 2=2:=fun z=>by lia
 generalize 1+c / 2=copies at hc wc ⊢
 refine R.D (fun e=>?_) fun e=>?_
 ·walk_at "q"
  refine⟨by lia,?_⟩
  refine R.F (by simp;lia) ?_
  walk_at "q"
  rw[e6]
  exact cA hc (by rcases hc with rfl|rfl<;>lia) (by rcases hc with rfl|rfl<;>lia) E4 fun many steps x1 x2 x3 x4 x5=>h many steps x1 x2 x3 x4 fun z=>x5 (wc z)
 ·walk_at "q"
  refine R.D (fun e=>?_) fun e=>?_
  ·walk_at "q"
   refine⟨by lia,?_⟩
   refine⟨shape,5,_,rfl,by decide,by rcases hc with rfl|rfl<;>lia,fun q q0 q1 _=>?_⟩
   walk_at "q"
   rw[e6]
   exact cA hc (by lia) (by rcases hc with rfl|rfl<;>lia) E4 fun many steps x1 x2 x3 x4 x5=>h many steps x1 x2 x3 x4 fun z=>x5 (wc z)
  ·walk_at "q"
   rw[e6]
   exact cA hc (by lia) (by rcases hc with rfl|rfl<;>lia) E4 fun many steps x1 x2 x3 x4 x5=>h many steps x1 x2 x3 x4 fun z=>x5 (wc z)
def gJ:WS :=
 (mB (Om (aV bL (aj (ai 0) b5)) (kr CB (wC (.int 1)))))
def aW:iX:=fun ds Q=>∃ (many:Int) (steps:List bP),ds=[mD many steps]/\(1<=many/\many<=100)/\fi many steps/\steps.length<=1000/\∀ k,Kinds many steps k->Q (.ow true) (.list (k.map .int))
theorem oR (ds Q) (h:aW ds Q):ds.length=["m"].length:=by obtain⟨_,_,rfl,_⟩:=h;rfl
theorem su:∀ ds Q,aW ds Q->gJ { nx:=fun _=>Q .sh .non,rt:=Q } (aX 1 ds):=by
 rintro ds Q ⟨many,steps,rfl,hm,aT,hl,h⟩
 unfold gJ
 rw[show aX 1 [mD many steps]=[some (.sh (mD many steps))] from rfl]
 walk_at "q"
 refine⟨many,steps,rfl,hm,aT,hl,fun rest hc hr=>?_⟩
 unfold Wn
 walk_at "q"
 refine⟨_,wg _ _,?_⟩
 unfold zt
 walk_at "q"
 exact h _ ⟨rest,hc,rfl⟩
def oZ:WS :=
 (cx (nR aL (aj (ai 0) (aj (ai 1) b5)))
 (cx (nR aL (aj (ai 0) (aj (ai 2) b5)))
 (cx (dE 3 (aV aW (aj (ai 0) b5)))
 (mB (aw kH (aw eT (ai 3) (ai 1)) (aw eT (ai 3) (ai 2)))))))
def b_:iX:=fun ds Q=>∃ (many:Int) (l:List bP) (p q:Int),ds=[mD many l,.int p,.int q]/\(1<=many/\many<=100)/\fi many l/\l.length<=1000/\(qS many (p,q)->∀ k,Kinds many l k->Q .sh (.bl (decide (rk k p=rk k q))))/\(¬ qS many (p,q)->Q (.ow false) (.str "NoState"))
theorem uC (ds Q) (h:b_ ds Q):ds.length=["m", "p", "q"].length:=by obtain⟨_,_,_,_,rfl,_⟩:=h;rfl
theorem zV:∀ ds Q,b_ ds Q->oZ { nx:=fun _=>Q .sh .non,rt:=Q } (aX 4 ds):=by
 rintro ds Q ⟨many,l,p,q,rfl,hm,aT,hl,h1,h2⟩
 unfold oZ
 rw[show aX 4 [mD many l,.int p,.int q]=[some (.sh (mD many l)),some (.sh (.int p)),some (.sh (.int q)),none] from rfl]
 walk_at "q"
 refine⟨many,l,p,rfl,fun a=>?_,fun a=>?_⟩
 ·walk_at "q"
  refine⟨many,l,q,rfl,fun b=>?_,fun b=>?_⟩
  ·walk_at "q"
   refine⟨many,l,rfl,hm,aT,hl,fun k hk=>?_⟩
   walk_at "q"
   refine⟨_,pR hk.rb.len a.1 a.2,?_⟩
   walk_at "q"
   refine⟨_,pR hk.rb.len b.1 b.2,?_⟩
   walk_at "q"
   exact h1 ⟨a,b⟩ k hk
  ·walk_at "q"
   exact h2 fun z=>b z.2
 ·walk_at "q"
  exact h2 fun z=>a z.1
def cX:WS :=
 (cx (dE 3 (wC .non))
 (Bw (nR b_ (aj (ai 0) (aj (ai 1) (aj (ai 2) b5)))) (fun a=>[none,none,none,some (.xc a),none]) (fun a n=>(cx (mE (Ls (EB (wB (ER 3 a (decide (n = "NoState"))))) (EB (wB (ER 3 a true))))
 (mB (wC (.bl false)))
 dG)
 (cx (mE (wB (ER 3 a (decide (n = "NoMachine") || (decide (n = "TooBig") || (decide (n = "NoDeed") || (decide (n = "NoText") || false))))))
 (mB (wC (.bl false)))
 dG)
 (mB (wJ (ER 3 a (decide (n = "NoFrame") || (decide (n = "NoScroll") || (decide (n = "NoName") || (decide (n = "NoRow") || false))))))))))))
def aQ:iX:=fun ds Q=>∃ (many:Int) (l:List bP) (p q:Int),ds=[mD many l,.int p,.int q]/\(1<=many/\many<=100)/\fi many l/\l.length<=1000/\¬ qS many (p,q)/\Q .sh (.bl true)
theorem iu (ds Q) (h:aQ ds Q):ds.length=["_law_m", "_law_p", "_law_q"].length:=by obtain⟨_,_,_,_,rfl,_⟩:=h;rfl
theorem jH:∀ ds Q,aQ ds Q->cX { nx:=fun _=>Q .sh .non,rt:=Q } (aX 5 ds):=by
 rintro ds Q ⟨many,l,p,q,rfl,hm,aT,hl,hx,h⟩
 unfold cX
 walk_at "q"
 refine⟨many,l,p,q,rfl,hm,aT,hl,fun z=>absurd z hx,fun _=>?_⟩
 walk_at "q"
 intro a
 refine R.F (by decide +kernel) ?_
 walk_at "q"
 rw[show decide (Str.ofString "NoState" = Str.ofString "NoFrame")=false by decide +kernel,show decide (Str.ofString "NoState" = Str.ofString "NoScroll")=false by decide +kernel,show decide (Str.ofString "NoState" = Str.ofString "NoName")=false by decide +kernel,show decide (Str.ofString "NoState" = Str.ofString "NoRow")=false by decide +kernel]
 exact h
def iK:WS :=
 (kK 1 (kK 6 (kK 7 (kK 13 (tJ (gm (tF (aj (nk (aj (ai 13) (aj (ai 7) b5))) (aj (nk (aj (ai 6) (aj (ai 13) b5))) (aj (nk (aj (ai 13) (aj (ai 1) b5))) (aj (nk (aj (kr CB (wC (.int 1))) (aj (ai 13) b5))) b5)))))) (gT 2 (di (gN 8) (di (gN 9) nG)))
 (mE (EB (wB (aV aQ (aj (ai 3) (aj (ai 8) (aj (ai 9) b5))))))
 (mB (wC (.bl false)))
 dG))))))
def lY:WS :=
 (kK 2 (kK 1 (mB (xP (aw RA (nJ b_ (aj (ai 3) (aj (ai 6) (aj (ai 6) b5)))) (wC (.bl true))) (aw kH (ai 3) (nk (aj (ai 1) (aj (ai 2) b5))))))))
def lG:WS :=
 (cx (kK 1 (tJ (gm (tF (aj (kr CB (wC (.int 1))) (aj (ai 1) (aj (aw Lv (kr CB (wC (.int 2))) (ai 12)) (aj (aw eM (aw eM (ai 1) (wC (.int 1))) (ai 12)) b5)))))) (gN 13)
 iK))
 lY)
def lR:WS :=
 (cx (dE 12 (aw qA (aV aA (aj (ai 0) (aj (wC (.int 3)) b5))) (aw NW (wC (.int 10)) (wC (.int 59)))))
 lG)
def mL:WS :=
 (cx (mE (wB (aw kH (aV ao (aj (aV aA (aj (ai 0) (aj (wC (.int 0)) b5))) (aj (wC (.int 0)) (aj (wC (.int 3)) b5)))) (wC (.int 2))))
 (cx (dE 11 (aw A5 (ai 1) (wC (.int 2))))
 (mE (wB (aw By (nJ b_ (aj (ai 3) (aj (aw qA (ai 6) (ai 11)) (aj (aw eM (aw qA (ai 6) (ai 11)) (ai 11)) b5)))) (wC (.bl true))))
 (mB (wC (.bl false)))
 dG))
 dG)
 lR)
def lW:WS :=
 (cx (kK 5 (tJ (gm (ai 5)) (gT 2 (di (gN 6) (di (gN 7) nG)))
 (kK 7 (kK 6 (tJ (gm (tF (aj (nk (aj (ai 6) (aj (ai 7) b5))) (aj (nk (aj (ai 7) (aj (ai 6) b5))) b5)))) (gT 2 (di (gN 8) (di (gN 9) nG)))
 (cx (dE 10 (nJ b_ (aj (ai 3) (aj (ai 8) (aj (ai 9) b5)))))
 (mE (Ls (EB (wB (kr (QZ "bool") (ai 10)))) (wB (aw A6 (ai 10) (aw kH (aw eT (ai 4) (ai 8)) (aw eT (ai 4) (ai 9))))))
 (mB (wC (.bl false)))
 dG)))))))
 mL)
def lN:WS :=
 (cx (dE 5 (gw (cC (wC (.int 12))) (gN 0) vw (nk (aj (aV aH (aj (ai 2) (aj (aw eM (wC (.int 90)) (ai 0)) (aj (wC (.int 0)) (aj (ai 1) b5))))) (aj (aV aH (aj (ai 2) (aj (aw eM (wC (.int 90)) (ai 0)) (aj (wC (.int 1)) (aj (ai 1) b5))))) b5))) 1 [1,0]))
 (cx (EG (A9 5) (nk (aj (aw eT (aw eT (ai 5) (wC (.int 0))) (wC (.int 0))) (aj (aw eT (aw eT (ai 5) (wC (.int 0))) (wC (.int 0))) b5))))
 lW))
def BK:WS :=
 (cx (zB 1 2 (Rq (aV aR (aj (ai 0) (aj (wC (.int 100)) b5)))))
 (cx (kK 1 (dE 3 (nk (aj (ai 1) (aj (kr vZ (ai 2)) b5)))))
 (cx (dE 4 (aV aW (aj (ai 3) b5)))
 lN)))
abbrev IB:iX:=Vr
theorem BL (ds Q) (h:IB ds Q):ds.length=["_law_script"].length:=by obtain⟨_,rfl,_⟩:=h;rfl
theorem xT{N B:L2.Q.Env->Prop}{Q:Md->D->Prop}{ns:List Int}{many p q far w:Int}{steps:List bP}{k:List Int}{o5 o8 o9 i3 pS:Option Sl}(m1:1<=many)(m2:many<=20)(aT:fi many steps)(hl:steps.length<=500)(IC:¬ (0<=w/\w<many))(hN:∀ o8 o9,N [some (.sh (.list (ns.map .int))),some (.sh (.int many)),some (.sh (.list (steps.map eW))),some (.ow true (.tup [.int many,.list (steps.map eW)])),some (.ow true (.list (k.map .int))),o5,some (.sh (.int p)),some (.sh (.int q)),o8,o9,i3,pS,some (.sh (.int far)),some (.sh (.int w))]) :
  iK { nx:=N,ct:=N,bk:=B,rt:=Q } [some (.sh (.list (ns.map .int))),some (.sh (.int many)),some (.sh (.list (steps.map eW))),some (.ow true (.tup [.int many,.list (steps.map eW)])),some (.ow true (.list (k.map .int))),o5,some (.sh (.int p)),some (.sh (.int q)),o8,o9,i3,pS,some (.sh (.int far)),some (.sh (.int w))]:=by
 unfold iK
 walk_at "q"
 refine cI _ (fun i ρ=>∃ (o8 o9:Option Sl),ρ=[some (.sh (.list (ns.map .int))),some (.sh (.int many)),some (.sh (.list (steps.map eW))),some (.ow true (.tup [.int many,.list (steps.map eW)])),some (.ow true (.list (k.map .int))),o5,some (.sh (.int p)),some (.sh (.int q)),o8,o9,i3,pS,some (.sh (.int far)),some (.sh (.int w))]) ⟨_,_,rfl⟩ ?_ ?_
 ·rintro i x ρ RL ⟨o8,o9,rfl⟩ N hN
  obtain⟨a,b,rfl,mI⟩:∃ a b:Int,x=.tup [.int a,.int b]/\¬ qS many (a,b):=by
   have:=kP RL
   simp only[cK,zD,or_false] at this
   rcases this with e|e|e|e
   ·exact⟨_,_,e,fun z=>IC z.1⟩
   ·exact⟨_,_,e,fun z=>IC z.2⟩
   ·exact⟨_,_,e,fun z=>IC z.1⟩
   ·exact⟨_,_,e,fun z=>IC z.2⟩
  walk_at "q"
  refine⟨many,steps,a,b,rfl,by lia,aT,by lia,mI,?_⟩
  walk_at "q"
  exact hN _ ⟨_,_,rfl⟩
 ·rintro ρ ⟨o8,o9,rfl⟩
  exact hN _ _
theorem BW{Q:Md->D->Prop}{ns:List Int}{many p q far:Int}{steps:List bP}{k:List Int}{o5 o8 o9 i3 pS xA:Option Sl}(m1:1<=many)(m2:many<=20)(aT:fi many steps)(hl:steps.length<=500)(hp:0<=p/\p<many)(h:∀ m,Q m (.bl true)) :
  lY { nx:=fun _=>Q .sh .non,rt:=Q } [some (.sh (.list (ns.map .int))),some (.sh (.int many)),some (.sh (.list (steps.map eW))),some (.ow true (.tup [.int many,.list (steps.map eW)])),some (.ow true (.list (k.map .int))),o5,some (.sh (.int p)),some (.sh (.int q)),o8,o9,i3,pS,some (.sh (.int far)),xA]:=by
 unfold lY
 walk_at "q"
 refine⟨many,steps,p,p,rfl,by lia,aT,by lia,fun _ k hk=>?_,fun z=>absurd ⟨hp,hp⟩ z⟩
 rw[decide_eq_true rfl]
 walk_at "q"
 refine⟨(by show 2<=sizeLine;decide),Wi 9 aT,Wi 9 aT,?_⟩
 show Q .sh (.bl (fT (mD many steps) (mD many steps)))
 rw[eq_self (cH' _ _)]
 exact h _
theorem Bk{Q:Md->D->Prop}{ns:List Int}{many p q far:Int}{steps:List bP}{k:List Int}{o5 o8 o9 i3 pS:Option Sl}(m1:1<=many)(m2:many<=20)(aT:fi many steps)(hl:steps.length<=500)(hp:0<=p/\p<many)(hf:0<=far)(h:∀ m,Q m (.bl true)) :
  lG { nx:=fun _=>Q .sh .non,rt:=Q } [some (.sh (.list (ns.map .int))),some (.sh (.int many)),some (.sh (.list (steps.map eW))),some (.ow true (.tup [.int many,.list (steps.map eW)])),some (.ow true (.list (k.map .int))),o5,some (.sh (.int p)),some (.sh (.int q)),o8,o9,i3,pS,some (.sh (.int far)),none]:=by
 obtain⟨w9,e9⟩:∃ w9,w9=lY:=⟨_,rfl⟩
 obtain⟨w0,e0⟩:∃ w0,w0=iK:=⟨_,rfl⟩
 unfold lG
 rw[<- e9,<- e0]
 walk_at "q"
 refine cI _ (fun i ρ=>∃ (o8 o9 xA:Option Sl),ρ=[some (.sh (.list (ns.map .int))),some (.sh (.int many)),some (.sh (.list (steps.map eW))),some (.ow true (.tup [.int many,.list (steps.map eW)])),some (.ow true (.list (k.map .int))),o5,some (.sh (.int p)),some (.sh (.int q)),o8,o9,i3,pS,some (.sh (.int far)),xA]) ⟨_,_,_,rfl⟩ ?_ ?_
 ·rintro i x ρ Rj ⟨o8,o9,xA,rfl⟩ N hN
  obtain⟨w,rfl,IC⟩:∃ w:Int,x=.int w/\¬ (0<=w/\w<many):=by
   have:=kP Rj
   simp only[cK,zD,or_false] at this
   rcases this with e|e|e|e<;>exact⟨_,e,by lia⟩
  walk_at "q"
  rw[e0]
  exact xT m1 m2 aT hl IC fun o8 o9=>hN _ ⟨_,_,_,rfl⟩
 rintro ρ ⟨o8,o9,xA,rfl⟩
 rw[e9]
 exact BW m1 m2 aT hl hp h
theorem uq{Q:Md->D->Prop}{ns:List Int}{many p q:Int}{steps:List bP}{k:List Int}{o5 o8 o9 i3 pS:Option Sl}(m1:1<=many)(m2:many<=20)(aT:fi many steps)(hl:steps.length<=500)(hp:0<=p/\p<many)(h:∀ m,Q m (.bl true)) :
  lR { nx:=fun _=>Q .sh .non,rt:=Q } [some (.sh (.list (ns.map .int))),some (.sh (.int many)),some (.sh (.list (steps.map eW))),some (.ow true (.tup [.int many,.list (steps.map eW)])),some (.ow true (.list (k.map .int))),o5,some (.sh (.int p)),some (.sh (.int q)),o8,o9,i3,pS,none,none]:=by
 obtain⟨w8,e8⟩:∃ w8,w8=lG:=⟨_,rfl⟩
 unfold lR
 rw[<- e8]
 walk_at "q"
 refine⟨ns,3,rfl,by decide,?_⟩
 generalize ns.getD _ 0=c3
 walk_at "q"
 have p1:=MS c3 (show(100000000000000000000000000000000000000000000000000000000000:Int)≠0 by decide)
 generalize c3 % 100000000000000000000000000000000000000000000000000000000000=far at *
 have cp:FU 10 59:=by unfold FU;decide
 refine⟨cp,?_⟩
 rw[e8]
 exact Bk m1 m2 aT hl hp p1 h
theorem zz{Q:Md->D->Prop}{ns:List Int}{many p q:Int}{steps:List bP}{k:List Int}{o5 o8 o9 i3:Option Sl}(m1:1<=many)(m2:many<=20)(aT:fi many steps)(hl:steps.length<=500)(tt:dig (ns.getD 0 0) 0 3=2->∃ h,1<=h/\many=h+h/\pz h (·∈steps))(hp:0<=p/\p<many)(h:∀ m,Q m (.bl true)) :
  mL { nx:=fun _=>Q .sh .non,rt:=Q } [some (.sh (.list (ns.map .int))),some (.sh (.int many)),some (.sh (.list (steps.map eW))),some (.ow true (.tup [.int many,.list (steps.map eW)])),some (.ow true (.list (k.map .int))),o5,some (.sh (.int p)),some (.sh (.int q)),o8,o9,i3,none,none,none]:=by
 obtain⟨w7,e7⟩:∃ w7,w7=lR:=⟨_,rfl⟩
 unfold mL
 rw[<- e7]
 walk_at "q"
 refine⟨ns,0,rfl,by decide,?_⟩
 walk_at "q"
 refine⟨_,0,3,rfl,by decide,by decide,fun r r0 r1 re=>?_⟩
 walk_at "q"
 refine R.D (fun e=>?_) fun e=>?_
 ·obtain⟨hf,h1,h2,ht⟩:=tt (re.symm.trans e)
  have e2:many / 2=hf:=by lia
  walk_at "q"
  rw[e2]
  have pm:=tM p (show 0<hf by lia)
  refine⟨by lia,by lia,many,steps,p % hf,p % hf+hf,rfl,by lia,aT,by lia,fun _ k hk=>?_,fun z=>absurd ⟨⟨pm.1,by lia⟩,by lia,by lia⟩ z⟩
  have ek:=ht.kinds h2 aT hk pm.1 (by lia)
  unfold tw at ek
  rw[if_pos pm.2] at ek
  rw[decide_eq_true ek]
  walk_at "q"
  rw[e7]
  exact uq m1 m2 aT hl hp h
 ·walk_at "q"
  rw[e7]
  exact uq m1 m2 aT hl hp h
theorem Bm{Q:Md->D->Prop}{ns:List Int}{many:Int}{steps:List bP}{k:List Int}{o6 o7:Option Sl}(m1:1<=many)(m2:many<=20)(aT:fi many steps)(hl:steps.length<=500)(tt:dig (ns.getD 0 0) 0 3=2->∃ h,1<=h/\many=h+h/\pz h (·∈steps))(hk:Kinds many steps k){ps:List P2}(hps:∀ x∈ps,qS many x)(fq:0<ps.length)(h:∀ m,Q m (.bl true)) :
  lW { nx:=fun _=>Q .sh .non,rt:=Q } [some (.sh (.list (ns.map .int))),some (.sh (.int many)),some (.sh (.list (steps.map eW))),some (.ow true (.tup [.int many,.list (steps.map eW)])),some (.ow true (.list (k.map .int))),some (.ow true (.list (ps.map BE))),o6,o7,none,none,none,none,none,none]:=by
 obtain⟨w6,e6⟩:∃ w6,w6=mL:=⟨_,rfl⟩
 unfold lW
 rw[<- e6]
 walk_at "q"
 refine cI _ (fun i ρ=>∃ (o6 o7 o8 o9 i3:Option Sl),(i=0\/∃ p q,qS many (p,q)/\o6=some (.sh (.int p))/\o7=some (.sh (.int q)))/\ρ=[some (.sh (.list (ns.map .int))),some (.sh (.int many)),some (.sh (.list (steps.map eW))),some (.ow true (.tup [.int many,.list (steps.map eW)])),some (.ow true (.list (k.map .int))),some (.sh (.list (ps.map BE))),o6,o7,o8,o9,i3,none,none,none]) ⟨_,_,_,_,_,.inl rfl,rfl⟩ ?_ ?_
 ·rintro i x ρ hx ⟨o6,o7,o8,o9,i3,_,rfl⟩ N hN
  obtain⟨p,q,rfl,hm,tk⟩:=Gn hx
  have IE:=hps _ hm
  walk_at "q"
  refine cI _ (fun i ρ=>∃ (o8 o9 i3:Option Sl),ρ=[some (.sh (.list (ns.map .int))),some (.sh (.int many)),some (.sh (.list (steps.map eW))),some (.ow true (.tup [.int many,.list (steps.map eW)])),some (.ow true (.list (k.map .int))),some (.sh (.list (ps.map BE))),some (.sh (.int p)),some (.sh (.int q)),o8,o9,i3,none,none,none]) ⟨_,_,_,rfl⟩ ?_ ?_
  ·rintro i x ρ RL ⟨o8,o9,i3,rfl⟩ N hN
   obtain⟨a,b,rfl,mI⟩:∃ a b:Int,x=.tup [.int a,.int b]/\qS many (a,b):=by
    have:=kP RL
    simp only[cK,zD,or_false] at this
    rcases this with e|e
    ·exact⟨_,_,e,IE⟩
    ·exact⟨_,_,e,IE.2,IE.1⟩
   walk_at "q"
   refine⟨many,steps,a,b,rfl,by lia,aT,by lia,fun _ k2 y6=>?_,fun z=>absurd mI z⟩
   rw[y6.uniq aT hk]
   walk_at "q"
   refine R.F (by decide) ?_
   walk_at "q"
   refine⟨_,pR hk.rb.len mI.1.1 mI.1.2,?_⟩
   walk_at "q"
   refine⟨_,pR hk.rb.len mI.2.1 mI.2.2,?_⟩
   walk_at "q"
   exact hN _ ⟨_,_,_,rfl⟩
  ·rintro ρ ⟨o8,o9,i3,rfl⟩
   exact hN _ ⟨_,_,_,_,_,.inr ⟨p,q,IE,rfl,rfl⟩,rfl⟩
 ·rintro ρ ⟨o6,o7,o8,o9,i3,hz,rfl⟩
  rw[dc] at hz
  obtain⟨p,q,IE,rfl,rfl⟩:=hz.resolve_left (by lia)
  rw[e6]
  exact zz m1 m2 aT hl tt IE.1 h
theorem Cw{Q:Md->D->Prop}{ns:List Int}{many:Int}{steps:List bP}{k:List Int}(m1:1<=many)(m2:many<=20)(aT:fi many steps)(hl:steps.length<=500)(tt:dig (ns.getD 0 0) 0 3=2->∃ h,1<=h/\many=h+h/\pz h (·∈steps))(hk:Kinds many steps k)(h:∀ m,Q m (.bl true)) :
  lN { nx:=fun _=>Q .sh .non,rt:=Q } [some (.sh (.list (ns.map .int))),some (.sh (.int many)),some (.sh (.list (steps.map eW))),some (.ow true (.tup [.int many,.list (steps.map eW)])),some (.ow true (.list (k.map .int))),none,none,none,none,none,none,none,none,none]:=by
 obtain⟨w5,e5⟩:∃ w5,w5=lW:=⟨_,rfl⟩
 unfold lN
 rw[<- e5]
 walk_at "q"
 refine bQ (fun n out=>∃ ps:List P2,out=ps.map BE/\ps.length=n/\∀ p∈ps,qS many p) (fun ρ=>∃ o,ρ=[o,some (.sh (.int many)),some (.sh (.list (ns.map .int)))]) _ 0 [] _ _ ⟨_,rfl⟩ ⟨[],rfl,rfl,fun p hp=>nomatch hp⟩ ?_ ?_
 ·rintro j y hy ρ ⟨o,rfl⟩ out ⟨ps,rfl,fq,Ou⟩ N1 N2 oa
  obtain⟨hj,rfl⟩:=bN hy
  walk_at "q"
  refine⟨ns,_,0,many,rfl,by lia,by decide,by lia,fun p p0 p1=>?_⟩
  walk_at "q"
  refine⟨ns,_,1,many,rfl,by lia,by decide,by lia,fun q q0 q1=>?_⟩
  walk_at "q"
  refine⟨.inl rfl,oa _ _ ⟨_,rfl⟩ ⟨ps++[(p,q)],(by rw[DF];rfl),by simp[fq],qS.app Ou fun x hx=>?_⟩⟩
  rw[pV.mp hx]
  exact⟨⟨p0,p1⟩,q0,q1⟩
 rintro out ⟨ps,e,fq,Ou⟩
 simp only[zI] at e
 subst e
 rw[bH] at fq
 obtain⟨⟨p,q⟩,ps,rfl⟩:∃ (x:P2) (r:List P2),ps=x :: r:=by
  cases ps with
  |nil=>simp at fq
  |cons x r=>exact⟨x,r,rfl⟩
 rw[fm,show BE (p,q)=.tup [.int p,.int q] from rfl]
 walk_at "q"
 simp only[qc] at fq
 have h0:=Ou (p,q) cc
 refine⟨by lia,?_⟩
 rw[show(D.tup [.int p,.int q] :: (ps.map BE++[D.tup [.int p,.int p]]))=(((p,q) :: ps++[(p,p)]:List P2)).map BE by simp[BE],e5]
 exact Bm m1 m2 aT hl tt hk (qS.app Ou fun x hx=>by rw[pV.mp hx];exact⟨h0.1,h0.1⟩) (by simp) h
theorem Gv:∀ ds Q,IB ds Q->BK { nx:=fun _=>Q .sh .non,rt:=Q } (aX 14 ds):=by
 rintro ds Q ⟨ns,rfl,hn,h⟩
 obtain⟨w3,e3⟩:∃ w3,w3=lN:=⟨_,rfl⟩
 unfold BK
 rw[<- e3]
 walk_at "q"
 refine⟨ns,100,rfl,by decide,fun many steps m1 m2 aT hl tt=>?_⟩
 unfold mD
 walk_at "q"
 refine .inl ⟨mY _,?_⟩
 refine⟨many,steps,rfl,by lia,aT,by lia,fun k hk=>?_⟩
 rw[e3]
 exact Cw m1 m2 aT hl tt hk h
def top(i:Nat):Stmt:=PySem.Challenge.pw_kinlook_k32_alike_two.main.body.getD i (.Pass ⟨0,0,0,0⟩)
abbrev aK:Stmt:=top 12
abbrev fu:List Str:=["m", "state"]
abbrev b8:Stmt:=top 13
abbrev jw:List Str:=["m", "exits", "start", "deed", "end"]
abbrev dF:Stmt:=top 15
abbrev nP:List Str:=["exits", "ranks", "state"]
abbrev aM:Stmt:=top 16
abbrev cL:List Str:=["exits", "ranks", "keys", "different", "key"]
abbrev bW:Stmt:=top 17
abbrev mQ:List Str:=["m", "exits", "rounds", "ranks"]
abbrev cG:Stmt:=top 18
abbrev pQ:List Str:=["m"]
abbrev cV:Stmt:=top 19
abbrev qJ:List Str:=["m", "p", "q", "kinds"]
abbrev aY:Stmt:=top 21
abbrev jb:List Str:=["_law_script", "_law_k"]
abbrev bJ:Stmt:=top 22
abbrev lz:List Str:=["_law_cell", "_law_way", "_law_many", "_law_prime"]
abbrev aP:Stmt:=top 23
abbrev bK:List Str:=["_law_cell", "_law_letters", "_law_size", "_law_at", "_law_base", "_law_kind", "_law_words", "_law_k", "_law_word", "_law_tail", "_law_first"]
abbrev b7:Stmt:=top 24
abbrev oU:List Str:=["_law_script", "_law_k", "_law_way", "_law_many", "_law_cell"]
abbrev a_:Stmt:=top 25
abbrev jf:List Str:=["_law_script", "_law_most", "_law_shape", "_law_copies", "_law_states", "_law_size", "_law_many", "_law_menu_here", "_law_steps", "_law_k", "_law_one", "_law_two", "_law_deed", "_law_way", "_law_j", "_law_i"]
abbrev aZ:Stmt:=top 26
abbrev jx:List Str:=["_law_m", "_law_p", "_law_q", "_law_kept", "e"]
abbrev jM:Stmt:=top 27
abbrev yZ:List Str:=["_law_script", "_law_many", "_law_steps", "_law_handed", "_law_ranks", "_law_pairs", "_law_p", "_law_q", "_law_one", "_law_other", "_law_found", "_law_half", "_law_far", "_law_out"]
abbrev rn:List Str:=["NoState"]
structure Txt(K:PySem.W.Frag)(mg:Str->Option Value):Prop where
 Mb:mg "ValueError" = none
 Mf:mg "bool" = none
 Mh:mg "int" = none
 BF:mg "isinstance" = none
 E5:mg "len" = none
 Mi:mg "list" = none
 Mj:mg "min" = none
 ox:mg "range" = none
 Mk:mg "set" = none
 E6:mg "sorted" = none
 db':V4 K mg "NoState"
 dc':Df K mg rn "KinError"
 de':∀ n C,n∈rn->mg n=some (.ref C)->∃ c,mg "NoState" = some (.ref c)/\PySem.W.kitOne K (.ref C) (.ref c)=some (decide (n = "NoState"))
 df':∀ n C,n∈rn->mg n=some (.ref C)->PySem.W.kitOne K (.ref C) (.type "ValueError")=some true
 dg':∀ n C,n∈rn->mg n=some (.ref C)->∃ c,mg "NoMachine" = some (.ref c)/\PySem.W.kitOne K (.ref C) (.ref c)=some (decide (n = "NoMachine"))
 dh':∀ n C,n∈rn->mg n=some (.ref C)->∃ c,mg "TooBig" = some (.ref c)/\PySem.W.kitOne K (.ref C) (.ref c)=some (decide (n = "TooBig"))
 di':∀ n C,n∈rn->mg n=some (.ref C)->∃ c,mg "NoDeed" = some (.ref c)/\PySem.W.kitOne K (.ref C) (.ref c)=some (decide (n = "NoDeed"))
 dk':∀ n C,n∈rn->mg n=some (.ref C)->∃ c,mg "NoText" = some (.ref c)/\PySem.W.kitOne K (.ref C) (.ref c)=some (decide (n = "NoText"))
 dl':∀ n C,n∈rn->mg n=some (.ref C)->∃ c,mg "NoFrame" = some (.ref c)/\PySem.W.kitOne K (.ref C) (.ref c)=some (decide (n = "NoFrame"))
 dm':∀ n C,n∈rn->mg n=some (.ref C)->∃ c,mg "NoScroll" = some (.ref c)/\PySem.W.kitOne K (.ref C) (.ref c)=some (decide (n = "NoScroll"))
 dn':∀ n C,n∈rn->mg n=some (.ref C)->∃ c,mg "NoName" = some (.ref c)/\PySem.W.kitOne K (.ref C) (.ref c)=some (decide (n = "NoName"))
 dq':∀ n C,n∈rn->mg n=some (.ref C)->∃ c,mg "NoRow" = some (.ref c)/\PySem.W.kitOne K (.ref C) (.ref c)=some (decide (n = "NoRow"))
section
variable {P:Program}{w:World}{K:PySem.W.Frag}{mg:Str->Option Value}{base:Heap}
theorem fC:mr fu ["m", "state"] (cy aK):=⟨rfl,rfl,rfl,by decide +kernel,rfl,by decide +kernel,by decide +kernel⟩
theorem mJ {f:Addr} (T:Txt K mg)  (cE:Value) (A:Around) (outer:List PySem.Env) (s:Shared) (H:Hp) (E:XK) (hr:i7 0 (A.deeper (envOfC "check_state" (cy aK) s.heap.objs.size f cE))) :
  oS (rL (nE P w mg rn) P w K mg base fu "check_state" (cy aK) f cE A outer s H E) K (LX rn mg E) (iP aK) dB :=
 have nd:=fC.nd
 have hu:(A.deeper (envOfC "check_state" (cy aK) s.heap.objs.size f cE)).units+64<cLine:=hr.units
 (az (dN (m_ (xZ E_ yL Hl Fj aq (qv 1) (gd hu (qv 0) aq)))
   (az (yp rfl Ff T.db' (.head _) pq))
   bj))
theorem jQ {f:Addr} {fd:FuncData} (F:iq K "check_state" "check_state" aK f fd) (T:Txt K mg)  : hJ P w K mg base (nE P w mg rn) 1 f fd ["m", "state"] (dM K rn mg aL) :=
 V2.ok F fC iU (mJ T ) lQ
theorem jc:mr jw ["m"] (cy b8):=⟨rfl,rfl,rfl,by decide +kernel,rfl,by decide +kernel,by decide +kernel⟩
theorem pH {f:Addr} {fd:FuncData} (F:iq K "exits_of" "exits_of" b8 f fd) (T:Txt K mg)  : hJ P w K mg base ke 1 f fd ["m"] (aB K bZ) :=
 vv.ok (t:=gH) F jc nF (fun cE A outer s H E hr =>
  have nd:=jc.nd
  have hu:=hr.units
  (ak (eX (i:=1) (tn:=["state"]) (cn:=[]) (ix:=[]) nd rfl (Or.inl rfl) rfl (ig (bY T.ox (gd hu (qv 0) aq))) (bV.of (sc:=cy b8) (N:=jw) rfl rfl (by decide +kernel)) (fun _ _ _ _=>(aJ (i:=0) (show(["state"]:List Str).Nodup by decide +kernel) rfl (Or.inl rfl) (.inr rfl))) (fun _ _ _ _=>cT) (fun _ _ _ _=>(jn au)))
   (ak (bR 0 (d_ PassesOwn.never rfl (gP (gd hu (qv 0) aq)) (mZ rfl (bO (aJ (i:=2) nd rfl (Or.inl rfl)) (bO (aJ (i:=3) nd rfl (Or.inl rfl)) (bO (aJ (i:=4) nd rfl (Or.inl rfl)) jz))))
   (az (bR 4 (bR 3 (qP (GQ hu (gC (pv 1)) (qv 2)) (e_ (aa (qv 3) (aa (qv 4) au)))))))))
   (az (uJ (pv 1)))))) rZ
theorem oK:mr nP ["exits", "ranks", "state"] (cy dF):=⟨rfl,rfl,rfl,by decide +kernel,rfl,by decide +kernel,by decide +kernel⟩
theorem t_ {f:Addr} {fd:FuncData} (F:iq K "key_of" "key_of" dF f fd) (T:Txt K mg)  : hJ P w K mg base ke 1 f fd ["exits", "ranks", "state"] (aB K dh) :=
 vv.ok (t:=lq) F oK sV (fun cE A outer s H E hr =>
  have nd:=oK.nd
  have hu:=hr.units
  (az (cj (e_ (aa (gd hu (qv 1) (qv 2)) (aa (rP hu rfl T.E6 rfl T.Mk (jX (tn:=["deed", "end"]) (cn:=["ranks"]) (ix:=[1]) rfl (vh (gd hu (qv 0) (qv 2))) (bV.of (sc:=cy dF) (N:=nP) rfl rfl (by decide +kernel)) (fun _ _ _ _=>(mZ rfl (bO (aJ (i:=0) (show(["deed", "end", "ranks"]:List Str).Nodup by decide +kernel) rfl (Or.inl rfl) (.inr rfl)) (bO (aJ (i:=1) (show(["deed", "end", "ranks"]:List Str).Nodup by decide +kernel) rfl (Or.inl rfl) (.inr rfl)) jz)))) (fun _ _ _ _=>cT) (fun _ _ _ _=>(e_ (aa (qv 0) (aa (gd hu (qv 2) (qv 1)) au)))))) au)))))) yD
theorem eF:mr jb ["_law_script", "_law_k"] (cy aY):=⟨rfl,rfl,rfl,by decide +kernel,rfl,by decide +kernel,by decide +kernel⟩
theorem iQ {f:Addr} {fd:FuncData} (F:iq K "_law_cell_at" "_law_cell_at" aY f fd) (T:Txt K mg)  : hJ P w K mg base ke 1 f fd ["_law_script", "_law_k"] (aB K aA) :=
 vv.ok (t:=cY) F eF iB (fun cE A outer s H E hr =>
  have nd:=eF.nd
  have hu:=hr.units
  (ak (dN (cB yL Fj (qv 1) (jC gO vB rfl T.E5 vU (qv 0)) (lh _))
   (az (cj (gd hu (qv 0) (qv 1))))
   bj)
   (az (cj aq)))) jL
theorem gh:mr lz ["_law_cell", "_law_way", "_law_many"] (cy bJ):=⟨rfl,rfl,rfl,by decide +kernel,rfl,by decide +kernel,by decide +kernel⟩
theorem mK {f:Addr} {fd:FuncData} (F:iq K "_law_digit" "_law_digit" bJ f fd) (T:Txt K mg)  : hJ P w K mg base ke 1 f fd ["_law_cell", "_law_way", "_law_many"] (aB K ao) :=
 vv.ok (t:=dY) F gh jN (fun cE A outer s H E hr =>
  have nd:=gh.nd
  have hu:=hr.units
  (ak (aG (i:=3) nd rfl (Or.inl rfl) (gd hu (jn (aa aq (aa aq (aa aq (aa aq (aa aq (aa aq au))))))) (qv 1)))
   (az (cj (iC (sO (iC (gk (qv 0) (gd hu (jn (aa aq (aa aq (aa aq (aa aq (aa aq (aa aq au))))))) (qv 1))) (qv 3)) aq) (qv 2)))))) oO
theorem eU:mr cL ["exits", "ranks"] (cy aM):=⟨rfl,rfl,rfl,by decide +kernel,rfl,by decide +kernel,by decide +kernel⟩
theorem jD {f:Addr} {fd:FuncData} (F:iq K "ranks_behind" "ranks_behind" aM f fd) (T:Txt K mg) (dr':fP P w K mg base 1 "key_of" ["exits", "ranks", "state"] (aB K dh)):hJ P w K mg base ke 2 f fd ["exits", "ranks"] (aB K aN) :=
 vv.ok (t:=cW) F eU iD (fun cE A outer s H E hr =>
  have nd:=eU.nd
  have hu:=hr.units
  (ak (eX (i:=2) (tn:=["state"]) (cn:=["exits", "ranks"]) (ix:=[0,1]) nd rfl (Or.inl rfl) rfl (ig (bY T.ox (jC gO vB rfl T.E5 vU (qv 1)))) (bV.of (sc:=cy aM) (N:=cL) rfl rfl (by decide +kernel)) (fun _ _ _ _=>(aJ (i:=0) (show(["state", "exits", "ranks"]:List Str).Nodup by decide +kernel) rfl (Or.inl rfl) (.inr rfl))) (fun _ _ _ _=>cT) (fun _ _ _ _=>(bh dr' (hr.mono (by decide)) (aa (qv 1) (aa (qv 2) (aa (qv 0) au))))))
   (ak (aG (i:=3) nd rfl (Or.inr rfl) (jn au))
   (ak (bR 2 (d_ PassesOwn.never rfl (gP (jC (Du hu) yu rfl T.E6 jm (qv 2))) (aJ (i:=4) nd rfl (Or.inl rfl))
   (az (dN (cB (zE (K:=K) hu) CP (qv 4) (qv 3) (by rfl))
   (az (bR 4 (qP (gC (pv 3)) (qv 4))))
   bj))))
   (az (cj (jX (tn:=["key"]) (cn:=["different"]) (ix:=[3]) rfl (vh (qv 2)) (bV.of (sc:=cy aM) (N:=cL) rfl rfl (by decide +kernel)) (fun _ _ _ _=>(aJ (i:=0) (show(["key", "different"]:List Str).Nodup by decide +kernel) rfl (Or.inl rfl) (.inr rfl))) (fun _ _ _ _=>cT) (fun _ _ _ _=>(zH hu (qv 1) (qv 0)))))))))) jT
theorem g8:mr bK ["_law_cell"] (cy aP):=⟨rfl,rfl,rfl,by decide +kernel,rfl,by decide +kernel,by decide +kernel⟩
theorem oJ {f:Addr} {fd:FuncData} (F:iq K "_law_menu" "_law_menu" aP f fd) (T:Txt K mg) (nK:fP P w K mg base 1 "_law_digit" ["_law_cell", "_law_way", "_law_many"] (aB K ao)):hJ P w K mg base ke 2 f fd ["_law_cell"] (aB K bM) :=
 vv.ok (t:=fJ) F g8 mq (fun cE A outer s H E hr =>
  have nd:=g8.nd
  have hu:=hr.units
  (ak (aG (i:=1) nd rfl (Or.inr rfl) pq)
   (ak (aG (i:=2) nd rfl (Or.inl rfl) (bA aq (bh nK (hr.mono (by decide)) (aa (qv 0) (aa aq (aa aq au))))))
   (ak (aG (i:=3) nd rfl (Or.inr rfl) (bh nK (hr.mono (by decide)) (aa (qv 0) (aa aq (aa (qv 2) au)))))
   (ak (aG (i:=4) nd rfl (Or.inr rfl) (jX (tn:=["_law_j"]) (cn:=["_law_cell"]) (ix:=[0]) rfl (ig (bY T.ox aq)) (bV.of (sc:=cy aP) (N:=bK) rfl rfl (by decide +kernel)) (fun _ _ _ _=>(aJ (i:=0) (show(["_law_j", "_law_cell"]:List Str).Nodup by decide +kernel) rfl (Or.inl rfl) (.inr rfl))) (fun _ _ _ _=>cT) (fun _ _ _ _=>(bh nK (hr.mono (by decide)) (aa (bA (gk (qv 1) (bA (qv 0) aq)) (qv 0)) (aa aq (aa aq au)))))))
   (ak (aG (i:=5) nd rfl (Or.inl rfl) (bh nK (hr.mono (by decide)) (aa (qv 0) (aa aq (aa aq au)))))
   (ak (aG (i:=6) nd rfl (Or.inl rfl) (jn au))
   (ak (d_ PassesOwn.never rfl (bY T.ox aq) (aJ (i:=7) nd rfl (Or.inr rfl))
   (ak (aG (i:=8) nd rfl (Or.inl rfl) (qR pq (jX (tn:=["_law_j"]) (cn:=["_law_at", "_law_base", "_law_k", "_law_letters"]) (ix:=[3,4,7,1]) rfl (ig (bY T.ox (qv 2))) (bV.of (sc:=cy aP) (N:=bK) rfl rfl (by decide +kernel)) (fun _ _ _ _=>(aJ (i:=0) (show(["_law_j", "_law_at", "_law_base", "_law_k", "_law_letters"]:List Str).Nodup by decide +kernel) rfl (Or.inl rfl) (.inr rfl))) (fun _ _ _ _=>cT) (fun _ _ _ _=>(gd hu (qv 4) (iC (bA (gd hu (qv 2) (qv 0)) (gk (qv 3) (qK Yj Dk rfl T.Mh yQ (vy (rV (K:=K) hu) gn (qv 0) (qv 1) (lh _))))) aq))))))
   (ak (dN (cB (rV (K:=K) hu) gn (qv 5) aq (lh _))
   (az (aG (i:=8) nd rfl (Or.inl rfl) (qR pq (jX (tn:=["_law_j"]) (cn:=["_law_base", "_law_letters"]) (ix:=[4,1]) rfl (ig (bY T.ox (bA (qv 7) aq))) (bV.of (sc:=cy aP) (N:=bK) rfl rfl (by decide +kernel)) (fun _ _ _ _=>(aJ (i:=0) (show(["_law_j", "_law_base", "_law_letters"]:List Str).Nodup by decide +kernel) rfl (Or.inl rfl) (.inr rfl))) (fun _ _ _ _=>cT) (fun _ _ _ _=>(gd hu (qv 2) (gd hu (qv 1) (qv 0))))))))
   bj)
   (ak (dN (cB (rV (K:=K) hu) gn (qv 5) aq (lh _))
   (ak (eX (i:=9) (tn:=["_law_j"]) (cn:=["_law_base", "_law_letters"]) (ix:=[4,1]) nd rfl (Or.inl rfl) rfl (ig (bY T.ox (bh nK (hr.mono (by decide)) (aa (bA (qv 0) (qv 7)) (aa aq (aa aq au)))))) (bV.of (sc:=cy aP) (N:=bK) rfl rfl (by decide +kernel)) (fun _ _ _ _=>(aJ (i:=0) (show(["_law_j", "_law_base", "_law_letters"]:List Str).Nodup by decide +kernel) rfl (Or.inl rfl) (.inr rfl))) (fun _ _ _ _=>cT) (fun _ _ _ _=>(gd hu (qv 2) (gd hu (qv 1) (qv 0)))))
   (az (aG (i:=8) nd rfl (Or.inl rfl) (bA (gd hu (qv 1) (iC (bA (gd hu (qv 4) aq) (gk aq (qv 7))) aq)) (qR pq (qv 9))))))
   bj)
   (ak (dN (cB (rV (K:=K) hu) gn (qv 5) aq (lh _))
   (az (aG (i:=8) nd rfl (Or.inl rfl) (qR pq (jX (tn:=["_law_j"]) (cn:=["_law_base", "_law_k", "_law_letters"]) (ix:=[4,7,1]) rfl (ig (bY T.ox aq)) (bV.of (sc:=cy aP) (N:=bK) rfl rfl (by decide +kernel)) (fun _ _ _ _=>(aJ (i:=0) (show(["_law_j", "_law_base", "_law_k", "_law_letters"]:List Str).Nodup by decide +kernel) rfl (Or.inl rfl) (.inr rfl))) (fun _ _ _ _=>cT) (fun _ _ _ _=>(gd hu (qv 3) (iC (bA (gd hu (qv 1) aq) (iC (bA (qv 0) (qv 2)) aq)) aq)))))))
   bj)
   (az (bR 8 (qP (gC (pv 6)) (qv 8)))))))))
   (ak (aG (i:=10) nd rfl (Or.inl rfl) (bh nK (hr.mono (by decide)) (aa (qv 0) (aa aq (aa aq au)))))
   (az (cj (zL (bA (jn (aa pq au)) (qv 6)) (uZ (qv 10)) (uZ (bA (bA (qv 10) aq) (bh nK (hr.mono (by decide)) (aa (qv 0) (aa aq (aa aq au)))))))))))))))))) oW
theorem ik:mr oU ["_law_script", "_law_k", "_law_way", "_law_many"] (cy b7):=⟨rfl,rfl,rfl,by decide +kernel,rfl,by decide +kernel,by decide +kernel⟩
theorem m7 {f:Addr} {fd:FuncData} (F:iq K "_law_draw" "_law_draw" b7 f fd) (T:Txt K mg) (CY:fP P w K mg base 1 "_law_cell_at" ["_law_script", "_law_k"] (aB K aA)) (nK:fP P w K mg base 1 "_law_digit" ["_law_cell", "_law_way", "_law_many"] (aB K ao)):hJ P w K mg base ke 2 f fd ["_law_script", "_law_k", "_law_way", "_law_many"] (aB K aH) :=
 vv.ok (t:=fK) F ik lM (fun cE A outer s H E hr =>
  have nd:=ik.nd
  have hu:=hr.units
  (ak (aG (i:=4) nd rfl (Or.inl rfl) (bh CY (hr.mono (by decide)) (aa (qv 0) (aa (bA aq (iC (bA (gk aq (qv 1)) (gk aq (qv 2))) aq)) au))))
   (az (cj (bh nK (hr.mono (by decide)) (aa (bA (bA (qv 4) (gk (bh CY (hr.mono (by decide)) (aa (qv 0) (aa aq au))) (bA (qv 1) aq))) (gk (bA (qv 1) aq) (bA (bA (qv 1) aq) (qv 2)))) (aa (qv 2) (aa (qv 3) au)))))))) pM
theorem gY:mr mQ ["m"] (cy bW):=⟨rfl,rfl,rfl,by decide +kernel,rfl,by decide +kernel,by decide +kernel⟩
theorem oN {f:Addr} {fd:FuncData} (F:iq K "rounds_of" "rounds_of" bW f fd) (T:Txt K mg) (ds':fP P w K mg base 1 "exits_of" ["m"] (aB K bZ)) (Wo:fP P w K mg base 2 "ranks_behind" ["exits", "ranks"] (aB K aN)):hJ P w K mg base ke 3 f fd ["m"] (aB K bL) :=
 vv.ok (t:=fG) F gY lu (fun cE A outer s H E hr =>
  have nd:=gY.nd
  have hu:=hr.units
  (ak (aG (i:=1) nd rfl (Or.inl rfl) (bh ds' (hr.mono (by decide)) (aa (qv 0) au)))
   (ak (aG (i:=2) nd rfl (Or.inl rfl) (jn (aa (Eu (jn (aa aq au)) (gd hu (qv 0) aq)) au)))
   (ak (aG (i:=3) nd rfl (Or.inl rfl) (bh Wo (hr.mono (by decide)) (aa (qv 1) (aa (gd hu (qv 2) aq) au))))
   (ak (xM PassesOwn.never (cB (Uz (K:=K) hu) DK (qv 3) (gd hu (qv 2) (tW aq)) (lh _))
   (yx nd rfl (Or.inl rfl) (pv 2) (pv 3) (bh Wo (hr.mono (by decide)) (aa (qv 1) (aa (qv 3) au)))))
   (az (uJ (pv 2)))))))) pF
theorem dO:mr jf ["_law_script", "_law_most"] (cy a_):=⟨rfl,rfl,rfl,by decide +kernel,rfl,by decide +kernel,by decide +kernel⟩
theorem iT {f:Addr} {fd:FuncData} (F:iq K "_law_machine" "_law_machine" a_ f fd) (T:Txt K mg) (CY:fP P w K mg base 1 "_law_cell_at" ["_law_script", "_law_k"] (aB K aA)) (nK:fP P w K mg base 1 "_law_digit" ["_law_cell", "_law_way", "_law_many"] (aB K ao)) (dt':fP P w K mg base 2 "_law_menu" ["_law_cell"] (aB K bM)) (E7:fP P w K mg base 2 "_law_draw" ["_law_script", "_law_k", "_law_way", "_law_many"] (aB K aH)):hJ P w K mg base ke 3 f fd ["_law_script", "_law_most"] (aB K aR) :=
 vv.ok (t:=cU) F dO iz (fun cE A outer s H E hr =>
  have nd:=dO.nd
  have hu:=hr.units
  (ak (aG (i:=2) nd rfl (Or.inl rfl) (bh CY (hr.mono (by decide)) (aa (qv 0) (aa aq au))))
   (ak (aG (i:=3) nd rfl (Or.inl rfl) (bA aq (sO (bh nK (hr.mono (by decide)) (aa (qv 2) (aa aq (aa aq au)))) aq)))
   (ak (aG (i:=4) nd rfl (Or.inl rfl) (bA aq (bh nK (hr.mono (by decide)) (aa (qv 2) (aa aq (aa aq au))))))
   (ak (aG (i:=5) nd rfl (Or.inl rfl) (bh nK (hr.mono (by decide)) (aa (qv 2) (aa aq (aa aq au)))))
   (ak (dN (cB (rV (K:=K) hu) gn (qv 5) aq (lh _))
   (az (aG (i:=4) nd rfl (Or.inl rfl) (sO aq (qv 3))))
   bj)
   (ak (dN (cB (rV (K:=K) hu) gn (qv 5) aq (lh _))
   (az (aG (i:=4) nd rfl (Or.inl rfl) (bA aq (bh nK (hr.mono (by decide)) (aa (qv 2) (aa aq (aa (sO aq (qv 3)) au)))))))
   bj)
   (ak (aG (i:=6) nd rfl (Or.inl rfl) (bh nK (hr.mono (by decide)) (aa (qv 2) (aa aq (aa (gk aq (qv 4)) au)))))
   (ak (dN (cB (rV (K:=K) hu) gn (qv 5) aq (lh _))
   (az (bR 1 (aG (i:=6) nd rfl (Or.inl rfl) (qv 1))))
   bj)
   (ak (aG (i:=7) nd rfl (Or.inl rfl) (bh dt' (hr.mono (by decide)) (aa (bh CY (hr.mono (by decide)) (aa (qv 0) (aa aq au))) au)))
   (ak (aG (i:=8) nd rfl (Or.inl rfl) Cq)
   (ak (d_ PassesOwn.never rfl (bY T.ox (A_ Er zA rfl T.Mj Dg (qv 6) (sO (qv 1) (gk (qv 3) (qv 3))))) (aJ (i:=9) nd rfl (Or.inl rfl))
   (ak (aG (i:=10) nd rfl (Or.inl rfl) (bh E7 (hr.mono (by decide)) (aa (qv 0) (aa (qv 9) (aa aq (aa (qv 4) au))))))
   (ak (aG (i:=11) nd rfl (Or.inl rfl) (bh E7 (hr.mono (by decide)) (aa (qv 0) (aa (qv 9) (aa aq (aa (qv 4) au))))))
   (ak (aG (i:=12) nd rfl (Or.inl rfl) (gd hu (qv 7) (bh E7 (hr.mono (by decide)) (aa (qv 0) (aa (qv 9) (aa aq (aa (jC gO vB rfl T.E5 vU (qv 7)) au)))))))
   (ak (aG (i:=13) nd rfl (Or.inl rfl) (bh E7 (hr.mono (by decide)) (aa (qv 0) (aa (qv 9) (aa aq (aa aq au))))))
   (az (d_ PassesOwn.never rfl (bY T.ox (qv 3)) (aJ (i:=14) nd rfl (Or.inl rfl))
   (az (d_ PassesOwn.never rfl (bY T.ox (qv 3)) (aJ (i:=15) nd rfl (Or.inl rfl))
   (az (dN (NV (Ak (cB (rV (K:=K) hu) gn (qv 13) aq (lh _)) (uB (cB (rV (K:=K) hu) gn (qv 15) (iC (bA (qv 13) (qv 14)) (qv 3)) (lh _)))))
   (az (uY hu (gC (pv 8)) (e_ (aa (bA (qv 10) (gk (qv 4) (qv 14))) (aa (qv 12) (aa (bA (qv 11) (gk (qv 4) (qv 15))) au)))) A4))
   bj)))))))))))
   (ak (d_ PassesOwn.never rfl (bY T.ox (CK (gk (qv 3) (qv 4)) aq)) (aJ (i:=9) nd rfl (Or.inl rfl))
   (az (dN (NV (CQ (cB (rV (K:=K) hu) gn (bh nK (hr.mono (by decide)) (aa (qv 2) (aa aq (aa aq au)))) aq (lh _)) (Ck (cB Dj FQ (iC (bA (qv 9) aq) (qv 4)) aq (lh _)))))
   (az (uY hu (gC (pv 8)) (e_ (aa (qv 9) (aa (gd hu (qv 7) aq) (aa (bA (qv 9) aq) au)))) A4))
   bj)))
   (az (cj (e_ (aa (gk (qv 3) (qv 4)) (aa (jC z7 vd rfl T.E6 jm (qv 8)) au)))))))))))))))))) jG
theorem jk:mr pQ ["m"] (cy cG):=⟨rfl,rfl,rfl,by decide +kernel,rfl,by decide +kernel,by decide +kernel⟩
theorem oX {f:Addr} {fd:FuncData} (F:iq K "kinds_of" "kinds_of" cG f fd) (T:Txt K mg) (du':fP P w K mg base 3 "rounds_of" ["m"] (aB K bL)):hJ P w K mg base ke 4 f fd ["m"] (aB K aW) :=
 vv.ok (t:=gJ) F jk oR (fun cE A outer s H E hr =>
  have nd:=jk.nd
  have hu:=hr.units
  (az (cj (GD (bh du' (hr.mono (by decide)) (aa (qv 0) au)) (tW aq))))) su
theorem qN:mr qJ ["m", "p", "q"] (cy cV):=⟨rfl,rfl,rfl,by decide +kernel,rfl,by decide +kernel,by decide +kernel⟩
theorem z_ {f:Addr} (T:Txt K mg) (Ov:Bn P w K mg base rn 1 "check_state" ["m", "state"] aL) (Ml:fP P w K mg base 4 "kinds_of" ["m"] (aB K aW)) (cE:Value) (A:Around) (outer:List PySem.Env) (s:Shared) (H:Hp) (E:XK) (hr:i7 4 (A.deeper (envOfC "alike" (cy cV) s.heap.objs.size f cE))) :
  oS (rL (nE P w mg rn) P w K mg base qJ "alike" (cy cV) f cE A outer s H E) K (LX rn mg E) (iP cV) oZ :=
 have nd:=qN.nd
 have hu:(A.deeper (envOfC "alike" (cy cV) s.heap.objs.size f cE)).units+64<cLine:=hr.units
 (ak (lF Ov (hr.mono (by decide)) Ew (aa (qv 0) (aa (qv 1) au)))
   (ak (lF Ov (hr.mono (by decide)) Ew (aa (qv 0) (aa (qv 2) au)))
   (ak (aG (i:=3) nd rfl (Or.inl rfl) (bh Ml (hr.mono (by decide)) (aa (qv 0) au)))
   (az (cj (vy (rV (K:=K) hu) gn (gd hu (qv 3) (qv 1)) (gd hu (qv 3) (qv 2)) (lh _)))))))
theorem yo {f:Addr} {fd:FuncData} (F:iq K "alike" "alike" cV f fd) (T:Txt K mg) (Ov:Bn P w K mg base rn 1 "check_state" ["m", "state"] aL) (Ml:fP P w K mg base 4 "kinds_of" ["m"] (aB K aW)):hJ P w K mg base (nE P w mg rn) 5 f fd ["m", "p", "q"] (dM K rn mg b_) :=
 V2.ok F qN uC (z_ T Ov Ml) zV
theorem eQ:mr jx ["_law_m", "_law_p", "_law_q"] (cy aZ):=⟨rfl,rfl,rfl,by decide +kernel,rfl,by decide +kernel,by decide +kernel⟩
theorem i_ {f:Addr} {fd:FuncData} (F:iq K "_law_refused" "_law_refused" aZ f fd) (T:Txt K mg) (Mm:Bn P w K mg base rn 5 "alike" ["m", "p", "q"] b_):hJ P w K mg base ke 6 f fd ["_law_m", "_law_p", "_law_q"] (aB K aQ) :=
 vv.ok (t:=cX) F eQ iu (fun cE A outer s H E hr =>
  have nd:=eQ.nd
  have hu:=hr.units
  (ak (aG (i:=3) nd rfl (Or.inl rfl) G6)
   (yC (i:=3) (j:=4) (ρk:=fun a=>[none,none,none,some (.xc a),none]) T.dc' nd rfl rfl rfl rfl rfl rfl (fun a=>rfl) (fun pn xe E1 VY=>(az (lF Mm (hr.mono (by decide)) VY (aa (qv 0) (aa (qv 1) (aa (qv 2) au))))))
   (fun pn a oe n C hn hm xc hp nh=>by
    obtain⟨dv',dw',dx'⟩:=T.de' n C hn hm
    obtain⟨dy',dz',dA'⟩:=T.dg' n C hn hm
    obtain⟨dB',dC',dD'⟩:=T.dh' n C hn hm
    obtain⟨dE',dF',dG'⟩:=T.di' n C hn hm
    obtain⟨dH',dI',dJ'⟩:=T.dk' n C hn hm
    obtain⟨dK',dL',dM'⟩:=T.dl' n C hn hm
    obtain⟨dN',dO',dP'⟩:=T.dm' n C hn hm
    obtain⟨dQ',dR',dS'⟩:=T.dn' n C hn hm
    obtain⟨dT',dU',dV'⟩:=T.dq' n C hn hm
    exact(ak (dN (NV (Ak (m_ (oE (Ej (vc:=.ref dv') (j:=3) T.BF hp nh xc dx' (pv 3) (AF rfl dw' rfl) (fun _ r=>r)))) (uB (m_ (oE (Ej (vc:=.ty "ValueError") (j:=3) T.BF hp nh xc (T.df' n C hn hm) (pv 3) (Dd T.Mb lC) (fun _ r=>r)))))))
   (az (cj A4))
   bj)
   (ak (dN (oE (yK (j:=3) (cs:=[dy',dB',dE',dH']) T.BF hp nh xc (bx dA' (bx dD' (bx dG' (bx dJ' j_)))) (Nat.le_of_ble_eq_true rfl) (pv 3) (cP (AF rfl dz' rfl) (cP (AF rfl dC' rfl) (cP (AF rfl dF' rfl) (cP (AF rfl dI' rfl) vq))))))
   (az (cj A4))
   bj)
   (az (cj (FW (yK (j:=3) (cs:=[dK',dN',dQ',dT']) T.BF hp nh xc (bx dM' (bx dP' (bx dS' (bx dV' j_)))) (Nat.le_of_ble_eq_true rfl) (pv 3) (cP (AF rfl dL' rfl) (cP (AF rfl dO' rfl) (cP (AF rfl dR' rfl) (cP (AF rfl dU' rfl) vq)))))))))))))) jH
theorem yO:mr yZ ["_law_script"] (cy jM):=⟨rfl,rfl,rfl,by decide +kernel,rfl,by decide +kernel,by decide +kernel⟩
theorem dW' {f:Addr} {fd:FuncData} (F:iq K "law" "law" jM f fd) (T:Txt K mg) (dX':fP P w K mg base 3 "_law_machine" ["_law_script", "_law_most"] (aB K aR)) (Ml:fP P w K mg base 4 "kinds_of" ["m"] (aB K aW)) (nK:fP P w K mg base 1 "_law_digit" ["_law_cell", "_law_way", "_law_many"] (aB K ao)) (CY:fP P w K mg base 1 "_law_cell_at" ["_law_script", "_law_k"] (aB K aA)) (E7:fP P w K mg base 2 "_law_draw" ["_law_script", "_law_k", "_law_way", "_law_many"] (aB K aH)) (Mm:Bn P w K mg base rn 5 "alike" ["m", "p", "q"] b_) (dY':fP P w K mg base 6 "_law_refused" ["_law_m", "_law_p", "_law_q"] (aB K aQ)):hJ P w K mg base ke 7 f fd ["_law_script"] (aB K IB) :=
 vv.ok (t:=BK) F yO BL (fun cE A outer s H E hr =>
  have nd:=yO.nd
  have hu:=hr.units
  (ak (Bg (i:=1) (j:=2) rfl nd rfl (Or.inr rfl) rfl (Or.inl rfl) (ct' (bh dX' (hr.mono (by decide)) (aa (qv 0) (aa aq au)))))
   (ak (bR 1 (aG (i:=3) nd rfl (Or.inl rfl) (e_ (aa (qv 1) (aa (qK rD BX rfl T.Mi zF (qv 2)) au)))))
   (ak (aG (i:=4) nd rfl (Or.inl rfl) (bh Ml (hr.mono (by decide)) (aa (qv 3) au)))
   (ak (eX (i:=5) (tn:=["_law_k"]) (cn:=["_law_many", "_law_script"]) (ix:=[1,0]) nd rfl (Or.inl rfl) rfl (ig (bY T.ox aq)) (bV.of (sc:=cy jM) (N:=yZ) rfl rfl (by decide +kernel)) (fun _ _ _ _=>(aJ (i:=0) (show(["_law_k", "_law_many", "_law_script"]:List Str).Nodup by decide +kernel) rfl (Or.inl rfl) (.inr rfl))) (fun _ _ _ _=>cT) (fun _ _ _ _=>(e_ (aa (bh E7 (hr.mono (by decide)) (aa (qv 2) (aa (bA aq (qv 0)) (aa aq (aa (qv 1) au))))) (aa (bh E7 (hr.mono (by decide)) (aa (qv 2) (aa (bA aq (qv 0)) (aa aq (aa (qv 1) au))))) au)))))
   (ak (qP (gC (pv 5)) (e_ (aa (gd hu (gd hu (qv 5) aq) aq) (aa (gd hu (gd hu (qv 5) aq) aq) au))))
   (ak (bR 5 (d_ PassesOwn.never rfl (gP (qv 5)) (mZ rfl (bO (aJ (i:=6) nd rfl (Or.inl rfl)) (bO (aJ (i:=7) nd rfl (Or.inl rfl)) jz)))
   (az (bR 7 (bR 6 (d_ PassesOwn.never rfl (gP (jn (aa (e_ (aa (qv 6) (aa (qv 7) au))) (aa (e_ (aa (qv 7) (aa (qv 6) au))) au)))) (mZ rfl (bO (aJ (i:=8) nd rfl (Or.inl rfl)) (bO (aJ (i:=9) nd rfl (Or.inl rfl)) jz)))
   (ak (aG (i:=10) nd rfl (Or.inl rfl) (vf Mm (hr.mono (by decide)) (aa (qv 3) (aa (qv 8) (aa (qv 9) au)))))
   (az (dN (NV (Ak (m_ (oE (FJ T.BF (qv 10) (Dd T.Mf Ab)))) (uB (cB (Uz (K:=K) hu) DK (qv 10) (vy (rV (K:=K) hu) gn (gd hu (qv 4) (qv 8)) (gd hu (qv 4) (qv 9)) (lh _)) (lh _)))))
   (az (cj A4))
   bj)))))))))
   (ak (dN (cB (rV (K:=K) hu) gn (bh nK (hr.mono (by decide)) (aa (bh CY (hr.mono (by decide)) (aa (qv 0) (aa aq au))) (aa aq (aa aq au)))) aq (lh _))
   (ak (aG (i:=11) nd rfl (Or.inl rfl) (sO (qv 1) aq))
   (az (dN (cB Aj Ci (vf Mm (hr.mono (by decide)) (aa (qv 3) (aa (iC (qv 6) (qv 11)) (aa (bA (iC (qv 6) (qv 11)) (qv 11)) au)))) A4 (lh _))
   (az (cj A4))
   bj)))
   bj)
   (ak (aG (i:=12) nd rfl (Or.inl rfl) (iC (bh CY (hr.mono (by decide)) (aa (qv 0) (aa aq au))) (Hh aq aq)))
   (ak (bR 1 (d_ PassesOwn.never rfl (gP (jn (aa (tW aq) (aa (qv 1) (aa (CK (tW aq) (qv 12)) (aa (bA (bA (qv 1) aq) (qv 12)) au)))))) (aJ (i:=13) nd rfl (Or.inl rfl))
   (az (bR 1 (bR 6 (bR 7 (bR 13 (d_ PassesOwn.never rfl (gP (jn (aa (e_ (aa (qv 13) (aa (qv 7) au))) (aa (e_ (aa (qv 6) (aa (qv 13) au))) (aa (e_ (aa (qv 13) (aa (qv 1) au))) (aa (e_ (aa (tW aq) (aa (qv 13) au))) au)))))) (mZ rfl (bO (aJ (i:=8) nd rfl (Or.inl rfl)) (bO (aJ (i:=9) nd rfl (Or.inl rfl)) jz)))
   (az (dN (m_ (oE (bh dY' (hr.mono (by decide)) (aa (qv 3) (aa (qv 8) (aa (qv 9) au))))))
   (az (cj A4))
   bj))))))))))
   (az (bR 2 (bR 1 (cj (GK (vy Ek CT (vf Mm (hr.mono (by decide)) (aa (qv 3) (aa (qv 6) (aa (qv 6) au)))) A4 (lh _)) (Gg (vy (rV (K:=K) hu) gn (qv 3) (e_ (aa (qv 1) (aa (qv 2) au))) (lh _)))))))))))))))))) Gv
end
theorem Ow{us:List Value}(h:us.length=1):∃ a0,us=[a0]:=by
 cases us with
 |nil=>simp at h
 |cons a0 us =>
 cases us with
 |nil=>exact⟨_,rfl⟩
 |cons b us=>simp at h
theorem Ox{us:List Value}(h:us.length=2):∃ a0 a1,us=[a0,a1]:=by
 cases us with
 |nil=>simp at h
 |cons a0 us =>
 cases us with
 |nil=>simp at h
 |cons a1 us =>
 cases us with
 |nil=>exact⟨_,_,rfl⟩
 |cons b us=>simp at h
theorem Oy{us:List Value}(h:us.length=3):∃ a0 a1 a2,us=[a0,a1,a2]:=by
 cases us with
 |nil=>simp at h
 |cons a0 us =>
 cases us with
 |nil=>simp at h
 |cons a1 us =>
 cases us with
 |nil=>simp at h
 |cons a2 us =>
 cases us with
 |nil=>exact⟨_,_,_,rfl⟩
 |cons b us=>simp at h
theorem us4{us:List Value}(h:us.length=4):∃ a0 a1 a2 a3,us=[a0,a1,a2,a3]:=by
 cases us with
 |nil=>simp at h
 |cons a0 us =>
 cases us with
 |nil=>simp at h
 |cons a1 us =>
 cases us with
 |nil=>simp at h
 |cons a2 us =>
 cases us with
 |nil=>simp at h
 |cons a3 us =>
 cases us with
 |nil=>exact⟨_,_,_,_,rfl⟩
 |cons b us=>simp at h
theorem all_mk {l:PySem.W.OpenLaw} {w:World} {K:PySem.W.Frag} {h:Heap} {mg:Str->Option Value} {fa:Addr} (X:K.In h) (G:h.Ns mainGlobals mg) (hfa:mg "law" = some (.ref fa))
  (a0:PySem.W.nsIn K mainGlobals "check_state" = some (some (.ref f0))) (l0:K.lookup f0=some ⟨o0,d0,.func (PySem.W.fnOf "check_state" "check_state" (kC aK) (iP aK) (cy aK) .none v0 j0 p0 e0 r0 u0),t0⟩) (c0:PySem.W.codeIn K r0 "check_state" = true) (k0:PySem.W.keepIn K (.ref f0)=true)
  (a1:PySem.W.nsIn K mainGlobals "exits_of" = some (some (.ref f1))) (l1:K.lookup f1=some ⟨o1,d1,.func (PySem.W.fnOf "exits_of" "exits_of" (kC b8) (iP b8) (cy b8) .none v1 j1 p1 e1 r1 u1),t1⟩) (c1:PySem.W.codeIn K r1 "exits_of" = true) (k1:PySem.W.keepIn K (.ref f1)=true)
  (a2:PySem.W.nsIn K mainGlobals "key_of" = some (some (.ref f2))) (l2:K.lookup f2=some ⟨o2,d2,.func (PySem.W.fnOf "key_of" "key_of" (kC dF) (iP dF) (cy dF) .none v2 j2 p2 e2 r2 u2),t2⟩) (c2:PySem.W.codeIn K r2 "key_of" = true) (k2:PySem.W.keepIn K (.ref f2)=true)
  (a3:PySem.W.nsIn K mainGlobals "ranks_behind" = some (some (.ref f3))) (l3:K.lookup f3=some ⟨o3,d3,.func (PySem.W.fnOf "ranks_behind" "ranks_behind" (kC aM) (iP aM) (cy aM) .none v3 j3 p3 e3 r3 u3),t3⟩) (c3:PySem.W.codeIn K r3 "ranks_behind" = true) (k3:PySem.W.keepIn K (.ref f3)=true)
  (a4:PySem.W.nsIn K mainGlobals "rounds_of" = some (some (.ref f4))) (l4:K.lookup f4=some ⟨o4,d4,.func (PySem.W.fnOf "rounds_of" "rounds_of" (kC bW) (iP bW) (cy bW) .none v4 j4 p4 e4 r4 u4),t4⟩) (c4:PySem.W.codeIn K r4 "rounds_of" = true) (k4:PySem.W.keepIn K (.ref f4)=true)
  (a5:PySem.W.nsIn K mainGlobals "kinds_of" = some (some (.ref f5))) (l5:K.lookup f5=some ⟨o5,d5,.func (PySem.W.fnOf "kinds_of" "kinds_of" (kC cG) (iP cG) (cy cG) .none v5 j5 p5 e5 r5 u5),t5⟩) (c5:PySem.W.codeIn K r5 "kinds_of" = true) (k5:PySem.W.keepIn K (.ref f5)=true)
  (a6:PySem.W.nsIn K mainGlobals "alike" = some (some (.ref f6))) (l6:K.lookup f6=some ⟨o6,d6,.func (PySem.W.fnOf "alike" "alike" (kC cV) (iP cV) (cy cV) .none v6 j6 p6 e6 r6 u6),t6⟩) (c6:PySem.W.codeIn K r6 "alike" = true) (k6:PySem.W.keepIn K (.ref f6)=true)
  (a7:PySem.W.nsIn K mainGlobals "_law_cell_at" = some (some (.ref f7))) (l7:K.lookup f7=some ⟨o7,d7,.func (PySem.W.fnOf "_law_cell_at" "_law_cell_at" (kC aY) (iP aY) (cy aY) .none v7 j7 p7 e7 r7 u7),t7⟩) (c7:PySem.W.codeIn K r7 "_law_cell_at" = true) (k7:PySem.W.keepIn K (.ref f7)=true)
  (a8:PySem.W.nsIn K mainGlobals "_law_digit" = some (some (.ref f8))) (l8:K.lookup f8=some ⟨o8,d8,.func (PySem.W.fnOf "_law_digit" "_law_digit" (kC bJ) (iP bJ) (cy bJ) .none v8 j8 p8 e8 r8 u8),t8⟩) (c8:PySem.W.codeIn K r8 "_law_digit" = true) (k8:PySem.W.keepIn K (.ref f8)=true)
  (a9:PySem.W.nsIn K mainGlobals "_law_menu" = some (some (.ref f9))) (l9:K.lookup f9=some ⟨o9,d9,.func (PySem.W.fnOf "_law_menu" "_law_menu" (kC aP) (iP aP) (cy aP) .none v9 j9 p9 e9 r9 u9),t9⟩) (c9:PySem.W.codeIn K r9 "_law_menu" = true) (k9:PySem.W.keepIn K (.ref f9)=true)
  (RN:PySem.W.nsIn K mainGlobals "_law_draw" = some (some (.ref Wq))) (l10:K.lookup Wq=some ⟨i3,d10,.func (PySem.W.fnOf "_law_draw" "_law_draw" (kC b7) (iP b7) (cy b7) .none v10 j10 p10 e10 Qb u10),t10⟩) (RP:PySem.W.codeIn K Qb "_law_draw" = true) (RQ:PySem.W.keepIn K (.ref Wq)=true)
  (RT:PySem.W.nsIn K mainGlobals "_law_machine" = some (some (.ref Wr))) (RV:K.lookup Wr=some ⟨pS,d11,.func (PySem.W.fnOf "_law_machine" "_law_machine" (kC a_) (iP a_) (cy a_) .none v11 j11 p11 e11 r11 u11),t11⟩) (RW:PySem.W.codeIn K r11 "_law_machine" = true) (RX:PySem.W.keepIn K (.ref Wr)=true)
  (RZ:PySem.W.nsIn K mainGlobals "_law_refused" = some (some (.ref Ws))) (R0:K.lookup Ws=some ⟨Ma,d12,.func (PySem.W.fnOf "_law_refused" "_law_refused" (kC aZ) (iP aZ) (cy aZ) .none v12 j12 p12 e12 r12 u12),t12⟩) (R1:PySem.W.codeIn K r12 "_law_refused" = true) (R3:PySem.W.keepIn K (.ref Ws)=true)
  (R4:PySem.W.nsIn K mainGlobals "law" = some (some (.ref Wt))) (R5:K.lookup Wt=some ⟨xA,d13,.func (PySem.W.fnOf "law" "law" (kC jM) (iP jM) (cy jM) .none v13 j13 p13 e13 Wu u13),t13⟩) (R6:PySem.W.codeIn K Wu "law" = true) (R7:PySem.W.keepIn K (.ref Wt)=true)
  (Mb:PySem.W.nsIn K mainGlobals "ValueError" = some none)
  (Mf:PySem.W.nsIn K mainGlobals "bool" = some none)
  (Mh:PySem.W.nsIn K mainGlobals "int" = some none)
  (BF:PySem.W.nsIn K mainGlobals "isinstance" = some none)
  (E5:PySem.W.nsIn K mainGlobals "len" = some none)
  (Mi:PySem.W.nsIn K mainGlobals "list" = some none)
  (Mj:PySem.W.nsIn K mainGlobals "min" = some none)
  (ox:PySem.W.nsIn K mainGlobals "range" = some none)
  (Mk:PySem.W.nsIn K mainGlobals "set" = some none)
  (E6:PySem.W.nsIn K mainGlobals "sorted" = some none)
  {Dp:Addr} (R8:PySem.W.nsIn K mainGlobals "KinError" = some (some (.ref Dp)))
  {Wv:Addr} (R9:PySem.W.nsIn K mainGlobals "NoDeed" = some (some (.ref Wv)))
  {Ww:Addr} (R_:PySem.W.nsIn K mainGlobals "NoFrame" = some (some (.ref Ww)))
  {Wx:Addr} (Sb:PySem.W.nsIn K mainGlobals "NoMachine" = some (some (.ref Wx)))
  {Wy:Addr} (Sd:PySem.W.nsIn K mainGlobals "NoName" = some (some (.ref Wy)))
  {Wz:Addr} (Se:PySem.W.nsIn K mainGlobals "NoRow" = some (some (.ref Wz)))
  {WB:Addr} (Sf:PySem.W.nsIn K mainGlobals "NoScroll" = some (some (.ref WB)))
  {lP:Addr} (Sg:PySem.W.nsIn K mainGlobals "NoState" = some (some (.ref lP)))
  {WC:Addr} (Sh:PySem.W.nsIn K mainGlobals "NoText" = some (some (.ref WC)))
  {WD:Addr} (Si:PySem.W.nsIn K mainGlobals "TooBig" = some (some (.ref WD)))
  (Sj:PySem.W.excIn K Dp [.type "ValueError",.type "Exception",.type "BaseException",.type "object"] "ValueError.__new__" = true) (Sn:PySem.W.findIn K (.ref Dp) "__getattr__" = some none) (Sq:PySem.W.findIn K (.ref Dp) "__getattribute__" = some (some (.builtin "BaseException.__getattribute__"))) (Sr:PySem.W.findIn K (.ref Dp) "__class__" = some (some (.builtin "object.__class__"))) (Ss:PySem.W.mroIn K Dp (.type "object")=some true)
  (Sv:PySem.W.excIn K lP [.type "ValueError",.type "Exception",.type "BaseException",.type "object"] "ValueError.__new__" = true) (Sw:PySem.W.findIn K (.ref lP) "__getattr__" = some none) (Sx:PySem.W.findIn K (.ref lP) "__getattribute__" = some (some (.builtin "BaseException.__getattribute__"))) (Sy:PySem.W.findIn K (.ref lP) "__class__" = some (some (.builtin "object.__class__"))) (Sz:PySem.W.mroIn K lP (.type "object")=some true)
  (SD:PySem.W.mroIn K lP (.ref Dp)=some true)
  (SF:PySem.W.kitOne K (.ref lP) (.ref lP)=some true)
  (SG:PySem.W.kitOne K (.ref lP) (.type "ValueError")=some true)
  (SJ:PySem.W.kitOne K (.ref lP) (.ref Wx)=some false)
  (SK:PySem.W.kitOne K (.ref lP) (.ref WD)=some false)
  (SN:PySem.W.kitOne K (.ref lP) (.ref Wv)=some false)
  (SQ:PySem.W.kitOne K (.ref lP) (.ref WC)=some false)
  (SV:PySem.W.kitOne K (.ref lP) (.ref Ww)=some false)
  (SW:PySem.W.kitOne K (.ref lP) (.ref WB)=some false)
  (SX:PySem.W.kitOne K (.ref lP) (.ref Wy)=some false)
  (SY:PySem.W.kitOne K (.ref lP) (.ref Wz)=some false)
  : ∃ fd:FuncData,(∀ (s:Shared) (v:Value),BindsTo s fd ⟨[v],[]⟩ [("_law_script",v)])/\∀ base:Heap,K.In base->base.Ns mainGlobals mg->hJ l.prog w K mg base ke 7 fa fd ["_law_script"] (aB K IB):=by
 have e:=hfa.symm.trans (PySem.W.mg_of X G R4)
 cases e
 have ej':=PySem.W.mg_of X G R8
 have ek':=PySem.W.mg_of X G R9
 have el':=PySem.W.mg_of X G R_
 have em':=PySem.W.mg_of X G Sb
 have en':=PySem.W.mg_of X G Sd
 have eo':=PySem.W.mg_of X G Se
 have eq':=PySem.W.mg_of X G Sf
 have S0:=PySem.W.mg_of X G Sg
 have er':=PySem.W.mg_of X G Sh
 have et':=PySem.W.mg_of X G Si
 have eu':ll K Dp:=⟨Sj,Sn,Sq,Sr,Ss⟩
 have WH:ll K lP:=⟨Sv,Sw,Sx,Sy,Sz⟩
 have each:∀ {G:Str->Addr->Prop},G "NoState" lP->∀ n C,n∈rn->mg n=some (.ref C)->G n C:=by
  intro G ev' n C hn hm
  simp only[rn,cK,zD,or_false] at hn
  rcases hn with rfl
  ·rw[S0] at hm;cases hm;exact ev'
 have T:Txt K mg:=⟨PySem.W.mg_none_of X G Mb,PySem.W.mg_none_of X G Mf,PySem.W.mg_none_of X G Mh,PySem.W.mg_none_of X G BF,PySem.W.mg_none_of X G E5,PySem.W.mg_none_of X G Mi,PySem.W.mg_none_of X G Mj,PySem.W.mg_none_of X G ox,PySem.W.mg_none_of X G Mk,PySem.W.mg_none_of X G E6,⟨_,S0,WH⟩,⟨_,ej',eu',each ⟨WH,SD⟩⟩,each ⟨_,S0,SF⟩,each SG,each ⟨_,em',SJ⟩,each ⟨_,et',SK⟩,each ⟨_,ek',SN⟩,each ⟨_,er',SQ⟩,each ⟨_,el',SV⟩,each ⟨_,eq',SW⟩,each ⟨_,en',SX⟩,each ⟨_,eo',SY⟩⟩
 have F0:=rS (st:=aK) l0 c0 k0
 have F1:=rS (st:=b8) l1 c1 k1
 have F2:=rS (st:=dF) l2 c2 k2
 have F3:=rS (st:=aM) l3 c3 k3
 have F4:=rS (st:=bW) l4 c4 k4
 have F5:=rS (st:=cG) l5 c5 k5
 have F6:=rS (st:=cV) l6 c6 k6
 have F7:=rS (st:=aY) l7 c7 k7
 have F8:=rS (st:=bJ) l8 c8 k8
 have F9:=rS (st:=aP) l9 c9 k9
 have WK:=rS (st:=b7) l10 RP RQ
 have WL:=rS (st:=a_) RV RW RX
 have WM:=rS (st:=aZ) R0 R1 R3
 have F13:=rS (st:=jM) R5 R6 R7
 refine⟨PySem.W.fnOf "law" "law" (kC jM) (iP jM) (cy jM) .none v13 j13 p13 e13 Wu u13,fun s v=>.of_eq rfl,fun base _ _=>?_⟩
 have C0:Bn l.prog w K mg base rn 1 "check_state" ["m", "state"] aL:=iq.V3 F0 (PySem.W.mg_of X G a0) (jQ F0 T ) fun _ _ _ _ _ _ us hl=>by obtain⟨_,_,rfl⟩:=Ox hl;rfl
 have C1:fP l.prog w K mg base 1 "exits_of" ["m"] (aB K bZ):=F1.wq (PySem.W.mg_of X G a1) (pH F1 T ) fun _ _ _ _ _ _ us hl=>by obtain⟨_,rfl⟩:=Ow hl;rfl
 have C2:fP l.prog w K mg base 1 "key_of" ["exits", "ranks", "state"] (aB K dh):=F2.wq (PySem.W.mg_of X G a2) (t_ F2 T ) fun _ _ _ _ _ _ us hl=>by obtain⟨_,_,_,rfl⟩:=Oy hl;rfl
 have C7:fP l.prog w K mg base 1 "_law_cell_at" ["_law_script", "_law_k"] (aB K aA):=F7.wq (PySem.W.mg_of X G a7) (iQ F7 T ) fun _ _ _ _ _ _ us hl=>by obtain⟨_,_,rfl⟩:=Ox hl;rfl
 have C8:fP l.prog w K mg base 1 "_law_digit" ["_law_cell", "_law_way", "_law_many"] (aB K ao):=F8.wq (PySem.W.mg_of X G a8) (mK F8 T ) fun _ _ _ _ _ _ us hl=>by obtain⟨_,_,_,rfl⟩:=Oy hl;rfl
 have C3:fP l.prog w K mg base 2 "ranks_behind" ["exits", "ranks"] (aB K aN):=F3.wq (PySem.W.mg_of X G a3) (jD F3 T C2) fun _ _ _ _ _ _ us hl=>by obtain⟨_,_,rfl⟩:=Ox hl;rfl
 have C9:fP l.prog w K mg base 2 "_law_menu" ["_law_cell"] (aB K bM):=F9.wq (PySem.W.mg_of X G a9) (oJ F9 T C8) fun _ _ _ _ _ _ us hl=>by obtain⟨_,rfl⟩:=Ow hl;rfl
 have WN:fP l.prog w K mg base 2 "_law_draw" ["_law_script", "_law_k", "_law_way", "_law_many"] (aB K aH):=WK.wq (PySem.W.mg_of X G RN) (m7 WK T C7 C8) fun _ _ _ _ _ _ us hl=>by obtain⟨_,_,_,_,rfl⟩:=us4 hl;rfl
 have C4:fP l.prog w K mg base 3 "rounds_of" ["m"] (aB K bL):=F4.wq (PySem.W.mg_of X G a4) (oN F4 T C1 C3) fun _ _ _ _ _ _ us hl=>by obtain⟨_,rfl⟩:=Ow hl;rfl
 have C11:fP l.prog w K mg base 3 "_law_machine" ["_law_script", "_law_most"] (aB K aR):=WL.wq (PySem.W.mg_of X G RT) (iT WL T C7 C8 C9 WN) fun _ _ _ _ _ _ us hl=>by obtain⟨_,_,rfl⟩:=Ox hl;rfl
 have C5:fP l.prog w K mg base 4 "kinds_of" ["m"] (aB K aW):=F5.wq (PySem.W.mg_of X G a5) (oX F5 T C4) fun _ _ _ _ _ _ us hl=>by obtain⟨_,rfl⟩:=Ow hl;rfl
 have C6:Bn l.prog w K mg base rn 5 "alike" ["m", "p", "q"] b_:=iq.V3 F6 (PySem.W.mg_of X G a6) (yo F6 T C0 C5) fun _ _ _ _ _ _ us hl=>by obtain⟨_,_,_,rfl⟩:=Oy hl;rfl
 have C12:fP l.prog w K mg base 6 "_law_refused" ["_law_m", "_law_p", "_law_q"] (aB K aQ):=WM.wq (PySem.W.mg_of X G RZ) (i_ WM T C6) fun _ _ _ _ _ _ us hl=>by obtain⟨_,_,_,rfl⟩:=Oy hl;rfl
 exact dW' F13 T C11 C5 C8 C7 WN C6 C12
theorem walk{l:PySem.W.OpenLaw}{q:Program}{loose:List Str}{XP:(Str->Option Value)->Heap->Prop}{YP:World->Heap->Prop}{d:DefRec}{K:Params->PySem.W.Frag}(hn:l.most=some 63)(K5:d.params.defaults=[])
  (hY:∀ (w:World) (h:Heap),YP w h->(K w.params).In h)
  (F:∀ (w:World) (mg:Str->Option Value) (fa:Addr) (h:Heap),(K w.params).In h->h.Ns mainGlobals mg->mg d.name=some (.ref fa) ->
   ∃ fd:FuncData,(∀ (s:Shared) (u:Value),BindsTo s fd ⟨[u],[]⟩ [("_law_script",u)])/\∀ base:Heap,(K w.params).In base->base.Ns mainGlobals mg->hJ l.prog w (K w.params) mg base ke 7 fa fd ["_law_script"] (aB (K w.params) IB)) :
  PySem.W.WalkO q loose XP YP l.row.toRowW d [] (fun f vs=>PySem.call f vs) :=
 L2.Zz (n:=63) (k:=7) (x := "_law_script") (CX:=fun _=>ke) (sp:=fun w=>aB (K w.params) IB) hn (by decide) K5 ⟨rfl,by decide,by decide⟩ hY F (fun w H a ns hl hO hS=>x_ hl hS) fun _ _ _ _ _ z=>z
end L2.Q.RC
open PySem PySem.W PyProof.Rows
namespace PySem.W.Fast
def tw16144475935337593861:=0
def tw12556946443531011884:=0
def tw13079083592283428805:=0
def tw1664461064082264448:=0
def tw8100301893006987096:=0
def tw7570437679675439984:=0
def tw6606946638020824548:=0
def tw2497531804040831094:=0
def tw11531730905798568879:=0
def tw3727337755236709923:=0
def tw2311825864698895961:=0
def tw12511557244941204290:=0
def tw6719124753543472610:=0
def tw10301605344051522473:=0
def tw10616414337363830450:=0
def tw3888203208155065979:=0
def tw9304617704456795331:=0
def tw15319451775358253523:=0
def tw1319924044874964881:=0
def tw7210913521253192554:=0
def tw9025461014394167005:=0
def tw8467275787667022238:=0
def tw6112743917500245045:=0
def tw12147021619153584196:=0
def tw11609516453477383986:=0
def tw15790518298039605630:=0
def tw4346135552409086528:=0
def tw13936334241357841522:=0
def tw8845304753926495255:=0
def tw4333608459931340551:=0
end PySem.W.Fast
set_option maxRecDepth 100000 in
set_option maxHeartbeats 0 in
theorem PySem.Challenge.cw_kinlook_k32_alike_two_holds : PySem.Challenge.rw_kinlook_k32_alike_two.Holds := by
 w_on;o_law;k_head;(case hw=>w_witness2)
 k_fill
 refine L2.Q.RC.walk (l:=PySem.Challenge.rw_kinlook_k32_alike_two) rfl rfl (fun w h Y=>PySem.W.kIn_of Y) ?F
 case F =>
  intro w mg fa h KX G K6
  refine' L2.Q.RC.all_mk KX G K6 ?a0 ?l0 ?c0 ?k0 ?a1 ?l1 ?c1 ?k1 ?a2 ?l2 ?c2 ?k2 ?a3 ?l3 ?c3 ?k3 ?a4 ?l4 ?c4 ?k4 ?a5 ?l5 ?c5 ?k5 ?a6 ?l6 ?c6 ?k6 ?a7 ?l7 ?c7 ?k7 ?a8 ?l8 ?c8 ?k8 ?a9 ?l9 ?c9 ?k9 ?RN ?l10 ?RP ?RQ ?RT ?RV ?RW ?RX ?RZ ?R0 ?R1 ?R3 ?R4 ?R5 ?R6 ?R7 ?Mb ?Mf ?Mh ?BF ?E5 ?Mi ?Mj ?ox ?Mk ?E6 ?R8 ?R9 ?R_ ?Sb ?Sd ?Se ?Sf ?Sg ?Sh ?Si ?Sj ?Sn ?Sq ?Sr ?Ss ?Sv ?Sw ?Sx ?Sy ?Sz ?SD ?SF ?SG ?SJ ?SK ?SN ?SQ ?SV ?SW ?SX ?SY
  (case a0=>k_is)
  (case l0=>k_is)
  (case c0=>k_is)
  (case k0=>k_is)
  (case a1=>k_is)
  (case l1=>k_is)
  (case c1=>k_is)
  (case k1=>k_is)
  (case a2=>k_is)
  (case l2=>k_is)
  (case c2=>k_is)
  (case k2=>k_is)
  (case a3=>k_is)
  (case l3=>k_is)
  (case c3=>k_is)
  (case k3=>k_is)
  (case a4=>k_is)
  (case l4=>k_is)
  (case c4=>k_is)
  (case k4=>k_is)
  (case a5=>k_is)
  (case l5=>k_is)
  (case c5=>k_is)
  (case k5=>k_is)
  (case a6=>k_is)
  (case l6=>k_is)
  (case c6=>k_is)
  (case k6=>k_is)
  (case a7=>k_is)
  (case l7=>k_is)
  (case c7=>k_is)
  (case k7=>k_is)
  (case a8=>k_is)
  (case l8=>k_is)
  (case c8=>k_is)
  (case k8=>k_is)
  (case a9=>k_is)
  (case l9=>k_is)
  (case c9=>k_is)
  (case k9=>k_is)
  (case RN=>k_is)
  (case l10=>k_is)
  (case RP=>k_is)
  (case RQ=>k_is)
  (case RT=>k_is)
  (case RV=>k_is)
  (case RW=>k_is)
  (case RX=>k_is)
  (case RZ=>k_is)
  (case R0=>k_is)
  (case R1=>k_is)
  (case R3=>k_is)
  (case R4=>k_is)
  (case R5=>k_is)
  (case R6=>k_is)
  (case R7=>k_is)
  (case Mb=>k_is)
  (case Mf=>k_is)
  (case Mh=>k_is)
  (case BF=>k_is)
  (case E5=>k_is)
  (case Mi=>k_is)
  (case Mj=>k_is)
  (case ox=>k_is)
  (case Mk=>k_is)
  (case E6=>k_is)
  (case R8=>k_is)
  (case R9=>k_is)
  (case R_=>k_is)
  (case Sb=>k_is)
  (case Sd=>k_is)
  (case Se=>k_is)
  (case Sf=>k_is)
  (case Sg=>k_is)
  (case Sh=>k_is)
  (case Si=>k_is)
  (case Sj=>k_exc)
  (case Sn=>k_is)
  (case Sq=>k_is)
  (case Sr=>k_is)
  (case Ss=>k_is)
  (case Sv=>k_exc)
  (case Sw=>k_is)
  (case Sx=>k_is)
  (case Sy=>k_is)
  (case Sz=>k_is)
  (case SD=>k_is)
  (case SF=>kit_is)
  (case SG=>kit_is)
  (case SJ=>kit_is)
  (case SK=>kit_is)
  (case SN=>kit_is)
  (case SQ=>kit_is)
  (case SV=>kit_is)
  (case SW=>kit_is)
  (case SX=>kit_is)
  (case SY=>kit_is)
