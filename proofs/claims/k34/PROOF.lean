import PyProof.Rows.All
import Wide.All
import OpenK.AllK
import Wide.FinOn
import Lean
import PyProof.EqAt
import PyProof.EqKinds
import PyProof.TupleCall
import PyProof.CompUse
import PyProof.NeData
import PyProof.WalksEnum
import PyProof.EnumMake
import PyProof.ZipIter
import PyProof.Rows.EnumRows
import PyProof.Rows.FactsT2
import KE.KDictList
import PyProof.Rows.SortRuns
import PyProof.Rows.SortWalk
import KE.KSortTup
import PyProof.Rows.SortStr
import PyProof.ListRange
import PyProof.StrOps2
import PyProof.StrBlock2
import PyProof.AutoIntG3
import PyProof.ListMulRight
import PyProof.Rows.ListMulArg
import PyProof.Rows.CallKwBuiltin
import PyProof.Rows.StrMul
import KE.KMinBuiltin
import PyProof.TupleKey
import PyProof.SetKind
import PyProof.Rows.SetFrom
import PyProof.DictWalks
import KE.KRevIter
import PyProof.NsDelKeeps
import PyProof.AutoSeq1
import PyProof.P3Eq
import PyProof.MeetsSeq3
import PyProof.FactsAll.list_2
import PyProof.FactsAll.tuple_2
import PyProof.Rows.RowHeap
import PyProof.FactsAll.list_3
import KE.KItem
import PyProof.MeetsSeq
import PyProof.FactsAll.list_4
import PySem.Challenge.RW_kinlook_k34_table_told
open PySem renaming wpAny_bind->ai,wpAny_pure->aC,wpAny_mono->qf
open List renaming mem_cons_of_mem->ck,mem_cons_self->cq,length_map->cE,mem_append_right->fq,getElem?_eq_some_iff->ic,mem_cons->dc,mem_append->dP,mem_map->df,size_toArray->ip,mem_append_left->kr,map_cons->ft,getElem?_eq_getElem->mE,mem_of_getElem?->kH,nodup_append->kc,sublist_append_right->oI,mem_singleton->kP,getElem?_map->kQ,nodup_cons->kA,map_map->iA,length_take->mG,length_append->qh,drop_eq_getElem_cons->xk,mem_range->mI,getElem?_eq_none->tP,pairwise_map->qk,getElem?_append_right->yT,append_nil->oP,nodup_nil->oQ,pairwise_iff_getElem->AR,length_cons->sD,zip_cons_cons->vS,filterMap_cons->y2,replicate_succ->y3,append_assoc->xl,mem_filter->vT,getElem?_append_left->Ee,flatten_cons->AU,map_append->y6,take_length->AV,eraseIdx_cons_succ->FP,ext_getElem?->CH,take_add_one->CL,nil_append->AW,getD_eq_getElem?_getD->LG,length_drop->CM,not_mem_nil->CY,any_eq_true->Dp,getElem_mem->Dx,sublist_append_left->LH,getElem?_set_ne->FR,pairwise_append->FT,all_cons->AX,any_cons->AY,map_congr_left->FU,append_eq_nil_iff->LJ,nodup_iff_pairwise_ne->Pt,mem_iff_getElem?->LM,all_eq_true->FV,nil_sublist->FX,length_eq_zero_iff->Pu,getElem?_set_self->Pw,find?_cons->FY,take_of_length_le->Px,length_pos_of_mem->Py,take_append_drop->Pz,mem_of_mem_take->PB,length_eraseIdx->PC,map_fst_zip->LN,extract_eq_drop_take->RX,getElem?_replicate->RZ,length_range->PD,drop_of_length_le->R0,length_replicate->R1,perm_append_comm->R3,countP_cons->PF,cons_ne_nil->PH,mem_of_mem_drop->R4,mem_iff_getElem->R5,length_zip->PJ,length_set->PK,mem_filterMap->R6,filterMap_map->R7,contains_cons->R8,lookup_cons->R9,drop_length->R_,all_map->PL
open PySem.Heap renaming get?_push_of_some->eS,lt_size->dv,get?_push_size->i3,get?_update_self->GA,get?_update_other->LP,get?_push_ne->GB,size_update->GH
open Nat renaming le_refl->bT,ne_of_lt->eT,zero_le->eI,lt_of_lt_of_le->ly,le_trans->iS,le_of_lt->kR,lt_succ_of_lt->tS,lt_irrefl->sF,zero_add->sL,pow_succ->y8,le_of_not_lt->LS,not_lt_zero->EA,lt_succ_of_le->GL,add_sub_of_le->LV,mul_assoc->GN,one_pos->EB,le_of_eq->GO,add_zero->GP,lt_or_ge->GU,lt_of_succ_lt->Sb,le_of_lt_succ->PN,sub_lt->EC,le_add_right->Sd,ne_of_gt->LW,mod_lt->GV,lt_of_le_of_lt->ZT,lt_trans->Se,add_comm->PQ,min_self->PR,mul_comm->PX,succ_pos->PY
open Bool renaming false_eq_true->gu,false_ne_true->g9,and_eq_true->lI,eq_iff_iff->wa,not_true->GW,not_eq_true'->Sf,and_true->PZ
open Array renaming getElem?_toList->mM,toList_push->oi,getElem?_eq_getElem->y9,getD_eq_getD_getElem?->DB,getElem?_eq_none->DC,length_toList->AZ,getElem?_eq_some_iff->GY,size_extract->ED,eq_empty_of_size_eq_zero->P0,append_assoc->LZ,getElem?_extract->P1,toArray_toList->P4,perm_iff_toList_perm->Sg,toList_inj->P5,toList_extract->Sh,append_empty->Si
open Int renaming toNat_of_nonneg->tT,le_trans->wc,le_refl->wd,le_of_lt->A3,toNat_natCast->G0,mul_nonneg->P6,emod_lt_of_pos->Sj
open Option renaming map_eq_some_iff->L4
local macro_rules | `(command| def $i:declId $s:optDeclSig $v:declVal)=>`(command| noncomputable def $i:declId $s:optDeclSig $v:declVal)
local macro_rules | `(command| abbrev $i:declId $s:optDeclSig $v:declVal)=>`(command| noncomputable abbrev $i:declId $s:optDeclSig $v:declVal)
set_option compiler.extract_closed false
local macro_rules | `(tactic| walk_at "l") => `(tactic| first | lia | omega)
local macro_rules | `(tactic| walk_at "s1") => `(tactic| solve_by_elim (maxDepth := 4) [Nat.lt_of_lt_of_le, Nat.lt_of_le_of_lt, Nat.le_trans, Nat.lt_trans, Nat.le_of_lt, Nat.le_of_not_lt])
local macro_rules | `(tactic| walk_at "s2") => `(tactic| solve_by_elim (maxDepth := 5) [Nat.lt_of_lt_of_le, Nat.lt_of_le_of_lt, Nat.le_trans, Nat.le_of_lt, Nat.le_of_not_lt, Nat.lt_of_not_le, Nat.lt_of_succ_lt, Nat.le_of_succ_le])
local macro_rules | `(tactic| walk_at "s3") => `(tactic| solve_by_elim (maxDepth := 5) [Int.lt_of_lt_of_le, Int.lt_of_le_of_lt, Int.le_trans, Int.le_of_lt, Int.not_lt.mp, Int.not_le.mp])
local macro_rules | `(tactic| walk_at "s4") => `(tactic| solve_by_elim (maxDepth := 5) [Nat.le_trans, Nat.lt_of_lt_of_le, Nat.le_of_lt, Nat.le_add_right, Nat.le_add_left, Nat.add_le_add_left, Nat.add_lt_add_left, Nat.succ_le_succ, Nat.sub_le])
theorem L2.hG{α β:Type _}{A B C:α->β->Prop}{G:Prop}(x:∃ a b,A a b/\B a b/\C a b)(k:∀ a b,A a b->B a b->C a b->G):G :=
 let ⟨a,b,p,q,r⟩:=x
 k a b p q r
set_option Elab.async false
set_option linter.all false
set_option maxRecDepth 100000
namespace L2
open PySem PySem.Spec PyProof.Rows
abbrev Key:=Sum Int Str
def He:Key->Value->Bool
 |.inl k,v=>Value.isInt k v
 |.inr x,v=>Value.isStrOf x v
def ZU(w:World):Key->Int
 |.inl k=>hashInt k
 |.inr x=>hashStr w x
theorem zh:∀ {k:Key} {v:Value},He k v=true->(∃ i t,k=Sum.inl i/\v=Value.int i t)\/(∃ x t,k=Sum.inr x/\v=Value.str x t)
 |.inl i,v,h=>by
  obtain⟨t,e⟩:=Value.isInt_shape (k:=i) (v:=v) h
  exact .inl ⟨i,t,rfl,e⟩
 |.inr x,v,h=>by
  obtain⟨t,e⟩:=Value.isStrOf_shape (x:=x) (v:=v) h
  exact .inr ⟨x,t,rfl,e⟩
theorem ZV(i:Int)(t:Tok):He (.inl i) (.int i t)=true:=by simp[He,Value.isInt]
theorem ZW(x:Str)(t:Tok):He (.inr x) (.str x t)=true:=by simp[He,Value.isStrOf]
theorem Wd(a b:Int):decide ((Sum.inl a:Key)=Sum.inl b)=(a == b):=by
 by_cases e:a=b
 ·subst e;simp
 ·have h:¬ (Sum.inl a:Key)=Sum.inl b:=fun q=>e (Sum.inl.inj q)
  rw[decide_eq_false h]
  exact(beq_eq_false_iff_ne.mpr e).symm
theorem Wg(a b:Str):decide ((Sum.inr a:Key)=Sum.inr b)=decide (a=b):=by
 by_cases e:a=b
 ·subst e;simp
 ·have h:¬ (Sum.inr a:Key)=Sum.inr b:=fun q=>e (Sum.inr.inj q)
  rw[decide_eq_false h,decide_eq_false e]
theorem ZX(a:Int)(b:Str):decide ((Sum.inl a:Key)=Sum.inr b)=false:=decide_eq_false (fun q=>nomatch q)
theorem ZY(a:Str)(b:Int):decide ((Sum.inr a:Key)=Sum.inl b)=false:=decide_eq_false (fun q=>nomatch q)
def mP(prog:Program)(w:World):PySem.KeyKind prog w Key where
 is:=He
 hash:=ZU w
 inj:=fun v a b ha hb=>by
  rcases zh ha with⟨i,t,rfl,rfl⟩|⟨x,t,rfl,rfl⟩
  ·rcases zh hb with⟨j,u,rfl,e⟩|⟨y,u,rfl,e⟩
   ·injection e with e1 _;rw[e1]
   ·exact nomatch e
  ·rcases zh hb with⟨j,u,rfl,e⟩|⟨y,u,rfl,e⟩
   ·exact nomatch e
   ·injection e with e1 _;rw[e1]
 byValue:=fun k v h=>by
  rcases zh h with⟨i,t,rfl,rfl⟩|⟨x,t,rfl,rfl⟩<;>rfl
 pyHash:=fun hv h=>by
  rcases zh hv with⟨i,t,rfl,rfl⟩|⟨x,t,rfl,rfl⟩
  ·exact wpAny_pyHash_int h
  ·exact wpAny_pyHash_str h
 eqBool:=fun hu hv h=>by
  rcases zh hu with⟨i,t,rfl,rfl⟩|⟨x,t,rfl,rfl⟩
  ·rcases zh hv with⟨j,u,rfl,rfl⟩|⟨y,u,rfl,rfl⟩
   ·rw[Wd] at h;exact wpAny_eqBool_int h
   ·rw[ZX] at h;exact SeqAt.EqAt.int_str i t y u _ _ _ _ h
  ·rcases zh hv with⟨j,u,rfl,rfl⟩|⟨y,u,rfl,rfl⟩
   ·rw[ZY] at h;exact SeqAt.EqAt.str_int x t j u _ _ _ _ h
   ·rw[Wg] at h;exact wpAny_eqBool_str h
 «strs» := fun k x t v h=>by
  rcases zh h with⟨i,u,rfl,e⟩|⟨y,u,rfl,e⟩
  ·exact nomatch e
  ·injection e with e1 _
   subst e1
   cases v<;>rfl
theorem ZZ(prog:Program)(w:World)(i:Int)(t:Tok):(mP prog w).is (.inl i) (.int i t)=true:=ZV i t
theorem Z0(prog:Program)(w:World)(x:Str)(t:Tok):(mP prog w).is (.inr x) (.str x t)=true:=ZW x t
inductive V where
 |non|bl (b:Bool)|int (i:Int)|str (x:Str)|ua (b:Array UInt8)|A4 (b:UInt64)|ref (a:Addr)|ty (n:String)
 deriving DecidableEq
def RelV:V->Value->Prop
 |.non,u=>u=Value.none
 |.bl b,u=>u=Value.bool b
 |.int i,u=>∃ t,u=Value.int i t
 |.str x,u=>∃ t,u=Value.str x t
 |.ua b,u=>∃ t,u=Value.bytes b t
 |.A4 b,u=>∃ t,u=Value.float b t
 |.ref a,u=>u=Value.ref a
 |.ty n,u=>u=Value.type n
abbrev Vals:List V->List Value->Prop:=Paired RelV
theorem Vals.length{xs:List V}{us:List Value}(r:Vals xs us):xs.length=us.length:=Paired.length r
theorem Vals.get:∀ {xs:List V} {us:List Value} {i:Nat} {x:V},Vals xs us->xs[i]? = some x->∃ u,us[i]? = some u/\RelV x u
 |_,_,_,_,.nil,e=>by simp at e
 |_,_,0,_,.cons r _,e=>by simp at e;subst e;exact⟨_,rfl,r⟩
 |_,_,i+1,x,.cons _ t,e=>by
  obtain⟨u,h1,h2⟩:=Vals.get (i:=i) (x:=x) t (by simpa using e)
  exact⟨u,by simpa using h1,h2⟩
theorem Vals.append:∀ {xs ys:List V} {us ws:List Value},Vals xs us->Vals ys ws->Vals (xs++ys) (us++ws)
 |_,_,_,_,.nil,s=>s
 |_,_,_,_,.cons r t,s=>.cons r (Vals.append t s)
theorem Vals.take:∀ {xs:List V} {us:List Value} (n:Nat),Vals xs us->Vals (xs.take n) (us.take n)
 |_,_,0,_=>.nil
 |_,_,_+1,.nil=>.nil
 |_,_,n+1,.cons r t=>.cons r (Vals.take n t)
theorem Vals.drop:∀ {xs:List V} {us:List Value} (n:Nat),Vals xs us->Vals (xs.drop n) (us.drop n)
 |_,_,0,r=>r
 |_,_,_+1,.nil=>.nil
 |_,_,n+1,.cons _ t=>Vals.drop n t
def xo:Option V->Option Value->Prop
 |some v,some u=>RelV v u
 |none,none=>True
 |_,_=>False
def KV{κ:Type}:List (κ × V)->List (κ × Value)->Prop:=Paired fun(p:κ × V) (q:κ × Value)=>p.1=q.1/\RelV p.2 q.2
def kV:Key->V
 |.inl i=>.int i
 |.inr x=>.str x
inductive HO where
 /-- a list -/
 |lst (xs:List V)
 /-- a tuple (never changes) -/
 |tup (xs:List V)
 /-- a dict whose keys are ints and texts;one whose keys are tuples of ints and texts (the empty one is both) -/
 |dK (kvs:List (Key × V))|dT (kvs:List (List Key × V))
 /-- a set of ints: its members,its size -/
 |set (S:Int->Bool) (n:Nat)
 /-- an instance of the class at C,its dict at dx,its attributes -/
 |ins (C dx:Addr) (fs:List (Str × V))
 /-- the dict of the instance at x -/
 |own (x:Addr)
 /-- the dict of an exception -/
 |xd (fs:List (Str × V))
 /-- a bound method,f of x -/
 |met (f x:Addr)
 /-- a range object lo,lo+1,.. below hi -/
 |P7 (lo hi:Int)
 /-- a thing that is known to the object (the script;a dict while a loop walks it): read,never written while it is so -/
 |mS (o:Obj) (u:HO)
 /-- a code object's table -/
 |xt (ps:Array Value)
 /-- any other thing,by what is true of its one object (a def of hL' own: hN' a S n:=HO.ext fun h=>..) -/
 |ext (φ:Heap->Prop)
abbrev Hp:=Addr->Option HO
def upd(H:Hp)(a:Addr)(o:HO):Hp:=fun b=>if b=a then some o else H b
theorem kK{H:Hp}{a:Addr}{o:HO}:upd H a o a=some o:=by unfold upd;rw[if_pos rfl]
theorem fE{H:Hp}{a b:Addr}{o:HO}(h:b≠a):upd H a o b=H b:=by unfold upd;rw[if_neg h]
theorem Wh{H:Hp}{a b:Addr}{o u:HO}(h:H a=some o)(h':H b=some u)(d:o≠u):a≠b:=by
 intro e;subst e;rw[h] at h';exact d (Option.some.inj h')
theorem HC{H:Hp}{a b:Addr}{o:HO}(h:H a=some o)(h':H b=none):a≠b:=by
 intro e;subst e;rw[h] at h';cases h'
section
variable (P:Program)(w:World)
def eW(H:Hp)(h:Heap)(a:Addr):HO->Prop
 |.lst xs=>xs.length<=sizeLine/\∃ (its:List Value) (n:Nat),Vals xs its/\h.get? a=some { cls:=.type "list",data:=.seq its.toArray n }
 |.tup xs=>xs.length<=sizeLine/\∃ its:List Value,Vals xs its/\IsTup h a its.toArray
 |.dK kvs=>kvs.length<=sizeLine/\(a == sysModules)=false/\∃ vs,KV kvs vs/\h.DictOf (mP P w) a vs
 |.dT kvs=>kvs.length<=sizeLine/\(a == sysModules)=false/\∃ xs:List (List Key × Addr × Value),
   Paired (fun(p:List Key × V) (q:List Key × Addr × Value)=>p.1=q.1/\H q.2.1=some (.tup (p.1.map kV))/\RelV p.2 q.2.2) kvs xs /\
   ∃ o es ep,h.get? a=some o/\o.ExactDict/\o.data=.dict es ep/\es.toList=xs.map (entryOfKey (tupleKind (mP P w)))/\(xs.map (·.1)).Nodup
 |.set S n=>h.SetOf (intKind P w) a S n
 |.ins C dx fs=>H dx=some (.own a)/\fs.length<=1000/\dx≠a/\h.get? a=some (PySem.W.instObj C dx) /\
   ∃ mA,h.Ns1 dx mA/\(∀ f,xo (fs.lookup f) (mA f))/\PySem.Within mA (fs.map (·.1))
 |.own _=>∃ o,h.get? a=some o
 |.xd fs=>∃ mA,h.Ns1 a mA/\∀ f,xo (fs.lookup f) (mA f)
 |.P7 lo hi=>∃ t u v,h.get? a=some { cls:=.type "range",data:=.fields #[.int lo t,.int hi u,.int 1 v] }
 |.mS o u=>h.get? a=some o/\eW H h a u
 |.xt ps=>h.get? a=some { cls:=.none,data:=.fields ps }
 |.met f x=>h.get? a=some (PySem.W.methodObj (.ref f) (.ref x))
 |.ext φ=>φ h/\(∃ o,h.get? a=some o)/\∀ h1 h2:Heap,φ h1->(∀ o,h1.get? a=some o->h2.get? a=some o)->φ h2
def fP(H:Hp)(h:Heap):Prop:=∀ a o,H a=some o->eW P w H h a o
end
section
variable {P:Program}{w:World}{H H':Hp}{h h':Heap}{a:Addr}{o:HO}
theorem eW.lt(x:eW P w H h a o):a<h.objs.size:=by
 cases o with
 |lst xs=>obtain⟨_,_,_,_,e⟩:=x;exact dv e
 |tup xs=>obtain⟨_,_,_,p⟩:=x;exact p.lt
 |dK kvs=>obtain⟨_,_,_,_,o,_,_,e,_⟩:=x;exact dv e
 |dT kvs=>obtain⟨_,_,_,_,o,_,_,e,_⟩:=x;exact dv e
 |set S n=>obtain⟨o,_,_,_,e,_⟩:=x;exact dv e
 |ins C dx fs=>obtain⟨_,_,_,e,_⟩:=x;exact dv e
 |own y=>obtain⟨_,e⟩:=x;exact dv e
 |xd fs=>obtain⟨_,⟨_,_,_,e,_⟩,_⟩:=x;exact dv e
 |P7 lo hi=>obtain⟨_,_,_,e⟩:=x;exact dv e
 |mS ob u=>obtain⟨e,_⟩:=x;exact dv e
 |xt ps=>exact dv (show h.get? a=some _ from x)
 |met f y=>exact dv (show h.get? a=some _ from x)
 |ext φ=>obtain⟨_,⟨_,e⟩,_⟩:=x;exact dv e
theorem Paired.Sn{α β:Type}{F G:α->β->Prop}:∀ {Wi:List α} {Wj:List β},Paired F Wi Wj->(∀ a b,F a b->G a b)->Paired G Wi Wj
 |_,_,.nil,_=>.nil
 |_,_,.cons r t,f=>.cons (f _ _ r) (Paired.Sn t f)
theorem eW.fv(x:eW P w H h a o)(k:∀ b u,(b=a\/H b=some (.own a))->h.get? b=some u->h'.get? b=some u)
  (ho:∀ b,H b=some (.own a)->H' b=some (.own a)) (ht:∀ b xs,H b=some (.tup xs)->H' b=some (.tup xs)):eW P w H' h' a o:=by
 induction o with
 |lst xs=>obtain⟨z,its,n,r,e⟩:=x;exact⟨z,its,n,r,k _ _ (.inl rfl) e⟩
 |tup xs=>obtain⟨z,its,r,ob,e,c⟩:=x;exact⟨z,its,r,ob,k _ _ (.inl rfl) e,c⟩
 |dK kvs=>obtain⟨z,y,vs,r,ob,es,ep,e,c⟩:=x;exact⟨z,y,vs,r,ob,es,ep,k _ _ (.inl rfl) e,c⟩
 |dT kvs =>
  obtain⟨z,y,xs,r,ob,es,ep,e,c⟩:=x
  exact⟨z,y,xs,Paired.Sn r fun p q z=>⟨z.1,ht _ _ z.2.1,z.2.2⟩,ob,es,ep,k _ _ (.inl rfl) e,c⟩
 |set S n=>obtain⟨ob,es,ep,t,e,c⟩:=x;exact⟨ob,es,ep,t,k _ _ (.inl rfl) e,c⟩
 |ins C dx fs =>
  obtain⟨d,z,ne,e,mA,⟨od,es,ep,e2,c⟩,r⟩:=x
  exact⟨ho _ d,z,ne,k _ _ (.inl rfl) e,mA,⟨od,es,ep,k _ _ (.inr d) e2,c⟩,r⟩
 |own y=>obtain⟨ob,e⟩:=x;exact⟨ob,k _ _ (.inl rfl) e⟩
 |xd fs=>obtain⟨mA,⟨od,es,ep,e,c⟩,r⟩:=x;exact⟨mA,⟨od,es,ep,k _ _ (.inl rfl) e,c⟩,r⟩
 |P7 lo hi=>obtain⟨t,u,v,e⟩:=x;exact⟨t,u,v,k _ _ (.inl rfl) e⟩
 |mS ob u ih=>obtain⟨e,q⟩:=x;exact⟨k _ _ (.inl rfl) e,ih q⟩
 |xt ps =>
  have e:h.get? a=some { cls:=.none,data:=.fields ps }:=x
  show h'.get? a=some { cls:=.none,data:=.fields ps }
  exact k a _ (.inl rfl) e
 |met f y =>
  have e:h.get? a=some (PySem.W.methodObj (.ref f) (.ref y)):=x
  show h'.get? a=some (PySem.W.methodObj (.ref f) (.ref y))
  exact k a _ (.inl rfl) e
 |ext φ=>obtain⟨p,⟨o,e⟩,st⟩:=x;exact⟨st _ _ p fun o q=>k _ _ (.inl rfl) q,⟨o,k _ _ (.inl rfl) e⟩,st⟩
theorem fP.lt(x:fP P w H h)(e:H a=some o):a<h.objs.size:=(x a o e).lt
theorem fP.fresh(x:fP P w H h)(e:h.objs.size<=a):H a=none:=by
 cases q:H a with
 |none=>rfl
 |some u=>exact absurd (ly (x.lt q) e) (sF _)
theorem fP.kept(x:fP P w H h)(k:∀ b u,h.get? b=some u->h'.get? b=some u):fP P w H h':=fun a o e =>
 (x a o e).fv (fun b u _ q=>k b u q) (fun _ q=>q) fun _ _ q=>q
theorem fP.laid(x:fP P w H h)(k:∀ b u,h.get? b=some u->h'.get? b=some u)(hp:h.objs.size<=a)(new:eW P w (upd H a o) h' a o):fP P w (upd H a o) h':=fun b u e=>by
 have hn:=x.fresh hp
 by_cases hb:b=a
 ·subst hb;rw[kK] at e;cases e;exact new
 ·rw[fE hb] at e
  exact(x b u e).fv (fun c v _ q=>k c v q) (fun c q=>by rw[fE (HC q hn)];exact q) fun c xs q=>by rw[fE (HC q hn)];exact q
end
def Rd(H:Hp)(a:Addr)(u:HO):Prop:=H a=some u\/∃ o,H a=some (.mS o u)
theorem Rd.ok{P:Program}{w:World}{H:Hp}{h:Heap}{a:Addr}{u:HO}(r:Rd H a u)(x:fP P w H h):eW P w H h a u:=by
 rcases r with r|⟨o,r⟩
 ·exact x a u r
 ·obtain⟨_,q⟩:=x a _ r
  exact q
def L5:Option HO->Prop
 |some (.lst _)=>True
 |some (.dK _)=>True
 |some (.dT _)=>True
 |some (.set _ _)=>True
 |some (.ins _ _ _)=>True
 |some (.ext _)=>True
 |_=>False
section
variable {P:Program}{w:World}{H:Hp}{h h':Heap}{x e:Addr}{o':HO}
theorem fP.write(ok:fP P w H h)(mu:L5 (H x))(he:e=x\/H e=some (.own x))(k:∀ b u,b≠e->h.get? b=some u->h'.get? b=some u)(HG:∃ u,h'.get? e=some u)
  (new:eW P w (upd H x o') h' x o'):fP P w (upd H x o') h':=fun b u q=>by
 have Wk:∀ c y,H c=some (.own y)->c≠x:=fun c y r z=>by subst z;rw[r] at mu;exact mu
 have Z1:∀ c xs,H c=some (.tup xs)->c≠x:=fun c xs r z=>by subst z;rw[r] at mu;exact mu
 by_cases hb:b=x
 ·subst hb;rw[kK] at q;cases q;exact new
 ·rw[fE hb] at q
  by_cases EE:b=e
  ·have q':H b=some (.own x):=by
    rcases he with z|z
    ·exact absurd (EE.trans z) hb
    ·rw[EE];exact z
   rw[q] at q';cases q'
   obtain⟨v,hv⟩:=HG
   exact⟨v,by rw[EE];exact hv⟩
  ·refine(ok b u q).fv (fun c v hc r=>k c v ?_ r) (fun c r=>by rw[fE (Wk c b r)];exact r) fun c xs r=>by rw[fE (Z1 c xs r)];exact r
   rcases hc with rfl|hc
   ·exact EE
   ·rintro rfl
    rcases he with z|z
    ·exact Wk c b hc z
    ·rw[hc] at z;cases z;exact hb rfl
end
structure Un(fs ex:List Addr)(H H':Hp)(h h':Heap):Prop where
 keep:∀ b o,h.get? b=some o->H b=none->b∉fs->b∉ex->h'.get? b=some o
 slot:∀ b o,h.get? b=some o->H b=none->b∈fs->b∉ex->∃ sl,h'.get? b=some { o with slots:=sl }
 free:∀ b o,h.get? b=some o->H b=none->b∉ex->H' b=none
 there:∀ b o,h.get? b=some o->b∉ex->∃ o',h'.get? b=some o'
 iX:∀ b xs,H b=some (.tup xs)->H' b=some (.tup xs)
 sM:∀ b o u,H b=some (.mS o u)->H' b=some (.mS o u)
 ub:∀ b ps,H b=some (.xt ps)->∃ more,H' b=some (.xt (ps++more))
section
variable {fs ex:List Addr}{H H1:Hp}{h h1 h':Heap}{a x e:Addr}{o:HO}
theorem Un.any(u:Un fs ex H H1 h h1){b:Addr}{ob:Obj}(q:h.get? b=some ob)(n:H b=none)(hx:b∉ex):∃ sl,h1.get? b=some { ob with slots:=sl }:=by
 by_cases hb:b∈fs
 ·exact u.slot b ob q n hb hx
 ·exact⟨ob.slots,u.keep b ob q n hb hx⟩
theorem Un.kept(k:∀ b u,h.get? b=some u->h'.get? b=some u):Un fs ex H H h h' :=
 ⟨fun b ob q _ _ _=>k b ob q,fun b ob q _ _ _=>⟨ob.slots,k b ob q⟩,fun _ _ _ n _=>n,fun b ob q _=>⟨ob,k b ob q⟩,fun _ _ q=>q,fun _ _ _ q=>q,fun _ ps q=>⟨#[],by rw[q];simp⟩⟩
theorem Un.refl:Un fs ex H H h h:=Un.kept fun _ _ q=>q
theorem Un.laid(k:∀ b u,h.get? b=some u->h'.get? b=some u)(hp:h.objs.size<=a)(hn:H a=none):Un fs ex H (upd H a o) h h' where
 keep:=fun b u q _ _ _=>k b u q
 slot:=fun b u q _ _ _=>⟨u.slots,k b u q⟩
 free:=fun b u q n _=>by rw[fE (eT (ly (dv q) hp))];exact n
 there:=fun b u q _=>⟨u,k b u q⟩
 iX:=fun b xs q=>by rw[fE (HC q hn)];exact q
 sM:=fun b u xs q=>by rw[fE (HC q hn)];exact q
 ub:=fun b ps q=>⟨#[],by rw[fE (HC q hn),q];simp⟩
theorem Un.write(mu:L5 (H x))(he:e=x\/H e=some (.own x))(k:∀ b u,b≠e->h.get? b=some u->h'.get? b=some u)(HG:∃ u,h'.get? e=some u):Un fs ex H (upd H x o) h h':=by
 have hx:∀ b,H b=none->b≠x:=fun b n z=>by subst z;rw[n] at mu;exact mu
 have hb:∀ b,H b=none->b≠e:=fun b n z=>by
  subst z
  rcases he with r|r
  ·exact hx b n r
  ·rw[n] at r;cases r
 have hm:∀ b u,H b=some u->¬ L5 (some u)->b≠x:=fun b u q nm z=>by subst z;rw[q] at mu;exact nm mu
 refine⟨fun b u q n _ _=>k b u (hb b n) q,fun b u q n _ _=>⟨u.slots,k b u (hb b n) q⟩,fun b u q n _=>by rw[fE (hx b n)];exact n,fun b u q _=>?_,
  fun b xs q=>by rw[fE (hm b _ q fun z=>z)];exact q,fun b u xs q=>by rw[fE (hm b _ q fun z=>z)];exact q,fun b ps q=>⟨#[],by rw[fE (hm b _ q fun z=>z),q];simp⟩⟩
 by_cases EE:b=e
 ·subst EE;exact HG
 ·exact⟨u,k b u EE q⟩
end
def P8(h:Heap)(H:Hp):List Addr:=(List.range h.objs.size).filter fun a=>(H a).isSome
def A5(h:Heap)(H:Hp):Heap:=PySem.W.hideAll h (P8 h H)
theorem Z2(h:Heap)(H:Hp):(A5 h H).objs.size=h.objs.size:=PySem.W.hideAll_size _ _
theorem Z3{h:Heap}{H:Hp}{b:Addr}{o:Obj}(e:h.get? b=some o)(n:H b=none):(A5 h H).get? b=some o :=
 PySem.W.hideAll_get _ e fun hm=>by
  have q:(H b).isSome=true:=(vT.mp hm).2
  rw[n] at q;simp at q
theorem Z4{h:Heap}{H:Hp}{b:Addr}{o:Obj}(e:(A5 h H).get? b=some o):h.get? b=some o/\H b=none:=by
 have e':h.get? b=some o:=PySem.W.of_hideAll (P8 h H) e
 refine⟨e',?_⟩
 cases q:H b with
 |none=>rfl
 |some x =>
  have hm:b∈P8 h H:=vT.mpr ⟨mI.mpr (dv e'),by simp[q]⟩
  have z:(A5 h H).get? b=none:=PySem.W.hideAll_none (P8 h H) hm
  rw[z] at e;cases e
def Z5(g h:Heap)(L:Addr):List (Addr × Obj):=(List.range h.objs.size).filterMap fun a=>if a=L\/(g.get? a).isSome=true then none else (h.get? a).map fun o=>(a,o)
def rest(g h:Heap)(L d:Addr):List (Addr × Obj):=(Z5 g h L).filter fun p=>decide (p.1≠d)
structure Mod(K:PySem.W.Frag)(mg:Str->Option Value)(base:Heap):Prop where
 P9:K.In base
 glob:base.Ns mainGlobals mg
 blt:∃ mb,base.Ns builtinsNs mb/\∀ x:Str,x ≠ "__name__"->mb x=bootBuiltins x
 nolimit:base.NoLimit
structure Cx where
 prog:Program
 w:World
 K:PySem.W.Frag
 mg:Str->Option Value
 base:Heap
 A:Around
 N:List Str
 eu:Shared
 xv:Hp
 env:Env
 outer:List Env
 stack:List Env
 ex:List Addr
 fn:Str->Bool
 calm:Bool
 pn:List (Addr × Obj)
 xe:Value->Shared->Prop
def fe(l:List Env):List Addr:=l.filterMap (·.frame)
abbrev Cx.fs(X:Cx):List Addr:=fe X.outer
def L6(sc:Scope)(x:Str):Prop:=sc.names.lookup x=some .local\/sc.names.lookup x=some .cell\/sc.names.lookup x=some .free
def Loc(sc:Scope)(x:Str):Prop:=sc.names.lookup x=some .local\/sc.names.lookup x=some .cell
def Look(env:Env)(h:Heap)(m:Str->Option Value)(x:Str)(u:Value):Prop :=
 (env.kindOf x=some .local/\m x=some u)\/((env.kindOf x=some .cell\/env.kindOf x=some .free)/\∃ c,env.cells.lookup x=some c/\h.IsCell c (some u))
structure Cx.Ok(X:Cx):Prop where
 mod:Mod X.K X.mg X.base
 kind:X.env.scope.kind=.function
 glob:X.env.globals=mainGlobals
 blt:X.env.builtins=builtinsNs
 above:X.eu.heap.objs.size<=X.env.locals
 inj:∀ x y c,X.env.cells.lookup x=some c->X.env.cells.lookup y=some c->x=y
 has:∀ x,(X.env.kindOf x=some .cell\/X.env.kindOf x=some .free)->∃ c,X.env.cells.lookup x=some c
 zi:∀ x c,X.fn x=true->X.env.cells.lookup x=some c->X.eu.heap.objs.size<=c
 hd:X.calm=true->X.A.handled=none
 frames:X.A.frames=some X.stack
 A6:X.stack=X.outer\/(X.stack=X.env :: X.outer/\X.env.frame=some X.env.locals)
 A7:∀ b∈X.ex,b≠X.env.locals/\∀ x c,X.env.cells.lookup x=some c->c≠b
 bs:∀ b o,X.base.get? b=some o->X.eu.heap.get? b=some o/\X.xv b=none
 ui:X.base.objs.size<=X.eu.heap.objs.size
 zk:∀ b o,X.base.get? b=some o->b∉X.ex
 zo:∀ b∈X.ex,b∉X.fs
 qq:X.eu.heap.FunFrames X.base X.outer
 xA:∀ b∈X.fs,X.xv b=none
structure Inv(X:Cx)(pins:List (Addr × Obj))(σ:List (Option V))(H:Hp)(s:Shared):Prop where
 ok:X.Ok
 os:s.os=X.eu.os
 bare:AllBare s.gens
 base:Un X.fs X.ex X.xv H X.eu.heap s.heap
 loc:∃ m,s.heap.Ns X.env.locals m/\∀ (i:Nat) (x:Str) (v:V),X.N[i]? = some x->σ[i]? = some (some v)->L6 X.env.scope x->∃ u,RelV v u/\Look X.env s.heap m x u
 cell:∀ x c,X.env.cells.lookup x=some c->∃ v,s.heap.IsCell c v
 free:H X.env.locals=none
 oj:∀ x c,X.env.cells.lookup x=some c->H c=none
 pin:∀ p∈X.pn++pins,s.heap.get? p.1=some p.2/\H p.1=none/\p.1≠X.env.locals/\p.1∉X.fs/\∀ v,p.2.data≠.cell v
 bp:fP X.prog X.w H s.heap
 len:σ.length=X.N.length
section
variable {X:Cx}{pins:List (Addr × Obj)}{σ:List (Option V)}{H H':Hp}{s:Shared}{h':Heap}
theorem Cx.Ok.Z6(ok:X.Ok){b:Addr}{o:Obj}(e:X.base.get? b=some o):b∉X.fs:=fun hb=>by
 have:=(ok.qq.mem hb).1
 rw[e] at this;cases this
theorem Inv.bs(I:Inv X pins σ H s):∀ b o,X.base.get? b=some o->s.heap.get? b=some o/\H b=none:=fun b o e =>
 ⟨I.base.keep b o (I.ok.bs b o e).1 (I.ok.bs b o e).2 (I.ok.Z6 e) (I.ok.zk b o e),I.base.free b o (I.ok.bs b o e).1 (I.ok.bs b o e).2 (I.ok.zk b o e)⟩
theorem Inv.bk(I:Inv X pins σ H s):∀ b o,X.base.get? b=some o->s.heap.get? b=some o:=fun b o e=>(I.bs b o e).1
theorem Inv.mod(I:Inv X pins σ H s):Mod X.K X.mg X.base:=I.ok.mod
theorem Inv.ke(I:Inv X pins σ H s):X.K.In s.heap:=I.ok.mod.P9.keeps I.bk
theorem Inv.lt(I:Inv X pins σ H s):X.env.locals<s.heap.objs.size:=let ⟨_,hn,_⟩:=I.loc;hn.lt
theorem Inv.sz(I:Inv X pins σ H s):X.eu.heap.objs.size<=s.heap.objs.size:=iS I.ok.above (kR I.lt)
theorem Inv.Z7(I:Inv X pins σ H s){a:Addr}(h:s.heap.objs.size<=a):a∉X.fs:=fun hb=>by
 obtain⟨_,o,ho,_⟩:=I.ok.qq.mem hb
 exact absurd (ly (dv ho) (iS I.sz h)) (sF _)
theorem Inv.A8(I:Inv X pins σ H s):∀ x c,X.env.cells.lookup x=some c->c≠X.env.locals:=fun x c e z=>by
 obtain⟨v,o,ho,hd⟩:=I.cell x c e
 obtain⟨m,⟨o',es,ep,nc,Sq,_⟩,_⟩:=I.loc
 rw[z,nc] at ho;cases ho;rw[Sq] at hd;cases hd
theorem Inv.qq(I:Inv X pins σ H s):s.heap.FunFrames X.base X.outer:=by
 have all:∀ (l:List Env),(∀ b∈fe l,b∈X.fs)->X.eu.heap.FunFrames X.base l->s.heap.FunFrames X.base l:=by
  intro l
  induction l with
  |nil=>intro _ _;trivial
  |cons env r ih =>
   intro hs hl
   obtain⟨hk,⟨L,o,hf,hn,ho,hd⟩,hr⟩:=hl
   have hL:L∈X.fs:=hs L (by unfold fe;rw[y2,hf];exact cq)
   obtain⟨sl,e⟩:=I.base.slot L o ho (I.ok.xA L hL) hL fun z=>I.ok.zo L z hL
   exact⟨hk,⟨L,_,hf,hn,e,hd⟩,ih (fun b hb=>hs b (by unfold fe;rw[y2,hf];exact ck _ hb)) hr⟩
 exact all X.outer (fun _ hb=>hb) I.ok.qq
theorem Inv.stack(I:Inv X pins σ H s):s.heap.FunFrames X.base X.stack:=by
 rcases I.ok.A6 with e|⟨e,hf⟩
 ·rw[e];exact I.qq
 ·rw[e]
  obtain⟨m,hn,_⟩:=I.loc
  refine .cons (by rw[I.ok.kind];decide) hf hn ?_ I.qq
  exact Heap.get?_none_of_le (iS I.ok.ui I.ok.above)
theorem Inv.Sr(I:Inv X pins σ H s):∀ b∈fe X.stack,b∈X.env.locals :: X.fs:=fun b hb=>by
 rcases I.ok.A6 with e|⟨e,hf⟩
 ·rw[e] at hb;exact ck _ hb
 ·rw[e] at hb
  unfold fe at hb
  rw[y2,hf] at hb
  exact hb
theorem Inv.Ss(I:Inv X pins σ H s):∀ b∈fe X.stack,H b=none:=fun b hb=>by
 rcases dc.mp (I.Sr b hb) with e|hb
 ·rw[e];exact I.free
 ·obtain⟨_,o,ho,_⟩:=I.ok.qq.mem hb
  exact I.base.free b o ho (I.ok.xA b hb) fun z=>I.ok.zo b z hb
theorem Inv.step{g':Array GenState}{t':Nat}{d':Drawn}{ch:List Addr}(I:Inv X pins σ H s)
  (wm:∀ b∈ch,(b∈X.ex\/X.eu.heap.objs.size<=b)/\b≠X.env.locals/\(∀ x c,X.env.cells.lookup x=some c->c≠b)/\∀ p∈X.pn++pins,p.1≠b)
  (keep:∀ b o,b≠X.env.locals->b∉X.fs->b∉ch->s.heap.get? b=some o->H b=none->h'.get? b=some o)
  (slot:∀ b o,b≠X.env.locals->b∈X.fs->b∉ch->s.heap.get? b=some o->H b=none->∃ sl,h'.get? b=some { o with slots:=sl }) (free:∀ b o,b∉ch->s.heap.get? b=some o->H b=none->H' b=none)
  (there:∀ b o,b∉ch->s.heap.get? b=some o->∃ o',h'.get? b=some o')
  (iX:∀ b xs,H b=some (.tup xs)->H' b=some (.tup xs)) (sM:∀ b o u,H b=some (.mS o u)->H' b=some (.mS o u)) (ub:∀ b ps,H b=some (.xt ps)->∃ more,H' b=some (.xt (ps++more)))
  (ns:∀ m,s.heap.Ns X.env.locals m->h'.Ns X.env.locals m) (bp:fP X.prog X.w H' h') (hg:AllBare g') :
  Inv X pins σ H' { s with heap:=h',gens:=g',drawn:=d',toks:=t' }:=by
 have L7:∀ b o,X.eu.heap.get? b=some o->b≠X.env.locals:=fun b o e=>eT (ly (dv e) I.ok.above)
 have P_:∀ b o,X.eu.heap.get? b=some o->b∉X.ex->b∉ch:=fun b o e hx hb=>by
  rcases (wm b hb).1 with z|z
  ·exact hx z
  ·exact absurd (ly (dv e) z) (sF _)
 have cellK:∀ x c,X.env.cells.lookup x=some c->∀ v,s.heap.IsCell c v->h'.IsCell c v:=fun x c e v dk=>by
  obtain⟨o,ho,hd⟩:=dk
  have L8:c∉ch:=fun z=>(wm c z).2.2.1 x c e rfl
  by_cases hc:c∈X.fs
  ·obtain⟨sl,q⟩:=slot c o (I.A8 x c e) hc L8 ho (I.oj x c e)
   exact⟨_,q,hd⟩
  ·exact⟨o,keep c o (I.A8 x c e) hc L8 ho (I.oj x c e),hd⟩
 refine⟨I.ok,I.os,hg,⟨fun b o e n hb hx=>?_,fun b o e n hb hx=>?_,fun b o e n hx=>?_,fun b o e hx=>?_,fun b xs e=>iX b xs (I.base.iX b xs e),fun b o xs e=>sM b o xs (I.base.sM b o xs e),fun b ps e=>?_⟩,?_,fun x c e=>?_,?_,fun x c e=>?_,fun p hp=>?_,bp,I.len⟩
 ·exact keep b o (L7 b o e) hb (P_ b o e hx) (I.base.keep b o e n hb hx) (I.base.free b o e n hx)
 ·obtain⟨sl,e1⟩:=I.base.slot b o e n hb hx
  obtain⟨Z8,e2⟩:=slot b _ (L7 b o e) hb (P_ b o e hx) e1 (I.base.free b o e n hx)
  exact⟨Z8,e2⟩
 ·obtain⟨o',e1⟩:=I.base.there b o e hx
  exact free b o' (P_ b o e hx) e1 (I.base.free b o e n hx)
 ·obtain⟨o',e1⟩:=I.base.there b o e hx
  exact there b o' (P_ b o e hx) e1
 ·obtain⟨m1,e1⟩:=I.base.ub b ps e
  obtain⟨m2,e2⟩:=ub b _ e1
  exact⟨m1++m2,by rw[e2,LZ]⟩
 ·obtain⟨m,hn,hl⟩:=I.loc
  refine⟨m,ns m hn,fun i x v e1 e2 e3=>?_⟩
  obtain⟨u,r,l⟩:=hl i x v e1 e2 e3
  refine⟨u,r,?_⟩
  rcases l with l|⟨k,c,e,z⟩
  ·exact .inl l
  ·exact .inr ⟨k,c,e,cellK x c e _ z⟩
 ·obtain⟨v,z⟩:=I.cell x c e
  exact⟨v,cellK x c e v z⟩
 ·obtain⟨m,⟨o,_,_,ho,_⟩,_⟩:=I.loc
  exact free _ o (fun z=>(wm _ z).2.1 rfl) ho I.free
 ·obtain⟨v,o,ho,hd⟩:=I.cell x c e
  exact free c o (fun z=>(wm c z).2.2.1 x c e rfl) ho (I.oj x c e)
 ·obtain⟨e,n,ne,nf,d⟩:=I.pin p hp
  have L8:p.1∉ch:=fun z=>(wm p.1 z).2.2.2 p hp rfl
  exact⟨keep p.1 p.2 ne nf L8 e n,free p.1 p.2 L8 e n,ne,nf,d⟩
theorem Inv.un{t':Nat}(I:Inv X pins σ H s)(u:Un X.fs [] H H' s.heap h')(bp:fP X.prog X.w H' h'):Inv X pins σ H' { s with heap:=h',toks:=t' }:=by
 obtain⟨m,⟨o,es,ep,ho,r⟩,_⟩:=id I.loc
 obtain⟨sl,hL⟩:=u.any ho I.free (by simp)
 exact I.step (g':=s.gens) (d':=s.drawn) (ch:=[]) (fun _ z=>nomatch z) (fun b o _ hb _ e n=>u.keep b o e n hb (by simp)) (fun b o _ hb _ e n=>u.slot b o e n hb (by simp)) (fun b o _ e n=>u.free b o e n (by simp)) (fun b o _ e=>u.there b o e (by simp)) u.iX u.sM u.ub (fun m' hm=>by
  obtain⟨o',Sv,Sw,nc,r'⟩:=hm
  rw[ho] at nc;cases nc
  exact⟨_,Sv,Sw,hL,r'⟩) bp I.bare
theorem Inv.call{g':Array GenState}{t':Nat}{d':Drawn}{ch:List Addr}(I:Inv X pins σ H s)(u:Un (fe X.stack) ch H H' s.heap h')(bp:fP X.prog X.w H' h')(hg:AllBare g')
  (wm:∀ b∈ch,(b∈X.ex\/X.eu.heap.objs.size<=b)/\b≠X.env.locals/\(∀ x c,X.env.cells.lookup x=some c->c≠b)/\∀ p∈X.pn++pins,p.1≠b) :
  Inv X pins σ H' { s with heap:=h',gens:=g',drawn:=d',toks:=t' }:=by
 obtain⟨m,⟨o,es,ep,ho,r⟩,_⟩:=id I.loc
 obtain⟨sl,hL⟩:=u.any ho I.free fun z=>(wm _ z).2.1 rfl
 exact I.step (ch:=ch) wm (fun b o hL hb hc e n=>u.keep b o e n (fun z=>(dc.mp (I.Sr b z)).elim hL hb) hc) (fun b o _ _ hc e n=>u.any e n hc) (fun b o hc e n=>u.free b o e n hc) (fun b o hc e=>u.there b o e hc) u.iX u.sM u.ub (fun m' hm=>by
  obtain⟨o',Sv,Sw,nc,r'⟩:=hm
  rw[ho] at nc;cases nc
  exact⟨_,Sv,Sw,hL,r'⟩) bp hg
theorem Inv.turned{t':Nat}{it:Addr}(I:Inv X pins σ H s)(k:∀ b o,b≠it->s.heap.get? b=some o->h'.get? b=some o)(hn:H it=none)(hL:it≠X.env.locals)
  (h1:it∈X.ex\/X.eu.heap.objs.size<=it) (h2:∀ x c,X.env.cells.lookup x=some c->c≠it) (h3:∀ p∈X.pn++pins,p.1≠it):Inv X pins σ H { s with heap:=h',toks:=t' }:=by
 have Wl:∀ b u,H b=some u->b≠it:=fun b u e z=>by rw[z,hn] at e;cases e
 refine I.step (g':=s.gens) (d':=s.drawn) (ch:=[it]) (fun b hb=>?_) (fun b o _ _ hc e _=>k b o (fun z=>hc (by simp[z])) e) (fun b o _ _ hc e _=>⟨o.slots,k b o (fun z=>hc (by simp[z])) e⟩) (fun _ _ _ _ n=>n)
  (fun b o hc e=>⟨o,k b o (fun z=>hc (by simp[z])) e⟩) (fun _ _ e=>e) (fun _ _ _ e=>e) (fun b ps e=>⟨#[],by rw[e];simp⟩) (fun m hm=>?_) (fun b u e=>?_) I.bare
 ·have e:b=it:=by simpa using hb
  subst e
  exact⟨h1,hL,h2,h3⟩
 ·obtain⟨o,es,ep,ho,r⟩:=hm
  exact⟨o,es,ep,k _ o (Ne.symm hL) ho,r⟩
 ·refine(I.bp b u e).fv (fun c v hc q=>k c v ?_ q) (fun _ q=>q) fun _ _ q=>q
  rcases hc with z|z
  ·rw[z];exact Wl b u e
  ·exact Wl c _ z
theorem Inv.tok(I:Inv X pins σ H s)(t:Nat):Inv X pins σ H { s with toks:=t }:=I.un (h':=s.heap) (t':=t) Un.refl I.bp
theorem Inv.kept{t':Nat}(I:Inv X pins σ H s)(k:∀ b u,s.heap.get? b=some u->h'.get? b=some u):Inv X pins σ H { s with heap:=h',toks:=t' }:=I.un (Un.kept k) (I.bp.kept k)
theorem Inv.laid{a:Addr}{o:HO}{t':Nat}(I:Inv X pins σ H s)(k:∀ b u,s.heap.get? b=some u->h'.get? b=some u)(hp:s.heap.objs.size<=a)(new:eW X.prog X.w (upd H a o) h' a o) :
  Inv X pins σ (upd H a o) { s with heap:=h',toks:=t' }:=I.un (Un.laid k hp (I.bp.fresh hp)) (I.bp.laid k hp new)
theorem Inv.write{x e:Addr}{o:HO}{t':Nat}(I:Inv X pins σ H s)(mu:L5 (H x))(he:e=x\/H e=some (.own x))(k:∀ b u,b≠e->s.heap.get? b=some u->h'.get? b=some u)(HG:∃ u,h'.get? e=some u)
  (new:eW X.prog X.w (upd H x o) h' x o):Inv X pins σ (upd H x o) { s with heap:=h',toks:=t' }:=I.un (Un.write mu he k HG) (I.bp.write mu he k HG new)
theorem Inv.Wm{ng:List (Addr × Obj)}(I:Inv X pins σ H s)(h:∀ p∈ng,s.heap.get? p.1=some p.2/\H p.1=none/\p.1≠X.env.locals/\p.1∉X.fs/\∀ v,p.2.data≠.cell v):Inv X ng σ H s :=
 ⟨I.ok,I.os,I.bare,I.base,I.loc,I.cell,I.free,I.oj,fun p hp=>(dP.mp hp).elim (fun z=>I.pin p (kr _ z)) (h p),I.bp,I.len⟩
theorem Wn{N:List Str}(hN:N.Nodup){i j:Nat}{x:Str}(a:N[i]? = some x)(b:N[j]? = some x):i=j:=by
 obtain⟨h1,e1⟩:=ic.mp a
 obtain⟨h2,e2⟩:=ic.mp b
 exact(List.getElem_inj hN).mp (e1.trans e2.symm)
theorem Sx{M:Model}{A:Around}{E:Value->Shared->Prop}{i:Nat}{x:Str}{v:V}{u:Value}{Q:Unit->Shared->Prop}(I:Inv X pins σ H s)(hN:X.N.Nodup)(hi:X.N[i]? = some x)(hx:Loc X.env.scope x)(r:RelV v u)
  (h:∀ s',Inv X pins (σ.set i (some v)) H s'->(∃ a,Heap.SameBut a s.heap s'.heap/\(a=X.env.locals\/X.env.cells.lookup x=some a))->Q () s') (hf:X.fn x=true\/X.env.scope.names.lookup x=some .local:=by first|exact .inl rfl|exact .inr rfl|assumption):wpAny M A (storeName X.env x u) Q E s:=by
 obtain⟨m,hn,hl⟩:=id I.loc
 have Sy:(X.env.scope.kind == .class || (X.env.scope.kind == .module && X.env.locals != X.env.globals))=false:=by rw[I.ok.kind];rfl
 have Wo:i<σ.length:=by rw[I.len];exact(ic.mp hi).1
 have A8:=I.A8
 have tracked:∀ {a:Addr} {h':Heap},(∃ o,s.heap.get? a=some o/\H a=none)->Heap.SameBut a s.heap h'->fP X.prog X.w H h':=fun {a h'} ha hs b ob e=>by
  obtain⟨_,_,Wq⟩:=ha
  refine(I.bp b ob e).fv (fun c w' hc q=>(hs.2 c ?_).trans q) (fun _ q=>q) fun _ _ q=>q
  rintro rfl
  rcases hc with rfl|hc
  ·rw[Wq] at e;cases e
  ·rw[Wq] at hc;cases hc
 rcases hx with hk|hk
 ·refine wpAny_storeName_local hk hn (fun h' Sz hs=>?_) Sy
  obtain⟨oL,_,_,wo,_⟩:=id hn
  refine h _ ⟨I.ok,I.os,I.bare,⟨fun b o e n hb hx=>?_,fun b o e n hb hx=>?_,I.base.free,fun b o e hx=>?_,I.base.iX,I.base.sM,I.base.ub⟩,⟨_,Sz,fun j y v' e1 e2 e3=>?_⟩,fun y c e=>?_,I.free,I.oj,fun p hp=>?_,tracked ⟨oL,wo,I.free⟩ hs,by simpa using I.len⟩ ⟨_,hs,.inl rfl⟩
  ·exact(hs.2 b (eT (ly (dv e) I.ok.above))).trans (I.base.keep b o e n hb hx)
  ·obtain⟨sl,e1⟩:=I.base.slot b o e n hb hx
   exact⟨sl,(hs.2 b (eT (ly (dv e) I.ok.above))).trans e1⟩
  ·obtain⟨o',e1⟩:=I.base.there b o e hx
   exact⟨o',(hs.2 b (eT (ly (dv e) I.ok.above))).trans e1⟩
  ·by_cases hj:j=i
   ·subst hj
    rw[hi] at e1;cases e1
    rw[Pw Wo] at e2
    cases e2
    exact⟨u,r,.inl ⟨hk,by simp⟩⟩
   ·rw[FR (Ne.symm hj)] at e2
    obtain⟨u',r',q⟩:=hl j y v' e1 e2 e3
    refine⟨u',r',?_⟩
    rcases q with⟨k,e⟩|⟨k,c,e,z⟩
    ·refine .inl ⟨k,?_⟩
     have:y≠x:=fun e=>hj (Wn hN e1 (e ▸ hi))
     simp[this,e]
    ·exact .inr ⟨k,c,e,z.sameBut hs (A8 y c e)⟩
  ·obtain⟨w',z⟩:=I.cell y c e
   exact⟨w',z.sameBut hs (A8 y c e)⟩
  ·obtain⟨e,n,ne,nf,d⟩:=I.pin p hp
   exact⟨(hs.2 p.1 ne).trans e,n,ne,nf,d⟩
 ·have SD:X.fn x=true:=by
   rcases hf with z|z
   ·exact z
   ·rw[z] at hk;cases hk
  obtain⟨c,hc⟩:=I.ok.has x (.inl hk)
  obtain⟨w',z⟩:=I.cell x c hc
  refine wpAny_storeName_cell I.ok.kind hk hc z (fun h' EF hs=>?_)
  obtain⟨oc,Qa,Z9⟩:=id z
  refine h { s with heap:=h' } ⟨I.ok,I.os,I.bare,⟨fun b o e n hb hx=>?_,fun b o e n hb hx=>?_,I.base.free,fun b o e hx=>?_,I.base.iX,I.base.sM,I.base.ub⟩,⟨m,hn.sameBut hs (Ne.symm (A8 x c hc)),fun j y v' e1 e2 e3=>?_⟩,fun y c' e=>?_,I.free,I.oj,fun p hp=>?_,tracked ⟨oc,Qa,I.oj x c hc⟩ hs,by simpa using I.len⟩ ⟨c,hs,.inr hc⟩
  ·exact(hs.2 b (eT (ly (dv e) (I.ok.zi x c SD hc)))).trans (I.base.keep b o e n hb hx)
  ·obtain⟨sl,e1⟩:=I.base.slot b o e n hb hx
   exact⟨sl,(hs.2 b (eT (ly (dv e) (I.ok.zi x c SD hc)))).trans e1⟩
  ·obtain⟨o',e1⟩:=I.base.there b o e hx
   exact⟨o',(hs.2 b (eT (ly (dv e) (I.ok.zi x c SD hc)))).trans e1⟩
  ·by_cases hj:j=i
   ·subst hj
    rw[hi] at e1;cases e1
    rw[Pw Wo] at e2
    cases e2
    exact⟨u,r,.inr ⟨.inl hk,c,hc,EF⟩⟩
   ·rw[FR (Ne.symm hj)] at e2
    obtain⟨u',r',q⟩:=hl j y v' e1 e2 e3
    refine⟨u',r',?_⟩
    rcases q with q|⟨k,c',e,z'⟩
    ·exact .inl q
    ·refine .inr ⟨k,c',e,z'.sameBut hs ?_⟩
     rintro rfl
     exact hj (Wn hN e1 (I.ok.inj _ _ _ e hc ▸ hi))
  ·by_cases HK:c'=c
   ·subst HK;exact⟨_,EF⟩
   ·obtain⟨w2,z2⟩:=I.cell y c' e
    exact⟨w2,z2.sameBut hs HK⟩
  ·obtain⟨e,n,ne,nf,d⟩:=I.pin p hp
   refine⟨(hs.2 p.1 ?_).trans e,n,ne,nf,d⟩
   intro q
   rw[q,Qa] at e
   have q':oc=p.2:=Option.some.inj e
   exact d w' (by rw[<- q'];exact Z9)
theorem Wr{M:Model}{A:Around}{E:Value->Shared->Prop}{i:Nat}{x:Str}{v:V}{u:Value}{Q:Unit->Shared->Prop}(I:Inv X pins σ H s)(hN:X.N.Nodup)(hi:X.N[i]? = some x)(hx:Loc X.env.scope x)(r:RelV v u)
  (h:∀ s',Inv X pins (σ.set i (some v)) H s'->Q () s') (hf:X.fn x=true\/X.env.scope.names.lookup x=some .local:=by first|exact .inl rfl|exact .inr rfl|assumption):wpAny M A (storeName X.env x u) Q E s :=
 Sx I hN hi hx r (fun s' I' _=>h s' I') hf
theorem Inv.Z_{s':Shared}{ch:List Addr}(I:Inv X pins σ H s)(ho:s'.os=s.os)(u:Un (fe X.stack) ch H H' s.heap s'.heap)(bp:fP X.prog X.w H' s'.heap)(hg:AllBare s'.gens)
  (wm:∀ b∈ch,(b∈X.ex\/X.eu.heap.objs.size<=b)/\b≠X.env.locals/\(∀ x c,X.env.cells.lookup x=some c->c≠b)/\∀ p∈X.pn++pins,p.1≠b):Inv X pins σ H' s':=by
 obtain⟨h',g',d',t',o'⟩:=s'
 have e:o'=s.os:=ho
 subst e
 exact I.call (g':=g') (t':=t') (d':=d') u bp hg wm
end
abbrev XK:=Value->Option Addr->Hp->Prop
abbrev St:=List (Option V)
abbrev VK:=V->Hp->Prop
abbrev TE:=St->Hp->VK->Prop
abbrev TT:=St->Hp->(Bool->Hp->Prop)->Prop
abbrev TA:=St->Hp->(List V->Hp->Prop)->Prop
structure Ends where
 nx:St->Hp->Prop
 rt:VK
 bk:St->Hp->Prop:=fun _ _=>False
 ct:St->Hp->Prop:=fun _ _=>False
abbrev TS:=Ends->St->Hp->Prop
def EP(X:Cx)(pins:List (Addr × Obj))(σ:St)(Q:VK)(u:Value)(s':Shared):Prop:=∃ v H',Inv X pins σ H' s'/\RelV v u/\Q v H'
def TP(X:Cx)(pins:List (Addr × Obj))(σ:St)(Q:Bool->Hp->Prop)(b:Bool)(s':Shared):Prop:=∃ H',Inv X pins σ H' s'/\Q b H'
def AP(X:Cx)(pins:List (Addr × Obj))(σ:St)(Q:List V->Hp->Prop)(us:List Value)(s':Shared):Prop:=∃ vs H',Inv X pins σ H' s'/\Vals vs us/\Q vs H'
def SP(X:Cx)(pins:List (Addr × Obj))(D:Ends)(f:Flow)(s':Shared):Prop :=
 match f with
 |.next=>∃ aE H',Inv X pins aE H' s'/\D.nx aE H'
 |.brk=>∃ aE H',Inv X pins aE H' s'/\D.bk aE H'
 |.cont=>∃ aE H',Inv X pins aE H' s'/\D.ct aE H'
 |.ret u=>∃ v aE H',Inv X pins aE H' s'/\RelV v u/\D.rt v H'
def PE(X:Cx)(e:Expr)(t:TE):Prop :=
 ∀ (pins:List (Addr × Obj)) (s:Shared) (σ:St) (H:Hp) (Q:VK),Inv X pins σ H s->t σ H Q->wpAny (model X.prog X.w) X.A (eval e X.env) (EP X pins σ Q) X.xe s
def PT(X:Cx)(e:Expr)(t:TT):Prop :=
 ∀ (pins:List (Addr × Obj)) (s:Shared) (σ:St) (H:Hp) (Q:Bool->Hp->Prop),Inv X pins σ H s->t σ H Q->wpAny (model X.prog X.w) X.A (isTrue e X.env (eval e X.env)) (TP X pins σ Q) X.xe s
def PW(X:Cx)(e:Expr)(t:TT):Prop :=
 ∀ (whole:Sem Value) (pins:List (Addr × Obj)) (s:Shared) (σ:St) (H:Hp) (Q:Bool->Hp->Prop),Inv X pins σ H s->t σ H Q->wpAny (model X.prog X.w) X.A (isTrue e X.env whole) (TP X pins σ Q) X.xe s
def PA(X:Cx)(es:List Expr)(t:TA):Prop :=
 ∀ (pos:Pos) (pins:List (Addr × Obj)) (s:Shared) (σ:St) (H:Hp) (Q:List V->Hp->Prop),Inv X pins σ H s->t σ H Q->wpAny (model X.prog X.w) X.A (spliced (backTo pos (starEach es X.env))) (AP X pins σ Q) X.xe s
def PS(X:Cx)(st:Stmt)(t:TS):Prop :=
 ∀ (pins:List (Addr × Obj)) (s:Shared) (σ:St) (H:Hp) (D:Ends),Inv X pins σ H s->t D σ H->wpAny (model X.prog X.w) X.A (exec st X.env) (SP X pins D) X.xe s
def nh(X:Cx)(st:List Stmt)(t:TS):Prop :=
 ∀ (pins:List (Addr × Obj)) (s:Shared) (σ:St) (H:Hp) (D:Ends),Inv X pins σ H s->t D σ H->wpAny (model X.prog X.w) X.A (execs st X.env) (SP X pins D) X.xe s
theorem cv{α:Type}{t:Sem α}{Q Q':α->Shared->Prop}{M:Model}{A:Around}{E:Value->Shared->Prop}{s:Shared}(h:wpAny M A t Q E s)(hQ:∀ a s,Q a s->Q' a s):wpAny M A t Q' E s:=qf h hQ fun _ _ x=>x
section
variable {X:Cx}
def DE(i:Nat):TE:=fun σ H Q=>∃ v,σ[i]? = some (some v)/\Q v H
def tC(v:V):TE:=fun _ H Q=>Q v H
theorem SF {i:Nat} {x:Str} {pos:Pos} (hN:X.N[i]? = some x) (hv:L6 X.env.scope x) (hd:(x == ("__debug__" : Str))=false:=by decide) (oS:(x == ("__classdict__" : Str))=false:=by decide):PE X (.Name x pos) (DE i):=by
 intro pins s σ H Q I h
 obtain⟨v,e,h⟩:=h
 obtain⟨m,hn,hl⟩:=I.loc
 obtain⟨u,r,l⟩:=hl i x v hN e hv
 have fin:EP X pins σ Q u s:=⟨v,H,I,r,h⟩
 rcases l with⟨hk,hm⟩|⟨hk,c,hc,Ws⟩
 ·exact wpAny_Name (wpAny_loadName_local I.ok.kind hk hn hm fin) hd
 ·rcases hk with hk|hk
  ·exact wpAny_Name (wpAny_loadName_cell I.ok.kind hk hc Ws fin) hd
  ·exact wpAny_Name (wpAny_loadName_free I.ok.kind hk hc Ws fin oS) hd
theorem aa'{i j pos}:PE X (.Constant (.int i) j pos) (tC (.int i)):=fun _ _ _ H _ I h=>wpAny_Constant_int ⟨.int i,H,I.tok _,⟨_,rfl⟩,h⟩
theorem ab'{b j pos}:PE X (.Constant (.bool b) j pos) (tC (.bl b)):=fun _ _ _ H _ I h=>Constant_bool ⟨.bl b,H,I,rfl,h⟩
theorem ac'{j pos}:PE X (.Constant .none j pos) (tC .non):=fun _ _ _ H _ I h=>Constant_none ⟨.non,H,I,rfl,h⟩
theorem ad'{x j pos}:PE X (.Constant (.str x) j pos) (tC (.str x)):=fun _ _ _ H _ I h=>Calls.Constant_str ⟨.str x,H,I.tok _,⟨_,rfl⟩,h⟩
def Gl(X:Cx)(x:Str):Prop:=X.env.kindOf x=some .globalImplicit
theorem Qb{E:Value->Shared->Prop}{pins:List (Addr × Obj)}{s:Shared}{σ:St}{H:Hp}{x:Str}{u:Value}{pos:Pos}{Q:Value->Shared->Prop}(I:Inv X pins σ H s)(hg:Gl X x)(hm:X.mg x=some u)(h:Q u s)
  (hd:(x == ("__debug__" : Str))=false:=by decide):wpAny (model X.prog X.w) X.A (eval (.Name x pos) X.env) Q E s :=
 Calls.Name_function_global I.ok.kind hg (Calls.loadGlobal_global (by rw[I.ok.glob];exact I.mod.glob.keeps I.bk) hm h) hd
theorem HL{E:Value->Shared->Prop}{pins:List (Addr × Obj)}{s:Shared}{σ:St}{H:Hp}{x:Str}{u:Value}{pos:Pos}{Q:Value->Shared->Prop}(I:Inv X pins σ H s)(hg:Gl X x)(hm:X.mg x=none)(hv:bootBuiltins x=some u)(h:Q u s)
  (hn:x ≠ "__name__" := by decide) (hd:(x == ("__debug__" : Str))=false:=by decide):wpAny (model X.prog X.w) X.A (eval (.Name x pos) X.env) Q E s:=by
 obtain⟨mb,h1,h2⟩:=I.mod.blt
 exact Calls.Name_function_global I.ok.kind hg (Calls.loadGlobal_builtin (by rw[I.ok.glob];exact I.mod.glob.keeps I.bk) hm (by rw[I.ok.blt];exact h1.keeps I.bk) ((h2 x hn).trans hv) h) hd
theorem ae' {x:Str} {v:V} {u:Value} {pos:Pos} (hg:Gl X x) (hm:X.mg x=some u) (r:RelV v u) (hd:(x == ("__debug__" : Str))=false:=by decide):PE X (.Name x pos) (tC v) :=
 fun _ _ _ H _ I h=>Qb I hg hm ⟨v,H,I,r,h⟩ hd
theorem af' {x:Str} {v:V} {u:Value} {pos:Pos} (hg:Gl X x) (hm:X.mg x=none) (hv:bootBuiltins x=some u) (r:RelV v u) (hn:x ≠ "__name__" := by decide) (hd:(x == ("__debug__" : Str))=false:=by decide):PE X (.Name x pos) (tC v) :=
 fun _ _ _ H _ I h=>HL I hg hm hv ⟨v,H,I,r,h⟩ hn hd
variable {a b:Expr}{pos:Pos}
def tB(t:TE):TT:=fun σ H Q=>t σ H fun x H1=>∃ c,x=.bl c/\Q c H1
theorem Wt{e:Expr}{t:TE}(h:PE X e t)(he:∀ whole,isTrue e X.env whole=(do let v <- whole;standAt e.pos;holding [v] (truthy v)):=by intro _;rfl):PT X e (tB t):=by
 intro pins s σ H Q I hw
 refine isTrue_plain (cv (h pins s σ H _ I hw) fun v s1 cK=>L2.hG cK fun x H1 I1 r1 q1=>?_) (he _)
 obtain⟨d,rfl,q⟩:=q1
 cases r1
 exact wpAny_truthy_bool ⟨H1,I1,q⟩
variable {tA Qc:TT}{rest:List Expr}
def ag'(t u:TT):TT:=fun σ H Q=>t σ H fun c H1=>if c=true then u σ H1 Q else Q false H1
def tOr(t u:TT):TT:=fun σ H Q=>t σ H fun c H1=>if c=true then Q true H1 else u σ H1 Q
def ai'(t:TT):TT:=fun σ H Q=>t σ H fun c H1=>Q (!c) H1
theorem pw_and1(ha:PT X a tA):PW X (.BoolOp .And [a] pos) tA:=by
 intro wh pins s σ H Q I h
 refine isTrue_and (cv (ha pins s σ H Q I h) fun c s1 e=>?_)
 cases c with
 |true=>exact isTrue_and_nil e
 |false=>exact e
theorem pw_or1(ha:PT X a tA):PW X (.BoolOp .Or [a] pos) tA:=by
 intro wh pins s σ H Q I h
 refine isTrue_or (cv (ha pins s σ H Q I h) fun c s1 e=>?_)
 cases c with
 |false=>exact isTrue_or_nil e
 |true=>exact e
theorem pw_and(ha:PT X a tA)(hb:PW X (.BoolOp .And (b :: rest) pos) Qc):PW X (.BoolOp .And (a :: b :: rest) pos) (ag' tA Qc):=by
 intro wh pins s σ H Q I h
 refine isTrue_and (cv (ha pins s σ H _ I h) fun c s1 dk=>?_)
 obtain⟨H1,I1,q1⟩:=dk
 cases c with
 |true=>exact hb wh pins s1 σ H1 Q I1 q1
 |false=>exact⟨H1,I1,q1⟩
theorem pw_or(ha:PT X a tA)(hb:PW X (.BoolOp .Or (b :: rest) pos) Qc):PW X (.BoolOp .Or (a :: b :: rest) pos) (tOr tA Qc):=by
 intro wh pins s σ H Q I h
 refine isTrue_or (cv (ha pins s σ H _ I h) fun c s1 dk=>?_)
 obtain⟨H1,I1,q1⟩:=dk
 cases c with
 |true=>exact⟨H1,I1,q1⟩
 |false=>exact hb wh pins s1 σ H1 Q I1 q1
theorem Wu(ha:PT X a tA):PT X (.UnaryOp .Not a pos) (ai' tA):=by
 intro pins s σ H Q I h
 exact isTrue_not (ha pins s σ H (fun c H1=>Q (!c) H1) I h)
end
def eJ(K:PySem.W.Frag)(H:Hp)(a:Addr)(xs:List V):Prop :=
 Rd H a (.lst xs) \/
  ∃ (o:Obj) (its:Array Value) (n:Nat),K.lookup a=some o/\o.cls=.type "list"/\o.dict=none/\o.data=.seq its n/\its.size<=sizeLine/\Vals xs its.toList
def kB(K:PySem.W.Frag)(H:Hp)(a:Addr)(xs:List V):Prop :=
 Rd H a (.tup xs) \/
  ∃ (o:Obj) (its:Array Value) (n:Nat),K.lookup a=some o/\o.cls=.type "tuple"/\o.data=.seq its n/\its.size<=sizeLine/\Vals xs its.toList
def aj':Value->Option V
 |.none=>some .non
 |.bool b=>some (.bl b)
 |.int i _=>some (.int i)
 |.str x _=>some (.str x)
 |.bytes b _=>some (.ua b)
 |.float b _=>some (.A4 b)
 |.ref a=>some (.ref a)
 |.type n=>some (.ty n)
 |_=>none
theorem RelV.abs{x:V}{u:Value}(r:RelV x u):aj' u=some x:=by
 cases x with
 |non=>cases r;rfl
 |bl _=>cases r;rfl
 |int _=>obtain⟨t,rfl⟩:=r;rfl
 |str _=>obtain⟨t,rfl⟩:=r;rfl
 |ua _=>obtain⟨t,rfl⟩:=r;rfl
 |A4 _=>obtain⟨t,rfl⟩:=r;rfl
 |ref _=>cases r;rfl
 |ty _=>cases r;rfl
theorem RelV.inj{x y:V}{u:Value}(r:RelV x u)(q:RelV y u):x=y:=Option.some.inj (r.abs.symm.trans q.abs)
theorem Vals.inj:∀ {xs ys:List V} {us:List Value},Vals xs us->Vals ys us->xs=ys
 |_,_,_,.nil,.nil=>rfl
 |_,_,_,.cons r t,.cons r' t'=>by rw[r.inj r',Vals.inj t t']
section
variable {X:Cx}{pins:List (Addr × Obj)}{σ:St}{H:Hp}{s:Shared}{a:Addr}{xs ys:List V}
theorem Inv.list(I:Inv X pins σ H s)(h:eJ X.K H a xs):∃ its:List Value,Vals xs its/\PlainL s.heap a its.toArray/\xs.length<=sizeLine:=by
 rcases h with h|⟨o,its,n,hk,hc,hd,hs,hz,r⟩
 ·obtain⟨z,its,n,r,e⟩:=h.ok I.bp
  exact⟨its,r,⟨_,n,e,rfl,rfl,rfl⟩,z⟩
 ·refine⟨its.toList,r,⟨o,n,I.ke a o hk,hc,hd,by simpa using hs⟩,?_⟩
  have e:=r.length
  simp only[AZ] at e
  lia
theorem Inv.tuple(I:Inv X pins σ H s)(h:kB X.K H a xs):∃ its:List Value,Vals xs its/\IsTup s.heap a its.toArray/\xs.length<=sizeLine:=by
 rcases h with h|⟨o,its,n,hk,hc,hs,hz,r⟩
 ·obtain⟨z,its,r,p⟩:=h.ok I.bp
  exact⟨its,r,p,z⟩
 ·refine⟨its.toList,r,⟨o,I.ke a o hk,hc,n,by simpa using hs⟩,?_⟩
  have e:=r.length
  simp only[AZ] at e
  lia
theorem Inv.ak'(I:Inv X pins σ H s)(h:eJ X.K H a xs)(h':eJ X.K H a ys):xs=ys:=by
 obtain⟨its,r,⟨o,n,e,_,_,d⟩,_⟩:=I.list h
 obtain⟨its',r',⟨o',n',e',_,_,d'⟩,_⟩:=I.list h'
 rw[e] at e';cases e'
 rw[d] at d'
 injection d' with d1 _
 have:its=its':=by simpa using congrArg Array.toList d1
 subst this
 exact r.inj r'
theorem Inv.al'(I:Inv X pins σ H s)(h:kB X.K H a xs)(h':kB X.K H a ys):xs=ys:=by
 obtain⟨its,r,⟨o,e,_,n,d⟩,_⟩:=I.tuple h
 obtain⟨its',r',⟨o',e',_,n',d'⟩,_⟩:=I.tuple h'
 rw[e] at e';cases e'
 rw[d] at d'
 injection d' with d1 _
 have:its=its':=by simpa using congrArg Array.toList d1
 subst this
 exact r.inj r'
end
abbrev Cx.wish(X:Cx)(E:Value->Shared->Prop):Cx:={ X with xe:=E }
abbrev Cx.L9(X:Cx):Cx:=X.wish fun _ _=>False
theorem Cx.Ok.wish{X:Cx}(ok:X.Ok)(E:Value->Shared->Prop):(X.wish E).Ok :=
 ⟨ok.mod,ok.kind,ok.glob,ok.blt,ok.above,ok.inj,ok.has,ok.zi,ok.hd,ok.frames,ok.A6,ok.A7,ok.bs,ok.ui,ok.zk,ok.zo,ok.qq,ok.xA⟩
theorem Cx.Ok.DF{X:Cx}{E:Value->Shared->Prop}(ok:(X.wish E).Ok):X.Ok :=
 ⟨ok.mod,ok.kind,ok.glob,ok.blt,ok.above,ok.inj,ok.has,ok.zi,ok.hd,ok.frames,ok.A6,ok.A7,ok.bs,ok.ui,ok.zk,ok.zo,ok.qq,ok.xA⟩
section
variable {X:Cx}{pins:List (Addr × Obj)}{σ:St}{H:Hp}{s:Shared}{E:Value->Shared->Prop}
theorem Inv.wish(I:Inv X pins σ H s)(E:Value->Shared->Prop):Inv (X.wish E) pins σ H s:=⟨I.ok.wish E,I.os,I.bare,I.base,I.loc,I.cell,I.free,I.oj,I.pin,I.bp,I.len⟩
theorem Inv.DF(I:Inv (X.wish E) pins σ H s):Inv X pins σ H s:=⟨I.ok.DF,I.os,I.bare,I.base,I.loc,I.cell,I.free,I.oj,I.pin,I.bp,I.len⟩
theorem SP.DF{D:Ends}{f:Flow}{s':Shared}(h:SP (X.wish E) pins D f s'):SP X pins D f s':=by
 cases f with
 |next=>obtain⟨aE,H',I,q⟩:=h;exact⟨aE,H',I.DF,q⟩
 |brk=>obtain⟨aE,H',I,q⟩:=h;exact⟨aE,H',I.DF,q⟩
 |cont=>obtain⟨aE,H',I,q⟩:=h;exact⟨aE,H',I.DF,q⟩
 |ret u=>obtain⟨v,aE,H',I,r,q⟩:=h;exact⟨v,aE,H',I.DF,r,q⟩
theorem nh.L9{st:List Stmt}{t:TS}(h:nh X.L9 st t):nh X st t:=fun pins s σ H D I hw =>
 qf (h pins s σ H D (I.wish _) hw) (fun _ _ q=>q.DF) fun _ _ z=>False.elim z
end
section
variable {X:Cx}{st:Stmt}{rest:List Stmt}{t u:TS}{e:Expr}{te:TE}{pos:Pos}
def am':TS:=fun D σ H=>D.nx σ H
def Wv(t u:TS):TS:=fun D σ H=>t { D with nx:=u D } σ H
theorem an':nh X [] am':=fun _ _ σ H _ I h=>wpAny_execs_nil ⟨σ,H,I,h⟩
theorem Ww(h1:PS X st t)(h2:nh X rest u):nh X (st :: rest) (Wv t u):=by
 intro pins s σ H D I h
 refine wpAny_execs_cons (cv (h1 pins s σ H { D with nx:=u D } I h) fun f s1 q=>?_)
 cases f with
 |next =>
  obtain⟨aE,H',I',q⟩:=q
  exact h2 pins s1 aE H' D I' q
 |ret v=>exact q
 |brk=>exact q
 |cont=>exact q
theorem SG(h1:PS X st t):nh X [st] t:=by
 intro pins s σ H D I h
 refine wpAny_execs_cons (cv (h1 pins s σ H D I h) fun f s1 q=>?_)
 cases f with
 |next=>exact wpAny_execs_nil q
 |ret v=>exact q
 |brk=>exact q
 |cont=>exact q
theorem Inv.quiet{pins:List (Addr × Obj)}{σ:St}{H:Hp}{s:Shared}(I:Inv X pins σ H s):interactive X.env=false:=by simp[interactive,I.ok.kind]
def ao'(te:TE):TS:=fun D σ H=>te σ H fun _ H1=>D.nx σ H1
theorem Mb(he:PE X e te)(hs:swapsWith e none pos.line X.env=pure false:=by rfl):PS X (.Expr e pos) (ao' te):=by
 intro pins s σ H D I h
 exact wpAny_Expr_any (cv (he pins s σ H _ I h) fun v s1 cK=>L2.hG cK fun x H1 I1 r1 q1=>⟨σ,H1,I1,q1⟩) I.quiet hs
def ap'(te:TE):TS:=fun D σ H=>te σ H D.rt
theorem Wx(he:PE X e te):PS X (.Return (some e) pos) (ap' te):=by
 intro pins s σ H D I h
 exact wpAny_Return_some (cv (he pins s σ H _ I h) fun v s1 cK=>L2.hG cK fun x H1 I1 r1 q1=>⟨x,σ,H1,I1,r1,q1⟩)
def aq'(c:TT)(t u:TS):TS:=fun D σ H=>c σ H fun b H1=>if b=true then t D σ H1 else u D σ H1
theorem Wy{c:Expr}{a b:List Stmt}{tc:TT}(hc:PT X c tc)(ha:nh X a t)(hb:nh X b u):PS X (.If c a b pos) (aq' tc t u):=by
 intro pins s σ H D I h
 refine wpAny_If (cv (hc pins s σ H _ I h) fun d s1 dk=>?_)
 obtain⟨H1,I1,q1⟩:=dk
 cases d with
 |true=>exact ha pins s1 σ H1 D I1 q1
 |false=>exact hb pins s1 σ H1 D I1 q1
end
abbrev TG:=V->St->Hp->(St->Hp->Prop)->Prop
abbrev DH:=List V->St->Hp->(St->Hp->Prop)->Prop
def PG(X:Cx)(target:Expr)(t:TG):Prop :=
 ∀ (pins:List (Addr × Obj)) (s:Shared) (σ:St) (H:Hp) (v:V) (u:Value) (Q:St->Hp->Prop),Inv X pins σ H s->RelV v u->t v σ H Q ->
  wpAny (model X.prog X.w) X.A (assign target X.env u) (fun _ s'=>∃ aE H',Inv X pins aE H' s'/\Q aE H') X.xe s
def zt(X:Cx)(ts:List Expr)(t:DH):Prop :=
 ∀ (pins:List (Addr × Obj)) (s:Shared) (σ:St) (H:Hp) (vs:List V) (us:List Value) (Q:St->Hp->Prop),Inv X pins σ H s->Vals vs us->t vs σ H Q ->
  wpAny (model X.prog X.w) X.A (assignInOrder ((assignEach ts X.env).map (·.2)) us) (fun _ s'=>∃ aE H',Inv X pins aE H' s'/\Q aE H') X.xe s
section
variable {X:Cx}{pos:Pos}
def SJ(i:Nat):TG:=fun v σ H Q=>Q (σ.set i (some v)) H
theorem SK{i:Nat}{x:Str}(hN:X.N.Nodup)(hi:X.N[i]? = some x)(hx:Loc X.env.scope x)(hf:X.fn x=true\/X.env.scope.names.lookup x=some .local:=by first|exact .inl rfl|exact .inr rfl|assumption):PG X (.Name x pos) (SJ i):=by
 intro pins s σ H v u Q I r h
 exact wpAny_assign_Name (Wr I hN hi hx r (fun s' I'=>⟨_,H,I',h⟩) hf)
def ar':DH:=fun vs σ H Q=>vs=[]/\Q σ H
def au'(t:TG)(u:DH):DH:=fun vs σ H Q=>∃ v r,vs=v :: r/\t v σ H fun aE H'=>u r aE H' Q
theorem Wz:zt X [] ar':=by
 intro pins s σ H vs us Q I r h
 obtain⟨e,h⟩:=h
 subst e
 cases r
 exact assignInOrder_nil ⟨σ,H,I,h⟩
theorem SN{e:Expr}{es:List Expr}{t:TG}{u:DH}(h1:PG X e t)(h2:zt X es u)
  (hs:(assignEach (e :: es) X.env).map (·.2)=assign e X.env :: (assignEach es X.env).map (·.2):=by rfl):zt X (e :: es) (au' t u):=by
 intro pins s σ H vs us Q I r h
 obtain⟨v,vr,e1,h⟩:=h
 subst e1
 cases r with
 |cons r rr =>
  rw[hs]
  refine assignInOrder_cons (cv (h1 pins s σ H _ _ _ I r h) fun _ s1 dk=>?_)
  obtain⟨HM,H1,I1,q1⟩:=dk
  exact h2 pins s1 HM H1 _ _ Q I1 rr q1
def av'(K:PySem.W.Frag)(n:Nat)(t:DH):TG:=fun v σ H Q=>∃ a xs,v=.ref a/\kB K H a xs/\xs.length=n/\t xs σ H Q
theorem WB{es:List Expr}{k:Nat}{t:DH}{n:Nat}(hc:X.calm=true)(h:zt X es t)
  (hn:(assignEach es X.env).length=n:=by rfl) (kC:(assignEach es X.env).findIdx? (·.1)=none:=by rfl):PG X (.Tuple es k pos) (av' X.K n t):=by
 intro pins s σ H v u Q I r hw
 obtain⟨a,xs,e1,hq,hl,hw⟩:=hw
 subst e1
 cases r
 obtain⟨its,rv,ht,hz⟩:=I.tuple hq
 refine assign_Tuple_tuple (I.ok.hd hc) ht (by simp[hn,<- hl,rv.length]) kC fun h' hx=>?_
 have I1:Inv X pins σ H { s with heap:=h' }:=I.kept (t':=s.toks) fun b o e=>hx b o (eT (dv e)) e
 exact h pins _ σ H xs _ Q I1 (by simpa using rv) hw
def SQ(te:TE)(g:TG):TS:=fun D σ H=>te σ H fun x H1=>g x σ H1 D.nx
theorem aw'{tg e:Expr}{te:TE}{g:TG}(he:PE X e te)(hg:PG X tg g)(hs:swapsWithSole [tg] e pos.line X.env=pure false:=by rfl)(hw:swappedStores [tg] e X.env=pure none:=by rfl)
  (h1:(assignEach [tg] X.env).map (·.2)=[assign tg X.env]:=by rfl):PS X (.Assign [tg] e pos) (SQ te g):=by
 intro pins s σ H D I h
 refine wpAny_Assign_stores (cv (he pins s σ H _ I h) fun v s1 cK=>L2.hG cK fun x H1 I1 r1 q1=>?_) hs hw
 rw[h1]
 exact cv (hg pins s1 σ H1 x v _ I1 r1 q1) fun _ s2 q=>q
theorem SV{i:Nat}{x:Str}{e:Expr}{te:TE}{pos':Pos}(hN:X.N.Nodup)(hi:X.N[i]? = some x)(hx:Loc X.env.scope x)(he:PE X e te)(hs:swapsWith e (some (.Name x pos')) pos.line X.env=pure false:=by rfl)(hf:X.fn x=true\/X.env.scope.names.lookup x=some .local:=by first|exact .inl rfl|exact .inr rfl|assumption) :
  PS X (.Assign [.Name x pos'] e pos) (SQ te (SJ i)):=by
 intro pins s σ H D I h
 refine wpAny_Assign_Name (cv (he pins s σ H _ I h) fun v s1 cK=>L2.hG cK fun y H1 I1 r1 q1=>?_) hs
 exact Wr I1 hN hi hx r1 (fun s2 I2=>⟨_,H1,I2,q1⟩) hf
def ax'(c:TT)(tb:TS):TS:=fun D σ H=>∃ W:Nat->St->Hp->Prop,(∃ m,W m σ H)/\∀ m σ H,W m σ H ->
 c σ H fun b H1=>if b=true then ∃ N:St->Hp->Prop,(∀ aE H',N aE H'->∃ m',m'<m/\W m' aE H')/\tb { D with nx:=N,ct:=N,bk:=D.nx } σ H1 else D.nx σ H1
theorem ay'{c:Expr}{body:List Stmt}{tc:TT}{tb:TS}(hp:PassesOwn (model X.prog X.w) X.A X.env X.xe)(hc:PT X c tc)(hb:nh X body tb):PS X (.While c body [] pos) (ax' tc tb):=by
 intro pins s σ H D I h
 obtain⟨W,⟨m0,w0⟩,turn⟩:=h
 refine wpAny_While (codeAny_whileLoop (fun n s'=>∃ aE H',Inv X pins aE H' s'/\W n aE H') ?_ m0 ⟨σ,H,I,w0⟩)
 rintro n s1 ⟨HM,H1,I1,w1⟩
 refine wpAny_passesOwn hp (cv (hc pins s1 HM H1 _ I1 (turn n HM H1 w1)) fun b s2 dk=>?_)
 obtain⟨H2,I2,q2⟩:=dk
 cases b with
 |true =>
  obtain⟨N,hN,q2⟩:=q2
  rw[if_pos rfl]
  refine wpAny_passesOwn hp (cv (hb pins s2 HM H2 _ I2 q2) fun f s3 q3=>?_)
  cases f with
  |next =>
   obtain⟨qA,H3,I3,n3⟩:=q3
   obtain⟨m',hm,w3⟩:=hN qA H3 n3
   exact⟨m',hm,qA,H3,I3,w3⟩
  |cont =>
   obtain⟨qA,H3,I3,n3⟩:=q3
   obtain⟨m',hm,w3⟩:=hN qA H3 n3
   exact⟨m',hm,qA,H3,I3,w3⟩
  |brk=>exact q3
  |ret v=>exact q3
 |false =>
  rw[if_neg g9]
  exact wpAny_execs_nil ⟨HM,H2,I2,q2⟩
end
structure It where
 go:Nat->Hp->Prop
 nL:Nat->Hp->V->Hp->Prop
 stop:Nat->Hp->Prop
def zv(X:Cx)(pins:List (Addr × Obj))(H:Hp)(b:Addr):Prop :=
 H b=none/\b≠X.env.locals/\b∉X.fs/\(b∈X.ex\/X.eu.heap.objs.size<=b)/\(∀ x c,X.env.cells.lookup x=some c->c≠b)/\∀ p∈X.pn++pins,p.1≠b
theorem Inv.Qe{X:Cx}{pins:List (Addr × Obj)}{σ:St}{H H':Hp}{s:Shared}{b:Addr}(I:Inv X pins σ H s)(hb:s.heap.objs.size<=b)(hn:H' b=none):zv X pins H' b:=by
 refine⟨hn,LW (ly I.lt hb),I.Z7 hb,.inr (iS I.sz hb),fun x c e z=>?_,fun p hp z=>?_⟩
 ·obtain⟨v,q⟩:=I.cell x c e
  exact absurd (ly q.lt (by rw[z];exact hb)) (sF _)
 ·exact absurd (ly (dv (I.pin p hp).1) (by rw[z];exact hb)) (sF _)
structure Turn(P:Program)(w:World)(K:PySem.W.Frag)(tg:Expr)(J:It)(fp:List Addr)(it:Addr)(tn:Nat->Heap->Prop):Prop where
 mem:it∈fp
 obj:∀ i h,tn i h->∀ b∈fp,∃ o,h.get? b=some o/\∀ v,o.data≠.cell v
 keep:∀ i h h',tn i h->(∀ b∈fp,∀ o,h.get? b=some o->h'.get? b=some o)->tn i h'
 item:∀ (X:Cx),X.prog=P->X.w=w->X.K=K->X.calm=true->∀ (i:Nat) (pins:List (Addr × Obj)) (s:Shared) (σ:St) (H:Hp) (E:Value->Shared->Prop),Inv X pins σ H s->(∀ b∈fp,zv X pins H b)->tn i s.heap->J.go i H ->
  wpAny (model P w) X.A (pyNext (.ref it)) (fun r s1=>∃ u,r=some u /\
   wpAny (model P w) X.A (letOwnedTupleGo tg (.ref it) u) (fun _ s2=>∃ x H',Inv X pins σ H' s2/\RelV x u/\J.nL i H x H'/\tn (i+1) s2.heap/\∀ b∈fp,H' b=none) E s1) E s
 done:∀ (X:Cx),X.prog=P->X.w=w->X.K=K->X.calm=true->∀ (i:Nat) (pins:List (Addr × Obj)) (s:Shared) (σ:St) (H:Hp) (E:Value->Shared->Prop),Inv X pins σ H s->(∀ b∈fp,zv X pins H b)->tn i s.heap->J.stop i H ->
  wpAny (model P w) X.A (pyNext (.ref it)) (fun r s1=>r=none/\Inv X pins σ H s1) E s
 self:∀ (A:Around) (i:Nat) (s:Shared) (Q:Value->Shared->Prop) (E:Value->Shared->Prop),tn i s.heap->Q (.ref it) s->wpAny (model P w) A (pyIter (.ref it)) Q E s
abbrev TI:=St->Hp->(It->Hp->Prop)->Prop
def WC(X:Cx)(pins:List (Addr × Obj))(σ:St)(tg:Expr)(R:It->Hp->Prop)(SW:Value)(s2:Shared):Prop :=
 ∃ (it:Addr) (fp:List Addr) (tn:Nat->Heap->Prop) (J:It) (H':Hp),SW=.ref it/\Inv X pins σ H' s2/\Turn X.prog X.w X.K tg J fp it tn/\tn 0 s2.heap/\(∀ b∈fp,zv X pins H' b)/\R J H'
def PI(X:Cx)(tg iter:Expr)(wi:TI):Prop :=
 ∀ (pins:List (Addr × Obj)) (s:Shared) (σ:St) (H:Hp) (R:It->Hp->Prop),Inv X pins σ H s->wi σ H R ->
  wpAny (model X.prog X.w) X.A (eval iter X.env) (fun v s1=>wpAny (model X.prog X.w) X.A (pyIter v) (WC X pins σ tg R) X.xe s1) X.xe s
theorem SX{M:Model}{A:Around}{E:Value->Shared->Prop}{s:Shared}{tg:Expr}{it:Addr}{u:Value}{o:Obj}{n:String}{vs:Array Value}{Q:Unit->Shared->Prop}(ho:s.heap.get? it=some o)(hc:o.cls=.type n)(hd:o.data=.fields vs)
  (hn:["enumerate", "zip", "dict_itemiterator", "dict_reverseitemiterator", "odict_iterator", "itertools.zip_longest", "itertools.pairwise"].contains n=false) (hQ:Q () s):wpAny M A (letOwnedTupleGo tg (.ref it) u) Q E s:=by
 unfold letOwnedTupleGo
 cases tg<;>first
  |exact aC hQ
  | (cases u<;>first
     |exact aC hQ
     | (refine ai (wpAny_load ho ?_)
        rw[hc,hd]
        show wpAny M A (if (["enumerate", "zip", "dict_itemiterator", "dict_reverseitemiterator", "odict_iterator", "itertools.zip_longest", "itertools.pairwise"].contains n && vs[0]? == some (rawInt _))=true then _ else _) Q E s
        rw[if_neg (by intro h;rw[hn,Bool.false_and] at h;cases h)]
        exact aC hQ))
def Qf(K:PySem.W.Frag)(a:Addr):It :=
 ⟨fun i H=>∃ xs x,eJ K H a xs/\xs[i]? = some x,fun i H x H'=>H'=H/\∀ xs,eJ K H a xs->xs[i]? = some x,fun i H=>∃ xs,eJ K H a xs/\xs.length<=i⟩
def SY(K:PySem.W.Frag)(a:Addr):It :=
 ⟨fun i H=>∃ xs x,kB K H a xs/\xs[i]? = some x,fun i H x H'=>H'=H/\∀ xs,kB K H a xs->xs[i]? = some x,fun i H=>∃ xs,kB K H a xs/\xs.length<=i⟩
def HP(lo:Int)(n:Nat):It:=⟨fun i _=>i<n,fun i H x H'=>H'=H/\x=.int (lo+i),fun i _=>n<=i⟩
theorem az'{P:Program}{w:World}{K:PySem.W.Frag}{tg:Expr}(a it:Addr):Turn P w K tg (Qf K a) [it] it (fun i h=>h.IsListIter it a i) where
 mem:=by simp
 obj:=fun i h st b hb=>by
  have e:b=it:=by simpa using hb
  subst e
  obtain⟨o,e,c,d⟩:=st
  exact⟨o,e,fun v z=>by rw[d] at z;cases z⟩
 keep:=fun i h h' st k=>st.at fun o e=>k it (by simp) o e
 item:=by
  intro X hP hw hK hc i pins s σ H E I hf st hg
  subst hP hw hK
  obtain⟨xs,x,hq,hx⟩:=hg
  obtain⟨its,rv,p,hz⟩:=I.list hq
  obtain⟨u,hu,ru⟩:=rv.get hx
  obtain⟨f0,f1,f2,f3,f4,f5⟩:=hf it (by simp)
  refine wpAny_pyNext_list_item st p.isList (x:=u) (by simpa using hu) fun h' ag sb=>?_
  have I1:Inv X pins σ H { s with heap:=h' }:=I.turned (t':=s.toks) (fun b o hb e=>(sb.2 b hb).trans e) f0 f1 f3 f4 f5
  obtain⟨o,e,c,d⟩:=id ag
  exact⟨u,rfl,SX (s:={ s with heap:=h' }) e c d (by decide) ⟨x,H,I1,ru,⟨rfl,fun ys hy=>by rw[I.ak' hy hq];exact hx⟩,ag,fun b hb=>(hf b hb).1⟩⟩
 done:=by
  intro X hP hw hK hc i pins s σ H E I hf st hg
  subst hP hw hK
  obtain⟨xs,hq,hx⟩:=hg
  obtain⟨its,rv,p,hz⟩:=I.list hq
  obtain⟨f0,f1,f2,f3,f4,f5⟩:=hf it (by simp)
  have hl:=rv.length
  exact wpAny_pyNext_list_end (I.ok.hd hc) st p.isList (by simp;lia) fun h' eb=>⟨rfl,I.turned (t':=s.toks) (fun b o hb e=>eb b o hb e) f0 f1 f3 f4 f5⟩
 self:=fun _ _ _ _ _ st h=>wpAny_pyIter_listiter st h
theorem aA'{P:Program}{w:World}{K:PySem.W.Frag}{tg:Expr}(a it:Addr):Turn P w K tg (SY K a) [it] it (fun i h=>h.IsTupleIter it a i) where
 mem:=by simp
 obj:=fun i h st b hb=>by
  have e:b=it:=by simpa using hb
  subst e
  obtain⟨o,e,c,d⟩:=st
  exact⟨o,e,fun v z=>by rw[d] at z;cases z⟩
 keep:=fun i h h' st k=>st.at fun o e=>k it (by simp) o e
 item:=by
  intro X hP hw hK hc i pins s σ H E I hf st hg
  subst hP hw hK
  obtain⟨xs,x,hq,hx⟩:=hg
  obtain⟨its,rv,p,hz⟩:=I.tuple hq
  obtain⟨u,hu,ru⟩:=rv.get hx
  obtain⟨f0,f1,f2,f3,f4,f5⟩:=hf it (by simp)
  refine wpAny_pyNext_tuple_item st (show s.heap.IsTuple a its.toArray from p) (x:=u) (by simpa using hu) fun h' ag sb=>?_
  have I1:Inv X pins σ H { s with heap:=h' }:=I.turned (t':=s.toks) (fun b o hb e=>(sb.2 b hb).trans e) f0 f1 f3 f4 f5
  obtain⟨o,e,c,d⟩:=id ag
  exact⟨u,rfl,SX (s:={ s with heap:=h' }) e c d (by decide) ⟨x,H,I1,ru,⟨rfl,fun ys hy=>by rw[I.al' hy hq];exact hx⟩,ag,fun b hb=>(hf b hb).1⟩⟩
 done:=by
  intro X hP hw hK hc i pins s σ H E I hf st hg
  subst hP hw hK
  obtain⟨xs,hq,hx⟩:=hg
  obtain⟨its,rv,p,hz⟩:=I.tuple hq
  obtain⟨f0,f1,f2,f3,f4,f5⟩:=hf it (by simp)
  have hl:=rv.length
  exact wpAny_pyNext_tuple_end (I.ok.hd hc) st (show s.heap.IsTuple a its.toArray from p) (by simp;lia) fun h' eb=>⟨rfl,I.turned (t':=s.toks) (fun b o hb e=>eb b o hb e) f0 f1 f3 f4 f5⟩
 self:=fun _ _ _ _ _ st h=>wpAny_pyIter_tupleiter st h
theorem aB'{P:Program}{w:World}{K:PySem.W.Frag}{tg:Expr}(it:Addr)(lo:Int)(n:Nat):Turn P w K tg (HP lo n) [it] it (fun i h=>IsRangeIter h it (lo+(i:Nat)*1) ((n:Int)-(i:Nat)) 1) where
 mem:=by simp
 obj:=fun i h st b hb=>by
  have e:b=it:=by simpa using hb
  subst e
  exact⟨_,st,fun v z=>by
   have z':Data.fields _=Data.cell v:=z
   cases z'⟩
 keep:=fun i h h' st k=>k it (by simp) _ st
 item:=by
  intro X hP hw hK hc i pins s σ H E I hf st hg
  subst hP hw hK
  obtain⟨f0,f1,f2,f3,f4,f5⟩:=hf it (by simp)
  have W:=Walks.range (prog:=X.prog) (w:=X.w) (I.ok.hd hc) it lo 1 n
  refine W.item i s _ _ hg st fun v h' tk hv ag kk=>?_
  obtain⟨t,rfl⟩:=hv
  have I1:Inv X pins σ H { s with heap:=h',toks:=tk }:=I.turned (fun b o hb e=>kk b o (by simpa using hb) e) f0 f1 f3 f4 f5
  refine⟨_,rfl,SX (s:={ s with heap:=h',toks:=tk }) (n := "range_iterator") ag rfl rfl (by decide) ⟨.int (lo+i),H,I1,⟨t,?_⟩,⟨rfl,rfl⟩,ag,fun b hb=>(hf b hb).1⟩⟩
  rw[Int.mul_one]
 done:=by
  intro X hP hw hK hc i pins s σ H E I hf st hg
  subst hP hw hK
  obtain⟨f0,f1,f2,f3,f4,f5⟩:=hf it (by simp)
  exact wpAny_pyNext_range_end (I.ok.hd hc) st (by have:n<=i:=hg;lia) fun h' eb=>⟨rfl,I.turned (t':=s.toks) (fun b o hb e=>eb b o hb e) f0 f1 f3 f4 f5⟩
 self:=fun _ _ _ _ _ st h=>wpAny_pyIter_rangeiter st h
section
variable {X:Cx}{tg:Expr}
def aC'(K:PySem.W.Frag)(tl:TE):TI:=fun σ H R=>tl σ H fun x H1=>∃ a,x=.ref a/\(∃ xs,eJ K H1 a xs)/\R (Qf K a) H1
def aD'(K:PySem.W.Frag)(tl:TE):TI:=fun σ H R=>tl σ H fun x H1=>∃ a,x=.ref a/\(∃ xs,kB K H1 a xs)/\R (SY K a) H1
theorem WD{l:Expr}{tl:TE}(hl:PE X l tl):PI X tg l (aC' X.K tl):=by
 intro pins s σ H R I h
 refine cv (hl pins s σ H _ I h) fun v s1 cK=>L2.hG cK fun x H1 I1 r1 q1=>?_
 obtain⟨a,e,⟨xs,hq⟩,q⟩:=q1
 subst e
 cases r1
 obtain⟨its,rv,p,hz⟩:=I1.list hq
 refine wpAny_pyIter_list p.isList ?_
 refine⟨s1.heap.objs.size,[s1.heap.objs.size],_,_,H1,rfl,I1.kept (t':=s1.toks) fun b o e=>eS _ e,az' a _,⟨_,i3 _ rfl,rfl,rfl⟩,fun b hb=>?_,q⟩
 have e:b=s1.heap.objs.size:=by simpa using hb
 subst e
 exact I1.Qe (bT _) (I1.bp.fresh (bT _))
theorem aE'{l:Expr}{tl:TE}(hl:PE X l tl):PI X tg l (aD' X.K tl):=by
 intro pins s σ H R I h
 refine cv (hl pins s σ H _ I h) fun v s1 cK=>L2.hG cK fun x H1 I1 r1 q1=>?_
 obtain⟨a,e,⟨xs,hq⟩,q⟩:=q1
 subst e
 cases r1
 obtain⟨its,rv,p,hz⟩:=I1.tuple hq
 refine wpAny_pyIter_tuple (show s1.heap.IsTuple a its.toArray from p) ?_
 refine⟨s1.heap.objs.size,[s1.heap.objs.size],_,_,H1,rfl,I1.kept (t':=s1.toks) fun b o e=>eS _ e,aA' a _,⟨_,i3 _ rfl,rfl,rfl⟩,fun b hb=>?_,q⟩
 have e:b=s1.heap.objs.size:=by simpa using hb
 subst e
 exact I1.Qe (bT _) (I1.bp.fresh (bT _))
theorem aF'{pins:List (Addr × Obj)}{σ:St}{H:Hp}{s:Shared}{R:It->Hp->Prop}{E:Value->Shared->Prop}{lo hi:Int}{t u v:Tok}{tk:Nat}(I:Inv X pins σ H s)(h1:-(2 ^ 62)<=lo)(h2:lo<2 ^ 62)(h3:-(2 ^ 62)<=hi)(h4:hi<2 ^ 62)
  (q:R (HP lo (hi-lo).toNat) H):wpAny (model X.prog X.w) X.A (pyIter (.ref s.heap.objs.size)) (WC X pins σ tg R) E { s with heap:=s.heap.push { cls:=.type "range",data:=.fields #[.int lo t,.int hi u,.int 1 v] },toks:=tk }:=by
 refine wpAny_pyIter_range (IsRange.new ..) (small_one h1 h2 h3 h4) ?_
 have I1:Inv X pins σ H { s with heap:=s.heap.push { cls:=.type "range",data:=.fields #[.int lo t,.int hi u,.int 1 v] },toks:=tk }:=I.kept fun b o e=>eS _ e
 refine⟨(s.heap.push { cls:=.type "range",data:=.fields #[.int lo t,.int hi u,.int 1 v] }).objs.size,[(s.heap.push { cls:=.type "range",data:=.fields #[.int lo t,.int hi u,.int 1 v] }).objs.size],_,_,H,rfl,
  I1.kept (t':=tk) fun b o e=>eS _ e,aB' _ lo (hi-lo).toNat,?_,fun b hb=>?_,q⟩
 ·have e1:lo+((0:Nat):Int)*1=lo:=by simp
  have e2:(((hi-lo).toNat:Nat):Int)-((0:Nat):Int)=Builtin.Range.rangeSize lo hi 1:=by rw[rangeSize_one];split<;>lia
  show IsRangeIter _ _ (lo+((0:Nat):Int)*1) ((((hi-lo).toNat:Nat):Int)-((0:Nat):Int)) 1
  rw[e1,e2]
  exact i3 _ rfl
 ·have e:b=(s.heap.push { cls:=.type "range",data:=.fields #[.int lo t,.int hi u,.int 1 v] }).objs.size:=by simpa using hb
  subst e
  exact I1.Qe (bT _) (I1.bp.fresh (bT _))
def aG'(ta:TA):TI:=fun σ H R=>ta σ H fun vs H1=>∃ j:Int,vs=[.int j]/\-(2 ^ 62)<=j/\j<2 ^ 62/\R (HP 0 j.toNat) H1
theorem aH' {a:Expr} {ta:TA} {p pos:Pos} (hg:Gl X "range") (hm:X.mg "range" = none) (ha:PA X [a] ta) (hs:starEach [a] X.env=[(false,eval a X.env)]:=by rfl):PI X tg (.Call (.Name "range" p) [a] [] pos) (aG' ta):=by
 intro pins s σ H R I h
 refine Call_ (HL I hg hm boot_range (PyProof.Rows.callWith_type1 (cv (ha pos pins s σ H _ I h) fun us s1 cK=>L2.hG cK fun vs H1 I1 r1 q1=>?_) hs rfl))
 obtain⟨j,e,q1,q2,q⟩:=q1
 subst e
 cases r1 with
 |cons r rr =>
  cases rr
  obtain⟨t,rfl⟩:=r
  exact call_range_1 (aF' I1 (by decide) (by decide) q1 q2 (by simpa using q))
def WH(wi:TI)(g:TG)(tb:TS):TS:=fun D σ H=>wi σ H fun J H1=>∃ W:Nat->Nat->St->Hp->Prop,(∃ m,W 0 m σ H1)/\∀ i m σ H,W i m σ H ->
 (J.stop i H/\D.nx σ H)\/(J.go i H/\∃ N:St->Hp->Prop,(∀ aE H',N aE H'->∃ m',m'<m/\W (i+1) m' aE H')/\∀ x H',J.nL i H x H'->g x σ H' fun fz H2=>tb { D with nx:=N,ct:=N,bk:=D.nx } fz H2)
def Mk(fp:List Addr)(h:Heap):List (Addr × Obj):=fp.filterMap fun b=>(h.get? b).map fun o=>(b,o)
theorem Qg{fp:List Addr}{h:Heap}{b:Addr}{o:Obj}(hb:b∈fp)(e:h.get? b=some o):(b,o)∈Mk fp h:=R6.mpr ⟨b,hb,by rw[e];rfl⟩
theorem aI'{fp:List Addr}{h:Heap}{p:Addr × Obj}(hp:p∈Mk fp h):p.1∈fp/\h.get? p.1=some p.2:=by
 obtain⟨b,hb,e⟩:=R6.mp hp
 cases q:h.get? b with
 |none=>rw[q] at e;cases e
 |some o =>
  rw[q] at e
  have e':(b,o)=p:=Option.some.inj e
  subst e'
  exact⟨hb,q⟩
theorem Inv.pinned{pins:List (Addr × Obj)}{σ:St}{H:Hp}{s:Shared}{fp:List Addr}(I:Inv X pins σ H s)(hf:∀ b∈fp,zv X pins H b)(ho:∀ b∈fp,∃ o,s.heap.get? b=some o/\∀ v,o.data≠.cell v):Inv X (pins++Mk fp s.heap) σ H s :=
 I.Wm fun p hp=>(dP.mp hp).elim (fun z=>I.pin p (fq _ z)) fun z=>by
  obtain⟨hb,e⟩:=aI' z
  obtain⟨f0,f1,f2,_⟩:=hf p.1 hb
  obtain⟨o,e',d⟩:=ho p.1 hb
  rw[e] at e';cases e'
  exact⟨e,f0,f1,f2,d⟩
theorem Inv.Qh{pins pl:List (Addr × Obj)}{σ:St}{H:Hp}{s:Shared}(I:Inv X (pins++pl) σ H s):Inv X pins σ H s:=I.Wm fun p hp=>I.pin p (fq _ (kr _ hp))
theorem aJ'{iter:Expr}{body:List Stmt}{wi:TI}{g:TG}{tb:TS}{pos:Pos}(hp:PassesOwn (model X.prog X.w) X.A X.env X.xe)(hc:X.calm=true)(hi:PI X tg iter wi)(hg:PG X tg g)(hb:nh X body tb)
  (hs:∀ x,foldedSetIterable iter X.env x=pure x:=by intro _;rfl):PS X (.For tg iter body [] pos) (WH wi g tb):=by
 intro pins s σ H D I h
 refine wpAny_For (cv (hi pins s σ H _ I h) fun v s1 h1=>cv h1 fun SW s2 h2=>?_) hs
 obtain⟨it,fp,tn,J,H2,e,I2,T,wq,f2,W,⟨m0,w0⟩,turn⟩:=h2
 subst e
 -- what stays true of the iterator's objects through the loop
 have stat:∀ {H':Hp},(∀ b∈fp,H' b=none)->∀ b∈fp,zv X pins H' b:=fun hn b hb=>⟨hn b hb,(f2 b hb).2⟩
 refine codeAny_forLoop_any (fun n s'=>∃ i aE H',Inv X pins aE H' s'/\tn i s'.heap/\(∀ b∈fp,H' b=none)/\W i n aE H') ?_ m0 ⟨0,σ,H2,I2,wq,fun b hb=>(f2 b hb).1,w0⟩
 rintro n s3 ⟨i,qA,H3,I3,wt,WK,w3⟩
 rcases turn i n qA H3 w3 with⟨stop,qn⟩|⟨go,N,hN,step⟩
 ·refine wpAny_passesOwn hp (cv (T.done X rfl rfl rfl hc i pins s3 qA H3 X.xe I3 (stat WK) wt stop) fun r s4 dk=>?_)
  obtain⟨hr,I4⟩:=dk
  subst hr
  exact wpAny_execs_nil ⟨qA,H3,I4,qn⟩
 ·refine wpAny_passesOwn hp (cv (T.item X rfl rfl rfl hc i pins s3 qA H3 X.xe I3 (stat WK) wt go) fun r s4 dk=>?_)
  obtain⟨u,hr,h4⟩:=dk
  subst hr
  refine wpAny_passesOwn hp (cv h4 fun _ s5 dk=>?_)
  obtain⟨x,H5,I5,r5,y5,EG,Qi⟩:=dk
  have I5':=I5.pinned (stat Qi) (T.obj _ _ EG)
  refine wpAny_passesOwn hp (cv (hg _ s5 qA H5 x u _ I5' r5 (step x H5 y5)) fun _ s6 dk=>?_)
  obtain⟨σ6,H6,I6,q6⟩:=dk
  refine wpAny_passesOwn hp (cv (hb _ s6 σ6 H6 _ I6 q6) fun f s7 q7=>?_)
  have again:∀ {xB:St} {H7:Hp},Inv X (pins++Mk fp s5.heap) xB H7 s7->N xB H7->∃ m,m<n/\∃ i aE H',Inv X pins aE H' s7/\tn i s7.heap/\(∀ b∈fp,H' b=none)/\W i m aE H':=fun {xB H7} I7 n7=>by
   obtain⟨m',hm,w7⟩:=hN xB H7 n7
   refine⟨m',hm,i+1,xB,H7,I7.Qh,T.keep _ _ _ EG fun b hb o e=>(I7.pin (b,o) (fq _ (fq _ (Qg hb e)))).1,fun b hb=>?_,w7⟩
   obtain⟨o,e,d⟩:=T.obj _ _ EG b hb
   exact(I7.pin (b,o) (fq _ (fq _ (Qg hb e)))).2.1
  cases f with
  |next=>obtain⟨xB,H7,I7,n7⟩:=q7;exact again I7 n7
  |cont=>obtain⟨xB,H7,I7,n7⟩:=q7;exact again I7 n7
  |brk=>obtain⟨xB,H7,I7,q7⟩:=q7;exact⟨xB,H7,I7.Qh,q7⟩
  |ret v=>obtain⟨x7,xB,H7,I7,r7,q7⟩:=q7;exact⟨x7,xB,H7,I7.Qh,r7,q7⟩
end
abbrev R2:=V->V->Hp->VK->Prop
def cS(X:Cx)(f:Value->Value->Sem Value)(r:R2):Prop :=
 ∀ (pins:List (Addr × Obj)) (s:Shared) (σ:St) (H:Hp) (x y:V) (v u:Value) (Q:VK),Inv X pins σ H s->RelV x v->RelV y u->r x y H Q ->
  wpAny (model X.prog X.w) X.A (f v u) (EP X pins σ Q) X.xe s
def Qj(X:Cx)(f:Value->Sem Value)(r:V->Hp->VK->Prop):Prop :=
 ∀ (pins:List (Addr × Obj)) (s:Shared) (σ:St) (H:Hp) (x:V) (v:Value) (Q:VK),Inv X pins σ H s->RelV x v->r x H Q ->
  wpAny (model X.prog X.w) X.A (f v) (EP X pins σ Q) X.xe s
def i5(X:Cx)(f:Value)(r:List V->Hp->VK->Prop):Prop :=
 ∀ (pins:List (Addr × Obj)) (s:Shared) (σ:St) (H:Hp) (xs:List V) (us:List Value) (Q:VK),Inv X pins σ H s->Vals xs us->r xs H Q ->
  wpAny (model X.prog X.w) X.A (call f us) (EP X pins σ Q) X.xe s
def My(r:R2)(ta tb:TE):TE:=fun σ H Q=>ta σ H fun x H1=>tb σ H1 fun y H2=>r x y H2 Q
def WL(r:V->Hp->VK->Prop)(ta:TE):TE:=fun σ H Q=>ta σ H fun x H1=>r x H1 Q
def rI(C:Int->Int->Prop)(g:Int->Int->V):R2:=fun x y H Q=>∃ i j,x=.int i/\y=.int j/\C i j/\Q (g i j) H
def EH(g:Int->Int->V):R2:=fun x y H Q=>∃ i j,x=.int i/\y=.int j/\Q (g i j) H
def rU(g:Int->V):V->Hp->VK->Prop:=fun x H Q=>∃ i,x=.int i/\Q (g i) H
section
variable {X:Cx}{a b:Expr}{ta tb:TE}{pos:Pos}
theorem S0(ha:PE X a ta)(hb:PE X b tb){pins:List (Addr × Obj)}{s:Shared}{σ:St}{H:Hp}{R:V->V->Hp->Prop}(I:Inv X pins σ H s)
  (h:ta σ H fun x H1=>tb σ H1 fun y H2=>R x y H2) {Q:Value->Shared->Prop} {f:Value->Value->Sem Value}
  (hf:∀ v u s2 x y H2,Inv X pins σ H2 s2->RelV x v->RelV y u->R x y H2->wpAny (model X.prog X.w) X.A (f v u) Q X.xe s2) :
  wpAny (model X.prog X.w) X.A (eval a X.env) (fun v dS=>wpAny (model X.prog X.w) X.A (eval b X.env) (fun u EI=>wpAny (model X.prog X.w) X.A (f v u) Q X.xe EI) X.xe dS) X.xe s:=by
 refine cv (ha pins s σ H _ I h) fun v s1 cK=>L2.hG cK fun x H1 I1 r1 q1=>?_
 refine cv (hb pins s1 σ H1 _ I1 q1) fun u s2 cK=>L2.hG cK fun y H2 I2 r2 q2=>?_
 exact hf v u s2 x y H2 I2 r1 r2 q2
theorem aM'{op:Operator}{r:R2}(ho:cS X (binaryOp op) r)(ha:PE X a ta)(hb:PE X b tb):PE X (.BinOp a op b pos) (My r ta tb):=by
 intro pins s σ H Q I h
 exact wpAny_BinOp (S0 ha hb I h fun v u s2 x y H2 I2 rx ry q=>ho pins s2 σ H2 x y v u Q I2 rx ry q)
theorem aN'{op:UnaryOp}{r:V->Hp->VK->Prop}(ho:Qj X (unaryOp op) r)(ha:PE X a ta):PE X (.UnaryOp op a pos) (WL r ta):=by
 intro pins s σ H Q I h
 exact UnaryOp_ (cv (ha pins s σ H _ I h) fun v s1 cK=>L2.hG cK fun x H1 I1 r1 q1=>ho pins s1 σ H1 x v Q I1 r1 q1)
theorem Qk{f:Value->Value->Sem Value}{C:Int->Int->Prop}{g:Int->Int->Int}
  (rule:∀ (i j:Int) (t u:Tok) (s:Shared) (Q:Value->Shared->Prop) (E:Value->Shared->Prop),C i j->Q (.int (g i j) s.toks) { s with toks:=s.toks+1 }->wpAny (model X.prog X.w) X.A (f (.int i t) (.int j u)) Q E s) :
  cS X f (rI C fun i j=>.int (g i j)):=by
 intro pins s σ H x y v u Q I rx ry h
 obtain⟨i,j,rfl,rfl,hc,q⟩:=h
 obtain⟨t,rfl⟩:=rx
 obtain⟨t',rfl⟩:=ry
 exact rule i j t t' s _ _ hc ⟨.int (g i j),H,I.tok _,⟨_,rfl⟩,q⟩
theorem WM{f:Value->Value->Sem Value}{g:Int->Int->Int}
  (rule:∀ (i j:Int) (t u:Tok) (s:Shared) (Q:Value->Shared->Prop) (E:Value->Shared->Prop),Q (.int (g i j) s.toks) { s with toks:=s.toks+1 }->wpAny (model X.prog X.w) X.A (f (.int i t) (.int j u)) Q E s) :
  cS X f (EH fun i j=>.int (g i j)):=by
 intro pins s σ H x y v u Q I rx ry h
 obtain⟨i,j,rfl,rfl,q⟩:=h
 obtain⟨t,rfl⟩:=rx
 obtain⟨t',rfl⟩:=ry
 exact rule i j t t' s _ _ ⟨.int (g i j),H,I.tok _,⟨_,rfl⟩,q⟩
theorem S4{f:Value->Value->Sem Value}{g:Int->Int->Bool}
  (rule:∀ (i j:Int) (t u:Tok) (s:Shared) (Q:Value->Shared->Prop) (E:Value->Shared->Prop),Q (.bool (g i j)) s->wpAny (model X.prog X.w) X.A (f (.int i t) (.int j u)) Q E s) :
  cS X f (EH fun i j=>.bl (g i j)):=by
 intro pins s σ H x y v u Q I rx ry h
 obtain⟨i,j,rfl,rfl,q⟩:=h
 obtain⟨t,rfl⟩:=rx
 obtain⟨t',rfl⟩:=ry
 exact rule i j t t' s _ _ ⟨.bl (g i j),H,I,rfl,q⟩
def aO'(i j:Int):Prop:=0<j/\j<1073741824
def HV(i j:Int):Prop:=0<=j/\j<=1000000/\i.natAbs<2 ^ 64
def zC(i j:Int):Prop:=(-(2 ^ 64)<i/\i<2 ^ 64)\/(-(2 ^ 64)<j/\j<2 ^ 64)
theorem zC.ok{i j:Int}(h:zC i j):IntMulOk i j:=by
 rcases h with⟨h1,h2⟩|⟨h1,h2⟩
 ·exact .of_left (intBits_le_64 h1 h2)
 ·exact .of_right (intBits_le_64 h1 h2)
theorem aP':cS X (binaryOp .Add) (EH fun i j=>.int (i+j)):=WM fun _ _ _ _ _ _ _ q=>add_int q
theorem aQ':cS X (binaryOp .Sub) (EH fun i j=>.int (i-j)):=WM fun _ _ _ _ _ _ _ q=>sub_int q
theorem aR':cS X (binaryOp .Mult) (rI zC fun i j=>.int (i*j)):=Qk fun _ _ _ _ _ _ _ hc q=>mul_int q hc.ok
theorem aS':cS X (binaryOp .FloorDiv) (rI aO' fun i j=>.int (i / j)):=Qk fun i j _ _ _ _ _ hc q=>by
 have h1:(0:Int)<j:=hc.1
 have h2:j<1073741824:=hc.2
 exact floordiv_int (by lia) (by rw[Int.fdiv_eq_ediv_of_nonneg i (by exact A3 ‹_›)];exact q) (.inl (PyProof.noPylong_small (by lia)))
theorem aT':cS X (binaryOp .Mod) (rI (fun _ j=>0<j) fun i j=>.int (i % j)):=Qk fun i j _ _ _ _ _ hc q=>by
 have h1:(0:Int)<j:=hc
 exact mod_int' (by lia) (by rw[Int.fmod_eq_emod_of_nonneg i (by exact A3 ‹_›)];exact q)
theorem aU':cS X (binaryOp .Pow) (rI HV fun i j=>.int (i ^ j.toNat)):=Qk fun _ _ _ _ _ _ _ hc q=>pow_int_small hc.1 hc.2.1 hc.2.2 q
theorem unI{f:Value->Sem Value}{g:Int->Int}
  (rule:∀ (i:Int) (t:Tok) (s:Shared) (Q:Value->Shared->Prop) (E:Value->Shared->Prop),Q (.int (g i) s.toks) { s with toks:=s.toks+1 }->wpAny (model X.prog X.w) X.A (f (.int i t)) Q E s) :
  Qj X f (rU fun i=>.int (g i)):=by
 intro pins s σ H x v Q I rx h
 obtain⟨i,rfl,q⟩:=h
 obtain⟨t,rfl⟩:=rx
 exact rule i t s _ _ ⟨.int (g i),H,I.tok _,⟨_,rfl⟩,q⟩
theorem aW':Qj X (unaryOp .USub) (rU fun i=>.int (-i)):=unI fun _ _ _ _ _ q=>neg_int q
end
def WN:V->V->Bool
 |.non,.non=>true|.non,.int _=>true|.int _,.non=>true|.non,.bl _=>true|.bl _,.non=>true|.non,.str _=>true|.str _,.non=>true
 |.int _,.int _=>true|.bl _,.bl _=>true|.str _,.str _=>true|.ua _,.ua _=>true
 |.int _,.str _=>true|.str _,.int _=>true|.bl _,.str _=>true|.str _,.bl _=>true
 |_,_=>false
def rEq:R2:=fun x y H Q=>WN x y=true/\Q (.bl (decide (x=y))) H
def rNe:R2:=fun x y H Q=>WN x y=true/\Q (.bl (!decide (x=y))) H
theorem WQ{i j:Int}:decide (V.int i=V.int j)=(i == j):=by
 rw[wa]
 simp
theorem WR{i j:Bool}:decide (V.bl i=V.bl j)=(i == j):=by
 rw[wa]
 simp
theorem WU{i j:Str}:decide (V.str i=V.str j)=(i == j):=by
 rw[wa]
 simp
theorem WV{i j:Array UInt8}:decide (V.ua i=V.ua j)=(i.toList == j.toList):=by
 rw[wa]
 cases i
 cases j
 simp
section
variable {X:Cx}{a b c:Expr}{ta tb tc:TE}{pos:Pos}
theorem gL{pins:List (Addr × Obj)}{σ:St}{H:Hp}{s:Shared}{Q:VK}{k k':Bool}(I:Inv X pins σ H s)(q:Q (.bl k) H)(e:k=k'):EP X pins σ Q (.bool k') s:=by
 subst e
 exact⟨.bl k,H,I,rfl,q⟩
theorem aZ':cS X (compareOp .Eq) rEq:=by
 intro pins s σ H x y v u Q I rx ry h
 obtain⟨hs,q⟩:=h
 cases x with
 |non =>
  cases rx
  cases y with
  |non=>cases ry;exact PySem.EqNone.eq_none_none (gL I q (by simp))
  |bl j=>cases ry;exact PySem.EqNone.eq_none_bool (gL I q (by simp))
  |int j=>obtain⟨t',rfl⟩:=ry;exact PySem.EqNone.eq_none_int (gL I q (by simp))
  |str j=>obtain⟨t',rfl⟩:=ry;exact PySem.EqNone.eq_none_str (gL I q (by simp))
  |_=>exact absurd (show false=true from hs) g9
 |bl i =>
  cases rx
  cases y with
  |non=>cases ry;exact PySem.EqNone.eq_bool_none (gL I q (by simp))
  |bl j=>cases ry;exact eq_bool (gL I q WR)
  |str j=>obtain⟨t',rfl⟩:=ry;exact PySem.EqMixed.eq_bool_str (gL I q (by simp))
  |_=>exact absurd (show false=true from hs) g9
 |int i =>
  obtain⟨t,rfl⟩:=rx
  cases y with
  |non=>cases ry;exact PySem.EqNone.eq_int_none (gL I q (by simp))
  |int j=>obtain⟨t',rfl⟩:=ry;exact eq_int (gL I q WQ)
  |str j=>obtain⟨t',rfl⟩:=ry;exact PySem.EqMixed.eq_int_str (gL I q (by simp))
  |_=>exact absurd (show false=true from hs) g9
 |str i =>
  obtain⟨t,rfl⟩:=rx
  cases y with
  |non=>cases ry;exact PySem.EqNone.eq_str_none (gL I q (by simp))
  |bl j=>cases ry;exact PySem.EqMixed.eq_str_bool (gL I q (by simp))
  |int j=>obtain⟨t',rfl⟩:=ry;exact PySem.EqMixed.eq_str_int (gL I q (by simp))
  |str j=>obtain⟨t',rfl⟩:=ry;exact eq_str (gL I q WU)
  |_=>exact absurd (show false=true from hs) g9
 |ua i =>
  obtain⟨t,rfl⟩:=rx
  cases y with
  |ua j=>obtain⟨t',rfl⟩:=ry;exact PySem.W.eq_bytes (gL I q WV)
  |_=>exact absurd (show false=true from hs) g9
 |_=>cases y<;>exact absurd (show false=true from hs) g9
theorem ba':cS X (compareOp .NotEq) rNe:=by
 intro pins s σ H x y v u Q I rx ry h
 obtain⟨hs,q⟩:=h
 cases x with
 |non =>
  cases rx
  cases y with
  |non=>cases ry;exact PySem.EqNone.ne_none_none (gL I q (by simp))
  |bl j=>cases ry;exact PySem.EqNone.ne_none_bool (gL I q (by simp))
  |int j=>obtain⟨t',rfl⟩:=ry;exact PySem.EqNone.ne_none_int (gL I q (by simp))
  |str j=>obtain⟨t',rfl⟩:=ry;exact PySem.EqNone.ne_none_str (gL I q (by simp))
  |_=>exact absurd (show false=true from hs) g9
 |bl i =>
  cases rx
  cases y with
  |non=>cases ry;exact PySem.EqNone.ne_bool_none (gL I q (by simp))
  |bl j=>cases ry;exact ne_bool (gL I q (congrArg not WR))
  |str j=>obtain⟨t',rfl⟩:=ry;exact PySem.EqMixed.ne_bool_str (gL I q (by simp))
  |_=>exact absurd (show false=true from hs) g9
 |int i =>
  obtain⟨t,rfl⟩:=rx
  cases y with
  |non=>cases ry;exact PySem.EqNone.ne_int_none (gL I q (by simp))
  |int j=>obtain⟨t',rfl⟩:=ry;exact ne_int (gL I q (congrArg not WQ))
  |str j=>obtain⟨t',rfl⟩:=ry;exact PySem.EqMixed.ne_int_str (gL I q (by simp))
  |_=>exact absurd (show false=true from hs) g9
 |str i =>
  obtain⟨t,rfl⟩:=rx
  cases y with
  |non=>cases ry;exact PySem.EqNone.ne_str_none (gL I q (by simp))
  |bl j=>cases ry;exact PySem.EqMixed.ne_str_bool (gL I q (by simp))
  |int j=>obtain⟨t',rfl⟩:=ry;exact PySem.EqMixed.ne_str_int (gL I q (by simp))
  |str j=>obtain⟨t',rfl⟩:=ry;exact ne_str (gL I q (congrArg not WU))
  |_=>exact absurd (show false=true from hs) g9
 |ua i =>
  obtain⟨t,rfl⟩:=rx
  cases y with
  |ua j=>obtain⟨t',rfl⟩:=ry;exact PySem.W.ne_bytes (gL I q (congrArg not WV))
  |_=>exact absurd (show false=true from hs) g9
 |_=>cases y<;>exact absurd (show false=true from hs) g9
theorem bb':cS X (compareOp .Lt) (EH fun i j=>.bl (decide (i<j))):=S4 fun _ _ _ _ _ _ _ q=>lt_int q
theorem bc':cS X (compareOp .LtE) (EH fun i j=>.bl (decide (i<=j))):=S4 fun _ _ _ _ _ _ _ q=>le_int q
theorem bd':cS X (compareOp .Gt) (EH fun i j=>.bl (decide (j<i))):=S4 fun _ _ _ _ _ _ _ q=>gt_int q
theorem be':cS X (compareOp .Lt) (fun x y H Q=>∃ i j,x=.str i/\y=.str j/\Q (.bl (decide (i.cps.toList<j.cps.toList))) H):=by
 intro pins s σ H x y v u Q I rx ry h
 obtain⟨i,j,rfl,rfl,q⟩:=h
 obtain⟨t,rfl⟩:=rx
 obtain⟨t',rfl⟩:=ry
 exact lt_str (gL I q rfl)
theorem bf':cS X (compareOp .In) (fun x y H Q=>∃ i j,x=.str i/\y=.str j/\Q (.bl (!(Builtin.Str.occurrences j i 0 j.length 1).isEmpty)) H):=by
 intro pins s σ H x y v u Q I rx ry h
 obtain⟨i,j,rfl,rfl,q⟩:=h
 obtain⟨t,rfl⟩:=rx
 obtain⟨t',rfl⟩:=ry
 exact in_str (gL I q rfl)
theorem WW:cS X (compareOp .IsNot) (fun x y H Q=>y=.non/\Q (.bl (!decide (x=.non))) H):=by
 intro pins s σ H x y v u Q I rx ry h
 obtain⟨rfl,q⟩:=h
 cases ry
 refine isnot_none_gen (gL I q ?_)
 cases x<;>first
  | (cases rx;rfl)
  | (obtain⟨t,rfl⟩:=rx;rfl)
theorem cS.or{f:Value->Value->Sem Value}{r r':R2}(h:cS X f r)(h':cS X f r'):cS X f (fun x y H Q=>r x y H Q\/r' x y H Q):=by
 intro pins s σ H x y v u Q I rx ry q
 rcases q with q|q
 ·exact h pins s σ H x y v u Q I rx ry q
 ·exact h' pins s σ H x y v u Q I rx ry q
theorem kD(b:Expr){op:CmpOp}(h:op≠.In:=by decide)(h2:op≠.NotIn:=by decide):behindInMarks op b=false:=by
 have e1:(op == CmpOp.In)=false:=by cases op<;>first|rfl|exact absurd rfl h
 have e2:(op == CmpOp.NotIn)=false:=by cases op<;>first|rfl|exact absurd rfl h2
 cases b<;>simp[behindInMarks,e1,e2]
theorem bg'{op:CmpOp}{r:R2}(ho:cS X (compareOp op) r)(ha:PE X a ta)(hb:PE X b tb)(hm:behindInMarks op b=false):PE X (.Compare a [op] [b] pos) (My r ta tb):=by
 intro pins s σ H Q I h
 exact wpAny_Compare1 (S0 ha hb I h fun v u s2 x y H2 I2 rx ry q=>ho pins s2 σ H2 x y v u Q I2 rx ry q) hm
def S5(t:TE):TT:=fun σ H Q=>t σ H fun x H'=>∃ k,x=.bl k/\Q k H'
theorem bh'{op:CmpOp}{r:R2}(ho:cS X (compareOp op) r)(ha:PE X a ta)(hb:PE X b tb)(hm:behindInMarks op b=false):PT X (.Compare a [op] [b] pos) (S5 (My r ta tb)):=by
 intro pins s σ H Q I h
 refine wpAny_isTrue_Compare1 (cv (ha pins s σ H _ I h) fun v s1 cK=>L2.hG cK fun x H1 I1 r1 q1=>cv (hb pins s1 σ H1 _ I1 q1) fun u s2 cK=>L2.hG cK fun y H2 I2 r2 q2 =>
  cv (ho pins s2 σ H2 x y v u _ I2 r1 r2 q2) fun c s3 ⟨z,H3,I3,r3,k,e,q3⟩=>?_) hm
 subst e
 cases r3
 exact wpAny_truthy_bool ⟨H3,I3,q3⟩
def WX(r r':R2)(ta tb tc:TE):TE:=fun σ H Q=>ta σ H fun x H1=>tb σ H1 fun y H2=>r x y H2 fun z H3=>∃ k,z=.bl k /\
 (if k=true then tc σ H3 fun w' H4=>r' y w' H4 Q else Q (.bl false) H3)
theorem bi'{op op':CmpOp}{r r':R2}(ho:cS X (compareOp op) r)(nc:cS X (compareOp op') r')(ha:PE X a ta)(hb:PE X b tb)(hc:PE X c tc)
  (hm:lastMarks [op,op'] [b,c]=false:=by with_unfolding_all rfl):PT X (.Compare a [op,op'] [b,c] pos) (S5 (WX r r' ta tb tc)):=by
 intro pins s σ H Q I h
 refine isTrue_chain (cv (ha pins s σ H _ I h) fun v s1 cK=>L2.hG cK fun x H1 I1 r1 q1=>test_link (cv (hb pins s1 σ H1 _ I1 q1) fun u s2 cK=>L2.hG cK fun y H2 I2 r2 q2 =>
  cv (ho pins s2 σ H2 x y v u _ I2 r1 r2 q2) fun d s3 ⟨z,H3,I3,r3,k,e,q3⟩=>?_)) hm
 subst e
 cases r3
 refine wpAny_truthy_bool ?_
 cases k with
 |false =>
  obtain⟨k',e',q'⟩:=q3
  cases e'
  exact ite_ff ⟨H3,I3,q'⟩
 |true =>
  refine ite_tt (test_last (cv (hc pins s3 σ H3 _ I3 q3) fun w' s4 ⟨z',H4,I4,r4,q4⟩=>cv (nc pins s4 σ H4 y z' u w' _ I4 r2 r4 q4) fun d' s5 dk=>?_))
  obtain⟨z2,H5,I5,r5,k2,e2,q5⟩:=dk
  subst e2
  cases r5
  exact wpAny_truthy_bool ⟨H5,I5,q5⟩
theorem Ql:(sizeLine:Nat)<2 ^ 63:=by rw[sizeLine_eq];decide
theorem bj':cS X (binaryOp .Add) (fun x y H Q=>∃ i j,x=.str i/\y=.str j/\i.length+j.length<=sizeLine/\Q (.str (i++j)) H):=by
 intro pins s σ H x y v u Q I rx ry h
 obtain⟨i,j,rfl,rfl,hz,q⟩:=h
 obtain⟨t,rfl⟩:=rx
 obtain⟨t',rfl⟩:=ry
 exact add_str (fun t' tk=>⟨.str (i++j),H,I.tok _,⟨_,rfl⟩,q⟩) hz
theorem vals1{x:V}{us:List Value}(r:Vals [x] us):∃ u,us=[u]/\RelV x u:=by
 cases r with
 |cons r1 r2=>cases r2;exact⟨_,rfl,r1⟩
theorem vals2{x y:V}{us:List Value}(r:Vals [x,y] us):∃ u w',us=[u,w']/\RelV x u/\RelV y w':=by
 cases r with
 |cons r1 r2 =>
  cases r2 with
  |cons r3 r4=>cases r4;exact⟨_,_,rfl,r1,r3⟩
theorem bk' (hc:X.calm=true):i5 X (.builtin "min") (fun xs H Q=>∃ i j,xs=[.int i,.int j]/\Q (.int (if j<i then j else i)) H):=by
 intro pins s σ H xs us Q I r h
 obtain⟨i,j,rfl,q⟩:=h
 obtain⟨u,w',rfl,⟨t,rfl⟩,⟨t',rfl⟩⟩:=vals2 r
 refine min_two_ints (I.ok.hd hc) fun h' tk k=>⟨_,H,I.kept k,?_,q⟩
 by_cases hj:j<i
 ·rw[if_pos hj,if_pos hj];exact⟨_,rfl⟩
 ·rw[if_neg hj,if_neg hj];exact⟨_,rfl⟩
theorem bm':i5 X (.type "int") (fun xs H Q=>(∃ i,xs=[.int i]/\Q (.int i) H)\/∃ k,xs=[.bl k]/\Q (.int (if k then 1 else 0)) H):=by
 intro pins s σ H xs us Q I r h
 rcases h with⟨i,rfl,q⟩|⟨k,rfl,q⟩
 ·obtain⟨u,rfl,t,rfl⟩:=vals1 r
  exact call_int_int ⟨.int i,H,I,⟨_,rfl⟩,q⟩
 ·obtain⟨u,rfl,r1⟩:=vals1 r
  cases r1
  exact call_int_bool ⟨.int (if k then 1 else 0),H,I.tok _,⟨_,rfl⟩,q⟩
def bn'(K:PySem.W.Frag)(x:V)(H:Hp)(n:Nat):Prop :=
 match x with
 |.str y=>y.length<=sizeLine/\n=y.length
 |.ua y=>y.size<=sizeLine/\n=y.size
 |.ref p=>(∃ xs,eJ K H p xs/\n=xs.length)\/∃ xs,kB K H p xs/\n=xs.length
 |_=>False
theorem S6:i5 X (.builtin "len") (fun xs H Q=>∃ x n,xs=[x]/\bn' X.K x H n/\Q (.int n) H):=by
 intro pins s σ H xs us Q I r h
 obtain⟨x,n,rfl,e,q⟩:=h
 obtain⟨u,rfl,rx⟩:=vals1 r
 have hl:=Ql
 have hs:sizeLine=16777216:=sizeLine_eq
 cases x with
 |str y =>
  obtain⟨t,rfl⟩:=rx
  obtain⟨hy,e'⟩:y.length<=sizeLine/\n=y.length:=e
  subst e'
  exact len_str (by lia) ⟨.int _,H,I.tok _,⟨_,rfl⟩,q⟩
 |ua y =>
  obtain⟨t,rfl⟩:=rx
  obtain⟨hy,e'⟩:y.size<=sizeLine/\n=y.size:=e
  subst e'
  exact PySem.W.len_bytes (by walk_at "s4") ⟨.int _,H,I.tok _,⟨_,rfl⟩,q⟩
 |ref p =>
  cases rx
  have e':(∃ xs,eJ X.K H p xs/\n=xs.length)\/∃ xs,kB X.K H p xs/\n=xs.length:=e
  rcases e' with⟨xs,hx,e'⟩|⟨xs,hx,e'⟩
  ·subst e'
   obtain⟨its,r',pl,hz⟩:=I.list hx
   have hlen:=r'.length
   exact Calls.call_len_list pl.isList (by simp only[ip];lia) ⟨.int xs.length,H,I.tok _,⟨_,by simp only[ip];rw[hlen]⟩,q⟩
  ·subst e'
   obtain⟨its,r',pl,hz⟩:=I.tuple hx
   have hlen:=r'.length
   exact len_tuple pl (by simp only[ip];lia) ⟨.int xs.length,H,I.tok _,⟨_,by simp only[ip];rw[hlen]⟩,q⟩
 |_=>exact(show False from e).elim
end
structure S7(h:Heap)(x dx C:Addr)(mA:Str->Option Value):Prop where
 obj:h.get? x=some (PySem.W.instObj C dx)
 ns:h.Ns1 dx mA
 ne:dx≠x
theorem lookIn_ns{h:Heap}{dx:Addr}{mA:Str->Option Value}(n:h.Ns1 dx mA):∃ od,h.get? dx=some od/\∀ name,PySem.W.lookIn name od=some (mA name):=by
 obtain⟨o,es,ep,ho,hd,hk,_,hm⟩:=n
 refine⟨o,ho,fun name=>?_⟩
 have e:=hm name
 unfold nsFind findBy at e
 rw[<- Array.find?_toList] at e
 unfold PySem.W.lookIn
 rw[hd]
 dsimp only
 split
 ·rename_i y q
  rw[q] at e
  exact congrArg some e
 ·rename_i q
  rw[q] at e
  have a:es.toList.any (·.refKey)=false:=by
   rw[List.any_eq_false]
   intro y hy
   obtain⟨z,t,bo'⟩:=hk y (Array.mem_toList_iff.mp hy)
   simp[DictEntry.refKey,bo']
  have a':¬ es.toList.any (·.refKey)=true:=by rw[a];exact g9
  rw[if_neg a']
  exact congrArg some e
theorem S7.look{h:Heap}{x dx C:Addr}{mA:Str->Option Value}(I:S7 h x dx C mA):∃ od,PySem.W.InstAt h x (PySem.W.instObj C dx) C (some od)/\∀ name,PySem.W.lookIn name od=some (mA name) :=
 let ⟨od,ho,hl⟩:=lookIn_ns I.ns
 ⟨od,⟨I.obj,rfl,rfl,ho⟩,hl⟩
theorem xo.some_of{v:V}{o:Option Value}(r:xo (some v) o):∃ u,o=some u/\RelV v u:=by
 cases o with
 |none=>exact(show False from r).elim
 |some u=>exact⟨u,rfl,r⟩
section
variable {P:Program}{w:World}{H:Hp}{h:Heap}{a C dx:Addr}{fs:List (Str × V)}
theorem Qm(bp:fP P w H h)(e:H a=some (.ins C dx fs)):∃ mA,S7 h a dx C mA/\(∀ f,xo (fs.lookup f) (mA f))/\PySem.Within mA (fs.map (·.1))/\fs.length<=1000/\H dx=some (.own a):=by
 obtain⟨d,z,ne,ob,mA,n,r,q⟩:=(show eW P w H h a (.ins C dx fs) from bp a _ e)
 exact⟨mA,⟨ob,n,ne⟩,r,q,z,d⟩
end
structure S8(K:PySem.W.Frag)(C:Addr):Prop where
 pg:PySem.W.plainGet K C Str.empty=true
 hd:PySem.W.hasDictIn K C=true
 po:PySem.W.plainOver K C=true
 sa:PySem.W.findIn K (.ref C) "__setattr__" = some (some (.builtin "object.__setattr__"))
theorem S8.get{K:PySem.W.Frag}{C:Addr}(c:S8 K C)(f:Str):PySem.W.plainGet K C f=true:=c.pg
section
variable {X:Cx}{pins:List (Addr × Obj)}{σ:St}{H:Hp}{s:Shared}{A:Around}{E:Value->Shared->Prop}{Q:Value->Shared->Prop}{c:Value}{b:Bool}
inductive wx(K:PySem.W.Frag)(H:Hp):V->Value->Prop where
 |non:wx K H .non (.type "NoneType")
 |bl (x:Bool):wx K H (.bl x) (.type "bool")
 |int (i:Int):wx K H (.int i) (.type "int")
 |str (x:Str):wx K H (.str x) (.type "str")
 |A4 (x:UInt64):wx K H (.A4 x) (.type "float")
 |lst {a:Addr} {xs:List V} (e:H a=some (.lst xs)):wx K H (.ref a) (.type "list")
 |mS {a:Addr} {o:Obj} {xs:List V} (e:H a=some (.mS o (.lst xs))):wx K H (.ref a) (.type "list")
 |tup {a:Addr} {xs:List V} (e:H a=some (.tup xs)):wx K H (.ref a) (.type "tuple")
 |dK {a:Addr} {kvs:List (Key × V)} (e:H a=some (.dK kvs)):wx K H (.ref a) (.type "dict")
 |dT {a:Addr} {kvs:List (List Key × V)} (e:H a=some (.dT kvs)):wx K H (.ref a) (.type "dict")
 |ins {a C dx:Addr} {fs:List (Str × V)} (e:H a=some (.ins C dx fs)) (cl:S8 K C) (ha:PySem.W.findIn K (.ref C) "__class__" = some (some (.builtin "object.__class__")))
   (hn:PySem.W.specialIn K (.builtin "object.__class__") "__get__" = some (some (.builtin "getset_descriptor.__get__"))) (WY:PySem.W.takesIn K (.builtin "object.__class__")=some true)
   (hm:PySem.W.mroIn K C (.type "object")=some true):wx K H (.ref a) (.ref C)
theorem MA{x:V}{u t:Value}(I:Inv X pins σ H s)(rx:RelV x u)(ty:wx X.K H x t)(e:PySem.W.kitOne X.K t c=some b)(h:∀ tk,Q (.bool b) { s with toks:=tk }) :
  wpAny (model X.prog X.w) A (call (.builtin "isinstance") [u,c]) Q E s:=by
 cases ty with
 |non=>cases (show u=Value.none from rx);exact PySem.W.kia_one PySem.W.kitx_none I.ke True.intro e (fun z=>nomatch z) h
 |bl y=>cases (show u=Value.bool y from rx);exact PySem.W.kia_one PySem.W.kitx_bool I.ke True.intro e (fun z=>nomatch z) h
 |int i=>obtain⟨t,q⟩:=(show ∃ t,u=Value.int i t from rx);cases q;exact PySem.W.kia_one PySem.W.kitx_int I.ke True.intro e (fun z=>nomatch z) h
 |str y=>obtain⟨t,q⟩:=(show ∃ t,u=Value.str y t from rx);cases q;exact PySem.W.kia_one PySem.W.kitx_str I.ke True.intro e (fun z=>nomatch z) h
 |A4 y=>obtain⟨t,q⟩:=(show ∃ t,u=Value.float y t from rx);cases q;exact PySem.W.kia_one PySem.W.kitx_float I.ke True.intro e (fun z=>nomatch z) h
 |@lst a xs ea =>
  cases (show u=Value.ref a from rx)
  obtain⟨_,_,n,_,h1⟩:=(show eW X.prog X.w H s.heap a (.lst xs) from I.bp a _ ea)
  exact PySem.W.kia_one PySem.W.kitx_list I.ke ⟨_,h1,rfl⟩ e (fun z=>nomatch z) h
 |@mS a ob xs ea =>
  cases (show u=Value.ref a from rx)
  obtain⟨_,_,_,n,_,h1⟩:=(show eW X.prog X.w H s.heap a (.mS ob (.lst xs)) from I.bp a _ ea)
  exact PySem.W.kia_one PySem.W.kitx_list I.ke ⟨_,h1,rfl⟩ e (fun z=>nomatch z) h
 |@tup a xs ea =>
  cases (show u=Value.ref a from rx)
  obtain⟨_,_,_,p⟩:=(show eW X.prog X.w H s.heap a (.tup xs) from I.bp a _ ea)
  obtain⟨o,h1,h2,_⟩:=p
  exact PySem.W.kia_one PySem.W.kitx_tuple I.ke ⟨o,h1,h2⟩ e (fun z=>nomatch z) h
 |@dK a kvs ea =>
  cases (show u=Value.ref a from rx)
  obtain⟨_,_,vs,_,p⟩:=(show eW X.prog X.w H s.heap a (.dK kvs) from I.bp a _ ea)
  obtain⟨o,es,ep,h1,h2,_⟩:=p
  exact PySem.W.kia_one PySem.W.kitx_dict I.ke ⟨o,h1,h2.1⟩ e (fun z=>nomatch z) h
 |@dT a kvs ea =>
  cases (show u=Value.ref a from rx)
  obtain⟨_,_,xs,_,o,es,ep,h1,h2,_⟩:=(show eW X.prog X.w H s.heap a (.dT kvs) from I.bp a _ ea)
  exact PySem.W.kia_one PySem.W.kitx_dict I.ke ⟨o,h1,h2.1⟩ e (fun z=>nomatch z) h
 |@ins a C dx fs ea cl ha hn WY hm =>
  cases (show u=Value.ref a from rx)
  obtain⟨mA,O,_⟩:=Qm I.bp ea
  obtain⟨od,J,_⟩:=O.look
  exact PySem.W.kia_one (PySem.W.kitx_own (cl.get _) cl.hd ha hn WY hm) I.ke J e (fun z=>nomatch z) h
end
structure i6(k:Nat)(A:Around):Prop where
 hd:A.handled=none
 dp:A.depth+3*k+5<recursionLimit
 un:A.units+16*k+200<cLine
theorem i6.mono{j k:Nat}{A:Around}(r:i6 k A)(h:j<=k):i6 j A:=⟨r.hd,by have:=r.dp;lia,by have:=r.un;lia⟩
theorem i6.deeper{k:Nat}{A:Around}(r:i6 (k+1) A)(env:Env):i6 k (A.deeper env) :=
 ⟨r.hd,by have:=r.dp;show A.depth+1+3*k+5<_;lia,by have:=r.un;show A.units+3+16*k+200<_;lia⟩
theorem i6.depth{k:Nat}{A:Around}(r:i6 k A):A.depth<recursionLimit:=by have:=r.dp;lia
theorem i6.units{k:Nat}{A:Around}(r:i6 k A):A.units+64<cLine:=by have:=r.un;lia
def WZ:TA:=fun _ H Q=>Q [] H
def W0(ta:TE)(tr:TA):TA:=fun σ H Q=>ta σ H fun x H1=>tr σ H1 fun xs H2=>Q (x :: xs) H2
section
variable {X:Cx}{e:Expr}{es:List Expr}{te:TE}{t:TA}{pos:Pos}
theorem sN:PA X [] WZ:=fun _ _ _ _ H Q I h=>Calls.spliced_nil ⟨[],H,I,.nil,h⟩
theorem pd(ha:PE X e te)(hr:PA X es t)(hs:starEach (e :: es) X.env=(false,eval e X.env) :: starEach es X.env:=by rfl):PA X (e :: es) (W0 te t):=by
 intro pos pins s σ H Q I h
 rw[hs]
 show wpAny _ _ (spliced ((false,eval e X.env) :: backTo pos (starEach es X.env))) _ _ s
 refine Calls.spliced_cons (cv (ha pins s σ H _ I h) fun u s1 cK=>L2.hG cK fun x H1 I1 r1 q1=>?_)
 exact cv (hr pos pins s1 σ H1 _ I1 q1) fun us s2 cK=>L2.hG cK fun xs H2 I2 r2 q2=>⟨x :: xs,H2,I2,.cons r1 r2,q2⟩
def bp'(t:TA):TE:=fun σ H Q=>t σ H fun xs H1=>xs.length<=sizeLine/\∀ p,H1 p=none->Q (.ref p) (upd H1 p (.tup xs))
def bq'(t:TA):TE:=fun σ H Q=>t σ H fun xs H1=>xs.length<=sizeLine/\∀ p,H1 p=none->Q (.ref p) (upd H1 p (.lst xs))
theorem bs'{x1}(h:PA X es t):PE X (.Tuple es x1 pos) (bp' t):=by
 intro pins s σ H Q I hq
 refine wpAny_Tuple_spliced (cv (h pos pins s σ H _ I hq) fun us s1 ⟨xs,H1,I1,r,z,q⟩=>⟨by rw[<- r.length];exact z,?_⟩)
 have hf:H1 s1.heap.objs.size=none:=I1.bp.fresh (bT _)
 refine⟨.ref s1.heap.objs.size,upd H1 s1.heap.objs.size (.tup xs),I1.laid (t':=s1.toks) (fun b u e=>eS _ e) (bT _) ?_,rfl,q _ hf⟩
 exact⟨z,us,r,⟨_,i3 _ rfl,rfl,_,rfl⟩⟩
theorem bt'(h:PA X es t):PE X (.List es pos) (bq' t):=by
 intro pins s σ H Q I hq
 refine wpAny_List_spliced (cv (h pos pins s σ H _ I hq) fun us s1 ⟨xs,H1,I1,r,z,q⟩=>⟨by rw[<- r.length];exact z,?_⟩)
 have hf:H1 s1.heap.objs.size=none:=I1.bp.fresh (bT _)
 refine⟨.ref s1.heap.objs.size,upd H1 s1.heap.objs.size (.lst xs),I1.laid (t':=s1.toks) (fun b u e=>eS _ e) (bT _) ?_,rfl,q _ hf⟩
 exact⟨z,us,0,r,i3 _ rfl⟩
end
abbrev Sp:=List V->Hp->VK->XK->Prop
abbrev xC:=List Env->Hp->Shared->XK->Value->Shared->Prop
structure Qn(P:Program)(w:World)(K:PySem.W.Frag)(mg:Str->Option Value)(base:Heap)(A:Around)(outer:List Env)(s:Shared)(H:Hp):Prop where
 frames:A.frames=some outer
 mod:Mod K mg base
 bs:∀ b o,base.get? b=some o->s.heap.get? b=some o/\H b=none
 ui:base.objs.size<=s.heap.objs.size
 qq:s.heap.FunFrames base outer
 xA:∀ b∈fe outer,H b=none
 bp:fP P w H s.heap
 bare:AllBare s.gens
def CE(outer:List Env)(P:Program)(w:World)(H:Hp)(s:Shared)(Q:VK)(u:Value)(s':Shared):Prop :=
 ∃ v H',s'.os=s.os/\AllBare s'.gens/\Un (fe outer) [] H H' s.heap s'.heap/\fP P w H' s'.heap/\RelV v u/\Q v H'
def CR(CX:xC)(outer:List Env)(P:Program)(w:World)(H:Hp)(s:Shared)(Q:VK)(E:XK)(r:Result)(s':Shared):Prop :=
 match r with
 |.ok (.ret u)=>CE outer P w H s Q u s'
 |.ok _=>False
 |.error e=>CX outer H s E e s'
structure gv(P:Program)(w:World)(K:PySem.W.Frag)(mg:Str->Option Value)(base:Heap)(CX:xC)(k:Nat)(f:Addr)(fd:FuncData)(ps:List Str)(sp:Sp):Prop where
 len:∀ vs H Q E,sp vs H Q E->vs.length=ps.length
 run:∀ (A:Around) (outer:List Env) (s:Shared) (H:Hp) (args:Args) (us:List Value) (vs:List V) (Q:VK) (E:XK),i6 k A->Qn P w K mg base A outer s H->BindsTo s fd args (ps.zip us)->Vals vs us->sp vs H Q E ->
  codeAny (model P w) A (.call (.ref f) args) (CR CX outer P w H s Q E) s
section
variable {X:Cx}{pins:List (Addr × Obj)}{σ:St}{H:Hp}{s s':Shared}
theorem Inv.bu'(I:Inv X pins σ H s):Qn X.prog X.w X.K X.mg X.base X.A X.stack s H :=
 ⟨I.ok.frames,I.ok.mod,I.bs,iS I.ok.ui I.sz,I.stack,I.Ss,I.bp,I.bare⟩
theorem Inv.after{Q:VK}{u:Value}(I:Inv X pins σ H s)(h:CE X.stack X.prog X.w H s Q u s'):EP X pins σ Q u s':=by
 obtain⟨v,H',os,bare,un,bp,r,q⟩:=h
 obtain⟨hh,g,d,t,S9⟩:=s'
 obtain rfl:S9=s.os:=os
 exact⟨v,H',I.call (h':=hh) (g':=g) (d':=d) (t':=t) (ch:=[]) un bp bare (fun b z=>absurd z (by simp)),r,q⟩
end
def MB(sp:Sp)(DI:List V)(E:XK)(t:TA):TE:=fun σ H Q=>t σ H fun vs H1=>sp (vs++DI) H1 Q E
def Binds(K:PySem.W.Frag)(fd:FuncData)(ps:List Str)(ds:List Value):Prop :=
 ∀ (s:Shared) (us:List Value),K.In s.heap->(us++ds).length=ps.length->BindsTo s fd ⟨us,[]⟩ (ps.zip (us++ds))
theorem Binds.all{K:PySem.W.Frag}{fd:FuncData}{ps:List Str}(h:∀ us:List Value,us.length=ps.length->bindArgs fd ⟨us,[]⟩=pure (ps.zip us)):Binds K fd ps []:=fun s us _ hl=>by
 rw[oP] at hl ⊢
 exact .of_eq (h us hl)
def Passes(CX:xC)(X:Cx)(E:XK):Prop:=∀ (pins:List (Addr × Obj)) (σ:St) (H:Hp) (s:Shared) (e:Value) (s':Shared),Inv X pins σ H s->CX X.stack H s E e s'->X.xe e s'
section
variable {X:Cx}{CX:xC}{k:Nat}{f:Addr}{fd:FuncData}{ps:List Str}{sp:Sp}{DI:List V}{ds:List Value}{E:XK}{x:Str}{p pos:Pos}{e:Expr}{es:List Expr}{t:TA}
theorem bv'{pins:List (Addr × Obj)}{σ:St}{H:Hp}{s:Shared}{Q:VK}{us:List Value}{vs:List V}(F:gv X.prog X.w X.K X.mg X.base CX k f fd ps sp)(hr:i6 k X.A)(hb:Binds X.K fd ps ds)(hd:Vals DI ds)(hx:Passes CX X E)
  (I:Inv X pins σ H s) (r:Vals vs us) (h:sp (vs++DI) H Q E):wpAny (model X.prog X.w) X.A (call (.ref f) us) (EP X pins σ Q) X.xe s:=by
 have r2:Vals (vs++DI) (us++ds):=r.append hd
 have hl:(us++ds).length=ps.length:=by rw[<- r2.length];exact F.len _ _ _ _ h
 refine wpAny_call (codeAny_mono (F.run X.A X.stack s H ⟨us,[]⟩ (us++ds) (vs++DI) Q E hr I.bu' (hb s us I.ke hl) r2 h) fun r s' hq=>?_)
 cases r with
 |error e=>exact hx pins σ H s e s' I hq
 |ok fl =>
  cases fl with
  |ret u=>exact I.after hq
  |next=>exact False.elim hq
  |brk=>exact False.elim hq
  |cont=>exact False.elim hq
theorem W3(F:gv X.prog X.w X.K X.mg X.base CX k f fd ps sp)(hr:i6 k X.A)(hg:Gl X x)(hm:X.mg x=some (.ref f))(hk:PySem.W.keepIn X.K (.ref f)=true)(hb:Binds X.K fd ps ds)(hd:Vals DI ds)(hx:Passes CX X E)
  (ha:PA X (e :: es) t) (hJ:(x == ("__debug__" : Str))=false:=by decide) (he:starEach (e :: es) X.env=(false,eval e X.env) :: starEach es X.env:=by rfl) (fA:(backTo pos (starEach es X.env)).any (·.1)=false:=by rfl) :
  PE X (.Call (.Name x p) (e :: es) [] pos) (MB sp DI E t):=by
 intro pins s σ H Q I h
 refine wpAny_Call_Name_kw (Qb I hg hm ?_ hJ)
 refine PySem.W.callWith_K (h₀:=X.base) I.ok.mod.P9 hk (cv (ha pos pins s σ H _ I h) fun us s1 cK=>L2.hG cK fun vs H1 I1 r q=>⟨I1.ke,?_⟩) he fA
 exact bv' F hr hb hd hx I1 r q
end
structure ku(N P:List Str)(sc:Scope):Prop where
 kind:sc.kind=.function
 co:sc.isCoroutine=false
 gen:sc.isGenerator=false
 nd:N.Nodup
 pre:N.take P.length=P
 par:∀ x∈P,sc.names.lookup x=some .local\/sc.names.lookup x=some .cell
 bw':∀ y∈sc.names,y.2≠.free
theorem W4{kindOf:Str->Option NameKind}{x:Str}:∀ {binds:List (Str × Value)} {m:Str->Option Value},(∀ v,(x,v)∉binds)->bindL kindOf binds m x=m x
 |[],_,_=>rfl
 | (n,v) :: r,m,h=>by
  unfold bindL
  rw[W4 fun w hw=>h w (ck _ hw)]
  split
  ·have:x≠n:=by rintro rfl;exact h v cq
   simp[this]
  ·rfl
theorem W5{kindOf:Str->Option NameKind}{x:Str}:∀ {binds:List (Str × Value)} {m:Str->Option Value},(∀ v,(x,v)∉binds)->bindC kindOf binds m x=m x
 |[],_,_=>rfl
 | (n,v) :: r,m,h=>by
  unfold bindC
  rw[W5 fun w hw=>h w (ck _ hw)]
  split
  ·rfl
  ·have:x≠n:=by rintro rfl;exact h v cq
   simp[this]
theorem W6{kindOf:Str->Option NameKind}{x:Str}{v:Value}:∀ {P:List Str} {vs:List Value} {i:Nat} {m:Str->Option Value},P.Nodup->P[i]? = some x->vs[i]? = some v->kindOf x=some .local ->
  bindL kindOf (P.zip vs) m x=some v
 |[],_,_,_,_,h,_,_=>by simp at h
 |_ :: _,[],_,_,_,_,h,_=>by simp at h
 |p :: P,w :: vs,0,m,nd,h1,h2,hk=>by
  simp at h1 h2;subst h1;subst h2
  show bindL kindOf ((p,w) :: P.zip vs) m p=_
  unfold bindL
  rw[W4 fun v hv=>(kA.mp nd).1 (List.of_mem_zip hv).1,if_pos hk]
  simp
 |p :: P,w :: vs,i+1,m,nd,h1,h2,hk=>by
  show bindL kindOf ((p,w) :: P.zip vs) m x=_
  unfold bindL
  exact W6 (i:=i) (kA.mp nd).2 (by simpa using h1) (by simpa using h2) hk
theorem W7{kindOf:Str->Option NameKind}{x:Str}{v:Value}:∀ {P:List Str} {vs:List Value} {i:Nat} {m:Str->Option Value},P.Nodup->P[i]? = some x->vs[i]? = some v->kindOf x≠some .local ->
  bindC kindOf (P.zip vs) m x=some v
 |[],_,_,_,_,h,_,_=>by simp at h
 |_ :: _,[],_,_,_,_,h,_=>by simp at h
 |p :: P,w :: vs,0,m,nd,h1,h2,hk=>by
  simp at h1 h2;subst h1;subst h2
  show bindC kindOf ((p,w) :: P.zip vs) m p=_
  unfold bindC
  rw[W5 fun v hv=>(kA.mp nd).1 (List.of_mem_zip hv).1,if_neg hk]
  simp
 |p :: P,w :: vs,i+1,m,nd,h1,h2,hk=>by
  show bindC kindOf ((p,w) :: P.zip vs) m x=_
  unfold bindC
  exact W7 (i:=i) (kA.mp nd).2 (by simpa using h1) (by simpa using h2) hk
def start(N:List Str)(vs:List V):St:=vs.map some++List.replicate (N.length-vs.length) none
def rX(CX:xC)(P:Program)(w:World)(K:PySem.W.Frag)(mg:Str->Option Value)(base:Heap)(N:List Str)(qual:Str)(scope:Scope)(f:Addr)(cd:Value)(A:Around)(outer:List Env)(s:Shared)(H:Hp)(E:XK):Cx where
 prog:=P
 w:=w
 K:=K
 mg:=mg
 base:=base
 A:=A.deeper (envOfC qual scope s.heap.objs.size f cd)
 N:=N
 eu:=s
 xv:=H
 env:=envOfC qual scope s.heap.objs.size f cd
 outer:=outer
 stack:=envOfC qual scope s.heap.objs.size f cd :: outer
 ex:=[]
 calm:=true
 fn:=fun _=>true
 pn:=[]
 xe:=fun e s'=>wpAny (model P w) (A.deeper (envOfC qual scope s.heap.objs.size f cd)) (leaving (envOfC qual scope s.heap.objs.size f cd) e) (fun _ DJ=>CX outer H s E e DJ) (fun e' DJ=>CX outer H s E e' DJ) s'
theorem W8{sc:Scope}{n:Nat}{x:Str}(h:sc.names.lookup x=some .cell):∃ c,(cellsFrom n sc.names []).lookup x=some c:=by
 have q:=PySem.W.cellsFrom_some sc.names n [] (.inl h)
 exact Option.isSome_iff_exists.mp q
theorem bx'{CX:xC}{P:Program}{w:World}{K:PySem.W.Frag}{mg:Str->Option Value}{base:Heap}{N ps:List Str}{qual:Str}{scope:Scope}{f:Addr}{cd:Value}{A:Around}{outer:List Env}{s s1:Shared}{H:Hp}{E:XK}{us:List Value}{vs:List V}
  (S:ku N ps scope) (hd:A.handled=none) (e0:Qn P w K mg base A outer s H) (hl:vs.length=ps.length) (r:Vals vs us)
  (x:InCallC s s.heap.objs.size (bindL (envOfC qual scope s.heap.objs.size f cd).kindOf (ps.zip us) fun _=>none) (cellsFrom (s.heap.objs.size+1) scope.names []) (bindC (envOfC qual scope s.heap.objs.size f cd).kindOf (ps.zip us) fun _=>none) s1) :
  Inv (rX CX P w K mg base N qual scope f cd A outer s H E) [] (start N vs) H s1:=by
 have fA:ps.length<=N.length:=by have:=congrArg List.length S.pre;rw[mG] at this;lia
 obtain⟨h1,tk,rfl,hk⟩:=x.done
 have MD:∀ b:Addr,b∉(rX CX P w K mg base N qual scope f cd A outer s H E).ex:=fun b z=>absurd (show b∈([]:List Addr) from z) (by simp)
 refine⟨⟨e0.mod,S.kind,rfl,rfl,bT _,fun y z c h1 h2=>?_,fun y hy=>?_,fun y c _ h=>?_,fun _=>hd,Around.frames_deeper e0.frames,.inr ⟨rfl,rfl⟩,fun b z=>absurd z (MD b),e0.bs,e0.ui,fun b _ _=>MD b,fun b z=>absurd z (MD b),e0.qq,e0.xA⟩,
  rfl,e0.bare,Un.kept hk,⟨_,x.toInCall.ns,fun i y v h1 h2 h3=>?_⟩,fun y c h=>⟨_,x.cell y c h⟩,e0.bp.fresh (bT _),fun y c h=>?_,fun p hp=>absurd (show p∈([]:List (Addr × Obj)) from hp) (by simp),e0.bp.kept hk,?_⟩
 ·exact name_of_addr x.apart (PySem.mem_of_lookup h1) (PySem.mem_of_lookup h2)
 ·have hy:scope.names.lookup y=some .cell\/scope.names.lookup y=some .free:=hy
  rcases hy with hy|hy
  ·exact W8 hy
  ·exact absurd rfl (S.bw' _ (PySem.mem_of_lookup hy))
 ·exact kR (x.above y c (PySem.mem_of_lookup h))
 ·have hi:i<vs.length:=by
   unfold start at h2
   by_cases hi:i<vs.length
   ·exact hi
   ·rw[yT (by simpa using hi)] at h2
    rw[RZ] at h2
    split at h2<;>cases h2
  have ha:vs[i]? = some v:=by
   unfold start at h2
   rw[Ee (by simpa using hi),kQ] at h2
   cases e:vs[i]? with
   |none=>rw[e] at h2;cases h2
   |some a=>rw[e] at h2;cases h2;rfl
  obtain⟨u,hu,rv⟩:=r.get ha
  have hp:ps[i]? = some y:=by
   rw[<- S.pre,List.getElem?_take_of_lt (by lia)];exact h1
  have W9:ps.Nodup:=by rw[<- S.pre];exact S.nd.sublist (List.take_sublist _ _)
  refine⟨u,rv,?_⟩
  rcases S.par y (kH hp) with k|k
  ·exact .inl ⟨k,W6 W9 hp hu k⟩
  ·obtain⟨c,e⟩:=W8 (n:=s.heap.objs.size+1) k
   refine .inr ⟨.inl k,c,e,?_⟩
   have q:=x.cell y c e
   rw[W7 W9 hp hu (by show scope.names.lookup y≠_;rw[k];decide)] at q
   exact q
 ·exact e0.bp.fresh (kR (x.above y c (PySem.mem_of_lookup h)))
 ·unfold start
  show _=N.length
  rw[qh,cE,R1]
  lia
theorem W_{CX:xC}{P:Program}{w:World}{K:PySem.W.Frag}{mg:Str->Option Value}{base:Heap}{k:Nat}{f:Addr}{name qual:Str}{params:Arguments}{body:List Stmt}{scope:Scope}{dV kV doc pm cw ct oc:Value}{an od:Option Addr}
  {A9:Array (Option Value)} {N ps:List Str} {sp:Sp} (lk:K.lookup f=some ⟨oc,od,.func (PySem.W.fnOf name qual params body scope dV kV doc pm an cw ct),A9⟩) (oS:PySem.W.codeIn K cw qual=true) (S:ku N ps scope)
  (len:∀ vs H Q E,sp vs H Q E->vs.length=ps.length)
  (Bi:∀ (A:Around) (outer:List Env) (s:Shared) (H:Hp) (vs:List V) (Q:VK) (E:XK),i6 k (A.deeper (envOfC qual scope s.heap.objs.size f cw))->sp vs H Q E ->
   ∃ t,nh (rX CX P w K mg base N qual scope f cw A outer s H E) body t/\t { nx:=fun _ H'=>Q .non H',rt:=Q } (start N vs) H) :
  gv P w K mg base CX (k+1) f (PySem.W.fnOf name qual params body scope dV kV doc pm an cw ct) ps sp:=by
 refine⟨len,fun A outer s H args us vs Q E hr e0 hb r zD=>?_⟩
 have hl:=len _ _ _ _ zD
 have KX:K.In s.heap:=e0.mod.P9.keeps fun b o e=>(e0.bs b o e).1
 have lim:s.heap.NoLimit:=e0.mod.nolimit.keeps fun b o e=>(e0.bs b o e).1
 have by':∀ y∈ps.zip us,scope.names.lookup y.1=some .local\/(scope.names.lookup y.1=some .cell/\((cellsFrom (s.heap.objs.size+1) scope.names []).lookup y.1).isSome=true):=fun⟨n,v⟩ hy=>by
  rcases S.par n (List.of_mem_zip hy).1 with q|q
  ·exact .inl q
  ·exact .inr ⟨q,PySem.W.cellsFrom_some _ _ _ (.inl q)⟩
 refine codeAny_call_function hr.depth (KX _ _ lk) rfl S.co S.gen rfl (PySem.W.codeRec_of KX oS) (hb _ _ _ _ ?_)
 refine wpAny_newFunctionEnv_cells S.kind by' fun env he s1 x=>?_
 subst he
 refine⟨lim.keeps x.toInCall.keep,codeAny_func ?_⟩
 obtain⟨t,ht,hq⟩:=Bi A outer s H vs Q E (hr.deeper _) zD
 have I:Inv (rX CX P w K mg base N qual scope f cw A outer s H E) [] (start N vs) H s1:=bx' S hr.hd e0 hl r x
 refine qf (ht [] s1 (start N vs) H _ I hq) (fun fl s' hs=>?_) fun e s' hs=>hs
 have fin:∀ {aE:St} {H':Hp} {v:V} {u:Value},Inv (rX CX P w K mg base N qual scope f cw A outer s H E) [] aE H' s'->RelV v u->Q v H'->CE outer P w H s Q u s' :=
  fun {aE H' v u} J rv q=>⟨v,H',J.os,J.bare,J.base,J.bp,rv,q⟩
 cases fl with
 |ret u =>
  obtain⟨v,aE,H',J,rv,q⟩:=hs
  exact fin J rv q
 |next =>
  obtain⟨aE,H',J,q⟩:=hs
  exact fin (v:=V.non) (u:=Value.none) J rfl q
 |brk =>
  obtain⟨_,_,_,q⟩:=hs
  exact False.elim q
 |cont =>
  obtain⟨_,_,_,q⟩:=hs
  exact False.elim q
section
variable {X:Cx}{x:Str}{p pos:Pos}{e:Expr}{es:List Expr}{t:TA}{id T:String}{r:List V->Hp->VK->Prop}
def S_(r:List V->Hp->VK->Prop)(t:TA):TE:=fun σ H Q=>t σ H fun vs H1=>r vs H1 Q
theorem Qo (hc:i5 X (.builtin id) r) (hg:Gl X x) (hm:X.mg x=none) (hv:bootBuiltins x=some (.builtin id)) (ha:PA X (e :: es) t) (hn:x ≠ "__name__" := by decide) (hJ:(x == ("__debug__" : Str))=false:=by decide)
  (he:starEach (e :: es) X.env=(false,eval e X.env) :: starEach es X.env:=by rfl) (fA:(backTo pos (starEach es X.env)).any (·.1)=false:=by rfl):PE X (.Call (.Name x p) (e :: es) [] pos) (S_ r t):=by
 intro pins s σ H Q I h
 refine wpAny_Call_Name_kw (HL I hg hm hv ?_ hn hJ)
 exact PyProof.Rows.callWith_builtin1 (cv (ha pos pins s σ H _ I h) fun us s1 cK=>L2.hG cK fun vs H1 I1 r1 q1=>hc pins s1 σ H1 vs us Q I1 r1 q1) he fA
theorem bz' (hc:i5 X (.type T) r) (hg:Gl X x) (hm:X.mg x=none) (hv:bootBuiltins x=some (.type T)) (ha:PA X (e :: es) t) (hn:x ≠ "__name__" := by decide) (hJ:(x == ("__debug__" : Str))=false:=by decide)
  (he:starEach (e :: es) X.env=(false,eval e X.env) :: starEach es X.env:=by rfl) (fA:(backTo pos (starEach es X.env)).any (·.1)=false:=by rfl):PE X (.Call (.Name x p) (e :: es) [] pos) (S_ r t):=by
 intro pins s σ H Q I h
 refine wpAny_Call_Name_kw (HL I hg hm hv ?_ hn hJ)
 exact PyProof.Rows.callWith_type1 (cv (ha pos pins s σ H _ I h) fun us s1 cK=>L2.hG cK fun vs H1 I1 r1 q1=>hc pins s1 σ H1 vs us Q I1 r1 q1) he fA
end
end L2
namespace HT
open PySem PyProof.Rows
section
open PySem.SeqAt
open PySem.AutoSeq1 (wpAny_loadPart')
open PySem.MeetsSeq PySem.MeetsSeq2 PySem.MeetsSeq3
end
section
variable {prog:Program}{w:World}{A:Around}{E:Value->Shared->Prop}{s:Shared}
theorem bA'{t b:Addr}{vs ws:List Value}{Q:Value->Shared->Prop}(ht:IsTup s.heap t vs.toArray)(hb:IsTup s.heap b ws.toArray)(hv:vs≠[])
  (h1:ws=[]->Q (.ref t) s) (h2:ws≠[]->Q (.ref s.heap.objs.size) { s with heap:=s.heap.push { cls:=.type "tuple",data:=.seq (vs++ws).toArray } })
  (hsz:vs.length+ws.length<=sizeLine):wpAny (model prog w) A (binaryOp .Add (.ref t) (.ref b)) Q E s:=by
 obtain⟨⟨cls,dd,data,sl⟩,ho,hc,n,hd⟩:=id ht
 obtain⟨⟨Ta,sf,data2,sj⟩,qB,xD,n2,hd2⟩:=id hb
 simp only at hc hd xD hd2
 subst hc hd xD hd2
 have e:vs.toArray++ws.toArray=(vs++ws).toArray:=by simp
 by_cases hw:ws=[]
 ·exact concat_meets ⟨_,ho,rfl⟩ ⟨_,qB,rfl⟩ noFill_tuple_add seq_tuple_add PySem.F.slot_tuple_add PySem.F.entry_tuple_add (PySem.F.args_tuple_add_2 _ _)
   (tuple_addW1 t b vs.toArray ws.toArray n n2 dd sf sl sj (by simpa using hv) (by simp[hw])) ⟨ho,qB,h1 hw⟩
 ·refine concat_meets ⟨_,ho,rfl⟩ ⟨_,qB,rfl⟩ noFill_tuple_add seq_tuple_add PySem.F.slot_tuple_add PySem.F.entry_tuple_add (PySem.F.args_tuple_add_2 _ _)
   (tuple_addW2 t b vs.toArray ws.toArray n n2 dd sf sl sj (by simpa using hv) (by simpa using hw) (by rw[ip,ip];exact hsz)) ⟨ho,qB,?_⟩
  rw[e]
  exact h2 hw
def bE(n d:Nat):Option Int->Nat
 |none=>d
 |some v=>if v<0 then (v+(n:Int)).toNat else min v.toNat n
theorem bB'(n d:Nat)(hd:d<=n)(o:Option Int):bE n d o<=n:=by
 cases o with
 |none=>exact hd
 |some v =>
  show(if v<0 then (v+(n:Int)).toNat else min v.toNat n)<=n
  by_cases hv:v<0
  ·rw[if_pos hv];lia
  ·rw[if_neg hv];exact Nat.min_le_right _ _
theorem Xa(v:Int)(n d:Nat):(if v<0 then max (v+(n:Int)) 0 else min v (n:Int))=((bE n d (some v):Nat):Int):=by
 show(if v<0 then max (v+(n:Int)) 0 else min v (n:Int))=(((if v<0 then (v+(n:Int)).toNat else min v.toNat n):Nat):Int)
 by_cases hv:v<0
 ·simp only[if_pos hv];lia
 ·simp only[if_neg hv];lia
theorem bC'(lo hi:Option Int)(n:Nat):Builtin.Slice.sliceAdjust lo hi 1 (n:Int)=(((bE n 0 lo:Nat):Int),((bE n n hi:Nat):Int)):=by
 have h1:¬ ((1:Int)<0):=by decide
 unfold Builtin.Slice.sliceAdjust
 simp only[h1,if_false]
 refine Prod.ext ?_ ?_
 ·cases lo with
  |none=>rfl
  |some v=>exact Xa v n 0
 ·cases hi with
  |none=>rfl
  |some v=>exact Xa v n n
theorem bD'(i j:Nat):Builtin.Slice.slicePlaces (i:Int) (j:Int) 1=j-i:=by
 unfold Builtin.Slice.slicePlaces
 have h1:(1:Int)>0:=by exact wd _
 simp only[h1,if_true,Int.ediv_one]
 split<;>lia
theorem Xb{v:Value}{o:Option Int}{Q:Option Int->Shared->Prop}(p:IsPart v o)(h:Q o s):wpAny (model prog w) A (Builtin.Slice.slicePartIndex v) Q E s:=by
 cases p with
 |none=>exact slicePart_none h
 |int i t=>exact slicePart_int h
theorem bE'{sl:Addr}{vl vu:Value}{lo hi:Option Int}{n:Nat}{Q:Int × Int × Nat->Shared->Prop}(hs:s.heap.IsSliceOf sl vl vu .none)(pl:IsPart vl lo)(pu:IsPart vu hi)
  (h:Q (((bE n 0 lo:Nat):Int),1,bE n n hi-bE n 0 lo) s):wpAny (model prog w) A (Builtin.Slice.sliceApplied (.ref sl) (pure (n:Int))) Q E s:=by
 obtain⟨os,MG,pe,Qp⟩:=id hs
 unfold Builtin.Slice.sliceApplied Builtin.Slice.sliceFields
 refine ai (ai (wpAny_field MG Qp (x:=vl) rfl (ai (wpAny_field MG Qp (x:=vu) rfl (ai (wpAny_field MG Qp (x:=.none) rfl (aC ?_)))))))
 refine ai (slicePart_none ?_)
 show wpAny _ _ (if ((1:Int) == 0)=true then _ else _) _ _ s
 rw[if_neg (by decide)]
 refine ai (Xb pl (ai (Xb pu (ai (aC ?_)))))
 show wpAny _ _ (match Builtin.Slice.sliceAdjust lo hi 1 (n:Int) with|(lo,hi)=>pure (lo,(1:Int),Builtin.Slice.slicePlaces lo hi 1)) _ _ s
 rw[bC' lo hi n]
 show wpAny _ _ (pure (((bE n 0 lo:Nat):Int),(1:Int),Builtin.Slice.slicePlaces ((bE n 0 lo:Nat):Int) ((bE n n hi:Nat):Int) 1)) _ _ s
 rw[bD']
 exact aC h
theorem bF'(xs:Array Value)(i k:Nat):((List.range k).filterMap fun(m:Nat)=>xs[((i:Int)+(m:Int)*1).toNat]?).toArray=((xs.toList.drop i).take k).toArray:=by
 have e:(fun(m:Nat)=>xs[((i:Int)+(m:Int)*1).toNat]?)=fun m=>xs[i+m]? := by
  funext m
  have:((i:Int)+(m:Int)*1).toNat=i+m:=by exact(Nat.add_assoc ..).symm
  rw[this]
 rw[e]
 have:=pick_run xs i k
 rw[R7] at this
 have e2:((fun x=>xs[x]?) ∘ fun x=>i+x)=fun m=>xs[i+m]? := rfl
 rw[e2] at this
 rw[this]
theorem bG'{t sl:Addr}{items:Array Value}{vl vu:Value}{lo hi:Option Int}{Q:Value->Shared->Prop}(ht:IsTup s.heap t items)(hs:s.heap.IsSliceOf sl vl vu .none)(pl:IsPart vl lo)(pu:IsPart vu hi)
  (hw:¬ (bE items.size 0 lo=0/\bE items.size items.size hi=items.size))
  (h:Q (.ref s.heap.objs.size) { s with heap:=s.heap.push { cls:=.type "tuple",data:=.seq ((items.toList.drop (bE items.size 0 lo)).take (bE items.size items.size hi-bE items.size 0 lo)).toArray } })
  (hsz:items.size<=sizeLine):wpAny (model prog w) A (getItem (.ref t) (.ref sl)) Q E s:=by
 have Qq:sizeOk (.seq ((items.toList.drop (bE items.size 0 lo)).take (bE items.size items.size hi-bE items.size 0 lo)).toArray):=by
  show((items.toList.drop (bE items.size 0 lo)).take (bE items.size items.size hi-bE items.size 0 lo)).toArray.size<=sizeLine
  rw[ip,mG,CM,AZ]
  lia
 have hj:bE items.size items.size hi<=items.size:=bB' _ _ (bT _) hi
 obtain⟨os,MG,pe,Qp⟩:=id hs
 have hTs:s.TypeIs (.ref sl) "slice" := ⟨os,MG,pe⟩
 unfold getItem
 try with_reducible refine wpAny_holding ?_
 first|refine ai (aC ?_)|skip
 refine ai (wpAny_sequenceKey ht.typeIs (by decide) ?_)
 refine ai (wpAny_callSpecial?_slot (name:=Str.ofString "__getitem__") ht.typeIs PyProof.Rows.slot_tuple_getitem
  (wpAny_call_entry PyProof.Rows.slot_tuple_getitem ht.typeIs entry_tuple_getitem ?_ (args_tuple_getitem _ _)))
 show wpAny _ _ (Builtin.Tuple.tupleItemsOf (.ref t) >>= _) _ _ s
 refine ai (tupleItemsOf_ ht ?_)
 refine ai (wpAny_typeOf hTs ?_)
 rw[if_pos (by decide)]
 refine ai (bE' hs pl pu ?_)
 have DL:¬ ((((bE items.size 0 lo:Nat):Int) == 0 && (1:Int) == 1 && (bE items.size items.size hi-bE items.size 0 lo) == items.size)=true):=by
  intro q
  rw[lI,lI] at q
  have q1:((bE items.size 0 lo:Nat):Int)=0:=eq_of_beq q.1.1
  have q2:bE items.size items.size hi-bE items.size 0 lo=items.size:=eq_of_beq q.2
  exact hw ⟨by lia,by lia⟩
 show wpAny _ _ (if (((bE items.size 0 lo:Nat):Int) == 0 && (1:Int) == 1 && (bE items.size items.size hi-bE items.size 0 lo) == items.size)=true then _ else _) _ _ s
 rw[if_neg DL,bF']
 first
  |exact ai (m:=Builtin.Tuple.tupleExact _) (wpAny_newObj_type (aC ⟨_,rfl,aC h⟩) Qq)
  |exact ai (m:=Builtin.Tuple.tupleExact _) (wpAny_newObj_type (ai (aC (aC ⟨_,rfl,aC h⟩))) Qq)
  |exact ai (ai (m:=Builtin.Tuple.tupleExact _) (wpAny_newObj_type (aC (aC ⟨_,rfl,aC h⟩)) Qq))
  |exact ai (ai (m:=Builtin.Tuple.tupleExact _) (wpAny_newObj_type (aC ⟨_,rfl,aC h⟩) Qq))
end
end HT
namespace L2
open PySem PySem.Spec PyProof.Rows
abbrev TO:=St->Hp->(Option Int->Hp->Prop)->Prop
def PO(X:Cx)(e:Option Expr)(t:TO):Prop :=
 ∀ (pins:List (Addr × Obj)) (s:Shared) (σ:St) (H:Hp) (Q:Option Int->Hp->Prop),Inv X pins σ H s->t σ H Q ->
  wpAny (model X.prog X.w) X.A (evalPart e X.env) (fun u s'=>∃ o H',Inv X pins σ H' s'/\IsPart u o/\Q o H') X.xe s
def bI'(t:TE):TO:=fun σ H Q=>t σ H fun x H1=>∃ i,x=.int i/\Q (some i) H1
section
variable {X:Cx}{e:Expr}{te:TE}{lo hi:Option Expr}{tl th:TO}{pos p2:Pos}
theorem bJ'(h:PE X e te):PO X (some e) (bI' te):=by
 intro pins s σ H Q I hw
 rw[evalPart_some]
 refine cv (h pins s σ H _ I hw) fun u s1 cK=>L2.hG cK fun x H1 I1 r1 q1=>?_
 obtain⟨i,rfl,q⟩:=q1
 obtain⟨t,rfl⟩:=r1
 exact⟨some i,H1,I1,.int i t,q⟩
def HZ(X:Cx)(r:V->Option Int->Option Int->Hp->VK->Prop):Prop :=
 ∀ (pins:List (Addr × Obj)) (s:Shared) (σ:St) (H:Hp) (x:V) (v vl vu:Value) (lo hi:Option Int) (sl:Addr) (Q:VK),Inv X pins σ H s->RelV x v->s.heap.IsSliceOf sl vl vu .none->IsPart vl lo->IsPart vu hi->r x lo hi H Q ->
  ∃ T id,typeLookup (.type T) "__getitem__" = pure (some (.builtin id))/\s.TypeIs v T/\wpAny (model X.prog X.w) X.A (getItem v (.ref sl)) (EP X pins σ Q) X.xe s
def tSl(r:V->Option Int->Option Int->Hp->VK->Prop)(te:TE)(tl th:TO):TE:=fun σ H Q=>te σ H fun x H1=>tl σ H1 fun l H2=>th σ H2 fun u H3=>r x l u H3 Q
theorem bL'{r:V->Option Int->Option Int->Hp->VK->Prop}(hr:HZ X r)(he:PE X e te)(hl:PO X lo tl)(hu:PO X hi th):PE X (.Subscript e (.Slice lo hi none p2) pos) (tSl r te tl th):=by
 intro pins s σ H Q I h
 refine Subscript_ (cv (he pins s σ H _ I h) fun v s1 cK=>L2.hG cK fun x H1 I1 r1 q1=>?_)
 refine wpAny_Slice (cv (hl pins s1 σ H1 _ I1 q1) fun vl s2 cK=>L2.hG cK fun l H2 I2 pl q2=>cv (hu pins s2 σ H2 _ I2 q2) fun vu s3 cK=>L2.hG cK fun u H3 I3 pu q3=>?_)
 rw[evalPart_none]
 refine aC ?_
 have I4:Inv X pins σ H3 { s3 with heap:=s3.heap.push { cls:=.type "slice",data:=.fields #[vl,vu,.none] } }:=I3.kept (t':=s3.toks) fun b ob q=>eS _ q
 obtain⟨T,id,hT,ht,hg⟩:=hr pins { s3 with heap:=s3.heap.push { cls:=.type "slice",data:=.fields #[vl,vu,.none] } } σ H3 x v vl vu l u s3.heap.objs.size Q I4 r1 (Heap.IsSliceOf.new ..) pl pu q3
 show wpAny (model X.prog X.w) X.A (subscriptTail e (.Slice lo hi none p2) v (.ref s3.heap.objs.size)) (EP X pins σ Q) X.xe { s3 with heap:=s3.heap.push { cls:=.type "slice",data:=.fields #[vl,vu,.none] } }
 exact tail_any (ops:=[.ref s3.heap.objs.size,v]) ht hT hg (by with_unfolding_all rfl)
def Bn(xs:List V)(lo hi:Option Int):List V:=(xs.drop (HT.bE xs.length 0 lo)).take (HT.bE xs.length xs.length hi-HT.bE xs.length 0 lo)
theorem Xc(xs:List V)(lo hi:Option Int):(Bn xs lo hi).length<=xs.length:=by
 unfold Bn
 rw[mG,CM]
 lia
def Xd(K:PySem.W.Frag):V->Option Int->Option Int->Hp->VK->Prop:=fun x lo hi H Q=>∃ a xs,x=.ref a/\kB K H a xs /\
 ¬ (HT.bE xs.length 0 lo=0/\HT.bE xs.length xs.length hi=xs.length)/\∀ p,H p=none->Q (.ref p) (upd H p (.tup (Bn xs lo hi)))
theorem bM':HZ X (Xd X.K):=by
 intro pins s σ H x v vl vu lo hi sl Q I rx hs pl pu h
 obtain⟨a,xs,rfl,hx,hw,q⟩:=h
 cases rx
 obtain⟨its,r,ht,hz⟩:=I.tuple hx
 have hlen:its.toArray.size=xs.length:=by rw[ip];exact r.length.symm
 refine⟨"tuple",_,PyProof.Rows.slot_tuple_getitem.lookup,ht.typeIs,?_⟩
 refine HT.bG' ht hs pl pu (by rw[hlen];exact hw) ?_ (by rw[hlen];exact hz)
 rw[hlen]
 refine⟨.ref s.heap.objs.size,_,I.laid (t':=s.toks) (o:=.tup (Bn xs lo hi)) (fun b ob q=>eS _ q) (bT _) ?_,rfl,q _ (I.bp.fresh (bT _))⟩
 exact⟨iS (Xc xs lo hi) hz,_,(r.drop (HT.bE xs.length 0 lo)).take (HT.bE xs.length xs.length hi-HT.bE xs.length 0 lo),IsTup.new _ _⟩
def Tb(K:PySem.W.Frag):R2:=fun x y H Q=>∃ a b xs ys,x=.ref a/\y=.ref b/\kB K H a xs/\kB K H b ys/\xs≠[]/\xs.length+ys.length<=sizeLine /\
 (ys=[]->Q (.ref a) H)/\(ys≠[]->∀ p,H p=none->Q (.ref p) (upd H p (.tup (xs++ys))))
theorem Vals.Tc{xs:List V}{us:List Value}(r:Vals xs us):us=[]↔xs=[]:=by
 cases r with
 |nil=>simp
 |cons _ _=>simp
theorem bN':cS X (binaryOp .Add) (Tb X.K):=by
 intro pins s σ H x y v u Q I rx ry h
 obtain⟨a,b,xs,ys,rfl,rfl,ha,hb,hx,hz,q1,q2⟩:=h
 cases rx
 cases ry
 obtain⟨its,r1,p1,_⟩:=I.tuple ha
 obtain⟨Bz,r2,p2,_⟩:=I.tuple hb
 refine HT.bA' p1 p2 (fun z=>hx (r1.Tc.mp z)) (fun z=>⟨.ref a,H,I,rfl,q1 (r2.Tc.mp z)⟩) (fun z=>?_) (by rw[<- r1.length,<- r2.length];exact hz)
 refine⟨.ref s.heap.objs.size,_,I.laid (t':=s.toks) (o:=.tup (xs++ys)) (fun b ob q=>eS _ q) (bT _) ?_,rfl,q2 (fun w=>z (r2.Tc.mpr w)) _ (I.bp.fresh (bT _))⟩
 exact⟨by rw[qh];exact hz,_,r1.append r2,IsTup.new _ _⟩
end
def lP(n:Nat)(i:Int):Option Nat:=if 0<=i then (if i<n then some i.toNat else none) else if -(n:Int)<=i then some (i+n).toNat else none
def eM{α:Type}(xs:List α)(i:Int):Option α:=(lP xs.length i).bind fun j=>xs[j]?
theorem bO'{n:Nat}{i:Int}{j:Nat}(h:lP n i=some j):seqIndex? i n=some j/\j<n/\-(n:Int)<=i/\i<n:=by
 unfold lP at h
 by_cases h0:0<=i
 ·rw[if_pos h0] at h
  by_cases h1:i<n
  ·rw[if_pos h1] at h
   have e:i.toNat=j:=Option.some.inj h
   exact⟨by rw[seqIndex_of h0 h1,e],by lia,by lia,h1⟩
  ·rw[if_neg h1] at h;cases h
 ·rw[if_neg h0] at h
  by_cases h1:-(n:Int)<=i
  ·rw[if_pos h1] at h
   have e:(i+n).toNat=j:=Option.some.inj h
   exact⟨by rw[seqIndex_neg (by exact Int.not_le.mp ‹_›) h1,e],by lia,h1,by lia⟩
  ·rw[if_neg h1] at h;cases h
theorem Td{α:Type}{xs:List α}{i:Int}{v:α}(h:eM xs i=some v):∃ j,seqIndex? i xs.length=some j/\xs[j]? = some v/\j<xs.length/\-(xs.length:Int)<=i/\i<xs.length:=by
 unfold eM at h
 cases e:lP xs.length i with
 |none=>rw[e] at h;cases h
 |some j =>
  rw[e] at h
  obtain⟨h1,h2,h3,h4⟩:=bO' e
  exact⟨j,h1,h,h2,h3,h4⟩
theorem EJ{α:Type}{xs:List α}{j:Nat}{v:α}(h:xs[j]? = some v):eM xs (j:Int)=some v:=by
 have hj:j<xs.length:=(ic.mp h).1
 have e:lP xs.length (j:Int)=some j:=by
  unfold lP
  rw[if_pos (by walk_at "s1"),if_pos (by lia)];simp
 unfold eM;rw[e];exact h
theorem bP'{α:Type}(xs:List α)(v:α):eM (xs++[v]) (-1)=some v:=by
 have hl:(xs++[v]).length=xs.length+1:=by simp
 have e:lP (xs++[v]).length (-1)=some xs.length:=by
  unfold lP
  rw[hl,if_neg (by decide),if_pos (by lia)]
  congr 1
  lia
 unfold eM
 rw[e]
 show(xs++[v])[xs.length]? = some v
 simp
def Qr(b:Expr):Prop:=∀ o i,subscripted b false o i=operate [o,i] (getItem o i)
def uj(X:Cx)(r:R2):Prop :=
 ∀ (value slice:Expr) (pins:List (Addr × Obj)) (s:Shared) (σ:St) (H:Hp) (x y:V) (v u:Value) (Q:VK),Inv X pins σ H s->RelV x v->RelV y u->r x y H Q ->
  subscripted slice false v u=operate [v,u] (getItem v u)->wpAny (model X.prog X.w) X.A (subscriptTail value slice v u) (EP X pins σ Q) X.xe s
def Qs(X:Cx)(id:String)(r:V->List V->Hp->VK->Prop):Prop :=
 ∀ (pins:List (Addr × Obj)) (s:Shared) (σ:St) (H:Hp) (x:V) (xs:List V) (v:Value) (us:List Value) (Q:VK),Inv X pins σ H s->RelV x v->Vals xs us->r x xs H Q ->
  wpAny (model X.prog X.w) X.A (call (.builtin id) (v :: us)) (EP X pins σ Q) X.xe s
section
variable {X:Cx}{a b:Expr}{ta tb:TE}{pos:Pos}
theorem uj.or{r r':R2}(h:uj X r)(h':uj X r'):uj X (fun x y H Q=>r x y H Q\/r' x y H Q):=by
 intro value slice pins s σ H x y v u Q I rx ry q hs
 rcases q with q|q
 ·exact h value slice pins s σ H x y v u Q I rx ry q hs
 ·exact h' value slice pins s σ H x y v u Q I rx ry q hs
theorem Te{r:R2}(hr:uj X r)(ha:PE X a ta)(hb:PE X b tb)(hs:Qr b):PE X (.Subscript a b pos) (My r ta tb):=by
 intro pins s σ H Q I h
 exact Subscript_ (S0 ha hb I h fun v u s2 x y H2 I2 rx ry q=>hr a b pins s2 σ H2 x y v u Q I2 rx ry q (hs _ _))
def Xe(K:PySem.W.Frag):R2:=fun x y H Q=>∃ p xs i v,x=.ref p/\y=.int i/\eJ K H p xs/\eM xs i=some v/\Q v H
def Xf(K:PySem.W.Frag):R2:=fun x y H Q=>∃ p xs i v,x=.ref p/\y=.int i/\kB K H p xs/\eM xs i=some v/\Q v H
def Xg:R2:=fun x y H Q=>∃ z i c,x=.str z/\y=.int i/\z.length<=sizeLine/\eM z.cps.toList i=some c/\Q (.str ⟨#[c]⟩) H
theorem bQ':uj X (Xe X.K):=by
 intro value slice pins s σ H x y v u Q I rx ry h hs
 obtain⟨p,xs,i,z,rfl,rfl,hq,he,q⟩:=h
 cases rx
 obtain⟨t,rfl⟩:=ry
 obtain⟨its,r,pl,hz⟩:=I.list hq
 obtain⟨j,h1,h2,h3,h4,h5⟩:=Td he
 obtain⟨w,ew,om⟩:=r.get h2
 have hl:=r.length
 have hn:=Ql
 have fin:EP X pins σ Q w s:=⟨z,H,I,om,q⟩
 by_cases h0:0<=i
 ·have hj:i.toNat=j:=by
   rw[seqIndex_of h0 h5] at h1
   exact Option.some.inj h1
  exact item_listR pl.isList h0 (by lia) (by rw[hj];simpa using ew) fin hs
 ·have hj:(i+(its.toArray.size:Int)).toNat=j:=by
   rw[seqIndex_neg (by exact Int.not_le.mp ‹_›) h4] at h1
   rw[ip,<- hl]
   exact Option.some.inj h1
  exact subscriptTail_builtinR (x:=w) pl.isList.typeIs slot_list_getitem.lookup
   (wpAny_getItem_list_neg (Q:=fun r s'=>r=w/\EP X pins σ Q r s') pl.isList (by exact Int.not_le.mp ‹_›) (by rw[ip]<;>lia) (by lia) (by rw[hj];simpa using ew) ⟨rfl,fin⟩) hs
theorem bR':uj X (Xf X.K):=by
 intro value slice pins s σ H x y v u Q I rx ry h hs
 obtain⟨p,xs,i,z,rfl,rfl,hq,he,q⟩:=h
 cases rx
 obtain⟨t,rfl⟩:=ry
 obtain⟨its,r,pl,hz⟩:=I.tuple hq
 obtain⟨j,h1,h2,h3,h4,h5⟩:=Td he
 obtain⟨w,ew,om⟩:=r.get h2
 have hl:=r.length
 have hn:=Ql
 have fin:EP X pins σ Q w s:=⟨z,H,I,om,q⟩
 exact subscriptTail_builtinR (x:=w) pl.typeIs slot_tuple_getitem.lookup
  (getItem_tuple (j:=j) (Q:=fun r s'=>r=w/\EP X pins σ Q r s') pl (by lia) (by lia) (by rw[ip,<- hl];exact h1) (by simpa using ew) ⟨rfl,fin⟩) hs
theorem bS':uj X Xg:=by
 intro value slice pins s σ H x y v u Q I rx ry h hs
 obtain⟨z,i,c,rfl,rfl,hz,he,q⟩:=h
 obtain⟨t,rfl⟩:=rx
 obtain⟨t',rfl⟩:=ry
 obtain⟨j,h1,h2,h3,h4,h5⟩:=Td he
 have hl:z.cps.toList.length=z.length:=by simp[Str.length]
 rw[hl] at h1 h4 h5
 have hn:=Ql
 exact tail_any (typeIs_str s z t) slot_str_getitem.lookup (getItem_str (c:=c) (by
  have e1:decide (i < -(2 ^ 63:Int))=false:=decide_eq_false (by lia)
  have e2:decide (i >= 2 ^ 63)=false:=decide_eq_false (by lia)
  rw[e1,e2,Bool.or_false]) (by rw[h1];simpa using h2) ⟨.str ⟨#[c]⟩,H,I.tok _,⟨_,rfl⟩,q⟩) hs
def rIx(K:PySem.W.Frag):R2:=fun x y H Q=>Xe K x y H Q\/Xf K x y H Q\/Xg x y H Q
theorem bU':uj X (rIx X.K):=bQ'.or (bR'.or bS')
theorem bV'(lo hi:Option Int)(n:Nat):(sliceBounds lo hi none n).1=((HT.bE n 0 lo:Nat):Int)/\(sliceBounds lo hi none n).2.1=((HT.bE n n hi:Nat):Int)/\(sliceBounds lo hi none n).2.2=1:=by
 refine⟨?_,?_,rfl⟩
 ·cases lo with
  |none=>simp[sliceBounds,HT.bE]
  |some i =>
   simp only[sliceBounds,HT.bE,Option.getD_none,show(1:Int)>0 by decide,if_true]
   by_cases h:i<0
   ·simp only[h,if_true]<;>lia
   ·simp only[h,if_false]<;>lia
 ·cases hi with
  |none=>simp[sliceBounds,HT.bE]
  |some i =>
   simp only[sliceBounds,HT.bE,Option.getD_none,show(1:Int)>0 by decide,if_true]
   by_cases h:i<0
   ·simp only[h,if_true]<;>lia
   ·simp only[h,if_false]<;>lia
theorem bW'(its:List Value)(lo hi:Option Int):slicePick its.toArray lo hi none=((its.drop (HT.bE its.length 0 lo)).take (HT.bE its.length its.length hi-HT.bE its.length 0 lo)).toArray:=by
 obtain⟨h1,h2,h3⟩:=bV' lo hi its.toArray.size
 unfold slicePick
 rw[h1,h2,h3]
 simp only[sliceRange_one,pick_run,ip]<;>rfl
def bX'(K:PySem.W.Frag):V->Option Int->Option Int->Hp->VK->Prop:=fun x lo hi H Q=>∃ a xs,x=.ref a/\eJ K H a xs/\∀ p,H p=none->Q (.ref p) (upd H p (.lst (Bn xs lo hi)))
theorem bY':HZ X (bX' X.K):=by
 intro pins s σ H x v vl vu lo hi sl Q I rx hs pl pu h
 obtain⟨a,xs,rfl,hx,q⟩:=h
 cases rx
 obtain⟨its,r,ht,hz⟩:=I.list hx
 have hlen:=r.length
 refine⟨"list",_,slot_list_getitem.lookup,ht.isList.typeIs,?_⟩
 refine wpAny_getItem_list_slice ht.isList hs pl pu .none (by simp) ?_ (by rw[ip]<;>lia)
 rw[bW',<- hlen]
 refine⟨.ref s.heap.objs.size,_,I.laid (t':=s.toks) (o:=.lst (Bn xs lo hi)) (fun b ob q=>eS _ q) (bT _) ?_,rfl,q _ (I.bp.fresh (bT _))⟩
 exact⟨iS (Xc xs lo hi) hz,_,0,(r.drop (HT.bE xs.length 0 lo)).take (HT.bE xs.length xs.length hi-HT.bE xs.length 0 lo),i3 _ rfl⟩
def zI:V->Bool
 |.non=>true
 |.bl _=>true
 |.int _=>true
 |.str _=>true
 |_=>false
def BD:V->V->Bool
 |.non,.non=>true
 |.bl a,.bl b=>a == b
 |.bl a,.int b=>(if a then 1 else 0) == b
 |.int a,.bl b=>a == (if b then 1 else 0)
 |.int a,.int b=>a == b
 |.str a,.str b=>a == b
 |_,_=>false
theorem bZ'{A:Around}{s:Shared}{y x:V}{u v:Value}(ry:RelV y u)(rx:RelV x v)(fy:zI y=true)(fx:zI x=true):SeqAt.EqAt A s u v (BD y x):=by
 cases y with
 |non =>
  cases ry
  cases x with
  |non=>cases rx;exact SeqAt.EqAt.same _
  |bl b=>cases rx;exact SeqAt.EqAt.none_bool b
  |int b=>obtain⟨t,rfl⟩:=rx;exact SeqAt.EqAt.none_int b t
  |str b=>obtain⟨t,rfl⟩:=rx;exact SeqAt.EqAt.none_str b t
  |_=>exact absurd (show false=true from fx) g9
 |bl a =>
  cases ry
  cases x with
  |non=>cases rx;exact SeqAt.EqAt.bool_none a
  |bl b=>cases rx;exact SeqAt.EqAt.bool_bool a b
  |int b=>obtain⟨t,rfl⟩:=rx;exact SeqAt.EqAt.bool_int a b t
  |str b=>obtain⟨t,rfl⟩:=rx;exact SeqAt.EqAt.bool_str a b t
  |_=>exact absurd (show false=true from fx) g9
 |int a =>
  obtain⟨t',rfl⟩:=ry
  cases x with
  |non=>cases rx;exact SeqAt.EqAt.int_none a t'
  |bl b=>cases rx;exact SeqAt.EqAt.int_bool a t' b
  |int b=>obtain⟨t,rfl⟩:=rx;exact SeqAt.EqAt.int_int a t' b t
  |str b=>obtain⟨t,rfl⟩:=rx;exact SeqAt.EqAt.int_str a t' b t
  |_=>exact absurd (show false=true from fx) g9
 |str a =>
  obtain⟨t',rfl⟩:=ry
  cases x with
  |non=>cases rx;exact SeqAt.EqAt.str_none a t'
  |bl b=>cases rx;exact SeqAt.EqAt.str_bool a t' b
  |int b=>obtain⟨t,rfl⟩:=rx;exact SeqAt.EqAt.str_int a t' b t
  |str b=>obtain⟨t,rfl⟩:=rx;exact SeqAt.EqAt.str_str a t' b t
  |_=>exact absurd (show false=true from fx) g9
 |_=>exact absurd (show false=true from fy) g9
def BE(x:V)(u:Value):Bool:=match u with
 |.none=>BD .non x
 |.bool b=>BD (.bl b) x
 |.int i _=>BD (.int i) x
 |.str z _=>BD (.str z) x
 |_=>false
theorem Xh{x y:V}{u:Value}(r:RelV y u)(f:zI y=true):BE x u=BD y x:=by
 cases y with
 |non=>cases r;rfl
 |bl b=>cases r;rfl
 |int i=>obtain⟨t,rfl⟩:=r;rfl
 |str z=>obtain⟨t,rfl⟩:=r;rfl
 |_=>exact absurd (show false=true from f) g9
theorem Tf{x:V}:∀ {xs:List V} {us:List Value},Vals xs us->xs.all zI=true->us.any (BE x)=xs.any fun y=>BD y x
 |_,_,.nil,_=>rfl
 |y :: xs,u :: us,.cons r t,f=>by
  rw[AX,lI] at f
  rw[AY,AY,Xh r f.1,Tf t f.2]
theorem Tg{A:Around}{s:Shared}{x:V}{v:Value}(rx:RelV x v)(fx:zI x=true):∀ {xs:List V} {us:List Value},Vals xs us->xs.all zI=true->∀ u∈us,SeqAt.EqAt A s u v (BE x u)
 |_,_,.nil,_=>fun u hu=>by cases hu
 |y :: xs,u :: us,.cons r t,f=>fun u' hu=>by
  rw[AX,lI] at f
  rcases dc.mp hu with rfl|hu
  ·rw[Xh r f.1];exact bZ' r rx f.1 fx
  ·exact Tg rx fx t f.2 u' hu
def Qt(x:V)(xs:List V):Bool:=xs.any fun y=>BD y x
def Qu(K:PySem.W.Frag)(neg:Bool):R2:=fun x y H Q=>∃ p xs,y=.ref p/\(eJ K H p xs\/kB K H p xs)/\zI x=true/\xs.all zI=true/\Q (.bl (if neg then !Qt x xs else Qt x xs)) H
theorem ca':cS X (compareOp .In) (Qu X.K false):=by
 intro pins s σ H x y v u Q I rx ry h
 obtain⟨p,xs,rfl,hq,fx,fs,q⟩:=h
 cases ry
 rcases hq with hq|hq
 ·obtain⟨its,r,pl,hz⟩:=I.list hq
  refine SeqAt.in_listAt (BE x) pl.isList (fun w hw=>Tg rx fx r fs w (by simpa using hw)) ⟨.bl _,H,I,rfl,?_⟩
  rw[show its.toArray.any (BE x)=its.any (BE x) by simp,Tf r fs]
  exact q
 ·obtain⟨its,r,pl,hz⟩:=I.tuple hq
  refine SeqAt.in_tupleAt (BE x) pl (fun w hw=>Tg rx fx r fs w (by simpa using hw)) ⟨.bl _,H,I,rfl,?_⟩
  rw[show its.toArray.any (BE x)=its.any (BE x) by simp,Tf r fs]
  exact q
theorem i5.or{f:Value}{r r':List V->Hp->VK->Prop}(h:i5 X f r)(h':i5 X f r'):i5 X f (fun xs H Q=>r xs H Q\/r' xs H Q):=by
 intro pins s σ H xs us Q I rs q
 rcases q with q|q
 ·exact h pins s σ H xs us Q I rs q
 ·exact h' pins s σ H xs us Q I rs q
theorem cb':i5 X (.type "list") (fun xs H Q=>∃ p ys,xs=[.ref p]/\(eJ X.K H p ys\/kB X.K H p ys)/\∀ l,H l=none->Q (.ref l) (upd H l (.lst ys))):=by
 intro pins s σ H xs us Q I r h
 obtain⟨p,ys,rfl,hq,q⟩:=h
 obtain⟨u,rfl,rx⟩:=vals1 r
 cases rx
 have fin:∀ (its:List Value),Vals ys its->ys.length<=sizeLine->∀ (h':Heap) (c':Nat),(∀ b o',s.heap.get? b=some o'->h'.get? b=some o') ->
   h'.get? s.heap.objs.size=some { cls:=.type "list",dict:=none,data:=.seq its.toArray c',slots:=#[] }->EP X pins σ Q (.ref s.heap.objs.size) { s with heap:=h' }:=fun its r' hz h' c' kp e =>
  ⟨.ref s.heap.objs.size,_,I.laid (t':=s.toks) kp (bT _) (show eW X.prog X.w _ h' _ (.lst ys) from⟨hz,its,c',r',e⟩),rfl,q _ (I.bp.fresh (bT _))⟩
 rcases hq with hq|hq
 ·obtain⟨its,r',pl,hz⟩:=I.list hq
  have hlen:=r'.length
  obtain⟨o,ho,hc,n,hd⟩:=pl.isList
  exact call_list_seq p (.inl rfl) ho hc hd (fun h' c' kp e=>fin its r' hz h' c' kp e) (by simp only[ip]<;>lia)
 ·obtain⟨its,r',pl,hz⟩:=I.tuple hq
  have hlen:=r'.length
  obtain⟨o,ho,hc,n,hd⟩:=pl
  exact call_list_seq p (.inr rfl) ho hc hd (fun h' c' kp e=>fin its r' hz h' c' kp e) (by simp only[ip]<;>lia)
def Xi(K:PySem.W.Frag)(T:String)(x:V)(H:Hp):Prop:=match x with
 |.str _=>T = "str"
 |.int _=>T = "int"
 |.ref p=>(T = "list"/\∃ xs,eJ K H p xs)\/(T = "tuple"/\∃ o,K.lookup p=some o/\o.cls=.type "tuple"/\o.dict=none) \/
   (T = "dict"/\((∃ kvs,H p=some (.dK kvs))\/∃ kvs,H p=some (.dT kvs)))\/(T = "set"/\∃ S n,H p=some (.set S n))
 |_=>False
theorem cc'{pins:List (Addr × Obj)}{σ:St}{H:Hp}{s:Shared}{T:String}{x:V}{v:Value}(I:Inv X pins σ H s)(r:RelV x v)(ty:Xi X.K T x H) :
  s.TypeIs v T/\∀ a,v=.ref a->∃ ob,s.heap.get? a=some ob/\ob.dict=none:=by
 cases x with
 |str z =>
  obtain⟨t,rfl⟩:=r
  cases (show T = "str" from ty)
  exact⟨typeIs_str s z t,fun _ e=>nomatch e⟩
 |int i =>
  obtain⟨t,rfl⟩:=r
  cases (show T = "int" from ty)
  exact⟨typeIs_int s i t,fun _ e=>nomatch e⟩
 |ref p =>
  cases r
  rcases ty with⟨rfl,xs,hq⟩|⟨rfl,o,hk,hc,hd⟩|⟨rfl,hk⟩|⟨rfl,S,n,hk⟩
  ·obtain⟨its,_,pl,_⟩:=I.list hq
   refine⟨pl.isList.typeIs,fun a e=>?_⟩
   cases e
   obtain⟨o,n,e,c,hd,_⟩:=pl
   exact⟨o,e,hd⟩
  ·refine⟨⟨o,I.ke p o hk,hc⟩,fun a e=>?_⟩
   cases e
   exact⟨o,I.ke _ o hk,hd⟩
  ·have z:∃ o,s.heap.get? p=some o/\o.ExactDict:=by
    rcases hk with⟨kvs,hk⟩|⟨kvs,hk⟩
    ·obtain⟨_,_,_,_,o,_,_,e,ex,_⟩:=I.bp p _ hk
     exact⟨o,e,ex⟩
    ·obtain⟨_,_,_,_,o,_,_,e,ex,_⟩:=I.bp p _ hk
     exact⟨o,e,ex⟩
   obtain⟨o,e,ex⟩:=z
   refine⟨⟨o,e,ex.1⟩,fun a e2=>?_⟩
   cases e2
   exact⟨o,e,ex.2.1⟩
  ·obtain⟨o,_,_,_,e,ex,_⟩:=I.bp p _ hk
   refine⟨⟨o,e,ex.1⟩,fun a e2=>?_⟩
   cases e2
   exact⟨o,e,ex.2.1⟩
 |_=>exact False.elim ty
def tBM(K:PySem.W.Frag)(T:String)(r:V->List V->Hp->VK->Prop)(to:TE)(t:TA):TE:=fun σ H Q=>to σ H fun x H1=>Xi K T x H1/\t σ H1 fun xs H2=>r x xs H2 Q
variable {o e:Expr}{es:List Expr}{to:TE}{t:TA}{name:Str}{apos dy:Pos}{T id:String}{r:V->List V->Hp->VK->Prop}
theorem Ic (pa:PlainAttrs T) (slot:Slot T name id) (hty:typeOf (.builtin id)=pure (.type "method_descriptor")) (hm:Qs X id r) (ho:PE X o to) (ha:PA X (e :: es) t)
  (xE:attributeBase o name X.env (eval o X.env)=eval o X.env:=by rfl)
  (uk:((backTo dy (starEach (e :: es) X.env)).all (fun x=>!x.1) && (backToKw dy (keywordEach [] X.env)).all (fun x=>x.1.isSome)
   && decide ((e :: es).length+([]:List Keyword).length+(if ([]:List Keyword).isEmpty then 0 else 1)<30))=true:=by rfl)
  (hline:(apos.endLine == dy.line)=true:=by rfl) (hs:starEach (e :: es) X.env=(false,eval e X.env) :: starEach es X.env:=by rfl) (xI:(backTo dy (starEach es X.env)).any (·.1)=false:=by rfl) :
  PE X (.Call (.Attribute o name apos) (e :: es) [] dy) (tBM X.K T r to t):=by
 intro pins s σ H Q I h
 refine wpAny_Call_method_late xE uk hline rfl (cv (ho pins s σ H _ I h) fun v s1 dk=>?_)
 obtain⟨x,H1,I1,r1,ty,q1⟩:=dk
 obtain⟨h1,h2⟩:=cc' I1 r1 ty
 refine⟨T,id,pa,slot,hty,h1,h2,?_⟩
 have hA:=ha dy pins s1 σ H1 _ I1 q1
 rw[hs] at hA ⊢
 refine Calls.callWith_builtin (by show(false || (backTo dy (starEach es X.env)).any (·.1))=false;rw[xI]<;>rfl) (Calls.evalArgs_plain ?_)
 exact cv hA fun us s2 cK=>L2.hG cK fun vs H2 I2 r2 q2=>hm pins s2 σ H2 x vs v us Q I2 r1 r2 q2
end
def Xj(X:Cx)(id:String)(r:V->List V->Hp->VK->Prop):Prop :=
 ∀ (pins:List (Addr × Obj)) (s:Shared) (σ:St) (H:Hp) (x:V) (xs:List V) (v:Value) (us:List Value) (Q:VK),Inv X pins σ H s->RelV x v->Vals xs us->r x xs H Q ->
  wpAny (model X.prog X.w) X.A (call (.builtin id) (v :: us)) (EP X pins σ Q) X.xe s
theorem Vals.one{x:V}{us:List Value}(h:Vals [x] us):∃ u,us=[u]/\RelV x u:=by
 cases h
 rename_i r h
 cases h
 exact⟨_,rfl,‹_›⟩
theorem Vals.two{x y:V}{us:List Value}(h:Vals [x,y] us):∃ u v,us=[u,v]/\RelV x u/\RelV y v:=by
 cases h
 rename_i r h
 cases h
 rename_i q h
 cases h
 exact⟨_,_,rfl,‹_›,‹_›⟩
theorem Vals.eraseIdx:∀ {xs:List V} {us:List Value} (i:Nat),Vals xs us->Vals (xs.eraseIdx i) (us.eraseIdx i)
 |_,_,_,.nil=>.nil
 |_,_,0,.cons _ t=>t
 |_,_,i+1,.cons r t=>.cons r (Vals.eraseIdx i t)
theorem Vals.rep{xs:List V}{us:List Value}(h:Vals xs us):∀ k:Nat,Vals (List.replicate k xs).flatten (List.replicate k us).flatten
 |0=>.nil
 |k+1=>by
  rw[y3,y3,AU,AU]
  exact Vals.append h (Vals.rep h k)
section
variable {X:Cx}{pins:List (Addr × Obj)}{σ:St}{H:Hp}{s:Shared}{l:Addr}{xs ys:List V}
theorem Inv.Ti{its its':List Value}{n:Nat}{f:Array Value->Array Value}{t':Nat}(I:Inv X pins σ H s)(hH:H l=some (.lst xs))
  (e:s.heap.get? l=some { cls:=.type "list",data:=.seq its.toArray n }) (hf:f its.toArray=its'.toArray) (hv:Vals ys its') (hz:ys.length<=sizeLine) :
  Inv X pins σ (upd H l (.lst ys)) { s with heap:=s.heap.update l (Obj.mapSeq f),toks:=t' }:=by
 have q:=PySem.IsL.update e f
 rw[hf] at q
 refine I.write (x:=l) (e:=l) (by rw[hH];exact trivial) (.inl rfl) (fun b' u hb hu=>(LP s.heap (Obj.mapSeq f) (Ne.symm hb)).trans hu) ⟨_,q⟩ ?_
 exact⟨hz,its',_,hv,q⟩
theorem Inv.Tj{its:List Value}{t':Nat}(I:Inv X pins σ H s)(hv:Vals ys its)(hz:ys.length<=sizeLine) :
  Inv X pins σ (upd H s.heap.objs.size (.lst ys)) { s with heap:=s.heap.push { cls:=.type "list",data:=.seq its.toArray },toks:=t' } :=
 I.laid (fun _ _ q=>eS _ q) (bT _) ⟨hz,its,0,hv,i3 _ rfl⟩
theorem Inv.fresh(I:Inv X pins σ H s):H s.heap.objs.size=none:=I.bp.fresh (bT _)
theorem Inv.Qw (I:Inv X pins σ H s) (hH:H l=some (.lst xs)):xs.length<=sizeLine/\∃ (its:List Value) (n:Nat),Vals xs its/\xs.length=its.length/\s.heap.get? l=some { cls:=.type "list",data:=.seq its.toArray n }:=by
 obtain⟨z,its,n,r,e⟩:=I.bp l _ hH
 exact⟨z,its,n,r,r.length,e⟩
theorem cf'{n:Nat}(h:n<=sizeLine):Builtin.List.listTooLong n=false:=by
 unfold Builtin.List.listTooLong
 exact decide_eq_false (by lia)
end
section
variable {X:Cx}
def cg':V->List V->Hp->VK->Prop:=fun x vs H Q=>∃ l xs y,x=.ref l/\vs=[y]/\H l=some (.lst xs)/\xs.length<sizeLine/\Q .non (upd H l (.lst (xs++[y])))
theorem Tn:Xj X "list.append" cg':=by
 intro pins s σ H x vs v us Q I rx rv h
 obtain⟨l,xs,y,rfl,rfl,hH,hz,q⟩:=h
 cases rx
 obtain⟨u,rfl,ru⟩:=rv.one
 obtain⟨z,its,n,r,hl,e⟩:=I.Qw hH
 refine call_meets F.slot_list_append ⟨_,e,rfl⟩ F.entry_list_append (F.args_list_append_2 _ _) (PySem.list_append l its.toArray n u (by rw[ip];lia)) ⟨e,?_⟩
 refine⟨.non,_,I.Ti (its':=its++[u]) hH e (by simp) (r.append (.cons ru .nil)) ?_,rfl,q⟩
 rw[qh,List.length_singleton]
 assumption
def ch':V->List V->Hp->VK->Prop:=fun x vs H Q=>∃ l b xs zs,x=.ref l/\vs=[.ref b]/\H l=some (.lst xs)/\H b=some (.lst zs)/\xs.length+zs.length<=sizeLine/\Q .non (upd H l (.lst (xs++zs)))
theorem ci':Xj X "list.extend" ch':=by
 intro pins s σ H x vs v us Q I rx rv h
 obtain⟨l,b,xs,zs,rfl,rfl,hH,hB,hz,q⟩:=h
 cases rx
 obtain⟨u,rfl,ru⟩:=rv.one
 cases ru
 obtain⟨z,its,n,r,hl,e⟩:=I.Qw hH
 obtain⟨z2,Bz,n2,r2,uS,e2⟩:=I.Qw hB
 have hsz:its.toArray.size+Bz.toArray.size<=sizeLine:=by rw[ip,ip];lia
 have cj':¬ (!its.toArray.isEmpty && Builtin.List.listTooLong (its.toArray.size+Bz.toArray.size))=true:=by
  rw[cf' hsz,Bool.and_false]
  exact g9
 refine call_meets F.slot_list_extend ⟨_,e,rfl⟩ F.entry_list_extend (F.args_list_extend_2 _ _)
  (AutoSeq1.list_extend_list_list_0 l its.toArray n b Bz.toArray n2 cj' (by rw[ip];lia) (by lia)) ⟨e,e2,?_⟩
 refine⟨.non,_,I.Ti (its':=its++Bz) hH e (by simp) (r.append r2) ?_,rfl,q⟩
 rw[qh]
 lia
end
section
set_option maxRecDepth 100000 in
end
section
variable {κ:Type}[DecidableEq κ]
def oo(kvs:List (κ × V))(k:κ):Option V:=(kvs.find? fun kv=>decide (kv.1=k)).map (·.2)
def putK(kvs:List (κ × V))(k:κ)(v:V):List (κ × V) :=
 if (kvs.any fun kv=>decide (kv.1=k))=true then kvs.map (fun kv=>if kv.1=k then (kv.1,v) else kv) else kvs++[(k,v)]
theorem Qx{p:κ × V}{r:List (κ × V)}{k:κ}(e:p.1=k):oo (p :: r) k=some p.2:=by simp[oo,FY,e]
theorem Qy{p:κ × V}{r:List (κ × V)}{k:κ}(e:¬ p.1=k):oo (p :: r) k=oo r k:=by simp[oo,FY,e]
theorem To(k:κ):∀ kvs:List (κ × V),(kvs.any fun kv=>decide (kv.1=k))=(oo kvs k).isSome
 |[]=>rfl
 |p :: r=>by
  rw[AY]
  by_cases e:p.1=k
  ·simp only[Qx e,decide_eq_true e,Bool.true_or,Option.isSome_some]
  ·rw[Qy e,decide_eq_false e,Bool.false_or];exact To k r
theorem Xk(kvs:List (κ × V))(k:κ)(v:V):(putK kvs k v).length<=kvs.length+1:=by
 unfold putK
 split
 ·rw[cE];exact Sd _ _
 ·rw[qh,sD,List.length_nil];exact bT _
theorem xo.Tp{o:Option V}{u:Option Value}(r:xo o u):o.isSome=u.isSome:=by
 cases o with
 |none=>cases u with
  |none=>rfl
  |some _=>exact(show False from r).elim
 |some _=>cases u with
  |none=>exact(show False from r).elim
  |some _=>rfl
theorem KV.val{kvs:List (κ × V)}{vs:List (κ × Value)}(r:KV kvs vs)(k:κ):xo (oo kvs k) (valueAt vs k):=by
 unfold KV at r
 induction r with
 |nil=>exact True.intro
 |@cons p q ps qs h t ih =>
  obtain⟨h1,h2⟩:=h
  by_cases e:p.1=k
  ·have e':q.1=k:=h1.symm.trans e
   have b:valueAt (q :: qs) k=some q.2:=by simp[valueAt,FY,e']
   rw[Qx e,b];exact h2
  ·have e':¬ q.1=k:=fun z=>e (h1.trans z)
   have b:valueAt (q :: qs) k=valueAt qs k:=by simp[valueAt,FY,e']
   rw[Qy e,b];exact ih
theorem KV.any{kvs:List (κ × V)}{vs:List (κ × Value)}(r:KV kvs vs)(k:κ):(kvs.any fun kv=>decide (kv.1=k))=vs.any fun kv=>decide (kv.1=k):=by
 unfold KV at r
 induction r with
 |nil=>rfl
 |cons h t ih=>rw[AY,AY,ih,h.1]
theorem KV.repl{kvs:List (κ × V)}{vs:List (κ × Value)}(r:KV kvs vs)(k:κ){y:V}{u:Value}(ry:RelV y u) :
  KV (kvs.map fun kv=>if kv.1=k then (kv.1,y) else kv) (vs.map fun kv=>if kv.1=k then (kv.1,u) else kv):=by
 unfold KV at r ⊢
 induction r with
 |nil=>exact .nil
 |@cons p q ps qs h t ih =>
  rw[ft,ft]
  refine .cons ?_ ih
  obtain⟨h1,h2⟩:=h
  by_cases e:p.1=k
  ·rw[if_pos e,if_pos (h1.symm.trans e)];exact⟨h1,ry⟩
  ·rw[if_neg e,if_neg (fun z=>e (h1.trans z))];exact⟨h1,h2⟩
theorem KV.put{kvs:List (κ × V)}{vs:List (κ × Value)}(r:KV kvs vs)(k:κ){y:V}{u:Value}(ry:RelV y u):KV (putK kvs k y) (stored vs k u):=by
 unfold putK stored
 rw[r.any k]
 by_cases e:(vs.any fun kv=>decide (kv.1=k))=true
 ·rw[if_pos e,if_pos e];exact r.repl k ry
 ·rw[if_neg e,if_neg e];exact Paired.snoc r ⟨rfl,ry⟩
theorem KV.length{kvs:List (κ × V)}{vs:List (κ × Value)}(r:KV kvs vs):kvs.length=vs.length:=Paired.length r
end
theorem Qz{P:Program}{w:World}{k:Key}{u:Value}(r:RelV (kV k) u):(mP P w).is k u=true:=by
 cases k with
 |inl i=>obtain⟨t,e⟩:=(show ∃ t,u=Value.int i t from r);subst e;exact ZZ P w i t
 |inr x=>obtain⟨t,e⟩:=(show ∃ t,u=Value.str x t from r);subst e;exact Z0 P w x t
theorem Tq{P:Program}{w:World}:∀ {ks:List Key} {us:List Value},Vals (ks.map kV) us->ItemsAre (mP P w) ks us
 |[],_,r=>by rw[List.map_nil] at r;cases r;exact .nil
 |k :: ks,_,r=>by
  rw[ft] at r
  cases r with
  |cons h t=>exact .cons (Qz h) (Tq t)
abbrev KT(H:Hp):List (List Key × V)->List (List Key × Addr × Value)->Prop:=Paired fun p q=>p.1=q.1/\H q.2.1=some (.tup (p.1.map kV))/\RelV p.2 q.2.2
theorem KT.val{H:Hp}{kvs:List (List Key × V)}{xs:List (List Key × Addr × Value)}(r:KT H kvs xs)(k:List Key):xo (oo kvs k) ((atKey xs k).map (·.2)):=by
 induction r with
 |nil=>exact True.intro
 |@cons p q ps qs h t ih =>
  obtain⟨h1,_,h2⟩:=h
  by_cases e:p.1=k
  ·have e':q.1=k:=h1.symm.trans e
   have b:atKey (q :: qs) k=some q.2:=by simp[atKey,FY,e']
   rw[Qx e,b];exact h2
  ·have e':¬ q.1=k:=fun z=>e (h1.trans z)
   have b:atKey (q :: qs) k=atKey qs k:=by simp[atKey,FY,e']
   rw[Qy e,b];exact ih
theorem KT.repl{H:Hp}{kvs:List (List Key × V)}{xs:List (List Key × Addr × Value)}(r:KT H kvs xs)(k:List Key){y:V}{u:Value}(ry:RelV y u) :
  KT H (kvs.map fun kv=>if kv.1=k then (kv.1,y) else kv) (xs.map (putAt k u)):=by
 induction r with
 |nil=>exact .nil
 |@cons p q ps qs h t ih =>
  rw[ft,ft]
  refine .cons ?_ ih
  obtain⟨h1,h2,h3⟩:=h
  unfold putAt
  by_cases e:p.1=k
  ·rw[if_pos e,if_pos (h1.symm.trans e)];exact⟨h1,h2,ry⟩
  ·rw[if_neg e,if_neg (fun z=>e (h1.trans z))];exact⟨h1,h2,h3⟩
theorem KT.put{H:Hp}{kvs:List (List Key × V)}{xs:List (List Key × Addr × Value)}(r:KT H kvs xs)(k:List Key){b:Addr}{y:V}{u:Value}(hb:H b=some (.tup (k.map kV)))(ry:RelV y u) :
  KT H (putK kvs k y) (storedH xs k b u):=by
 have e:(kvs.any fun kv=>decide (kv.1=k))=(atKey xs k).isSome:=by
  rw[To,(r.val k).Tp,Option.isSome_map]
 unfold putK storedH
 rw[e]
 by_cases q:(atKey xs k).isSome=true
 ·rw[if_pos q,if_pos q];exact r.repl k ry
 ·rw[if_neg q,if_neg q];exact Paired.snoc r ⟨rfl,hb,ry⟩
theorem KT.keeps{H H':Hp}{kvs:List (List Key × V)}{xs:List (List Key × Addr × Value)}(r:KT H kvs xs)(ht:∀ b ys,H b=some (.tup ys)->H' b=some (.tup ys)):KT H' kvs xs :=
 Paired.Sn r fun _ _ z=>⟨z.1,ht _ _ z.2.1,z.2.2⟩
section
variable {P:Program}{w:World}{H:Hp}{h:Heap}{a:Addr}
theorem Xl{u:HO}(ok:fP P w H h)(e:Rd H a u):eW P w H h a u:=e.ok ok
theorem ML{kvs:List (Key × V)}(ok:fP P w H h)(e:Rd H a (.dK kvs)):kvs.length<=sizeLine/\(a == sysModules)=false/\∃ vs,KV kvs vs/\h.DictOf (mP P w) a vs :=
 show eW P w H h a (.dK kvs) from Xl ok e
theorem ck'{kvs:List (Key × V)}(ok:fP P w H h)(e:H a=some (.dK kvs)):kvs.length<=sizeLine/\(a == sysModules)=false/\∃ vs,KV kvs vs/\h.DictOf (mP P w) a vs:=ML ok (.inl e)
theorem MQ{ks:List Key}(ok:fP P w H h)(e:H a=some (.tup (ks.map kV))):(tupleKind (mP P w)).is h ks a:=by
 obtain⟨_,its,r,o,h1,h2,n,h3⟩:=(show eW P w H h a (.tup (ks.map kV)) from ok a _ e)
 exact⟨o,its.toArray,n,h1,h2,h3,by simpa using Tq r⟩
theorem QB{kvs:List (List Key × V)}(ok:fP P w H h)(e:Rd H a (.dT kvs)):kvs.length<=sizeLine/\(a == sysModules)=false /\
  ∃ xs,KT H kvs xs/\h.DictOfH (tupleKind (mP P w)) a xs:=by
 obtain⟨z,y,xs,r,o,es,ep,h1,h2,h3,h4,h5⟩:=(show eW P w H h a (.dT kvs) from Xl ok e)
 refine⟨z,y,xs,r,o,es,ep,h1,h2,h3,h4,fun x hx=>?_,h5⟩
 have all:∀ {l:List (List Key × V)} {m:List (List Key × Addr × Value)},KT H l m->∀ x∈m,(tupleKind (mP P w)).is h x.1 x.2.1:=by
  intro l m q
  induction q with
  |nil=>intro x hx;exact nomatch hx
  |@cons p q ps qs hq t ih =>
   intro x hx
   rcases dc.mp hx with e|hx
   ·subst e
    exact MQ ok (by rw[<- hq.1];exact hq.2.1)
   ·exact ih x hx
 exact all r x hx
theorem Xm{kvs:List (List Key × V)}(ok:fP P w H h)(e:H a=some (.dT kvs)):kvs.length<=sizeLine/\(a == sysModules)=false /\
  ∃ xs,KT H kvs xs/\h.DictOfH (tupleKind (mP P w)) a xs:=QB ok (.inl e)
end
def pf(H:Hp)(a:Addr)(y:V)(r:Option V):Prop :=
 (∃ kvs k,Rd H a (.dK kvs)/\y=kV k/\r=oo kvs k)\/∃ kvs k b,Rd H a (.dT kvs)/\y=.ref b/\H b=some (.tup (k.map kV))/\r=oo kvs k
def DM(H:Hp)(a:Addr)(y v:V)(H':Hp):Prop :=
 (∃ kvs k,H a=some (.dK kvs)/\y=kV k/\kvs.length<sizeLine/\H'=upd H a (.dK (putK kvs k v))) \/
 ∃ kvs k b,H a=some (.dT kvs)/\y=.ref b/\H b=some (.tup (k.map kV))/\kvs.length<sizeLine/\H'=upd H a (.dT (putK kvs k v))
theorem pf.k{H:Hp}{a:Addr}{kvs:List (Key × V)}{k:Key}(e:H a=some (.dK kvs)):pf H a (kV k) (oo kvs k):=.inl ⟨kvs,k,.inl e,rfl,rfl⟩
theorem pf.t{H:Hp}{a b:Addr}{kvs:List (List Key × V)}{k:List Key}(e:H a=some (.dT kvs))(eb:H b=some (.tup (k.map kV))):pf H a (.ref b) (oo kvs k):=.inr ⟨kvs,k,b,.inl e,rfl,eb,rfl⟩
theorem DM.k{H:Hp}{a:Addr}{kvs:List (Key × V)}{k:Key}{v:V}(e:H a=some (.dK kvs))(hl:kvs.length<sizeLine):DM H a (kV k) v (upd H a (.dK (putK kvs k v))):=.inl ⟨kvs,k,e,rfl,hl,rfl⟩
theorem DM.t{H:Hp}{a b:Addr}{kvs:List (List Key × V)}{k:List Key}{v:V}(e:H a=some (.dT kvs))(eb:H b=some (.tup (k.map kV)))(hl:kvs.length<sizeLine) :
  DM H a (.ref b) v (upd H a (.dT (putK kvs k v))):=.inr ⟨kvs,k,b,e,rfl,eb,hl,rfl⟩
section
variable {X:Cx}{pins:List (Addr × Obj)}{σ:St}{H:Hp}{s:Shared}{a:Addr}{y v:V}{u r:Value}{o:Option V}{A:Around}{E:Value->Shared->Prop}
theorem Inv.big(I:Inv X pins σ H s):sysModules<s.heap.objs.size:=by
 have h:mainGlobals<s.heap.objs.size:=(I.mod.glob.keeps I.bk).lt
 exact Se (by decide) h
theorem cl'{Q:Value->Shared->Prop}(hu:A.units+1<cLine)(I:Inv X pins σ H s)(g:pf H a y (some v))(ry:RelV y u)(h:∀ w' s',Inv X pins σ H s'->RelV v w'->Q w' s') :
  wpAny (model X.prog X.w) A (getItem (.ref a) u) Q E s:=by
 rcases g with⟨kvs,k,e,ey,l⟩|⟨kvs,k,b,e,ey,eb,l⟩
 ·subst ey
  obtain⟨z,hd,vs,rel,dd⟩:=ML I.bp e
  obtain⟨w',hw,om⟩:=xo.some_of (v:=v) (o:=valueAt vs k) (by rw[l];exact rel.val k)
  exact wpAny_getItem_of (Qz ry) dd.mapOf hw (h w' _ (I.tok _) om)
 ·subst ey
  cases (show u=Value.ref b from ry)
  obtain⟨z,hd,xs,rel,dd⟩:=QB I.bp e
  obtain⟨w',hw,om⟩:=xo.some_of (v:=v) (o:=(atKey xs k).map (·.2)) (by rw[l];exact rel.val k)
  obtain⟨p,hp,hp2⟩:=L4.mp hw
  refine wpAny_getItem_heap (tupleKind_room_in1 hu) (MQ I.bp eb) dd hp ?_
  rw[hp2]
  exact h w' _ (I.tok _) om
theorem cn'{Q:Value->Shared->Prop}(hu:A.units+1<cLine)(I:Inv X pins σ H s)(g:pf H a y o)(ry:RelV y u)(h:∀ s',Inv X pins σ H s'->Q (.bool o.isSome) s') :
  wpAny (model X.prog X.w) A (compareOp .In u (.ref a)) Q E s:=by
 rcases g with⟨kvs,k,e,ey,l⟩|⟨kvs,k,b,e,ey,eb,l⟩
 ·subst ey
  obtain⟨z,hd,vs,rel,dd⟩:=ML I.bp e
  refine wpAny_in_of (Qz ry) hd dd.mapOf ?_
  rw[<- (rel.val k).Tp,<- l]
  exact h _ (I.tok _)
 ·subst ey
  cases (show u=Value.ref b from ry)
  obtain⟨z,hd,xs,rel,dd⟩:=QB I.bp e
  refine wpAny_in_heap (tupleKind_room_in1 hu) (MQ I.bp eb) hd dd ?_
  have q:=(rel.val k).Tp
  rw[Option.isSome_map] at q
  rw[<- q,<- l]
  exact h _ (I.tok _)
theorem Tr{h':Heap}{t':Nat}{ob:HO}(I:Inv X pins σ H s)(mu:L5 (H a))(hs:Heap.SameBut a s.heap h')(he:∃ q,h'.get? a=some q)(new:eW X.prog X.w (upd H a ob) h' a ob) :
  Inv X pins σ (upd H a ob) { s with heap:=h',toks:=t' } :=
 I.write (x:=a) (e:=a) mu (.inl rfl) (fun b q hb z=>(hs.2 b hb).trans z) he new
theorem co'{P:Program}{w:World}{H':Hp}{h':Heap}{kvs:List (Key × V)}{vs:List (Key × Value)}(z:kvs.length<=sizeLine)(hd:(a == sysModules)=false)(rel:KV kvs vs)(dd:h'.DictOf (mP P w) a vs) :
  eW P w H' h' a (.dK kvs):=⟨z,hd,vs,rel,dd⟩
theorem cp'{H':Hp}{Q:Unit->Shared->Prop}(hu:A.units+1<cLine)(I:Inv X pins σ H s)(g:DM H a y v H')(ry:RelV y u)(rv:RelV v r)(h:∀ s',Inv X pins σ H' s'->Q () s') :
  wpAny (model X.prog X.w) A (setItem (.ref a) u r) Q E s:=by
 rcases g with⟨kvs,k,e,ey,l,eH⟩|⟨kvs,k,b,e,ey,eb,l,eH⟩
 ·subst ey eH
  obtain⟨z,hd,vs,rel,dd⟩:=ck' I.bp e
  have hz:vs.length<=sizeLine:=by rw[<- rel.length];exact z
  have hl:(putK kvs k v).length<=sizeLine:=by have:=Xk kvs k v;walk_at "s1"
  refine wpAny_setItem_pairs (hsz:=hz) (Qz ry) dd fun h' Iq hs=>h _ ?_
  have he:∃ q,h'.get? a=some q:=let ⟨q,_,_,hq,_⟩:=Iq;⟨q,hq⟩
  exact Tr I (by rw[e];exact True.intro) hs he (co' hl hd (rel.put k rv) Iq)
 ·subst ey eH
  cases (show u=Value.ref b from ry)
  obtain⟨z,hd,xs,rel,dd⟩:=Xm I.bp e
  have hz:xs.length<=sizeLine:=by rw[<- Paired.length rel];exact z
  have hl:(putK kvs k v).length<=sizeLine:=by have:=Xk kvs k v;walk_at "s1"
  refine wpAny_setItem_heap (hsz:=hz) (tupleKind_room_in1 hu) (MQ I.bp eb) dd fun h' Iq hs=>h _ ?_
  obtain⟨q,es,ep,hq,h2,h3,h4,_,h5⟩:=Iq
  refine Tr I (by rw[e];exact True.intro) hs ⟨q,hq⟩ ⟨hl,hd,_,(rel.put k eb rv).keeps fun c ys ec=>?_,q,es,ep,hq,h2,h3,h4,h5⟩
  rw[fE (Wh ec e (fun z=>nomatch z))]
  exact ec
end
section
variable {X:Cx}{pins:List (Addr × Obj)}{σ:St}{H:Hp}{s:Shared}{a:Addr}{kvs:List (Key × V)}{A:Around}{E:Value->Shared->Prop}
theorem cq' {Q:Value->Shared->Prop} (I:Inv X pins σ H s) (e:Rd H a (.dK kvs)) (h:∀ t s',Inv X pins σ H s'->Q (.int kvs.length t) s'):wpAny (model X.prog X.w) A (call (.builtin "len") [.ref a]) Q E s:=by
 obtain⟨z,hd,vs,rel,dd⟩:=ML I.bp e
 refine call_len_dict hd dd (by rw[<- rel.length];rw[sizeLine_eq] at z;lia) ?_
 rw[<- rel.length]
 exact h _ _ (I.tok _)
end
theorem cr' {X:Cx} {pins:List (Addr × Obj)} {σ:St} {H:Hp} {s:Shared} {a:Addr} {y:V} {o:Option V} (I:Inv X pins σ H s) (g:pf H a y o):s.TypeIs (.ref a) "dict" := by
 rcases g with⟨kvs,k,e,_,_⟩|⟨kvs,k,b,e,_,_,_⟩
 ·obtain⟨_,_,vs,_,dd⟩:=ML I.bp e
  exact dd.typeIs
 ·obtain⟨_,_,xs,_,dd⟩:=QB I.bp e
  exact dd.typeIs
def ct'(td ty tv:TE):TS:=fun D σ H=>tv σ H fun v H1=>td σ H1 fun x H2=>ty σ H2 fun y H3=>∃ a H4,x=.ref a/\DM H3 a y v H4/\D.nx σ H4
section
variable {X:Cx}{o i value:Expr}{pos pos':Pos}{td ty tv:TE}
theorem cu'(hu:X.A.units+1<cLine)(ho:PE X o td)(hi:PE X i ty)(hv:PE X value tv)(hs:swapsWith value (some (.Subscript o i pos')) pos.line X.env=pure false) :
  PS X (.Assign [.Subscript o i pos'] value pos) (ct' td ty tv):=by
 intro pins s σ H D I h
 refine wpAny_Assign_Subscript (cv (hv pins s σ H _ I h) fun r s1 cK=>L2.hG cK fun v H1 I1 rv q1=>cv (ho pins s1 σ H1 _ I1 q1) fun u s2 cK=>L2.hG cK fun x H2 I2 rx q2=>cv (hi pins s2 σ H2 _ I2 q2) fun iv s3 dk=>?_) hs
 obtain⟨y,H3,I3,ry,a,H4,ex,g,q3⟩:=dk
 subst ex
 obtain rfl:u=Value.ref a:=rx
 exact cp' hu I3 g ry rv fun s4 I4=>⟨σ,H4,I4,q3⟩
end
theorem cv' {P:Program} {w:World} {H:Hp} (h:Heap) (hb:sysModules<h.objs.size):eW P w H (h.push { cls:=.type "dict",data:=.dict #[] }) h.objs.size (.dT []) :=
 ⟨eI _,beq_eq_false_iff_ne.mpr (Ne.symm (eT hb)),[],.nil,_,#[],0,i3 _ rfl,⟨rfl,rfl,rfl⟩,rfl,rfl,oQ⟩
def cw':TE:=fun _ H Q=>∀ p,H p=none->Q (.ref p) (upd H p (.dT []))
section
variable {X:Cx}{pos:Pos}
theorem cx':PE X (.Dict [] [] pos) cw':=fun pins s σ H Q I h =>
 wpAny_Dict_empty ⟨.ref s.heap.objs.size,_,I.laid (a:=s.heap.objs.size) (o:=.dT []) (t':=s.toks) (fun _ _ q=>eS _ q) (bT _) (cv' s.heap I.big),rfl,h _ (I.bp.fresh (bT _))⟩
end
structure M1(X:Cx)(o:Expr)(m:Str)(apos:Pos)(e:Expr)(dy:Pos):Prop where
 base:attributeBase o m X.env (eval o X.env)=eval o X.env
 few:((backTo dy (starEach [e] X.env)).all (fun x=>!x.1) && (backToKw dy (keywordEach [] X.env)).all (fun x=>x.1.isSome)
  && decide (([e]:List Expr).length+([]:List Keyword).length+(if ([]:List Keyword).isEmpty then 0 else 1)<30))=true
 line:(apos.endLine == dy.line)=true
 trees:backTo dy (starEach [e] X.env)=[(false,eval e X.env)]
end L2
namespace Xn
open PySem PySem.W PySem.Calls PyProof.Rows
theorem cy'{P:Params}{h:Heap}:∀ (ns:List Int) (vs:List Value),WellAll P h vs (ns.map WData.int)->IntsAre vs ns:=by
 intro ns
 induction ns with
 |nil =>
  intro vs w
  rw[List.map_nil] at w
  cases w
  exact .nil
 |cons n ns ih =>
  intro vs w
  rw[ft] at w
  cases w with
  |cons a b =>
   cases a
   exact .cons _ _ (ih _ b)
theorem cz'{l:OpenLaw}{n:Nat}(hn:l.most=some n){P:Params}{h:Heap}{args:List WData}{vals:List Value}
  (DS:l.row.toRowW.claim.pre args=true) (Ts:WellAll P h vals args) :
  ∃ a vs ns,vals=[Value.ref a]/\args=[WData.list (ns.map WData.int)]/\h.get? a=some { cls:=.type "list",data:=.seq vs.toArray }/\IntsAre vs ns/\ns.length<=n:=by
 have Iy:WShape.hasAll [] args [.list .int]=true:=(pre_splitW DS).1
 have hc:l.pre.holds [] { args:=args }=true:=(pre_splitW DS).2
 obtain⟨d,r,rfl,h1,h2⟩:=hasAllW_cons Iy
 obtain rfl:=hasAllW_nil h2
 obtain⟨xs,rfl,h3⟩:=hasW_list h1
 obtain⟨ns,rfl⟩:=items_int h3
 have hlen:ns.length<=n:=by
  unfold OpenLaw.pre at hc
  have h4:(WTm.not (.lt (.lit (.int (n:Int))) (.len (.arg 0)))).holds [] { args:=[.list (ns.map .int)] }=true:=by
   have h4:=(holds_andW hc).1
   rw[hn] at h4
   exact h4
  have h5:=condW_of h4 (w_not (w_lt w_lit (w_len_list (w_arg rfl))))
  rw[cE] at h5
  refine LS fun q=>?_
  have q':(n:Int)<((ns.length:Nat):Int):=by lia
  first
   | (rw[decide_eq_true q'] at h5;exact absurd h5 (by decide))
   | (simp at h5;lia)
 cases Ts with
 |cons w1 w2 =>
  cases w2
  cases w1 with
  |list ho pj=>exact⟨_,_,ns,rfl,rfl,ho,cy' ns _ pj,hlen⟩
theorem cA'(l:OpenLaw)(args:List WData):l.row.toRowW.claim.post args (.bool true) args=true :=
 postW_of (r:=l.row.toRowW) (X:=(true == true))
  (show WShape.has [] (.bool true) .bool=true by first|rfl|decide|simp[WShape.has,WShape.arms,WShape.armsAll])
  (show(WTm.eq .res (.lit (.bool true))).value [] { args:=args,res:=some (.bool true),after:=args }=some (.bool (true == true)) from w_eq_bool (w_res rfl) w_lit) rfl
theorem cB'{l:OpenLaw}{n:Nat}{q:Program}{loose:List Str}{XP:(Str->Option Value)->Heap->Prop}{YP:World->Heap->Prop}{d:DefRec}
  (hn:l.most=some n) (MR:d.params.defaults=[])
  (call:∀ (w:World) (eu dS:Shared) (mg mb:Str->Option Value) (fa:Addr) (o:Obj) (pm cd doc:Value) (a:Addr) (vs:List Value) (ns:List Int),
   Ground q loose [] XP w eu mg mb dS.heap->YP w dS.heap ->
   dS.heap.get? fa=some o->o.data=.func (docDef d.name d.params d.body d.scope pm cd doc)->dS.heap.CodeRec cd d.name->mg d.name=some (.ref fa) ->
   dS.heap.get? a=some { cls:=.type "list",data:=.seq vs.toArray }->IntsAre vs ns->ns.length<=n->dS.gens = #[] ->
   codeAny (model l.prog w) callerA (.call (.ref fa) ⟨[.ref a],[]⟩) (fun r s'=>r=.ok (.ret (.bool true))/\OldK dS.heap s'.heap/\s'.os=dS.os/\AllBare s'.gens) dS) :
  WalkO q loose XP YP l.row.toRowW d [] (fun f vs=>PySem.call f vs):=by
 intro w eu dS mg mb G Y fa o pm cd doc dV kV ho hd oS hD MS hg args vals as DS hlay hrd Ts DT
 obtain rfl:dV=.none:=Dflts.none hD MR
 obtain rfl:kV=.none:=Dflts.noKw hD
 obtain⟨a,vs,ns,rfl,rfl,Tt,hints,hlen⟩:=cz' hn DS Ts
 refine enter_call (codeAny_mono (call w eu dS mg mb fa o pm cd doc a vs ns G Y ho (fd_plain hd) oS MS Tt hints hlen hg) fun r s' hq=>?_)
 obtain⟨rfl,h2,h3,h4⟩:=hq
 exact⟨.inl ⟨.bool true,.bool true,[],rfl,fun _=>rfl,.bool true,cA' l _,fun _=>⟨List.Pairwise.nil,fun _ hm=>(nomatch hm)⟩⟩,h2,h3,h4⟩
end Xn
namespace L2
open PySem PySem.Spec PyProof.Rows
theorem Xo:∀ {vs:List Value} {ns:List Int},IntsAre vs ns->Vals (ns.map V.int) vs
 |_,_,.nil=>.nil
 |_,_,.cons n t h=>.cons ⟨t,rfl⟩ (Xo h)
def Only(H:Hp):Prop:=∀ b,H b=none\/∃ o xs,H b=some (.mS o (.lst xs))
theorem cC'{P:Program}{w:World}{K:PySem.W.Frag}{mg mb:Str->Option Value}{CX:xC}{k:Nat}{fa a:Addr}{fd:FuncData}{x:Str}{sp:Sp}{dS:Shared}{vs:List Value}{ns:List Int}
  (KX:K.In dS.heap) (Xp:dS.heap.Ns mainGlobals mg) (hb:dS.heap.Ns builtinsNs mb) (zS:∀ x:Str,x ≠ "__name__"->mb x=bootBuiltins x) (cD':dS.heap.NoLimit) (hg:dS.gens = #[])
  (ha:dS.heap.get? a=some { cls:=.type "list",data:=.seq vs.toArray }) (hi:IntsAre vs ns) (hl:ns.length<=sizeLine) (hr:i6 k callerA)
  (F:∀ base:Heap,K.In base->base.Ns mainGlobals mg->gv P w K mg base CX k fa fd [x] sp) (cE':∀ (s:Shared) (u:Value),BindsTo s fd ⟨[u],[]⟩ [(x,u)])
  (zD:∀ H:Hp,Only H->eJ K H a (ns.map V.int)->sp [.ref a] H (fun v _=>v=.bl true) fun _ _ _=>False)
  (Tv:∀ H e s',CX [] H dS (fun _ _ _=>False) e s'->False) :
  codeAny (model P w) callerA (.call (.ref fa) ⟨[.ref a],[]⟩) (fun r s'=>r=.ok (.ret (.bool true))/\OldK dS.heap s'.heap/\s'.os=dS.os/\AllBare s'.gens) dS:=by
 have rv:=Xo hi
 have cF':=hi.length
 -- from an abstract heap in which nothing but the script may be tracked
 have core:∀ H:Hp,Only H->eJ K H a (ns.map V.int)->fP P w H dS.heap->(∀ b,H b≠none->b=a)->(H a≠none->K.lookup a=none) ->
   codeAny (model P w) callerA (.call (.ref fa) ⟨[.ref a],[]⟩) (fun r s'=>r=.ok (.ret (.bool true))/\OldK dS.heap s'.heap/\s'.os=dS.os/\AllBare s'.gens) dS:=by
  intro H hO hS bp hA hK
  have Xq:∀ {b:Addr} {o:Obj},dS.heap.get? b=some o->H b=none->(A5 dS.heap H).get? b=some o:=fun e n=>Z3 e n
  have MD:∀ {b:Addr} {o:Obj} {es:Array DictEntry} {ep:Nat},dS.heap.get? b=some o->o.data=.dict es ep->H b=none:=fun {b o es ep} e d=>by
   cases q:H b with
   |none=>rfl
   |some u =>
    have e':b=a:=hA b (by rw[q];simp)
    subst e'
    rw[ha] at e;cases e
    have d':Data.seq vs.toArray _=Data.dict es ep:=d
    cases d'
  have QC:∀ {b:Addr} {m:Str->Option Value},dS.heap.Ns b m->(A5 dS.heap H).Ns b m:=fun {b m} ⟨o,es,ep,e,d,r⟩=>⟨o,es,ep,Xq e (MD e d),d,r⟩
  have Xr:K.In (A5 dS.heap H):=fun b o e=>Xq (KX b o e) (by
   cases q:H b with
   |none=>rfl
   |some u =>
    have e':b=a:=hA b (by rw[q];simp)
    subst e'
    rw[hK (by rw[q];simp)] at e;cases e)
  have hM:Mod K mg (A5 dS.heap H):=⟨Xr,QC Xp,⟨mb,QC hb,zS⟩,let ⟨mc,h1,h2⟩:=cD';⟨mc,QC h1,h2⟩⟩
  have e0:Qn P w K mg (A5 dS.heap H) callerA [] dS H:=⟨rfl,hM,fun b o e=>Z4 e,GO (Z2 _ _),trivial,fun b hb=>absurd (show b∈([]:List Addr) from hb) (by simp),bp,.of_eq hg⟩
  refine codeAny_mono ((F _ Xr (QC Xp)).run callerA [] dS H ⟨[.ref a],[]⟩ [.ref a] [.ref a] _ _ hr e0 (cE' dS (.ref a)) (.cons rfl .nil) (zD H hO hS)) fun r s' h=>?_
  cases r with
  |error e=>exact(Tv H e s' h).elim
  |ok fl =>
   cases fl with
   |next=>exact False.elim h
   |brk=>exact False.elim h
   |cont=>exact False.elim h
   |ret u =>
    obtain⟨v,H',os,bare,un,cG',r',q⟩:=h
    have q':v=.bl true:=q
    subst q'
    obtain rfl:u=Value.bool true:=r'
    refine⟨rfl,OldK.of_keep fun b o e=>?_,os,bare⟩
    cases q:H b with
    |none=>exact un.keep b o e q (by intro z;exact absurd (show b∈([]:List Addr) from z) (by simp)) (by simp)
    |some u =>
     rcases hO b with z|⟨ob,xs,z⟩
     ·rw[q] at z;cases z
     ·have z2:=un.sM b ob _ z
      obtain⟨e1,_⟩:=bp b _ z
      obtain⟨e2,_⟩:=cG' b _ z2
      rw[e] at e1;cases e1
      exact e2
 cases hk:K.lookup a with
 |some o =>
  -- the script is one of the module's own objects
  have e:=KX a o hk
  rw[ha] at e
  cases e
  refine core (fun _=>none) (fun _=>.inl rfl) (.inr ⟨_,vs.toArray,_,hk,rfl,rfl,rfl,by rw[ip,cF'];exact hl,by simpa using rv⟩) (fun b u z=>by have z':(none:Option HO)=some u:=z;cases z') (fun b z=>absurd rfl z) fun z=>absurd rfl z
 |none =>
  refine core (fun b=>if b=a then some (.mS { cls:=.type "list",data:=.seq vs.toArray } (.lst (ns.map V.int))) else none) (fun b=>?_) (.inl (.inr ⟨{ cls:=.type "list",data:=.seq vs.toArray },if_pos rfl⟩)) (fun b u z=>?_) (fun b z=>?_) fun _=>hk
  ·by_cases hb:b=a
   ·exact .inr ⟨_,_,if_pos hb⟩
   ·exact .inl (if_neg hb)
  ·by_cases hb:b=a
   ·have z':=(if_pos hb).symm.trans z
    cases z'
    subst hb
    exact⟨ha,by rw[cE];exact hl,vs,_,rv,ha⟩
   ·have z':=(if_neg hb).symm.trans z
    cases z'
  ·by_cases hb:b=a
   ·exact hb
   ·exact absurd (if_neg hb) z
theorem cH'{l:PySem.W.OpenLaw}{n k:Nat}{q:Program}{loose:List Str}{XP:(Str->Option Value)->Heap->Prop}{YP:World->Heap->Prop}{d:DefRec}{K:Params->PySem.W.Frag}{CX:World->xC}{sp:World->Sp}{x:Str}
  (hn:l.most=some n) (IA:n<=sizeLine) (MR:d.params.defaults=[]) (hr:i6 k callerA)
  (hY:∀ (w:World) (h:Heap),YP w h->(K w.params).In h)
  (F:∀ (w:World) (mg:Str->Option Value) (fa:Addr) (h:Heap),(K w.params).In h->h.Ns mainGlobals mg->mg d.name=some (.ref fa) ->
   ∃ fd:FuncData,(∀ (s:Shared) (u:Value),BindsTo s fd ⟨[u],[]⟩ [(x,u)]) /\
    ∀ base:Heap,(K w.params).In base->base.Ns mainGlobals mg->gv l.prog w (K w.params) mg base (CX w) k fa fd [x] (sp w))
  (zD:∀ (w:World) (H:Hp) (a:Addr) (ns:List Int),ns.length<=n->Only H->eJ (K w.params) H a (ns.map V.int)->sp w [.ref a] H (fun v _=>v=.bl true) fun _ _ _=>False)
  (Tv:∀ (w:World) (H:Hp) (s:Shared) (e:Value) (s':Shared),CX w [] H s (fun _ _ _=>False) e s'->False) :
  PySem.W.WalkO q loose XP YP l.row.toRowW d [] (fun f vs=>PySem.call f vs):=by
 refine Xn.cB' hn MR fun w eu dS mg mb fa o pm cd doc a vs ns G Y ho hd oS MS Tt hints hlen hg=>?_
 have KX:=hY w _ Y
 obtain⟨fd,hb,hF⟩:=F w mg fa _ KX G.T.g MS
 exact cC' KX G.T.g G.T.b G.T.builtins G.T.nolimit hg Tt hints (iS hlen IA) hr hF hb (fun H hO hS=>zD w H a ns hlen hO hS) fun H e s'=>Tv w H dS e s'
def i7(s:Stmt):Arguments:=match s with
 |.FunctionDef _ a _ _ _ _ _ _ _ _=>a
 |_=>{ posonlyargs:=[],args:=[],vararg:=none,kwonlyargs:=[],kw_defaults:=[],kwarg:=none,defaults:=[] }
def gS(s:Stmt):List Stmt:=match s with
 |.FunctionDef _ _ b _ _ _ _ _ _ _=>b
 |_=>[]
def b5(s:Stmt):Scope:=match s with
 |.FunctionDef _ _ _ _ _ _ sc _ _ _=>sc
 |_=>{ kind:=.function,names:=[],isGenerator:=false,isCoroutine:=false }
abbrev i9:xC:=fun _ _ _ _ _ _=>False
abbrev E0:XK:=fun _ _ _=>False
theorem cI'{X:Cx}:Passes i9 X E0:=fun _ _ _ _ _ _ _ h=>h.elim
structure gy(K:PySem.W.Frag)(x qual:Str)(st:Stmt)(f:Addr)(fd:FuncData):Prop where
 ex:∃ (oc:Value) (od:Option Addr) (kV doc pm:Value) (an:Option Addr) (cw ct:Value) (A9:Array (Option Value)),
  fd=PySem.W.fnOf x qual (i7 st) (gS st) (b5 st) .none kV doc pm an cw ct/\K.lookup f=some ⟨oc,od,.func fd,A9⟩/\PySem.W.codeIn K cw qual=true
 kp:PySem.W.keepIn K (.ref f)=true
section
variable {P:Program}{w:World}{K:PySem.W.Frag}{mg:Str->Option Value}{base:Heap}
theorem gy.ok{x qual:Str}{st:Stmt}{f:Addr}{fd:FuncData}{N ps:List Str}{k:Nat}{sp:Sp}(F:gy K x qual st f fd)(S:ku N ps (b5 st))(len:∀ vs H Q E,sp vs H Q E->vs.length=ps.length)
  (Bi:∀ (cw:Value) (A:Around) (outer:List Env) (s:Shared) (H:Hp) (vs:List V) (Q:VK) (E:XK),i6 k (A.deeper (envOfC qual (b5 st) s.heap.objs.size f cw))->sp vs H Q E ->
   ∃ t,nh (rX i9 P w K mg base N qual (b5 st) f cw A outer s H E).L9 (gS st) t/\t { nx:=fun _ H'=>Q .non H',rt:=Q } (start N vs) H):gv P w K mg base i9 (k+1) f fd ps sp:=by
 obtain⟨oc,od,kV,doc,pm,an,cw,ct,A9,rfl,lk,oS⟩:=F.ex
 refine W_ lk oS S len fun A outer s H vs Q E hr zD=>?_
 obtain⟨t,h,q⟩:=Bi cw A outer s H vs Q E hr zD
 exact⟨t,h.L9,q⟩
theorem gy.binds{x qual:Str}{st:Stmt}{f:Addr}{fd:FuncData}{ps:List Str}(F:gy K x qual st f fd)
  (h:∀ (kV doc pm:Value) (an:Option Addr) (cw ct:Value) (us:List Value),us.length=ps.length->bindArgs (PySem.W.fnOf x qual (i7 st) (gS st) (b5 st) .none kV doc pm an cw ct) ⟨us,[]⟩=pure (ps.zip us)):Binds K fd ps []:=by
 obtain⟨oc,od,kV,doc,pm,an,cw,ct,A9,rfl,lk,oS⟩:=F.ex
 exact .all (h kV doc pm an cw ct)
theorem nk{x qual:Str}{st:Stmt}{f:Addr}{oc:Value}{od an:Option Addr}{A9:Array (Option Value)}{kV doc pm cw ct:Value}(l:K.lookup f=some ⟨oc,od,.func (PySem.W.fnOf x qual (i7 st) (gS st) (b5 st) .none kV doc pm an cw ct),A9⟩)
  (c:PySem.W.codeIn K cw qual=true) (k:PySem.W.keepIn K (.ref f)=true):gy K x qual st f (PySem.W.fnOf x qual (i7 st) (gS st) (b5 st) .none kV doc pm an cw ct):=⟨⟨oc,od,kV,doc,pm,an,cw,ct,A9,rfl,l,c⟩,k⟩
end
section
variable {X:Cx}
theorem pv (i:Nat) {x:Str} {pos:Pos} (hN:X.N[i]? = some x:=by rfl) (hv:L6 X.env.scope x:=by first|exact Or.inl rfl|exact Or.inr (Or.inl rfl)|exact Or.inr (Or.inr rfl)) (hd:(x == ("__debug__" : Str))=false:=by decide)
  (oS:(x == ("__classdict__" : Str))=false:=by decide):PE X (.Name x pos) (DE i):=SF hN hv hd oS
end
def aS(H H':Hp):Prop:=∀ b o,H b=some o->H' b=some o
theorem aS.refl(H:Hp):aS H H:=fun _ _ h=>h
theorem aS.trans{H H1 H2:Hp}(a:aS H H1)(b:aS H1 H2):aS H H2:=fun c o h=>b c o (a c o h)
theorem aS.free{H H':Hp}(e:aS H H'){l:Addr}(h:H' l=Option.none):H l=Option.none:=by
 cases q:H l with
 |none=>rfl
 |some o =>
  rw[e l o q] at h
  cases h
theorem aS.seq{K:PySem.W.Frag}{H H':Hp}{a:Addr}{xs:List V}(e:aS H H')(h:eJ K H a xs):eJ K H' a xs:=by
 rcases h with(h|⟨o,h⟩)|h
 ·exact .inl (.inl (e _ _ h))
 ·exact .inl (.inr ⟨o,e _ _ h⟩)
 ·exact .inr h
end L2
set_option maxHeartbeats 4000000
namespace L2
open PySem PySem.Spec PyProof.Rows
def sv(env:Env):List (Str × NameKind)->List (Str × Addr)->List (Str × Addr)
 |[],cs=>cs
 | (n,k) :: r,cs=>sv env r (if k == NameKind.free then (n,(env.cells.lookup n).getD 0) :: cs else cs)
theorem iw(env:Env):∀ (names:List (Str × NameKind)) (cs:List (Str × Addr)),(∀ y∈names,y.2=.free->∃ c,env.cells.lookup y.1=some c) ->
  (forIn names cs fun x r=>match x with
   | (name,kind)=>if (kind == NameKind.free)=true then do let a <- cellOf env name;pure (ForInStep.yield ((name,a) :: r)) else pure (ForInStep.yield r):Sem (List (Str × Addr)))=pure (sv env names cs)
 |[],cs,_=>rfl
 | (n,k) :: r,cs,h=>by
  rw[List.forIn_cons]
  have ih:=iw env r
  by_cases hk:k=.free
  ·subst hk
   obtain⟨c,e⟩:=h (n,.free) cq rfl
   have e:env.cells.lookup n=some c:=e
   have e2:cellOf env n=pure c:=by unfold cellOf;rw[e]
   have e3:sv env ((n,.free) :: r) cs=sv env r ((n,c) :: cs):=by
    show sv env r (if (NameKind.free == NameKind.free)=true then (n,(env.cells.lookup n).getD 0) :: cs else cs)=_
    rw[e];rfl
   rw[e3,<- ih ((n,c) :: cs) fun y hy=>h y (ck _ hy)]
   simp only[beq_self_eq_true,if_true,e2]
   rfl
  ·have hb:(k == NameKind.free)=false:=by simpa using hk
   have e3:sv env ((n,k) :: r) cs=sv env r cs:=by
    show sv env r (if (k == NameKind.free)=true then _ else cs)=_
    rw[hb];rfl
   rw[e3,<- ih cs fun y hy=>h y (ck _ hy)]
   simp only[hb,gu,if_false]
   rfl
theorem n_(h:∀ y∈scope.names,y.2=.free->∃ c,env.cells.lookup y.1=some c):closureFor scope env=pure (sv env scope.names []):=by
 have:=iw env scope.names [] h
 unfold closureFor
 rw[<- bind_pure (forIn scope.names [] _)] at this
 exact this
theorem oU:∀ {names:List (Str × NameKind)} {cs:List (Str × Addr)},(∀ y∈names,y.2=.free->∃ c,env.cells.lookup y.1=some c)->(∀ y d,cs.lookup y=some d->env.cells.lookup y=some d) ->
  (sv env names cs).lookup x=some c->env.cells.lookup x=some c
 |[],cs,_,h,e=>h x c e
 | (n,k) :: r,cs,hf,h,e=>by
  refine oU (names:=r) (fun y hy=>hf y (ck _ hy)) ?_ e
  intro y d hd
  by_cases hk:k=.free
  ·subst hk
   obtain⟨c',e'⟩:=hf (n,.free) cq rfl
   have e':env.cells.lookup n=some c':=e'
   simp only[beq_self_eq_true,if_true,e',Option.getD_some,R9] at hd
   cases hb:y == n with
   |true=>rw[hb] at hd;have:y=n:=eq_of_beq hb;subst this;rw[e'];exact hd
   |false=>rw[hb] at hd;exact h y d hd
  ·have hb:(k == NameKind.free)=false:=by simpa using hk
   simp only[hb,gu,if_false] at hd
   exact h y d hd
theorem lH:∀ {names:List (Str × NameKind)} {cs:List (Str × Addr)},((x,NameKind.free)∈names\/∃ c,cs.lookup x=some c)->∃ c,(sv env names cs).lookup x=some c
 |[],cs,h=>by
  rcases h with h|h
  ·exact nomatch h
  ·exact h
 | (n,k) :: r,cs,h=>by
  refine lH (names:=r) ?_
  rcases h with h|⟨c,h⟩
  ·rcases dc.mp h with e|h
   ·cases e
    refine .inr ⟨(env.cells.lookup x).getD 0,?_⟩
    simp only[beq_self_eq_true,if_true,R9]
   ·exact .inl h
  ·refine .inr ?_
   by_cases hk:(k == NameKind.free)=true
   ·simp only[hk,if_true,R9]
    cases hb:x == n with
    |true=>exact⟨_,rfl⟩
    |false=>exact⟨c,h⟩
   ·simp only[hk,if_false]
    exact⟨c,h⟩
def bu(X:Cx)(scope:Scope)(C:Addr)(N:List Str)(fp:List Addr)(gd:Shared)(hU:Hp):Cx :=
 { X with N:=N,eu:=gd,xv:=hU,env:=compEnvC scope (sv X.env scope.names []) C X.env,outer:=X.stack,stack:=X.stack,ex:=fp,fn:=fun _=>false,pn:=[],xe:=fun _ _=>False }
def z5(X:Cx)(ifs:List Expr)(t:TT):Prop :=
 ∀ (pins:List (Addr × Obj)) (s:Shared) (σ:St) (H:Hp) (Q:Bool->Hp->Prop),Inv X pins σ H s->t σ H Q ->
  wpAny (model X.prog X.w) X.A (forIn ifs true fun c r=>if r=true then do let ok <- isTrue c X.env (eval c X.env);pure (ForInStep.yield ok) else pure (ForInStep.yield r)) (TP X pins σ Q) X.xe s
def cJ':TT:=fun _ H Q=>Q true H
theorem Ek{X:Cx}:z5 X [] cJ':=fun _ _ _ H _ I h=>wpAny_tests_nil ⟨H,I,h⟩
theorem DY{X:Cx}(h:PT X c t):z5 X [c] t:=fun pins s σ H Q I hw=>wpAny_tests_one (h pins s σ H Q I hw)
theorem gw{R:Result->Shared->Prop}(I:Nat->Shared->Prop)(E:Value->Shared->Prop)
  (turn:∀ n s,I n s->wpAny (model prog w) A (pyNext it) (fun r dS=>match r with
   |none=>R (.ok .next) dS
   |some v=>wpAny (model prog w) A (letOwnedTupleGo target it v) (fun _ eu=>wpAny (model prog w) A (assign target env v) (fun _ EI =>
     wpAny (model prog w) A (forIn ifs true fun c r=>if r=true then do let ok <- isTrue c env (eval c env);pure (ForInStep.yield ok) else pure (ForInStep.yield r)) (fun ok gd =>
      if ok=true then wpAny (model prog w) A (eval elt env) (fun x Xs =>
       wpAny (model prog w) A (call (.builtin "list.append") [acc,x]) (fun _ Xt=>∃ m,m<n/\I m Xt) E Xs) E gd
      else ∃ m,m<n/\I m gd) E EI) E eu) E dS) E s)
  (hE:∀ e s',E e s'->notedBy (model prog w) A env (fun e s'=>R (.error e) s') e s')
  (n:Nat) (h:I n s) :
  codeAny (model prog w) A (.compLoop (.ListComp elt [⟨target,iter,ifs,0⟩] scope pos) 0 it acc env) R s:=by
 refine codeAny_loop rfl I (fun n s hI=>?_) n h
 show wpAny _ A ((compTurn (.ListComp elt [⟨target,iter,ifs,0⟩] scope pos) 0 it acc env).onRaise (fun x=>do noteFrame x env;theTreesLotGoes x)) _ _ s
 refine wpAny_noted ?_
 rw[compTurn_list]
 refine qf (Q:=_) (E:=E) ?_ (fun _ _ q=>q) hE
 refine ai (wpAny_standAt (ai (qf (turn n s hI) (fun r dS MV=>?_) fun _ _ h'=>h')))
 cases r with
 |none=>exact aC MV
 |some v =>
  refine ai (qf MV (fun _ eu h₀=>?_) fun _ _ h'=>h')
  refine ai (qf h₀ (fun _ EI cK'=>ai (qf cK' (fun ok gd Xu=>?_) fun _ _ h'=>h')) fun _ _ h'=>h')
  cases ok with
  |false=>exact aC ⟨rfl,Xu⟩
  |true =>
   exact ai (ai (qf Xu (fun x Xs cL'=>ai (qf cL' (fun _ Xt cM'=>aC (aC ⟨rfl,cM'⟩)) fun _ _ h'=>h')) fun _ _ h'=>h'))
def nH(tn:Nat)(ix:List Nat)(σ:St):St:=List.replicate tn none++ix.map fun j=>(σ[j]?).join
def yM(wi:TI)(g:TG)(tc:TT)(te:TE)(tn:Nat)(ix:List Nat):TE:=fun σ H Q=>wi σ H fun J H1=>∀ D,H1 D=none ->
 ∃ W:Nat->Nat->St->Hp->Prop,(∃ m,W 0 m (nH tn ix σ) (upd H1 D (.lst [])))/\∀ i m τ H,W i m τ H ->
  (J.stop i H/\Q (.ref D) H)\/(J.go i H/\∃ (N1:St->V->Hp->Prop) (N2:St->Hp->Prop),
   (∀ lS v H4,N1 lS v H4->∃ ys m',H4 D=some (.lst ys)/\ys.length<sizeLine/\m'<m/\W (i+1) m' lS (upd H4 D (.lst (ys++[v])))) /\
   (∀ lS H3,N2 lS H3->∃ m',m'<m/\W (i+1) m' lS H3) /\
   ∀ x H',J.nL i H x H'->g x τ H' fun lS H2=>tc lS H2 fun b H3=>if b=true then te lS H3 (N1 lS) else N2 lS H3)
section
variable {X:Cx}{tg iter elt:Expr}{ifs:List Expr}{scope:Scope}{pos:Pos}{wi:TI}{g:TG}{tc:TT}{te:TE}{tn cn:List Str}{ix:List Nat}
structure bL(X:Cx)(scope:Scope)(tn cn:List Str)(ix:List Nat):Prop where
 kind:scope.kind=.function
 cN':∀ y∈scope.names,y.2≠.cell
 free:∀ y∈scope.names,y.2=.free->X.env.scope.names.lookup y.1=some .cell\/X.env.scope.names.lookup y.1=some .free
 names:∀ y∈scope.names,y.2=.local->scope.names.lookup y.1=some .local
 len:ix.length=cn.length
 cap:∀ (k j:Nat),ix[k]? = some j->∃ y,cn[k]? = some y/\X.N[j]? = some y/\(X.env.scope.names.lookup y=some .cell\/X.env.scope.names.lookup y=some .free)/\(y,NameKind.free)∈scope.names /\
  ((relabel scope X.env).names.lookup y=some .cell\/(relabel scope X.env).names.lookup y=some .free)
 all:∀ x,(relabel scope X.env).names.lookup x=some .cell\/(relabel scope X.env).names.lookup x=some .free->(x,NameKind.free)∈scope.names
theorem wV(O:bL X scope tn cn ix)(I:Inv X pins σ H s)(hf:∀ b∈fp,zv X pins H b)(hfs:∀ b∈fp,b<s.heap.objs.size)(hC:s.heap.objs.size<=C) :
  (bu X scope C (tn++cn) fp s H).Ok:=by
 have ve:∀ y∈scope.names,y.2=.free->∃ c,X.env.cells.lookup y.1=some c:=fun y hy hk=>I.ok.has y.1 (O.free y hy hk)
 have sub:∀ x c,(sv X.env scope.names []).lookup x=some c->X.env.cells.lookup x=some c:=fun x c e=>oU ve (fun y d h=>by simp at h) e
 refine⟨I.ok.mod,O.kind,I.ok.glob,I.ok.blt,hC,fun x y c h1 h2=>I.ok.inj x y c (sub x c h1) (sub y c h2),fun x hx=>lH (.inl (O.all x hx)),(fun x c h _=>nomatch h),I.ok.hd,I.ok.frames,.inl rfl,fun b hb=>⟨?_,fun x c e=>?_⟩,
  I.bs,iS I.ok.ui I.sz,fun b o e hb=>?_,fun b hb=>?_,I.stack,I.Ss⟩
 ·exact eT (ly (hfs b hb) hC)
 ·exact(hf b hb).2.2.2.2.1 x c (sub x c e)
 ·rcases (hf b hb).2.2.2.1 with z|z
  ·exact I.ok.zk b o e z
  ·exact absurd (ly (dv e) (iS I.ok.ui z)) (sF _)
 ·intro hz
  rcases dc.mp (I.Sr b hz) with e|e
  ·exact(hf b hb).2.1 e
  ·exact(hf b hb).2.2.1 e
theorem uq{P:Value->Shared->Prop}(hc:X.calm=true)(hi:PI X tg iter wi)(O:bL X scope tn cn ix)
  (hg:∀ C fp gd hU,PG (bu X scope C (tn++cn) fp gd hU) tg g) (pe:∀ C fp gd hU,z5 (bu X scope C (tn++cn) fp gd hU) ifs tc) (he:∀ C fp gd hU,PE (bu X scope C (tn++cn) fp gd hU) elt te)
  (hs:∀ x,foldedSetIterable iter X.env x=pure x) (I:Inv X pins σ H s) (h:yM wi g tc te tn.length ix σ H Q)
  (fin:∀ (C D:Addr) (m:Str->Option Value) (H5:Hp) (s6:Shared) (r:Flow),Inv X pins σ H5 s6->s6.heap.Ns C m->H5 C=none->zv X pins H5 C->Q (.ref D) H5->compPost (model X.prog X.w) X.A X.xe use P (.ref D) C (.ok r) s6) :
  wpAny (model X.prog X.w) X.A (comprehension (.ListComp elt [⟨tg,iter,ifs,0⟩] scope pos) scope X.env hQ' (newList []) false (eval iter X.env) use) P X.xe s:=by
 have ve:∀ y∈scope.names,y.2=.free->∃ c,X.env.cells.lookup y.1=some c:=fun y hy hk=>I.ok.has y.1 (O.free y hy hk)
 have sub:∀ x c,(sv X.env scope.names []).lookup x=some c->X.env.cells.lookup x=some c:=fun x c e=>oU ve (fun y d h=>by simp at h) e
 refine wpAny_comprehension_free (use:=use) rfl hs (n_ ve) O.kind O.names (cv (hi pins s σ H _ I h) fun v s1 h1=>cv h1 fun SW s2 h2=>?_)
 obtain⟨it,fp,QD,J,H2,e,I2,T,wq,f2,h2⟩:=h2
 subst e
 obtain⟨W,⟨m0,w0⟩,turn⟩:=h2 s2.heap.objs.size (I2.bp.fresh (bT _))
 refine wpAny_newObj_type ?_
 have I3:Inv X pins σ (upd H2 s2.heap.objs.size (.lst [])) { s2 with heap:=s2.heap.push { cls:=.type "list",data:=.seq ([]:List Value).toArray } }:=I2.Tj (its:=[]) (t':=s2.toks) .nil (eI _)
 generalize hD:s2.heap.objs.size=D at *
 generalize Xv:({ s2 with heap:=s2.heap.push { cls:=.type "list",data:=.seq ([]:List Value).toArray } }:Shared)=s3 at *
 have k23:∀ b o,s2.heap.get? b=some o->s3.heap.get? b=some o:=fun b o e=>by rw[<- Xv];exact eS _ e
 have sz3:s3.heap.objs.size=D+1:=by rw[<- Xv,<- hD];exact Heap.size_push ..
 have f3:∀ b∈fp,zv X pins (upd H2 D (.lst [])) b:=fun b hb=>by
  obtain⟨f0,fr⟩:=f2 b hb
  obtain⟨o,ho,_⟩:=T.obj _ _ wq b hb
  refine⟨?_,fr⟩
  rw[fE (eT (by rw[<- hD];exact dv ho))]
  exact f0
 have wt:QD 0 s3.heap:=T.keep _ _ _ wq fun b hb o e=>k23 b o e
 have lt3:∀ b∈fp,b<s3.heap.objs.size:=fun b hb=>by
  obtain⟨o,ho,_⟩:=T.obj _ _ wt b hb
  exact dv ho
 refine wpAny_newFunctionEnv O.cN' (by intro y hy;simp at hy) (fun MV cR' cS'=>?_) O.kind
 have EK:∀ b o,s3.heap.get? b=some o->MV.get? b=some o:=fun b o e=>cS'.extBut b o (eT (dv e)) (eS _ e)
 -- the block's context
 have QF:=wV (C:=s3.heap.objs.size) O I3 f3 lt3 (bT _)
 have I4:Inv (bu X scope s3.heap.objs.size (tn++cn) fp s3 (upd H2 D (.lst []))) [] (nH tn.length ix σ) (upd H2 D (.lst [])) { s3 with heap:=MV,toks:=s3.toks+([]:List (Str × Value)).length }:=by
  refine⟨QF,rfl,I3.bare,Un.kept EK,⟨_,cR',fun i x v e1 e2 e3=>?_⟩,fun x c e=>?_,I3.bp.fresh (bT _),fun x c e=>I3.oj x c (sub x c e),fun p hp=>absurd hp (by simp[bu]),I3.bp.kept EK,?_⟩
  ·have kz:tn.length<=i:=by
    by_cases q:i<tn.length
    ·unfold nH at e2
     rw[Ee (by simpa using q),RZ] at e2
     simp[q] at e2
    ·lia
   unfold nH at e2
   rw[yT (by simpa using kz),R1,kQ] at e2
   have e1:(tn++cn)[i]? = some x:=e1
   rw[yT kz] at e1
   cases q:ix[i-tn.length]? with
   |none=>rw[q] at e2;cases e2
   |some j =>
    rw[q] at e2
    obtain⟨y,c1,c2,c3,c4,c5⟩:=O.cap _ _ q
    rw[c1] at e1;cases e1
    have e2:σ[j]?.join=some v:=Option.some.inj e2
    have ej:σ[j]? = some (some v):=by
     cases z:σ[j]? with
     |none=>rw[z] at e2;cases e2
     |some o=>rw[z] at e2;exact congrArg some e2
    obtain⟨m,hn,hl⟩:=I3.loc
    obtain⟨u,r,l⟩:=hl j x v c2 ej (c3.elim (fun z=>.inr (.inl z)) fun z=>.inr (.inr z))
    refine⟨u,r,.inr ⟨c5,?_⟩⟩
    rcases l with⟨hk,_⟩|⟨hk,c,HK,hce⟩
    ·have hk:X.env.scope.names.lookup x=some .local:=hk
     rcases c3 with z|z
     ·rw[z] at hk;cases hk
     ·rw[z] at hk;cases hk
    ·obtain⟨c',EF⟩:=lH (env:=X.env) (cs:=[]) (Or.inl c4)
     have:=sub x c' EF
     rw[HK] at this;cases this
     obtain⟨o,ho,hd⟩:=hce
     exact⟨c,EF,o,EK _ _ ho,hd⟩
  ·obtain⟨v,o,ho,hd⟩:=I3.cell x c (sub x c e)
   exact⟨v,o,EK _ _ ho,hd⟩
  ·show(nH tn.length ix σ).length=(tn++cn).length
   unfold nH
   simp[O.len]
 -- from the block back to the body
 have back:∀ {τ:St} {H':Hp} {s':Shared},Inv (bu X scope s3.heap.objs.size (tn++cn) fp s3 (upd H2 D (.lst []))) [] τ H' s'->Inv X pins σ H' s':=fun {τ H' s'} I' =>
  Inv.Z_ (ch:=fp) I3 I'.os I'.base I'.bp I'.bare fun b hb=>by
   obtain⟨_,f1,_,f3',f4,f5⟩:=f3 b hb
   exact⟨f3',f1,f4,f5⟩
 have Tw:∀ {H':Hp},(∀ b∈fp,H' b=none)->∀ b∈fp,zv (bu X scope s3.heap.objs.size (tn++cn) fp s3 (upd H2 D (.lst []))) [] H' b:=fun hn b hb =>
  ⟨hn b hb,(QF.A7 b hb).1,QF.zo b hb,.inl hb,(QF.A7 b hb).2,fun p hp=>absurd hp (by simp[bu])⟩
 have loop:∀ s4:Shared,Inv (bu X scope s3.heap.objs.size (tn++cn) fp s3 (upd H2 D (.lst []))) [] (nH tn.length ix σ) (upd H2 D (.lst [])) s4->QD 0 s4.heap ->
   codeAny (model X.prog X.w) X.A (.compLoop (.ListComp elt [⟨tg,iter,ifs,0⟩] scope pos) 0 (.ref it) (.ref D) (compEnvC scope (sv X.env scope.names []) s3.heap.objs.size X.env))
    (compPost (model X.prog X.w) X.A X.xe use P (.ref D) s3.heap.objs.size) s4:=by
  intro s4 I4 vi
  refine gw (fun n s'=>∃ i τ H',Inv (bu X scope s3.heap.objs.size (tn++cn) fp s3 (upd H2 D (.lst []))) [] τ H' s'/\QD i s'.heap/\(∀ b∈fp,H' b=none)/\W i n τ H') (fun _ _=>False) ?_ (fun _ _ z=>z.elim) m0
   ⟨0,_,_,I4,vi,fun b hb=>(f3 b hb).1,w0⟩
  rintro n s5 ⟨i,τ,H5,I5,EG,Qi,w5⟩
  rcases turn i n τ H5 w5 with⟨stop,qn⟩|⟨go,N1,N2,hN1,nS,step⟩
  ·refine cv (T.done (bu X scope s3.heap.objs.size (tn++cn) fp s3 (upd H2 D (.lst []))) rfl rfl rfl hc i [] s5 τ H5 (fun _ _=>False) I5 (Tw Qi) EG stop) fun r s6 dk=>?_
   obtain⟨hr,I6⟩:=dk
   subst hr
   have J6:=back I6
   obtain⟨m,hn,_⟩:=I6.loc
   exact fin _ D m H5 s6 _ J6 hn I6.free (I3.Qe (b:=s3.heap.objs.size) (H':=H5) (bT _) I6.free) qn
  ·refine cv (T.item (bu X scope s3.heap.objs.size (tn++cn) fp s3 (upd H2 D (.lst []))) rfl rfl rfl hc i [] s5 τ H5 (fun _ _=>False) I5 (Tw Qi) EG go) fun r s6 dk=>?_
   obtain⟨u,hr,h6⟩:=dk
   subst hr
   refine cv h6 fun _ s7 dk=>?_
   obtain⟨x,H7,I7,r7,y7,Tx,fr7⟩:=dk
   have I7':=I7.pinned (Tw fr7) (T.obj _ _ Tx)
   refine cv (hg _ _ _ _ _ s7 τ H7 x u _ I7' r7 (step x H7 y7)) fun _ s8 dk=>?_
   obtain⟨IB,H8,I8,q8⟩:=dk
   refine cv (pe _ _ _ _ _ s8 IB H8 _ I8 q8) fun ok s9 dk=>?_
   obtain⟨H9,I9,q9⟩:=dk
   have again:∀ {s':Shared} {H':Hp} {m':Nat},Inv (bu X scope s3.heap.objs.size (tn++cn) fp s3 (upd H2 D (.lst []))) ([]++Mk fp s7.heap) IB H' s'->m'<n->W (i+1) m' IB H' ->
     ∃ m,m<n/\∃ i τ H',Inv (bu X scope s3.heap.objs.size (tn++cn) fp s3 (upd H2 D (.lst []))) [] τ H' s'/\QD i s'.heap/\(∀ b∈fp,H' b=none)/\W i m τ H':=fun {s' H' m'} J hm w'=>by
    refine⟨m',hm,i+1,IB,H',J.Qh,T.keep _ _ _ Tx fun b hb o e=>(J.pin (b,o) (fq _ (fq _ (Qg hb e)))).1,fun b hb=>?_,w'⟩
    obtain⟨o,e,d⟩:=T.obj _ _ Tx b hb
    exact(J.pin (b,o) (fq _ (fq _ (Qg hb e)))).2.1
   cases ok with
   |false =>
    rw[if_neg g9] at q9 ⊢
    obtain⟨m',hm,w'⟩:=nS _ _ q9
    exact again I9 hm w'
   |true =>
    rw[if_pos rfl] at q9 ⊢
    refine cv (he _ _ _ _ _ s9 IB H9 _ I9 q9) fun x9 Xw cK=>L2.hG cK fun v10 Xx I10 Tz q10=>?_
    obtain⟨ys,m',hH,hz,hm,w'⟩:=hN1 _ _ _ q10
    refine cv (Tn _ Xw IB Xx (.ref D) [v10] (.ref D) [x9] (fun _ H'=>H'=upd Xx D (.lst (ys++[v10]))) I10 rfl (.cons Tz .nil) ⟨D,ys,v10,rfl,rfl,hH,hz,rfl⟩) fun _ s11 cK=>L2.hG cK fun _ H11 I11 _ q11=>?_
    subst q11
    exact again I11 hm w'
 exact codeAny_compStart_list (loop _ I4 (T.keep _ _ _ wt fun b hb o e=>EK b o e)) (T.self _ 0 _ _ _ (T.keep _ _ _ wt fun b hb o e=>EK b o e) (loop _ I4 (T.keep _ _ _ wt fun b hb o e=>EK b o e)))
theorem Fe(hc:X.calm=true)(hi:PI X tg iter wi)(O:bL X scope tn cn ix)
  (hg:∀ C fp gd hU,PG (bu X scope C (tn++cn) fp gd hU) tg g) (pe:∀ C fp gd hU,z5 (bu X scope C (tn++cn) fp gd hU) ifs tc) (he:∀ C fp gd hU,PE (bu X scope C (tn++cn) fp gd hU) elt te)
  (hs:∀ x,foldedSetIterable iter X.env x=pure x:=by intro _;rfl):PE X (.ListComp elt [⟨tg,iter,ifs,0⟩] scope pos) (yM wi g tc te tn.length ix):=by
 intro pins s σ H Q I h
 rw[eval_ListComp]
 refine uq (use:=none) (P:=EP X pins σ Q) hc hi O hg pe he hs I h fun C D m H5 s6 r J6 hn hf ⟨_,g1,_,g3,g4,g5⟩ qn=>⟨m,hn,fun h' TB=>⟨.ref D,H5,?_,rfl,qn⟩⟩
 exact J6.turned (t':=s6.toks) (fun b o hb e=>TB.extBut b o hb e) hf g1 g3 g4 g5
theorem vo(hN:X.N.Nodup)(sP:X.N[i]? = some x)(hx:Loc X.env.scope x)(hc:X.calm=true)(hi:PI X tg iter wi)(O:bL X scope tn cn ix)
  (hg:∀ C fp gd hU,PG (bu X scope C (tn++cn) fp gd hU) tg g) (pe:∀ C fp gd hU,z5 (bu X scope C (tn++cn) fp gd hU) ifs tc) (he:∀ C fp gd hU,PE (bu X scope C (tn++cn) fp gd hU) elt te)
  (MX:swapsWith (.ListComp elt [⟨tg,iter,ifs,0⟩] scope pos) (some (.Name x pos')) TC.line X.env=pure true)
  (hs:∀ x,foldedSetIterable iter X.env x=pure x:=by intro _;rfl) (hf:X.fn x=true\/X.env.scope.names.lookup x=some .local:=by first|exact .inl rfl|exact .inr rfl|assumption) :
  PS X (.Assign [.Name x pos'] (.ListComp elt [⟨tg,iter,ifs,0⟩] scope pos) TC) (SQ (yM wi g tc te tn.length ix) (SJ i)):=by
 intro pins s σ H D0 I h
 rw[exec_Assign_Name_used _ _ _ _ MX]
 refine ai (wpAny_standAt (ai ?_))
 show wpAny _ _ (do let _ <- comprehension (.ListComp elt [⟨tg,iter,ifs,0⟩] scope pos) scope X.env _ (newList []) false (eval iter X.env) (some (assign (.Name x pos') X.env))) _ _ s
 refine ai (qf (uq (use:=some (assign (.Name x pos') X.env)) (P:=fun _ s'=>SP X pins D0 .next s') hc hi O hg pe he hs I h fun C D m H5 s6 r J6 hn DU ⟨_,g1,_,g3,g4,g5⟩ qn=>?_) (fun _ s' hq=>aC (aC hq)) fun _ _ e=>e)
 refine(show wpAny _ _ (assign (.Name x pos') X.env (.ref D)) _ _ s6 from wpAny_assign_Name (Sx J6 hN sP hx (v:=.ref D) rfl (fun s7 I7 dk=>?_) hf))
 obtain⟨a,sb,ha⟩:=dk
 have hCa:C≠a:=by
  rcases ha with rfl|ha
  ·exact g1
  ·exact Ne.symm (g4 _ a ha)
 refine⟨m,hn.sameBut sb hCa,fun h' TB=>⟨_,H5,?_,qn⟩⟩
 exact I7.turned (t':=s7.toks) (fun b o hb e=>TB.extBut b o hb e) DU g1 g3 g4 g5
end
def IC (a b:String):Bool:=a == b || (a == "bool" && b == "int")
def TF (b:String):Bool:=["str", "int", "bool", "list", "tuple", "dict"].contains b
theorem jj (K:PySem.W.Frag) (a b:String) (ha:a∈["NoneType", "bool", "int", "str", "list", "tuple", "dict"]) (hb:b∈["str", "int", "bool", "list", "tuple", "dict"]):PySem.W.kitOne K (.type a) (.type b)=some (IC a b):=by
 simp only[dc,CY,or_false] at ha hb
 rcases ha with rfl|rfl|rfl|rfl|rfl|rfl|rfl<;>rcases hb with rfl|rfl|rfl|rfl|rfl|rfl<;>kernel_rfl
section
variable {X:Cx}
theorem cS.imp(h:cS X f r)(hi:∀ x y H Q,r' x y H Q->r x y H Q):cS X f r' :=
 fun pins s σ H x y v u Q I rx ry q=>h pins s σ H x y v u Q I rx ry (hi x y H Q q)
def J8(K:PySem.W.Frag):R2:=fun x y H Q=>∃ l b xs zs,x=.ref l/\y=.ref b/\eJ K H l xs/\eJ K H b zs/\xs.length+zs.length<=sizeLine/\∀ p,H p=none->Q (.ref p) (upd H p (.lst (xs++zs)))
theorem Fp:cS X (binaryOp .Add) (J8 X.K):=by
 intro pins s σ H x y v u Q I rx ry h
 obtain⟨l,b,xs,zs,rfl,rfl,hH,hB,hz,q⟩:=h
 cases rx
 cases ry
 obtain⟨its,r,pl,z⟩:=I.list hH
 obtain⟨Bz,r2,pl2,z2⟩:=I.list hB
 have hl:=r.length
 have uS:=r2.length
 obtain⟨⟨cls,dd,data,sl⟩,ho,hc,n,hd⟩:=id pl.isList
 obtain⟨⟨Ta,sf,data2,sj⟩,qB,xD,n2,hd2⟩:=id pl2.isList
 simp only at hc hd xD hd2
 subst hc hd xD hd2
 have ea:its.toArray++Bz.toArray=(its++Bz).toArray:=by simp
 refine concat_meets ⟨_,ho,rfl⟩ ⟨_,qB,rfl⟩ noFill_list_add seq_list_add PySem.F.slot_list_add PySem.F.entry_list_add (PySem.F.args_list_add_2 _ _) (list_addW l b its.toArray Bz.toArray n n2 dd sf sl sj (by simp only[ip];lia)) ⟨ho,qB,?_⟩
 rw[ea]
 exact⟨.ref _,_,I.Tj (t':=s.toks) (r.append r2) (by rw[qh];lia),rfl,q _ I.fresh⟩
def yW(K:PySem.W.Frag):R2:=fun x y H Q=>match x,y with
 |.int i,.int j=>Q (.int (i+j)) H
 |.str i,.str j=>i.length+j.length<=sizeLine/\Q (.str (i++j)) H
 |.ref a,.ref b=>∃ xs zs,eJ K H a xs/\eJ K H b zs/\xs.length+zs.length<=sizeLine/\∀ p,H p=none->Q (.ref p) (upd H p (.lst (xs++zs)))
 |_,_=>False
theorem FJ:cS X (binaryOp .Add) (yW X.K):=by
 refine(aP'.or (bj'.or Fp)).imp fun x y H Q h=>?_
 unfold yW at h
 split at h
 ·exact .inl ⟨_,_,rfl,rfl,h⟩
 ·exact .inr (.inl ⟨_,_,rfl,rfl,h.1,h.2⟩)
 ·obtain⟨xs,zs,h1,h2,h3,h4⟩:=h
  exact .inr (.inr ⟨_,_,xs,zs,rfl,rfl,h1,h2,h3,h4⟩)
 ·exact h.elim
def Fz:R2:=fun x y H Q=>match x,y with
 |.int i,.int j=>Q (.int (i-j)) H
 |_,_=>False
theorem Gi:cS X (binaryOp .Sub) Fz:=aQ'.imp fun x y H Q h=>by
 unfold Fz at h
 split at h
 ·exact⟨_,_,rfl,rfl,h⟩
 ·exact h.elim
def Gh:R2:=fun x y H Q=>match x,y with
 |.int i,.int j=>zC i j/\Q (.int (i*j)) H
 |_,_=>False
theorem CG:cS X (binaryOp .Mult) Gh:=aR'.imp fun x y H Q h=>by
 unfold Gh at h
 split at h
 ·exact⟨_,_,rfl,rfl,h.1,h.2⟩
 ·exact h.elim
def Ds:R2:=fun x y H Q=>match x,y with
 |.int i,.int j=>(0<j/\j<1073741824)/\Q (.int (i / j)) H
 |_,_=>False
theorem Ep:cS X (binaryOp .FloorDiv) Ds:=aS'.imp fun x y H Q h=>by
 unfold Ds at h
 split at h
 ·exact⟨_,_,rfl,rfl,h.1,h.2⟩
 ·exact h.elim
def D_:R2:=fun x y H Q=>match x,y with
 |.int i,.int j=>0<j/\Q (.int (i % j)) H
 |_,_=>False
theorem Ed:cS X (binaryOp .Mod) D_:=aT'.imp fun x y H Q h=>by
 unfold D_ at h
 split at h
 ·exact⟨_,_,rfl,rfl,h.1,h.2⟩
 ·exact h.elim
def CQ:R2:=fun x y H Q=>match x,y with
 |.int i,.int j=>HV i j/\Q (.int (i ^ j.toNat)) H
 |_,_=>False
theorem Eu:cS X (binaryOp .Pow) CQ:=aU'.imp fun x y H Q h=>by
 unfold CQ at h
 split at h
 ·exact⟨_,_,rfl,rfl,h.1,h.2⟩
 ·exact h.elim
def px(x y:Str):Bool:=decide (x.cps.toList<y.cps.toList)
def TH:R2:=fun x y H Q=>match x,y with
 |.int i,.int j=>Q (.bl (decide (i<j))) H
 |.str i,.str j=>Q (.bl (px i j)) H
 |_,_=>False
theorem yI:cS X (compareOp .Lt) TH:=(bb'.or be').imp fun x y H Q h=>by
 unfold TH at h
 split at h
 ·exact .inl ⟨_,_,rfl,rfl,h⟩
 ·exact .inr ⟨_,_,rfl,rfl,h⟩
 ·exact h.elim
theorem vX:cS X (compareOp .LtE) (fun x y H Q=>∃ i j,x=.str i/\y=.str j/\Q (.bl (!px j i)) H):=by
 intro pins s σ H x y v u Q I rx ry h
 obtain⟨i,j,rfl,rfl,q⟩:=h
 obtain⟨t,rfl⟩:=rx
 obtain⟨t',rfl⟩:=ry
 exact PySem.P.le_str ⟨.bl _,H,I,rfl,q⟩
def TJ:R2:=fun x y H Q=>match x,y with
 |.int i,.int j=>Q (.bl (decide (i<=j))) H
 |.str i,.str j=>Q (.bl (!px j i)) H
 |_,_=>False
theorem Bv:cS X (compareOp .LtE) TJ:=(bc'.or vX).imp fun x y H Q h=>by
 unfold TJ at h
 split at h
 ·exact .inl ⟨_,_,rfl,rfl,h⟩
 ·exact .inr ⟨_,_,rfl,rfl,h⟩
 ·exact h.elim
def TK:R2:=fun x y H Q=>match x,y with
 |.int i,.int j=>Q (.bl (decide (j<i))) H
 |_,_=>False
theorem Gp:cS X (compareOp .Gt) TK:=bd'.imp fun x y H Q h=>by
 unfold TK at h
 split at h
 ·exact⟨_,_,rfl,rfl,h⟩
 ·exact h.elim
theorem Inv.rd(I:Inv X pins σ H s)(e:Rd H a u):eW X.prog X.w H s.heap a u:=e.elim (I.bp a _) fun⟨o,e⟩=>(show eW X.prog X.w H s.heap a (.mS o u) from I.bp a _ e).2
def QH(K:PySem.W.Frag):List V->Hp->VK->Prop:=fun xs H Q=>match xs with
 |[.str y]=>y.length<=sizeLine/\Q (.int y.length) H
 |[.ref p]=>(∃ ys,eJ K H p ys/\Q (.int ys.length) H)\/(∃ ys,kB K H p ys/\Q (.int ys.length) H)\/∃ kvs,Rd H p (.dK kvs)/\Q (.int kvs.length) H
 |_=>False
theorem wz:i5 X (.builtin "len") (QH X.K):=by
 intro pins s σ H xs us Q I r h
 unfold QH at h
 split at h
 ·exact S6 pins s σ H _ us Q I r ⟨_,_,rfl,⟨h.1,rfl⟩,h.2⟩
 ·rcases h with⟨ys,h1,h2⟩|⟨ys,h1,h2⟩|⟨kvs,h1,h2⟩
  ·exact S6 pins s σ H _ us Q I r ⟨_,_,rfl,.inl ⟨ys,h1,rfl⟩,h2⟩
  ·exact S6 pins s σ H _ us Q I r ⟨_,_,rfl,.inr ⟨ys,h1,rfl⟩,h2⟩
  ·obtain⟨u,rfl,ru⟩:=vals1 r
   cases ru
   exact cq' I h1 fun t s' I'=>⟨.int kvs.length,H,I',⟨t,rfl⟩,h2⟩
 ·exact h.elim
def QJ(K:PySem.W.Frag):R2:=fun x y H Q=>match x,y with
 |.ref p,.int i=>(∃ xs v,eJ K H p xs/\eM xs i=some v/\Q v H)\/∃ xs v,kB K H p xs/\eM xs i=some v/\Q v H
 |.str z,.int i=>z.length<=sizeLine/\∃ c,eM z.cps.toList i=some c/\Q (.str ⟨#[c]⟩) H
 |_,_=>False
theorem BZ:uj X (QJ X.K):=by
 intro value slice pins s σ H x y v u Q I rx ry h hs
 refine bU' value slice pins s σ H x y v u Q I rx ry ?_ hs
 unfold QJ at h
 split at h
 ·rcases h with⟨xs,w,h1,h2,h3⟩|⟨xs,w,h1,h2,h3⟩
  ·exact .inl ⟨_,xs,_,w,rfl,rfl,h1,h2,h3⟩
  ·exact .inr (.inl ⟨_,xs,_,w,rfl,rfl,h1,h2,h3⟩)
 ·obtain⟨h1,c,h2,h3⟩:=h
  exact .inr (.inr ⟨_,_,c,rfl,rfl,h1,h2,h3⟩)
 ·exact h.elim
def xS(z:Str)(lo hi:Option Int):Str:=⟨((z.cps.toList.drop (HT.bE z.length 0 lo)).take (HT.bE z.length z.length hi-HT.bE z.length 0 lo)).toArray⟩
end
theorem xM(l:List Nat)(lo hi:Option Int)(h:((l.drop (HT.bE l.length 0 lo)).take (HT.bE l.length l.length hi-HT.bE l.length 0 lo)).length=l.length) :
  (l.drop (HT.bE l.length 0 lo)).take (HT.bE l.length l.length hi-HT.bE l.length 0 lo)=l:=by
 generalize HT.bE l.length 0 lo=a at *
 generalize HT.bE l.length l.length hi=b at *
 by_cases hl:l.length=0
 ·have:l=[]:=Pu.mp hl
  subst this;simp
 ·rw[mG,CM] at h
  have h1:a=0:=by lia
  subst h1
  rw[List.drop_zero]
  exact Px (by lia)
theorem yG(lo hi:Option Int)(n:Nat):Builtin.Str.strSliceIndices lo hi 1 n=(List.range (HT.bE n n hi-HT.bE n 0 lo)).map (HT.bE n 0 lo + ·):=by
 unfold Builtin.Str.strSliceIndices
 have e1:(match lo with|none=>(0:Int)|some i=>max 0 (min (if i<0 then i+n else i) n))=((HT.bE n 0 lo:Nat):Int):=by
  cases lo with
  |none=>simp[HT.bE]
  |some i =>
   simp only[HT.bE]
   by_cases h:i<0
   ·simp only[h,if_true]<;>lia
   ·simp only[h,if_false]<;>lia
 have e2:(match hi with|none=>(n:Int)|some i=>max 0 (min (if i<0 then i+n else i) n))=((HT.bE n n hi:Nat):Int):=by
  cases hi with
  |none=>simp[HT.bE]
  |some i =>
   simp only[HT.bE]
   by_cases h:i<0
   ·simp only[h,if_true]<;>lia
   ·simp only[h,if_false]<;>lia
 rw[<- sliceRange_one,<- e1,<- e2]
 simp only[show(1:Int)>0 by decide,if_true]
 cases lo<;>cases hi<;>rfl
section
variable {X:Cx}
theorem part_of(h:IsPart v o):∃ p:Option (Int × Tok),v=partValue p/\p.map (·.1)=o:=by
 cases h with
 |none=>exact⟨none,rfl,rfl⟩
 |int i t=>exact⟨some (i,t),rfl,rfl⟩
def TL(K:PySem.W.Frag):V->Option Int->Option Int->Hp->VK->Prop:=fun x lo hi H Q=>match x with
 |.str z=>z.length<=sizeLine/\Q (.str (xS z lo hi)) H
 |.ref a=>∃ xs,eJ K H a xs/\∀ p,H p=none->Q (.ref p) (upd H p (.lst (Bn xs lo hi)))
 |_=>False
theorem GR:HZ X (fun x lo hi H Q=>∃ z,x=.str z/\z.length<=sizeLine/\Q (.str (xS z lo hi)) H):=by
 intro pins s σ H x v vl vu lo hi sl Q I rx hs pl pu h
 obtain⟨z,rfl,hz,q⟩:=h
 obtain⟨t,rfl⟩:=rx
 obtain⟨p1,rfl,e1⟩:=part_of pl
 obtain⟨p2,rfl,e2⟩:=part_of pu
 refine⟨"str",_,F.slot_str_getitem.lookup,typeIs_str s z t,wpAny_getItem_str_slice (l:=p1) (u:=p2) (st:=none) hs rfl ?_⟩
 have hl:z.cps.toList.length=z.length:=by simp[Str.length]
 have ep:slicePicked z p1 p2 none=(List.range (HT.bE z.length z.length hi-HT.bE z.length 0 lo)).map (HT.bE z.length 0 lo + ·):=by
  unfold slicePicked
  rw[e1,e2]
  exact yG lo hi z.length
 have ef:(slicePicked z p1 p2 none).filterMap (z.cps[·]?)=(z.cps.toList.drop (HT.bE z.length 0 lo)).take (HT.bE z.length z.length hi-HT.bE z.length 0 lo):=by
  rw[ep];exact pick_run z.cps _ _
 unfold sliceMade
 split
 ·rename_i hc
  have hw:(slicePicked z p1 p2 none).length=z.length:=by simpa using hc
  have:xS z lo hi=z:=by
   unfold xS
   have e3:((z.cps.toList.drop (HT.bE z.cps.toList.length 0 lo)).take (HT.bE z.cps.toList.length z.cps.toList.length hi-HT.bE z.cps.toList.length 0 lo)).length=z.cps.toList.length:=by
    rw[hl,mG,CM,hl]
    rw[ep,cE,PD] at hw
    have h0:HT.bE z.length 0 lo<=z.length:=by
     cases lo with
     |none=>simp[HT.bE]
     |some i=>simp only[HT.bE];split<;>lia
    have h1:HT.bE z.length z.length hi<=z.length:=by
     cases hi with
     |none=>simp[HT.bE]
     |some i=>simp only[HT.bE];split<;>lia
    lia
   have:=xM z.cps.toList lo hi e3
   rw[hl] at this
   rw[this]
  rw[this] at q
  exact⟨.str z,H,I,⟨t,rfl⟩,q⟩
 ·rw[ef]
  exact⟨by
   show(xS z lo hi).length<=sizeLine
   unfold xS Str.length
   simp only[ip,mG,CM,hl]
   have:z.cps.toList.length=z.length:=hl
   lia,⟨.str (xS z lo hi),H,I.tok _,⟨_,rfl⟩,q⟩⟩
theorem HX:HZ X (TL X.K):=by
 intro pins s σ H x v vl vu lo hi sl Q I rx hs pl pu h
 unfold TL at h
 split at h
 ·exact GR pins s σ H _ v vl vu lo hi sl Q I rx hs pl pu ⟨_,rfl,h.1,h.2⟩
 ·obtain⟨xs,h1,h2⟩:=h
  exact bY' pins s σ H _ v vl vu lo hi sl Q I rx hs pl pu ⟨_,xs,rfl,h1,h2⟩
 ·exact h.elim
end
structure lR(J:It)(its:List V)(cond:Hp->Prop):Prop where
 go:∀ i H,cond H->i<its.length->J.go i H
 nL:∀ i H x H',cond H->i<its.length->J.nL i H x H'->H'=H/\its[i]? = some x
 stop:∀ H,cond H->J.stop its.length H
theorem zH(K:PySem.W.Frag)(a:Addr)(xs:List V):lR (Qf K a) xs (fun H=>eJ K H a xs) where
 go:=fun i H h hi=>⟨xs,xs[i],h,by simp[hi]⟩
 nL:=fun i H x H' h _ y=>⟨y.1,y.2 xs h⟩
 stop:=fun H h=>⟨xs,h,bT _⟩
theorem Fv(K:PySem.W.Frag)(a:Addr)(xs:List V):lR (SY K a) xs (fun H=>kB K H a xs) where
 go:=fun i H h hi=>⟨xs,xs[i],h,by simp[hi]⟩
 nL:=fun i H x H' h _ y=>⟨y.1,y.2 xs h⟩
 stop:=fun H h=>⟨xs,h,bT _⟩
def yE(lo:Int)(n:Nat):List V:=(List.range n).map fun i=>.int (lo+(i:Nat))
theorem Dg(lo:Int)(n:Nat):lR (HP lo n) (yE lo n) (fun _=>True) where
 go:=fun i H _ h=>by simpa[yE,HP] using h
 nL:=fun i H x H' _ hi h=>by
  have hi:i<n:=by simpa[yE] using hi
  obtain⟨rfl,rfl⟩:=h
  refine⟨rfl,?_⟩
  simp[yE,hi]
 stop:=fun H _=>by simp[yE,HP]
def df'(J:It)(g:TG)(tb:TS)(D:Ends)(σ:St)(H:Hp):Prop :=
 ∃ W:Nat->Nat->St->Hp->Prop,(∃ m,W 0 m σ H)/\∀ i m σ H,W i m σ H ->
   (J.stop i H/\D.nx σ H)\/(J.go i H/\∃ N:St->Hp->Prop,(∀ aE H',N aE H'->∃ m',m'<m/\W (i+1) m' aE H')/\∀ x H',J.nL i H x H'->g x σ H' fun fz H2=>tb { D with nx:=N,ct:=N,bk:=D.nx } fz H2)
theorem CV(wi:TI)(g:TG)(tb:TS)(D:Ends)(σ:St)(H:Hp):WH wi g tb D σ H=wi σ H fun J H1=>df' J g tb D σ H1:=rfl
def JH(J:It)(g:TG)(tc:TT)(te:TE)(τ0:St)(H1:Hp)(D:Addr)(Q:VK):Prop :=
 ∃ W:Nat->Nat->St->Hp->Prop,(∃ m,W 0 m τ0 (upd H1 D (.lst [])))/\∀ i m τ H,W i m τ H ->
  (J.stop i H/\Q (.ref D) H)\/(J.go i H/\∃ (N1:St->V->Hp->Prop) (N2:St->Hp->Prop),
   (∀ lS v H4,N1 lS v H4->∃ ys m',H4 D=some (.lst ys)/\ys.length<sizeLine/\m'<m/\W (i+1) m' lS (upd H4 D (.lst (ys++[v])))) /\
   (∀ lS H3,N2 lS H3->∃ m',m'<m/\W (i+1) m' lS H3) /\
   ∀ x H',J.nL i H x H'->g x τ H' fun lS H2=>tc lS H2 fun b H3=>if b=true then te lS H3 (N1 lS) else N2 lS H3)
theorem Ac(wi:TI)(g:TG)(tc:TT)(te:TE)(tn:Nat)(ix:List Nat)(σ:St)(H:Hp)(Q:VK):yM wi g tc te tn ix σ H Q=wi σ H fun J H1=>∀ D,H1 D=none->JH J g tc te (nH tn ix σ) H1 D Q:=rfl
mutual
inductive Rep(K:PySem.W.Frag)(H:Hp):PyData->V->Prop
 |none:Rep K H .none .non
 |bool (b:Bool):Rep K H (.bool b) (.bl b)
 |int (i:Int):Rep K H (.int i) (.int i)
 |str (x:Str):Rep K H (.str x) (.str x)
 |list {a:Addr} {vs:List V} {ds:List PyData}:eJ K H a vs->aI K H ds vs->Rep K H (.list ds) (.ref a)
 |tuple {a:Addr} {vs:List V} {ds:List PyData}:kB K H a vs->aI K H ds vs->Rep K H (.tuple ds) (.ref a)
inductive aI(K:PySem.W.Frag)(H:Hp):List PyData->List V->Prop
 |nil:aI K H [] []
 |cons {d:PyData} {v:V} {ds:List PyData} {vs:List V}:Rep K H d v->aI K H ds vs->aI K H (d :: ds) (v :: vs)
end
section
variable {X:Cx}{pins:List (Addr × Obj)}{σ:St}{H:Hp}{s:Shared}
mutual
theorem Rep.reads(I:Inv X pins σ H s):∀ {d:PyData} {v:V} {u:Value},Rep X.K H d v->RelV v u->∃ as,Reads s.heap u d as
 |_,_,_,.none,r=>by cases (show _=Value.none from r);exact⟨_,.none⟩
 |_,_,_,.bool b,r=>by cases (show _=Value.bool b from r);exact⟨_,.bool b⟩
 |_,_,_,.int i,r=>by obtain⟨t,e⟩:=r;subst e;exact⟨_,.int i t⟩
 |_,_,_,.str x,r=>by obtain⟨t,e⟩:=r;subst e;exact⟨_,.str x t⟩
 |_,_,_,.list h hs,r=>by
  cases r
  obtain⟨its,rv,pl,_⟩:=I.list h
  obtain⟨o,e,c,n,d⟩:=pl.isList
  obtain⟨as,q⟩:=aI.reads I hs rv
  exact⟨_,.list e c d q⟩
 |_,_,_,.tuple h hs,r=>by
  cases r
  obtain⟨its,rv,⟨o,e,c,n,d⟩,_⟩:=I.tuple h
  obtain⟨as,q⟩:=aI.reads I hs rv
  exact⟨_,.tuple e c d q⟩
theorem aI.reads(I:Inv X pins σ H s):∀ {ds:List PyData} {vs:List V} {us:List Value},aI X.K H ds vs->Vals vs us->∃ as,ReadsAll s.heap us ds as
 |_,_,_,.nil,.nil=>⟨_,.nil⟩
 |_,_,_,.cons h hs,.cons r rs=>by
  obtain⟨as,q⟩:=Rep.reads I h r
  obtain⟨bs,q'⟩:=aI.reads I hs rs
  exact⟨_,.cons q q'⟩
end
def TN(K:PySem.W.Frag):R2:=fun x y H Q=>∃ d e,Rep K H d x/\Rep K H e y/\d.canLay0=true/\e.canLay0=true/\d.depth<=60/\Q (.bl (PyData.eqv d e)) H
def TQ(K:PySem.W.Frag):R2:=fun x y H Q=>∃ d e,Rep K H d x/\Rep K H e y/\d.canLay0=true/\e.canLay0=true/\d.depth<=60/\Q (.bl (!PyData.eqv d e)) H
theorem HF(hu:X.A.units+64<cLine):cS X (compareOp .Eq) (TN X.K):=by
 intro pins s σ H x y v u Q I rx ry h
 obtain⟨d,e,h1,h2,h3,h4,h5,q⟩:=h
 obtain⟨as,r1⟩:=h1.reads I rx
 obtain⟨bs,r2⟩:=h2.reads I ry
 exact PySem.SeqAt.rcAt_reads r1 r2 h3 h4 (by lia) X.prog X.w X.xe _ ⟨.bl _,H,I,rfl,q⟩
theorem Gx(hu:X.A.units+64<cLine):cS X (compareOp .NotEq) (TQ X.K):=by
 intro pins s σ H x y v u Q I rx ry h
 obtain⟨d,e,h1,h2,h3,h4,h5,q⟩:=h
 obtain⟨as,r1⟩:=h1.reads I rx
 obtain⟨bs,r2⟩:=h2.reads I ry
 exact PySem.SeqAt.rcNeAt_reads r1 r2 h3 h4 (by lia) X.prog X.w X.xe _ ⟨.bl _,H,I,rfl,q⟩
def QK(K:PySem.W.Frag):R2:=fun x y H Q=>match x,y with
 |.int i,.int j=>Q (.bl (decide (i=j))) H
 |.str i,.str j=>Q (.bl (decide (i=j))) H
 |.bl i,.bl j=>Q (.bl (decide (i=j))) H
 |_,_=>TN K x y H Q
theorem Hg(hu:X.A.units+64<cLine):cS X (compareOp .Eq) (QK X.K):=(aZ'.or (HF hu)).imp fun x y H Q h=>by
 unfold QK at h
 split at h
 ·refine .inl ⟨rfl,?_⟩;simpa using h
 ·refine .inl ⟨rfl,?_⟩;simpa using h
 ·refine .inl ⟨rfl,?_⟩;simpa using h
 ·exact .inr h
def QL(K:PySem.W.Frag):R2:=fun x y H Q=>match x,y with
 |.int i,.int j=>Q (.bl (!decide (i=j))) H
 |.str i,.str j=>Q (.bl (!decide (i=j))) H
 |.bl i,.bl j=>Q (.bl (!decide (i=j))) H
 |_,_=>TQ K x y H Q
theorem G7(hu:X.A.units+64<cLine):cS X (compareOp .NotEq) (QL X.K):=(ba'.or (Gx hu)).imp fun x y H Q h=>by
 unfold QL at h
 split at h
 ·refine .inl ⟨rfl,?_⟩;simpa using h
 ·refine .inl ⟨rfl,?_⟩;simpa using h
 ·refine .inl ⟨rfl,?_⟩;simpa using h
 ·exact .inr h
end
end L2
namespace L2
open PySem PySem.Spec PyProof.Rows
def MY(sc:Scope)(names:List (Str × NameKind)):List (Str × NameKind):=names.map fun y=>if (y.2 == NameKind.free && sc.kind == .function && sc.names.lookup y.1 == some .cell)=true then (y.1,NameKind.cell) else (y.1,y.2)
def MZ(o:Option NameKind):Bool:=o == some .cell || o == some .free
def GF(sc scope:Scope)(N cn:List Str)(ix:List Nat):Bool :=
 scope.kind == .function && scope.names.all (fun y=>y.2 != .cell) && scope.names.all (fun y=>y.2 != .free || MZ (sc.names.lookup y.1)) && scope.names.all (fun y=>y.2 != .local || scope.names.lookup y.1 == some .local) &&
 ix.length == cn.length && (List.range ix.length).all (fun k=>match ix[k]?,cn[k]? with
  |some j,some y=>N[j]? == some y && MZ (sc.names.lookup y) && scope.names.contains (y,NameKind.free) && MZ ((MY sc scope.names).lookup y)
  |_,_=>false) &&
 (MY sc scope.names).all (fun y=>!(y.2 == .cell || y.2 == .free) || scope.names.contains (y.1,NameKind.free))
theorem sW(h:MZ o=true):o=some .cell\/o=some .free:=by
 unfold MZ at h
 simpa using h
theorem bL.of{X:Cx}(BF:X.env.scope=sc)(hN:X.N=N)(h:GF sc scope N cn ix=true):bL X scope tn cn ix:=by
 unfold GF at h
 simp only[lI] at h
 obtain⟨⟨⟨⟨⟨⟨h1,h2⟩,h3⟩,h4⟩,h5⟩,h6⟩,h7⟩:=h
 rw[FV] at h2 h3 h4 h6 h7
 have Xy:(relabel scope X.env).names=MY sc scope.names:=by
  unfold relabel MY
  rw[<- BF]
  rfl
 refine⟨by simpa using h1,fun y hy=>by simpa using h2 y hy,fun y hy hk=>?_,fun y hy hk=>?_,by simpa using h5,fun k j hk=>?_,fun x hx=>?_⟩
 ·have:=h3 y hy
  rw[hk] at this
  rw[BF]
  exact sW (by simpa using this)
 ·have:=h4 y hy
  rw[hk] at this
  simpa using this
 ·have ja:k<ix.length:=(ic.mp hk).1
  have:=h6 k (mI.mpr ja)
  rw[hk] at this
  cases e:cn[k]? with
  |none=>rw[e] at this;cases this
  |some y =>
   rw[e] at this
   simp only[lI] at this
   obtain⟨⟨⟨a1,a2⟩,a3⟩,a4⟩:=this
   refine⟨y,rfl,by rw[hN];simpa using a1,by rw[BF];exact sW a2,by simpa using a3,by rw[Xy];exact sW a4⟩
 ·rw[Xy] at hx
  have mem:∃ k,(x,k)∈MY sc scope.names/\(k=.cell\/k=.free):=by
   rcases hx with hx|hx
   ·exact⟨_,PySem.mem_of_lookup hx,.inl rfl⟩
   ·exact⟨_,PySem.mem_of_lookup hx,.inr rfl⟩
  obtain⟨k,hm,hk⟩:=mem
  have:=h7 _ hm
  rcases hk with rfl|rfl<;>simpa using this
structure eP(P:Program)(w:World)(K:PySem.W.Frag)(mg:Str->Option Value)(base:Heap)(k:Nat)(x:Str)(ps:List Str)(sp:Sp):Prop where
 ex:∃ (g:Addr) (fd:FuncData),mg x=some (.ref g)/\PySem.W.keepIn K (.ref g)=true/\Binds K fd ps []/\gv P w K mg base i9 k g fd ps sp
section
variable {X:Cx}{k:Nat}{x:Str}{ps:List Str}{sp:Sp}{p pos:Pos}{e:Expr}{es:List Expr}{t:TA}
theorem Ia (C:eP X.prog X.w X.K X.mg X.base k x ps sp) (hr:i6 k X.A) (ha:PA X (e :: es) t) (hg:Gl X x:=by rfl) (hJ:(x == ("__debug__" : Str))=false:=by decide) (he:starEach (e :: es) X.env=(false,eval e X.env) :: starEach es X.env:=by rfl)
  (fA:(backTo pos (starEach es X.env)).any (·.1)=false:=by rfl):PE X (.Call (.Name x p) (e :: es) [] pos) (MB sp [] E0 t):=by
 obtain⟨g,fd,hm,hk,hb,F⟩:=C.ex
 exact W3 F hr hg hm hk hb .nil cI' ha hJ he fA
end
theorem gy.qE{P:Program}{K:PySem.W.Frag}{st:Stmt}{ps:List Str}(F:gy K x qual st f fd)(hm:mg x=some (.ref f))
  (G:gv P w K mg base i9 k f fd ps sp)
  (h:∀ (kV doc pm:Value) (an:Option Addr) (cw ct:Value) (us:List Value),us.length=ps.length->bindArgs (PySem.W.fnOf x qual (i7 st) (gS st) (b5 st) .none kV doc pm an cw ct) ⟨us,[]⟩=pure (ps.zip us)):eP P w K mg base k x ps sp :=
 ⟨f,fd,hm,F.kp,F.binds h,G⟩
theorem xJ:bootBuiltins "int" = some (.type "int"):=by decide +kernel
theorem DQ:bootBuiltins "bool" = some (.type "bool"):=by decide +kernel
theorem nG:bootBuiltins "list" = some (.type "list"):=by decide +kernel
theorem Bj:bootBuiltins "tuple" = some (.type "tuple"):=by decide +kernel
theorem iz:bootBuiltins "isinstance" = some (.builtin "isinstance"):=by decide +kernel
theorem nu:bootBuiltins "len" = some (.builtin "len"):=by decide +kernel
theorem zV {X:Cx} {T:String} (hm:X.mg x=none) (hv:bootBuiltins x=some (.type T)) (hg:Gl X x:=by rfl) (hn:x ≠ "__name__" := by decide) (hd:(x == ("__debug__" : Str))=false:=by decide):PE X (.Name x pos) (tC (.ty T)) :=
 af' hg hm hv rfl hn hd
def IE(i j:Str):Bool:=!(Builtin.Str.occurrences j i 0 j.length 1).isEmpty
def QM(K:PySem.W.Frag)(neg:Bool):R2:=fun x y H Q=>match x,y with
 |.str i,.str j=>Q (.bl (if neg then !IE i j else IE i j)) H
 |_,.ref p=>(∃ o,pf H p x o/\Q (.bl (if neg then !o.isSome else o.isSome)) H)\/Qu K neg x y H Q
 |_,_=>False
theorem H_{X:Cx}(hu:X.A.units+64<cLine):cS X (compareOp .In) (QM X.K false):=by
 intro pins s σ H x y v u Q I rx ry h
 unfold QM at h
 split at h
 ·exact bf' pins s σ H _ _ v u Q I rx ry ⟨_,_,rfl,rfl,h⟩
 ·rcases h with⟨o,g,q⟩|h
  ·cases ry
   exact cn' (by lia) I g rx fun s3 I3=>⟨.bl o.isSome,H,I3,rfl,q⟩
  ·exact ca' pins s σ H _ _ v u Q I rx ry h
 ·exact h.elim
theorem aS.upd(h:aS H H')(hp:H' p=none):aS H (upd H' p o):=fun b u e=>by
 have e':=h b u e
 rw[fE (HC e' hp)]
 exact e'
theorem aS.lst{K:PySem.W.Frag}(e:aS H H')(h:eJ K H a xs):eJ K H' a xs:=e.seq h
theorem aS.tup{K:PySem.W.Frag}(e:aS H H')(h:kB K H a xs):kB K H' a xs:=by
 rcases h with(h|⟨o,h⟩)|h
 ·exact .inl (.inl (e _ _ h))
 ·exact .inl (.inr ⟨o,e _ _ h⟩)
 ·exact .inr h
mutual
theorem Rep.same{K:PySem.W.Frag}(s:aS H H'):∀ {d:PyData} {v:V},Rep K H d v->Rep K H' d v
 |_,_,.none=>.none
 |_,_,.bool b=>.bool b
 |_,_,.int i=>.int i
 |_,_,.str x=>.str x
 |_,_,.list h hs=>.list (s.lst h) (aI.same s hs)
 |_,_,.tuple h hs=>.tuple (s.tup h) (aI.same s hs)
theorem aI.same{K:PySem.W.Frag}(s:aS H H'):∀ {ds:List PyData} {vs:List V},aI K H ds vs->aI K H' ds vs
 |_,_,.nil=>.nil
 |_,_,.cons h hs=>.cons (Rep.same s h) (aI.same s hs)
end
section
variable {X:Cx}{K:PySem.W.Frag}
theorem kIx(hK:X.K=K:=by rfl):uj X (QJ K):=by subst hK;exact BZ
theorem qS(hu:X.A.units+64<cLine)(hK:X.K=K:=by rfl):cS X (compareOp .Eq) (QK K):=by subst hK;exact Hg hu
theorem TR(hu:X.A.units+64<cLine)(hK:X.K=K:=by rfl):cS X (compareOp .NotEq) (QL K):=by subst hK;exact G7 hu
theorem ke(hu:X.A.units+64<cLine)(hK:X.K=K:=by rfl):cS X (compareOp .In) (QM K false):=by subst hK;exact H_ hu
end
theorem Ow{α:Type}{a:α}{p:α->Prop}:(∃ v,a=v/\p v)↔p a:=⟨fun⟨_,e,h⟩=>e ▸ h,fun h=>⟨a,rfl,h⟩⟩
end L2
namespace L2
open PySem PySem.Spec PyProof.Rows
abbrev TV:=Array DictEntry
def sQ(h:Heap)(d:Addr)(es:TV)(ep:Nat):Prop:=∃ o,h.get? d=some o/\o.ExactDict/\o.data=.dict es ep
theorem sQ.typ {s:Shared} {d:Addr} {es:TV} {ep:Nat} (x:sQ s.heap d es ep):s.TypeIs (.ref d) "dict" := let ⟨o,e,c,_⟩:=x;⟨o,e,c.1⟩
section
variable {prog:Program}{w:World}{A:Around}{E:Value->Shared->Prop}{s:Shared}{d it:Addr}{es:TV}{ep i:Nat}
theorem Ah{Q:Value->Shared->Prop}(lo:(d == sysModules)=false)(x:sQ s.heap d es ep)
  (q:Q (.ref s.heap.objs.size) { s with heap:=s.heap.push { cls:=.type "dict_keyiterator",data:=.fields #[.ref d,.int 0 0,.int es.size 0,.int ep 0] } }):wpAny (model prog w) A (pyIter (.ref d)) Q E s:=by
 obtain⟨o,ho,hc,QN⟩:=id x
 refine wpAny_pyIter_slot x.typ F.slot_dict_iter (wpAny_call_entry F.slot_dict_iter x.typ F.entry_dict_iter ?_ (F.args_dict_iter_1 _))
 unfold Builtin.«dict.__iter__»
 refine ai ?_
 unfold Builtin.Dict.dictSlotNone
 refine ai (wpAny_notOrdered_dict x.typ ?_)
 refine(show wpAny _ _ (pure (Value.ref d)) _ _ s from aC ?_)
 refine(show wpAny _ _ (Builtin.Dict.showsAll d >>= _) _ _ s from ?_)
 unfold Builtin.Dict.showsAll
 rw[if_neg (by rw[lo];decide)]
 refine ai (aC (ai (wpAny_dictEntries ho QN (ai (wpAny_dictEpoch ho QN (ai (wpAny_newObj_type (aC ⟨_,rfl, "dict_keyiterator",_,⟨_,i3 _ rfl,rfl⟩,F.slot_dict_keyiterator_next.lookup,?_⟩))))))))
 simpa[rawInt] using q
theorem Aj(hit:s.heap.IsKeyIter it d i es.size ep)(x:sQ s.heap d es ep)(hx:i<es.size)
  (q:∀ h',h'.IsKeyIter it d (i+1) es.size ep->Heap.SameBut it s.heap h'->Q (some es[i].key) { s with heap:=h' }):wpAny (model prog w) A (pyNext (.ref it)) Q E s:=by
 obtain⟨o,ho,hc,hd⟩:=id hit
 obtain⟨od,EL,oS,M0⟩:=id x
 have ty:=hit.typeIs
 unfold pyNext
 refine ai (wpAny_attempt (wpAny_callSpecial?_slot (name:=Str.ofString "__next__") ty F.slot_dict_keyiterator_next (wpAny_call_entry F.slot_dict_keyiterator_next ty F.entry_dict_keyiterator_next ?_ (F.args_dict_keyiterator_next_1 _))))
 refine ai (aC (ai (ai ?_)))
 first|refine ai (wpAny_typeNameOfWhole_keyiter ty (aC ?_))|refine ai (wpAny_typeNameOf_keyiter ty (aC ?_))
 refine ai (wpAny_fieldsOf ho hd ?_)
 simp only[show Builtin.Dict_items.ownsTuple "dict_keyiterator" = false by decide,gu,if_false]
 refine(show wpAny _ _ (if (Value.ref d == Value.none)=true then _ else _) _ _ s from ?_)
 rw[if_neg (show ¬ ((Value.ref d == Value.none)=true) by intro h;cases h)]
 refine ai (aC (ai (wpAny_dictEntries EL M0 ?_)))
 rw[if_neg (by intro h;simp at h)]
 refine ai (aC (ai (wpAny_dictEpoch EL M0 ?_)))
 rw[if_neg (by intro h;simp at h)]
 refine aC ?_
 simp only[show ¬ ((i:Int)<0) by lia,if_false,G0,y9 hx]
 refine ai ?_
 first|refine ai (wpAny_typeNameOfWhole_keyiter ty (aC ?_))|refine ai (wpAny_typeNameOf_keyiter ty (aC ?_))
 refine ai (wpAny_isOneOf_keyiter ty ?_)
 refine(show wpAny _ _ (setField (.ref it) 1 (rawInt ((i:Int)+1)) >>= _) _ _ s from ai (wpAny_setField ho hd (by simp) ?_))
 have Xz:(s.heap.update it (Obj.mapFields (·.setIfInBounds 1 (rawInt ((i:Int)+1))))).IsKeyIter it d (i+1) es.size ep :=
  ⟨_,GA _ ho (Obj.isFreed_of_fields (Obj.data_mapFields hd _)),(Obj.cls_mapFields ..).trans hc,by rw[Obj.data_mapFields hd];simp[rawInt]⟩
 refine ai (wpAny_holding (ai (wpAny_isOneOf_keyiter (s:={ s with heap:=s.heap.update it (Obj.mapFields (·.setIfInBounds 1 (rawInt ((i:Int)+1)))) }) Xz.typeIs ?_)))
 refine(show wpAny _ _ (pure es[i].key) _ _ _ from aC (aC ⟨_,rfl,aC (q _ Xz (Heap.SameBut.update ..))⟩))
theorem zT(hh:A.handled=none)(hit:s.heap.IsKeyIter it d es.size es.size ep)(x:sQ s.heap d es ep)(q:∀ h',Heap.ExtBut it s.heap h'->Q none { s with heap:=h' }) :
  wpAny (model prog w) A (pyNext (.ref it)) Q E s:=by
 obtain⟨o,ho,hc,hd⟩:=id hit
 obtain⟨od,EL,oS,M0⟩:=id x
 have ty:=hit.typeIs
 unfold pyNext
 refine ai (wpAny_attempt (wpAny_callSpecial?_slot (name:=Str.ofString "__next__") ty F.slot_dict_keyiterator_next (wpAny_call_entry F.slot_dict_keyiterator_next ty F.entry_dict_keyiterator_next ?_ (F.args_dict_keyiterator_next_1 _))))
 refine ai (aC (ai (ai ?_)))
 first|refine ai (wpAny_typeNameOfWhole_keyiter ty (aC ?_))|refine ai (wpAny_typeNameOf_keyiter ty (aC ?_))
 refine ai (wpAny_fieldsOf ho hd ?_)
 simp only[show Builtin.Dict_items.ownsTuple "dict_keyiterator" = false by decide,gu,if_false]
 refine(show wpAny _ _ (if (Value.ref d == Value.none)=true then _ else _) _ _ s from ?_)
 rw[if_neg (show ¬ ((Value.ref d == Value.none)=true) by intro h;cases h)]
 refine ai (aC (ai (wpAny_dictEntries EL M0 ?_)))
 rw[if_neg (by intro h;simp at h)]
 refine ai (aC (ai (wpAny_dictEpoch EL M0 ?_)))
 rw[if_neg (by intro h;simp at h)]
 refine aC ?_
 simp only[show ¬ ((es.size:Int)<0) by lia,if_false,G0,DC (bT es.size)]
 refine ai ?_
 first|refine ai (wpAny_typeNameOfWhole_keyiter ty (aC ?_))|refine ai (wpAny_typeNameOf_keyiter ty (aC ?_))
 refine(show wpAny _ _ (setField (.ref it) 0 .none >>= _) _ _ s from ai (wpAny_setField ho hd (by simp) ?_))
 refine(show wpAny _ _ (newExc (.type "StopIteration") [] >>= _) _ _ _ from ai ?_)
 simp only[newExc,newTuple]
 refine ai (wpAny_newObj_type ?_ (by size_fits))
 refine ai (m:=firstArgMember _ _) (wpAny_of_eq (a:=Value.none) (by first|rfl|(simp only[firstArgMember];rfl)) (wpAny_newObj_type ?_ (by size_fits)))
 simp only[raiseNew]
 refine ai (wpAny_handled ?_)
 rw[show A.in1.handled=none from hh]
 refine ai (aC (wpAny_throw ?_))
 refine ai (wpAny_isInstance (b:=true) (T := "StopIteration") ⟨_,i3 _ rfl,rfl⟩ isSubtype_stop ?_)
 exact aC (q _ (((Heap.SameBut.update ..).extBut.push _).push _))
theorem sQ.at(x:sQ h d es ep)(e:∀ o,h.get? d=some o->h'.get? d=some o):sQ h' d es ep:=let ⟨o,ho,r⟩:=x;⟨o,e o ho,r⟩
theorem sQ.lt(x:sQ h d es ep):d<h.objs.size:=let ⟨_,e,_⟩:=x;dv e
theorem xj(hh:A.handled=none)(I:Addr)(kf:d≠I):Walks prog w A I [I,d] [I] es.size (fun i v=>∃ e,es[i]? = some e/\v=e.key) (fun i h=>h.IsKeyIter I d i es.size ep/\sQ h d es ep) where
 sub:=fun b hb=>by simp at hb;simp[hb]
 frame:=fun _ _ _ st hk=>⟨st.1.at fun o e=>hk I (by simp) o e,st.2.at fun o e=>hk d (by simp) o e⟩
 item:=fun i s Q E hi st hQ=>Aj st.1 st.2 hi fun h' a b=>hQ _ h' s.toks ⟨es[i],by simp[hi],rfl⟩ ⟨a,st.2.at fun o e=>b.extBut d o kf e⟩ fun c o hb e=>b.extBut c o (fun h=>hb (by simp[h])) e
 done:=fun s Q E st hQ=>zT hh st.1 st.2 fun h' QQ=>hQ h' s.toks fun b o hb e=>QQ b o (fun h=>hb (by simp[h])) e
 self:=fun _ _ _ _ st hQ=>wpAny_pyIter_keyiter st.1 hQ
theorem yQ (lo:(d == sysModules)=false):PySem.W.KdlSrc prog w "dict" d d es.size (fun i v=>∃ e,es[i]? = some e/\v=e.key) (fun h=>sQ h d es ep) where
 type:=fun _ x=>x.typ
 there:=fun _ x=>⟨x.lt,x.lt⟩
 keep:=fun _ _ x hk=>x.at fun o e=>hk d (.inl rfl) o e
 notList:=by decide
 notTuple:=by decide
 hint:=fun _ _ _ _ x hq=>PySem.W.kdl_hint_dict x.typ hq
 iter:=fun _ _ hh x=>⟨_,_,(fun _ _ hq=>Ah lo x hq),xj hh _ (eT x.lt),⟨⟨_,i3 _ rfl,rfl,rfl⟩,x.at fun o e=>eS _ e⟩⟩
end
theorem Paired.n0{α β:Type}{R:α->β->Prop}{bs:List β}(h:Paired R [] bs):bs=[]:=by cases h;rfl
theorem Paired.c{α β:Type}{R:α->β->Prop}{a:α}{as:List α}{bs:List β}(h:Paired R (a :: as) bs):∃ b cs,bs=b :: cs/\R a b/\Paired R as cs:=by
 cases h with
 |cons r t=>exact⟨_,_,rfl,r,t⟩
def cR(H:Hp)(ys:List V)(ks:List (List Key)):Prop:=Paired (fun(v:V) (k:List Key)=>∃ b,v=.ref b/\H b=some (.tup (k.map kV))) ys ks
section
variable {X:Cx}
def tU:List V->Hp->VK->Prop:=fun xs H Q=>match xs with
 |[.ref p]=>∃ kvs,Rd H p (.dT kvs)/\∀ ys l,cR H ys (kvs.map (·.1))->H l=none->Q (.ref l) (upd H l (.lst ys))
 |_=>False
theorem xU
  (h:Paired (fun(p:List Key × V) (q:List Key × Addr × Value)=>p.1=q.1/\H q.2.1=some (.tup (p.1.map kV))/\RelV p.2 q.2.2) kvs xs) :
  cR H (xs.map fun q=>.ref q.2.1) (kvs.map (·.1))/\Vals (xs.map fun q=>.ref q.2.1) ((xs.map (entryOfKey (tupleKind (mP prog w)))).map (·.key)):=by
 induction h with
 |nil=>exact⟨.nil,.nil⟩
 |cons r t ih=>exact⟨.cons ⟨_,rfl,r.2.1⟩ ih.1,.cons rfl ih.2⟩
theorem vB (hc:X.calm=true):i5 X (.type "list") tU:=by
 intro pins s σ H xs us Q I r h
 unfold tU at h
 split at h
 ·rename_i p
  obtain⟨kvs,e,q⟩:=h
  obtain⟨u,rfl,ru⟩:=Vals.one r
  cases ru
  obtain⟨z,y,ps,rel,o,es,ep,h1,h2,h3,h4,h5⟩:=(show eW X.prog X.w H s.heap p (.dT kvs) from I.rd e)
  obtain⟨ta,va⟩:=xU (prog:=X.prog) (w:=X.w) rel
  have hlen:es.size=kvs.length:=by
   have:=congrArg List.length h4
   rw[AZ,cE] at this
   rw[this];exact rel.length.symm
  refine PySem.W.kdl_call (yQ (es:=es) (ep:=ep) y) (I.ok.hd hc) ⟨o,h1,h2,h3⟩ (by lia) fun h' tk acc c kp eo BG=>?_
  have hv:acc.toList=(ps.map (entryOfKey (tupleKind (mP X.prog X.w)))).map (·.key):=by
   apply CH
   intro i
   by_cases hi:i<es.size
   ·have iE:i<acc.size:=by rw[BG.1];exact hi
    obtain⟨en,e1,e2⟩:=BG.2 i acc[i] (by simp[iE])
    rw[<- h4,kQ,mM,mM,e1]
    simp[iE,e2]
   ·rw[<- h4,kQ,mM,mM,DC (by rw[BG.1];lia),DC (by lia)]
    rfl
  refine⟨.ref s.heap.objs.size,_,I.laid (t':=tk) kp (bT _) (show eW X.prog X.w _ h' _ (.lst (ps.map fun q=>.ref q.2.1)) from⟨?_,acc.toList,c,?_,?_⟩),rfl,q _ _ ta (I.bp.fresh (bT _))⟩
  ·rw[cE,<- rel.length];exact z
  ·rw[hv];exact va
  ·rw[P4];exact eo
 ·exact h.elim
end
end L2
namespace x3
open PySem PyProof.Rows
def R(r:Value->Int)(xs:Array Keyed)(i:Nat):Int:=match xs[i]? with
 |some p=>r p.1
 |none=>0
theorem dM(h:xs[i]? = ys[j]?):R r xs i=R r ys j:=by unfold R;rw[h]
def lT(prog:Program)(w:World)(A:Around)(s:Shared)(κ:SortKind)(r:Value->Int)(P:Value->Prop):Prop :=
 ∀ x y,P x->P y->∀ (Q:Bool->Shared->Prop) (E:Value->Shared->Prop),Q (decide (r x<r y)) s->wpAny (model prog w) A (keyLt' κ x y) Q E s
def AllP(P:Value->Prop)(xs:Array Keyed):Prop:=∀ p∈xs.toList,P p.1
theorem AllP.perm{P:Value->Prop}(h:AllP P xs)(hp:ys.Perm xs):AllP P ys:=fun p hm=>h p ((Sg.mp hp).mem_iff.mp hm)
theorem AllP.at{P:Value->Prop}{xs:Array Keyed}(h:AllP P xs){i:Nat}{p:Keyed}(e:xs[i]? = some p):P p.1:=h p (by
 obtain⟨hi,rfl⟩:=GY.mp e
 simp)
structure kS(lo hi:Nat)(st ag:SortSt):Prop where
 kind:kindOf ag=kindOf st
 failed:failedOf ag=failedOf st
 pend:pendingOf ag=pendingOf st
 perm:(arrOf ag).Perm (arrOf st)
 out:∀ k,k<lo\/hi<=k->(arrOf ag)[k]? = (arrOf st)[k]?
theorem kS.refl(lo hi:Nat)(st:SortSt):kS lo hi st st:=⟨rfl,rfl,rfl,Array.Perm.refl _,fun _ _=>rfl⟩
theorem kS.trans{lo hi:Nat}(h:kS lo hi a b)(g:kS lo hi b c):kS lo hi a c :=
 ⟨g.kind.trans h.kind,g.failed.trans h.failed,g.pend.trans h.pend,g.perm.trans h.perm,fun k hk=>(g.out k hk).trans (h.out k hk)⟩
theorem kS.mono{lo hi ER kz:Nat}(h:kS lo hi a b)(h1:ER<=lo)(h2:hi<=kz):kS ER kz a b :=
 ⟨h.kind,h.failed,h.pend,h.perm,fun k hk=>h.out k (by lia)⟩
theorem kS.size{lo hi:Nat}(h:kS lo hi a b):(arrOf b).size=(arrOf a).size:=h.perm.size_eq
def Up(r:Value->Int)(xs:Array Keyed)(lo hi:Nat):Prop:=∀ i j,lo<=i->i<=j->j<hi->R r xs i<=R r xs j
def Down(r:Value->Int)(xs:Array Keyed)(lo hi:Nat):Prop:=∀ i j,lo<=i->i<=j->j<hi->R r xs j<=R r xs i
theorem t_(hs:src<xs.size)(hd:d<=src)(k:Nat) :
  R r (bubble xs src d) k=if k=src-d then R r xs src else if src-d<k/\k<=src then R r xs (k-1) else R r xs k:=by
 have e:=getElem?_bubble hs d hd k
 by_cases h1:k=src-d
 ·rw[if_pos h1] at e ⊢;exact dM e
 ·rw[if_neg h1] at e ⊢
  by_cases h2:src-d<k/\k<=src
  ·rw[if_pos h2] at e ⊢;exact dM e
  ·rw[if_neg h2] at e ⊢;exact dM e
theorem nF(hj:j<=xs.size)(k:Nat) :
  R r (mirror xs i j ((j-i) / 2)) k=if i<=k/\k<j then R r xs (i+j-1-k) else R r xs k:=by
 have e:=getElem?_mirror_all (i:=i) hj k
 by_cases h1:i<=k/\k<j
 ·rw[if_pos h1] at e ⊢;exact dM e
 ·rw[if_neg h1] at e ⊢;exact dM e
theorem bZ(hj:j<=xs.size)(heq:∀ k,i<=k->k<j->R r xs k=R r xs (j-1))(k:Nat) :
  R r (mirror xs i j ((j-i) / 2)) k=R r xs k:=by
 rw[nF hj]
 split
 ·rw[heq _ (by lia) (by lia),heq k (by lia) (by lia)]
 ·rfl
section
variable {prog:Program}{w:World}{A:Around}{E:Value->Shared->Prop}{s:Shared}{κ:SortKind}{r:Value->Int}{P:Value->Prop}
theorem pR{st:SortSt}(C:lT prog w A s κ r P)(hk:kindOf st=κ)(hx:P x.1)(hy:P y.1)(h:Q (some (decide (r x.1<r y.1))) st) :
  wpS (model prog w) A E s (lt' x y) Q st:=by
 rw[lt'_eq]
 refine wpS_bind (wpS_get ?_)
 rw[hk]
 refine wpS_bind (wpS_lift (wpAny_attempt (C x.1 y.1 hx hy _ _ ⟨rfl,?_⟩)))
 exact wpS_pure h
theorem aK{st:SortSt}(hi:i<xs.size)(h:∀ p,xs[i]? = some p->Q p st):wpS (model prog w) A E s (elem' xs i) Q st:=by
 rw[elem'_eq,getElem?_pos xs i hi]
 exact wpS_pure (h _ (getElem?_pos xs i hi))
theorem lJ{st:SortSt}{i j:Nat}{Q:Option Bool->SortSt->Prop}(C:lT prog w A s κ r P)(hk:kindOf st=κ)(hP:AllP P (arrOf st))(hi:i<(arrOf st).size)(hj:j<(arrOf st).size)
  (h:Q (some (decide (R r (arrOf st) i<R r (arrOf st) j))) st):wpS (model prog w) A E s (ltAt' i j) Q st:=by
 rw[ltAt'_eq]
 refine wpS_bind (wpS_get ?_)
 show wpS _ _ _ _ (do let x <- elem' (arrOf st) i;let y <- elem' (arrOf st) j;lt' x y) Q st
 refine wpS_bind (aK hi fun p ep=>wpS_bind (aK hj fun q eq=>pR C hk (hP.at ep) (hP.at eq) ?_))
 have e1:R r (arrOf st) i=r p.1:=by unfold R;rw[ep]
 have e2:R r (arrOf st) j=r q.1:=by unfold R;rw[eq]
 rw[<- e1,<- e2]
 exact h
theorem dU{st:SortSt}(h:Q () (setArr st (mirror (arrOf st) i j ((j-i) / 2)))) :
  wpS (model prog w) A E s (reverseSlice' i j) Q st:=by
 rw[reverseSlice'_eq];exact wpS_modify h
theorem gk{st:SortSt}(hj:j<=(arrOf st).size):kS i j st (setArr st (mirror (arrOf st) i j ((j-i) / 2))) :=
 ⟨rfl,rfl,rfl,mirror_perm _ _ _ _,fun k hk=>by
  have e:=getElem?_mirror_all (i:=i) hj k
  rw[if_neg (by lia)] at e
  exact e⟩
theorem vI{st:SortSt}{lo src d:Nat}(hs:src<(arrOf st).size)(hd:lo+d<=src):kS lo (src+1) st (setArr st (bubble (arrOf st) src d)) :=
 ⟨rfl,rfl,rfl,bubble_perm _ _ _,fun k hk=>by
  have e:=getElem?_bubble hs d (by walk_at "s4") k
  rw[if_neg (by lia),if_neg (by lia)] at e
  exact e⟩
theorem wpS_binarySort{st:SortSt}{lo n ok:Nat}(C:lT prog w A s κ r P)(hk:kindOf st=κ)(hP:AllP P (arrOf st))(hn:lo+n<=(arrOf st).size)(bp:ok<=n)(hs:Up r (arrOf st) lo (lo+ok))
  (h:∀ ag,kS lo (lo+n) st ag->Up r (arrOf ag) lo (lo+n)->Q true ag):wpS (model prog w) A E s (binarySort' lo n ok) Q st:=by
 rw[binarySort'_eq]
 refine wpS_bind (wpS_mono (wpS_forRange (I:=fun k c ag=>c=(none,())/\kS lo (lo+n) st ag/\Up r (arrOf ag) lo (lo+min k n))
  (Q:=fun c ag=>c=(none,())/\kS lo (lo+n) st ag/\Up r (arrOf ag) lo (lo+n)) ?step ?fin ?init) ?post)
 case post =>
  rintro c ag ⟨rfl,iF,gV⟩
  exact wpS_pure (h ag iF gV)
 case init =>
  refine⟨rfl,.refl _ _ _,fun i j hl gX hj=>?_⟩
  by_cases h1:ok=0
  ·have:i=j:=by lia
   subst this;exact wd _
  ·exact hs i j hl gX (by lia)
 case fin =>
  rintro c ag ⟨hc,iF,gV⟩
  refine⟨hc,iF,?_⟩
  rwa[show min (max (max ok 1) n) n=n by lia] at gV
 case step =>
  rintro k c ag hak hkn ⟨rfl,iF,gV⟩
  rw[show min k n=k by lia] at gV
  have hsz:=iF.size
  have ja:kindOf ag=κ:=iF.kind.trans hk
  have qV:=hP.perm iF.perm
  refine wpS_bind (wpS_mono (wpS_forRange (I:=fun x c x5=>x5=ag/\∃ l r',c=(none,l,r')/\l<=r'/\r'<=k/\r'-l<=k-x /\
    (∀ i,lo<=i->i<lo+l->R r (arrOf ag) i<=R r (arrOf ag) (lo+k))/\(∀ i,lo+r'<=i->i<lo+k->R r (arrOf ag) (lo+k)<R r (arrOf ag) i))
   (Q:=fun c x5=>x5=ag/\∃ l r',c=(none,l,r')/\l<=k /\
    (∀ i,lo<=i->i<lo+l->R r (arrOf ag) i<=R r (arrOf ag) (lo+k))/\(∀ i,lo+l<=i->i<lo+k->R r (arrOf ag) (lo+k)<R r (arrOf ag) i)) ?di' ?dk' ?dl') ?dm')
  case dl'=>exact⟨rfl,0,k,rfl,by lia,by lia,by lia,fun i _ hi=>by lia,fun i h1 h2=>by lia⟩
  case dk' =>
   rintro c x5 ⟨rfl,l,r',rfl,hlr,EV,hm,DT,An⟩
   have:l=r':=by lia
   subst this
   exact⟨rfl,l,l,rfl,EV,DT,An⟩
  case di' =>
   rintro x c x5 _ hxk ⟨rfl,l,r',rfl,hlr,EV,hm,DT,An⟩
   dsimp only
   by_cases pz:l >= r'
   ·rw[if_pos pz]
    have:l=r':=by lia
    subst this
    exact wpS_pure ⟨rfl,l,l,rfl,EV,DT,An⟩
   ·rw[if_neg pz]
    refine wpS_bind (lJ C ja qV (by lia) (by lia) ?_)
    by_cases vj:R r (arrOf x5) (lo+k)<R r (arrOf x5) (lo+(l+r') / 2)
    ·simp only[vj,decide_true,if_true]
     refine wpS_pure ⟨rfl,l,(l+r') / 2,rfl,by lia,by lia,by lia,DT,fun i h1 h2=>?_⟩
     exact Int.lt_of_lt_of_le vj (gV _ _ (by lia) h1 h2)
    ·simp only[vj,decide_false,gu,if_false]
     refine wpS_pure ⟨rfl,(l+r') / 2+1,r',rfl,by lia,by lia,by lia,fun i h0 h1=>?_,An⟩
     exact wc (gV i (lo+(l+r') / 2) h0 (by lia) (by lia)) (Int.not_lt.mp vj)
  case dm' =>
   rintro c x5 ⟨rfl,l,r',rfl,hlk,DT,An⟩
   show wpS _ _ _ _ (do moveDown' (lo+k) (lo+l);pure (ForInStep.yield (none,()))) _ _
   rw[moveDown'_eq]
   have TX:lo+k<(arrOf x5).size:=by lia
   refine wpS_bind (wpS_modify (wpS_pure ⟨rfl,iF.trans ((vI (lo:=lo) TX (by lia)).mono (bT _) (by lia)),?_⟩))
   rw[show min (k+1) n=k+1 by lia]
   intro i j hl gX hj
   show R r (bubble (arrOf x5) (lo+k) (lo+k-(lo+l))) i<=R r (bubble (arrOf x5) (lo+k) (lo+k-(lo+l))) j
   rw[t_ TX (by lia),t_ TX (by lia),show lo+k-(lo+k-(lo+l))=lo+l by lia]
   repeat' split
   all_goals first
    | (exfalso;lia)
    |exact wd _
    |exact DT _ (by lia) (by lia)
    |exact A3 (An _ (by lia) (by lia))
    |exact gV _ _ (by lia) (by lia) (by lia)
end
def ascL(lo a nrem:Nat):StateT SortSt Sem AscSt :=
 forIn [a:nrem] ((none,a):AscSt) fun _ __s=>do
  let __x ← ltAt' (lo + __s.snd) (lo + __s.snd - 1)
  match __x with
  |some smaller=>if smaller=true then pure (ForInStep.done (none,__s.snd)) else pure (ForInStep.yield (none,__s.snd+1))
  |_=>pure (ForInStep.done (some none,__s.snd))
def qP(lo n nrem:Nat):StateT SortSt Sem (Option Nat):=do
 reverseSlice' lo (lo+n)
 let __s ← ascL lo n nrem
 match __s.fst with
 |some r=>pure r
 |none=>pure (some __s.snd)
def zm(lo n nrem:Nat):StateT SortSt Sem DescSt :=
 forIn [n:nrem] ((none,n,0):DescSt) fun _ __s=>do
  let __x ← ltAt' (lo + __s.snd.fst) (lo + __s.snd.fst - 1)
  match __x with
  |some smaller =>
   if smaller=true then
    if __s.snd.snd>0 then do
     reverseSlice' (lo+__s.snd.fst-(__s.snd.snd+1)) (lo+__s.snd.fst)
     pure (ForInStep.yield (none,__s.snd.fst+1,0))
    else pure (ForInStep.yield (none,__s.snd.fst+1,0))
   else do
    let __x ← ltAt' (lo+__s.snd.fst - 1) (lo+__s.snd.fst)
    match __x with
    |some larger =>
     if larger=true then pure (ForInStep.done (none,__s.snd.fst,__s.snd.snd))
     else pure (ForInStep.yield (none,__s.snd.fst+1,__s.snd.snd+1))
    |_=>pure (ForInStep.done (some none,__s.snd.fst,__s.snd.snd))
  |_=>pure (ForInStep.done (some none,__s.snd.fst,__s.snd.snd))
def fM(lo n nrem:Nat):StateT SortSt Sem (Option Nat):=do
 liftM (rule "list.sort.descending-run")
 let __s ← zm lo (n+1) nrem
 match __s.fst with
 |some r=>pure r
 |none =>
  if __s.snd.snd>0 then do
   reverseSlice' (lo+__s.snd.fst-(__s.snd.snd+1)) (lo+__s.snd.fst)
   qP lo __s.snd.fst nrem
  else qP lo __s.snd.fst nrem
theorem qL(lo nrem:Nat):countRun' lo nrem=(do
  let __s ← ascL lo 1 nrem
  match __s.fst with
  |some r=>pure r
  |none =>
   if (__s.snd == nrem)=true then pure (some __s.snd)
   else if __s.snd>1 then do
    let __x ← ltAt' lo (lo+__s.snd - 1)
    match __x with
    |some XA=>if XA=true then pure (some __s.snd) else do
      reverseSlice' lo (lo+__s.snd)
      fM lo __s.snd nrem
    |_=>pure none
   else fM lo __s.snd nrem):=by
 rw[countRun'_eq]
 dsimp only
 unfold fM qP zm ascL
 congr 1
 funext __s
 obtain⟨r,n⟩:=__s
 cases r with
 |some r=>rfl
 |none =>
  dsimp only
  split
  ·rfl
  ·split
   ·congr 1
    funext x
    cases x with
    |none=>rfl
    |some XA =>
     dsimp only
     split
     ·rfl
     ·congr 1
      funext _r
      (congr 1;funext _u;congr 1;congr 1;funext s2;obtain⟨r2,n2,q2⟩:=s2;cases r2 with
       |some r2=>rfl
       |none=>(dsimp only;split;(congr 1;funext _v;(congr 1;funext _w;congr 1;(funext s3;obtain⟨r3,n3⟩:=s3;cases r3<;>rfl)));(congr 1;funext _w;congr 1;(funext s3;obtain⟨r3,n3⟩:=s3;cases r3<;>rfl))))
   ·(congr 1;funext _u;congr 1;congr 1;funext s2;obtain⟨r2,n2,q2⟩:=s2;cases r2 with
     |some r2=>rfl
     |none=>(dsimp only;split;(congr 1;funext _v;(congr 1;funext _w;congr 1;(funext s3;obtain⟨r3,n3⟩:=s3;cases r3<;>rfl)));(congr 1;funext _w;congr 1;(funext s3;obtain⟨r3,n3⟩:=s3;cases r3<;>rfl))))
section
variable {prog:Program}{w:World}{A:Around}{E:Value->Shared->Prop}{s:Shared}{κ:SortKind}{r:Value->Int}{P:Value->Prop}
theorem ud{st:SortSt}{lo a nrem:Nat}(C:lT prog w A s κ r P)(hk:kindOf st=κ)(hP:AllP P (arrOf st))(hn:lo+nrem<=(arrOf st).size)(ha:1<=a)(han:a<=nrem)
  (hs:Up r (arrOf st) lo (lo+a))
  (h:∀ n,a<=n->n<=nrem->Up r (arrOf st) lo (lo+n)->(n=nrem\/R r (arrOf st) (lo+n)<R r (arrOf st) (lo+n-1))->Q (none,n) st) :
  wpS (model prog w) A E s (ascL lo a nrem) Q st:=by
 unfold ascL
 refine wpS_forRange (I:=fun x c ag=>ag=st/\c=(none,x)/\Up r (arrOf st) lo (lo+x)) ?step ?fin ⟨rfl,rfl,hs⟩
 case fin =>
  rintro c ag ⟨rfl,rfl,gV⟩
  rw[show max a nrem=nrem by lia] at gV ⊢
  exact h nrem han (bT _) gV (.inl rfl)
 case step =>
  rintro x c ag TY hxn ⟨rfl,rfl,gV⟩
  dsimp only
  refine wpS_bind (lJ C hk hP (by lia) (by lia) ?_)
  by_cases vj:R r (arrOf ag) (lo+x)<R r (arrOf ag) (lo+x-1)
  ·simp only[vj,decide_true,if_true]
   exact wpS_pure (h x TY (by lia) gV (.inr vj))
  ·simp only[vj,decide_false,gu,if_false]
   refine wpS_pure ⟨rfl,rfl,fun i j hl gX hj=>?_⟩
   by_cases Nc:j<lo+x
   ·exact gV i j hl gX Nc
   ·have oq:j=lo+x:=by lia
    subst oq
    by_cases kz:i=lo+x
    ·subst kz;exact wd _
    ·exact wc (gV i (lo+x-1) hl (by lia) (by lia)) (Int.not_lt.mp vj)
theorem mZ{st:SortSt}{lo n nrem:Nat}(C:lT prog w A s κ r P)(hk:kindOf st=κ)(hP:AllP P (arrOf st))(hn:lo+nrem<=(arrOf st).size)(h1:1<=n)(BH:n<=nrem)
  (hs:Down r (arrOf st) lo (lo+n)) (h:∀ m ag,kS lo (lo+nrem) st ag->1<=m->m<=nrem->Up r (arrOf ag) lo (lo+m)->Q (some m) ag) :
  wpS (model prog w) A E s (qP lo n nrem) Q st:=by
 unfold qP
 have hsz:lo+n<=(arrOf st).size:=by lia
 refine wpS_bind (dU ?_)
 have iF:=gk (i:=lo) hsz
 refine wpS_bind (ud C (iF.kind.trans hk) (hP.perm iF.perm) (by rw[iF.size];exact hn) h1 BH ?_ fun m x6 rg T1 _=>wpS_pure (h m _ (iF.mono (bT _) (by lia)) (by lia) rg T1))
 intro i j hl gX hj
 show R r (mirror (arrOf st) lo (lo+n) ((lo+n-lo) / 2)) i<=R r (mirror (arrOf st) lo (lo+n) ((lo+n-lo) / 2)) j
 rw[nF hsz,nF hsz,if_pos (by lia),if_pos (by lia)]
 exact hs _ _ (by lia) (by lia) (by lia)
theorem yz{st:SortSt}{lo n nrem:Nat}(C:lT prog w A s κ r P)(hk:kindOf st=κ)(hP:AllP P (arrOf st))(hn:lo+nrem<=(arrOf st).size)(h1:1<=n)(BH:n<=nrem)
  (hs:Down r (arrOf st) lo (lo+n))
  (h:∀ m rh ag,kS lo (lo+nrem) st ag->n<=m->m<=nrem->Down r (arrOf ag) lo (lo+m)->rh+1<=m->(∀ i,lo+m-(rh+1)<=i->i<lo+m->R r (arrOf ag) i=R r (arrOf ag) (lo+m-1))->Q (none,m,rh) ag) :
  wpS (model prog w) A E s (zm lo n nrem) Q st:=by
 unfold zm
 refine wpS_forRange (I:=fun x c ag=>∃ rh,c=(none,x,rh)/\kS lo (lo+nrem) st ag/\Down r (arrOf ag) lo (lo+x)/\rh+1<=x /\
   (∀ i,lo+x-(rh+1)<=i->i<lo+x->R r (arrOf ag) i=R r (arrOf ag) (lo+x-1))) ?step ?fin ⟨0,rfl,.refl _ _ _,hs,by lia,fun i h1 h2=>by congr 1;lia⟩
 case fin =>
  rintro c ag ⟨rh,rfl,iF,gV,hq,he⟩
  rw[show max n nrem=nrem by lia] at gV hq he ⊢
  exact h nrem rh ag iF BH (bT _) gV hq he
 case step =>
  rintro x c ag TY hxn ⟨rh,rfl,iF,gV,hq,he⟩
  dsimp only
  have hz:=iF.size
  have hsz:lo+x<=(arrOf ag).size:=by lia
  have ja:=iF.kind.trans hk
  have qV:=hP.perm iF.perm
  refine wpS_bind (lJ C ja qV (by lia) (by lia) ?_)
  by_cases vj:R r (arrOf ag) (lo+x)<R r (arrOf ag) (lo+x-1)
  ·simp only[vj,decide_true,if_true]
   have XB:∀ xs:Array Keyed,(∀ k,R r xs k=R r (arrOf ag) k)->Down r xs lo (lo+(x+1)):=by
    intro xs XC i j hl gX hj
    rw[XC,XC]
    by_cases Nc:j<lo+x
    ·exact gV i j hl gX Nc
    ·have oq:j=lo+x:=by lia
     subst oq
     by_cases kz:i=lo+x
     ·subst kz;exact wd _
     ·exact wc (A3 vj) (gV i (lo+x-1) hl (by lia) (by lia))
   by_cases Nn:rh>0
   ·rw[if_pos Nn]
    refine wpS_bind (dU (wpS_pure ⟨0,rfl,iF.trans ((gk hsz).mono (by lia) (by lia)),XB _ (bZ hsz he),by lia,fun i h1 h2=>by congr 1;lia⟩))
   ·rw[if_neg Nn]
    exact wpS_pure ⟨0,rfl,iF,XB _ (fun _=>rfl),by lia,fun i h1 h2=>by congr 1;lia⟩
  ·simp only[vj,decide_false,gu,if_false]
   refine wpS_bind (lJ C ja qV (by lia) (by lia) ?_)
   by_cases XD:R r (arrOf ag) (lo+x-1)<R r (arrOf ag) (lo+x)
   ·simp only[XD,decide_true,if_true]
    exact wpS_pure (h x rh ag iF TY (by lia) gV hq he)
   ·simp only[XD,decide_false,gu,if_false]
    have XE:R r (arrOf ag) (lo+x)=R r (arrOf ag) (lo+x-1):=by lia
    refine wpS_pure ⟨rh+1,rfl,iF,fun i j hl gX hj=>?_,by lia,fun i h1 h2=>?_⟩
    ·by_cases Nc:j<lo+x
     ·exact gV i j hl gX Nc
     ·have oq:j=lo+x:=by lia
      subst oq
      by_cases kz:i=lo+x
      ·subst kz;exact wd _
      ·rw[XE];exact gV i (lo+x-1) hl (by lia) (by lia)
    ·rw[show lo+(x+1)-1=lo+x by lia]
     by_cases w4:i=lo+x
     ·subst w4;rfl
     ·rw[XE];exact he i (by lia) (by lia)
theorem iu{st:SortSt}{lo n nrem:Nat}(C:lT prog w A s κ r P)(hk:kindOf st=κ)(hP:AllP P (arrOf st))(hn:lo+nrem<=(arrOf st).size)(BH:n+1<=nrem)
  (hs:Down r (arrOf st) lo (lo+(n+1))) (h:∀ m ag,kS lo (lo+nrem) st ag->1<=m->m<=nrem->Up r (arrOf ag) lo (lo+m)->Q (some m) ag) :
  wpS (model prog w) A E s (fM lo n nrem) Q st:=by
 unfold fM
 refine wpS_bind (wpS_lift (wpAny_rule ⟨rfl,?_⟩))
 refine wpS_bind (yz C hk hP hn (by lia) BH hs fun m rh ag iF x6 rg gV hq he=>?_)
 dsimp only
 have hz:=iF.size
 have hsz:lo+m<=(arrOf ag).size:=by lia
 have ja:=iF.kind.trans hk
 have qV:=hP.perm iF.perm
 by_cases Nn:rh>0
 ·rw[if_pos Nn]
  have hW:=gk (i:=lo+m-(rh+1)) hsz
  refine wpS_bind (dU (mZ C (hW.kind.trans ja) (qV.perm hW.perm) (by rw[hW.size,hz];exact hn) (by lia) rg ?_ fun m2 wq Nw=>h m2 wq ((iF.trans (hW.mono (by lia) (by lia))).trans Nw)))
  intro i j hl gX hj
  show R r (mirror (arrOf ag) _ _ _) j<=R r (mirror (arrOf ag) _ _ _) i
  rw[bZ hsz he,bZ hsz he]
  exact gV i j hl gX hj
 ·rw[if_neg Nn]
  exact mZ C ja qV (by rw[hz];exact hn) (by lia) rg gV fun m2 wq Nw=>h m2 wq (iF.trans Nw)
theorem wpS_countRun{st:SortSt}{lo nrem:Nat}(C:lT prog w A s κ r P)(hk:kindOf st=κ)(hP:AllP P (arrOf st))(hn:lo+nrem<=(arrOf st).size)(h1:1<=nrem)
  (h:∀ m ag,kS lo (lo+nrem) st ag->1<=m->m<=nrem->Up r (arrOf ag) lo (lo+m)->Q (some m) ag) :
  wpS (model prog w) A E s (countRun' lo nrem) Q st:=by
 rw[qL]
 refine wpS_bind (ud C hk hP hn (bT 1) h1 (fun i j hl gX hj=>by
  have:i=j:=by lia
  subst this;exact wd _) fun n XF IA pE hor=>?_)
 dsimp only
 by_cases BH:n=nrem
 ·rw[if_pos (by simpa using BH)]
  exact wpS_pure (h n st (.refl _ _ _) XF IA pE)
 ·rw[if_neg (by simpa using BH)]
  have dr:R r (arrOf st) (lo+n)<R r (arrOf st) (lo+n-1):=hor.resolve_left BH
  by_cases XG:n>1
  ·rw[if_pos XG]
   refine wpS_bind (lJ C hk hP (by lia) (by lia) ?_)
   by_cases XH:R r (arrOf st) lo<R r (arrOf st) (lo+n-1)
   ·simp only[XH,decide_true,if_true]
    exact wpS_pure (h n st (.refl _ _ _) XF IA pE)
   ·simp only[XH,decide_false,gu,if_false]
    have hsz:lo+n<=(arrOf st).size:=by lia
    have pj:∀ k,lo<=k->k<lo+n->R r (arrOf st) k=R r (arrOf st) (lo+n-1):=by
     intro k hl hk
     have a1:=pE lo k (by lia) hl hk
     have a2:=pE k (lo+n-1) hl (by lia) (by lia)
     lia
    have hW:=gk (i:=lo) hsz
    refine wpS_bind (dU (iu C (hW.kind.trans hk) (hP.perm hW.perm) (by rw[hW.size];exact hn) (by lia) ?_ fun m2 wq Nw=>h m2 wq ((hW.mono (bT _) (by lia)).trans Nw)))
    intro i j hl gX hj
    show R r (mirror (arrOf st) _ _ _) j<=R r (mirror (arrOf st) _ _ _) i
    rw[bZ hsz pj,bZ hsz pj]
    by_cases hjn:j<lo+n
    ·rw[pj i hl (by lia),pj j (by lia) hjn];exact wd _
    ·have oq:j=lo+n:=by lia
     subst oq
     by_cases kz:i=lo+n
     ·subst kz;exact wd _
     ·rw[pj i hl (by lia)];exact A3 dr
  ·rw[if_neg XG]
   have du':n=1:=by lia
   subst du'
   refine iu C hk hP hn (by lia) ?_ h
   intro i j hl gX hj
   by_cases kz:i=j
   ·subst kz;exact wd _
   ·have sP:i=lo:=by lia
    have IG:j=lo+1:=by lia
    subst sP;subst IG
    exact A3 dr
end
def xm(left:Bool)(key:Keyed)(arr:Array Keyed)(base i:Nat):StateT SortSt Sem (Option Bool):=do
 let x ← elem' arr (base+i)
 if left then lt' x key else return (<- lt' key x).map (!·)
def lF:Bool->Keyed->Array Keyed->Nat->Nat->Nat->StateT SortSt Sem (Option Nat):=sortPriv% PySem.Builtin.gallop
section
variable {prog:Program}{w:World}{A:Around}{E:Value->Shared->Prop}{s:Shared}{κ:SortKind}{r:Value->Int}{P:Value->Prop}
def eR(r:Value->Int)(left:Bool)(key:Keyed)(arr:Array Keyed)(base i:Nat):Bool :=
 if left then decide (R r arr (base+i)<r key.1) else !decide (r key.1<R r arr (base+i))
theorem eG{st:SortSt}(C:lT prog w A s κ r P)(hk:kindOf st=κ)(hP:AllP P arr)(hy:P key.1)(hi:base+i<arr.size)
  (h:Q (some (eR r left key arr base i)) st):wpS (model prog w) A E s (xm left key arr base i) Q st:=by
 unfold xm
 refine wpS_bind (aK hi fun p ep=>?_)
 have e1:R r arr (base+i)=r p.1:=by unfold R;rw[ep]
 unfold eR at h
 rw[e1] at h
 cases left with
 |true =>
  simp only[if_true] at h ⊢
  exact pR C hk (hP.at ep) hy h
 |false =>
  simp only[gu,if_false] at h ⊢
  exact wpS_bind (pR C hk hy (hP.at ep) (wpS_pure h))
theorem zN(hu:Up r arr base (base+n))(gX:i<=j)(hj:j<n)(h:eR r left key arr base j=true):eR r left key arr base i=true:=by
 have q:=hu (base+i) (base+j) (by lia) (by lia) (by lia)
 unfold eR at h ⊢
 cases left with
 |true=>simp only[if_true,decide_eq_true_eq] at h ⊢;lia
 |false=>simp only[gu,if_false,Sf,decide_eq_false_iff_not] at h ⊢;lia
theorem dw{st:SortSt}{base n hint:Nat}(C:lT prog w A s κ r P)(hk:kindOf st=κ)(hP:AllP P arr)(hy:P key.1)(hn:base+n<=arr.size)(hh:hint<n)
  (hu:Up r arr base (base+n))
  (h:∀ k,k<=n->(∀ i,i<k->eR r left key arr base i=true)->(∀ i,k<=i->i<n->eR r left key arr base i=false)->Q (some k) st):wpS (model prog w) A E s (lF left key arr base n hint) Q st:=by
 have mono:∀ {i j},i<=j->j<n->eR r left key arr base j=true->eR r left key arr base i=true:=fun a b c=>zN hu a b c
 have QR:∀ {i j},i<=j->j<n->eR r left key arr base i=false->eR r left key arr base j=false:=fun {i j} a b c=>by
  cases q:eR r left key arr base j with
  |false=>rfl
  |true=>rw[mono a b q] at c;cases c
 refine wpS_bind (eG C hk hP hy (by lia) ?_)
 dsimp only
 cases q0:eR r left key arr base hint with
 |true =>
  simp only[if_true]
  refine wpS_bind (wpS_mono (wpS_forRange (I:=fun x c ag=>ag=st/\∃ lst eK,c=(none,lst,eK)/\lst<eK/\lst<n-hint/\x+1<=eK/\eR r left key arr base (hint+lst)=true)
   (Q:=fun c ag=>ag=st/\∃ lst eK,c=(none,lst,eK)/\lst<eK/\lst<n-hint/\eR r left key arr base (hint+lst)=true/\(n-hint<=eK\/eR r left key arr base (hint+eK)=false)) ?step ?fin ?init) ?post)
  case init=>exact⟨rfl,0,1,rfl,by lia,by lia,by lia,q0⟩
  case fin =>
   rintro c ag ⟨rfl,lst,eK,rfl,h1,h2,h3,h4⟩
   exact⟨rfl,lst,eK,rfl,h1,h2,h4,.inl (by lia)⟩
  case step =>
   rintro x c ag _ hx ⟨rfl,lst,eK,rfl,h1,h2,h3,h4⟩
   dsimp only
   by_cases pz:eK >= n-hint
   ·rw[if_pos pz]
    exact wpS_pure ⟨rfl,lst,eK,rfl,h1,h2,h4,.inl pz⟩
   ·rw[if_neg pz]
    refine wpS_bind (eG C hk hP hy (by lia) ?_)
    cases q:eR r left key arr base (hint+eK) with
    |true =>
     simp only[GW,gu,if_false]
     exact wpS_pure ⟨rfl,_,_,rfl,by lia,by lia,by lia,q⟩
    |false =>
     simp only[Bool.not_false,if_true]
     exact wpS_pure ⟨rfl,lst,eK,rfl,h1,h2,h4,.inr q⟩
  case post =>
   rintro c ag ⟨rfl,lst,eK,rfl,h1,h2,h4,h5⟩
   dsimp only
   generalize ag=st at *
   have hl:∀ i,i<hint+lst+1->eR r left key arr base i=true:=fun i hi=>mono (j:=hint+lst) (by lia) (by lia) h4
   have An:∀ i,hint+min eK (n-hint)<=i->i<n->eR r left key arr base i=false:=fun i hi ay=>by
    rcases h5 with h5|h5
    ·lia
    ·by_cases z:n-hint<=eK
     ·lia
     ·exact QR (i:=hint+eK) (by lia) ay h5
   have T3:hint+lst+1<=hint+min eK (n-hint):=by lia
   have T4:hint+min eK (n-hint)<=n:=by lia
   generalize hint+lst+1=lo at *
   generalize hint+min eK (n-hint)=hi at *
   refine wpS_bind (wpS_mono (wpS_forRange (I:=fun x c ag=>ag=st/\∃ l u,c=(none,l,u)/\l<=u/\u<=n/\u-l<=n-x/\(∀ i,i<l->eR r left key arr base i=true)/\(∀ i,u<=i->i<n->eR r left key arr base i=false))
    (Q:=fun c ag=>ag=st/\∃ l,c=(none,l,l)/\l<=n/\(∀ i,i<l->eR r left key arr base i=true)/\(∀ i,l<=i->i<n->eR r left key arr base i=false)) ?dv' ?dw' ?dx') ?postA)
   case dx'=>exact⟨rfl,lo,hi,rfl,T3,T4,by lia,hl,An⟩
   case dw' =>
    rintro c ag ⟨rfl,l,u,rfl,h1,h2,h3,h4,h5⟩
    have:l=u:=by lia
    subst this
    exact⟨rfl,l,rfl,h2,h4,h5⟩
   case dv' =>
    rintro x c ag _ hx ⟨rfl,l,u,rfl,h1,h2,h3,h4,h5⟩
    dsimp only
    by_cases pz:l >= u
    ·rw[if_pos pz]
     have:l=u:=by lia
     subst this
     exact wpS_pure ⟨rfl,l,rfl,h2,h4,h5⟩
    ·rw[if_neg pz]
     refine wpS_bind (eG C hk hP hy (by lia) ?_)
     cases q:eR r left key arr base (l+(u-l) / 2) with
     |true =>
      simp only[if_true]
      exact wpS_pure ⟨rfl,_,_,rfl,by lia,by lia,by lia,fun i hi=>mono (j:=l+(u-l) / 2) (by lia) (by lia) q,h5⟩
     |false =>
      simp only[gu,if_false]
      exact wpS_pure ⟨rfl,_,_,rfl,by lia,by lia,by lia,h4,fun i hi ay=>QR (i:=l+(u-l) / 2) (by lia) ay q⟩
   case postA =>
    rintro c ag ⟨rfl,l,rfl,h2,h4,h5⟩
    exact wpS_pure (h l h2 h4 h5)
 |false =>
  simp only[gu,if_false]
  refine wpS_bind (wpS_mono (wpS_forRange (I:=fun x c ag=>ag=st/\∃ lst eK,c=(none,lst,eK)/\lst<eK/\lst<hint+1/\x+1<=eK/\eR r left key arr base (hint-lst)=false)
   (Q:=fun c ag=>ag=st/\∃ lst eK,c=(none,lst,eK)/\lst<eK/\lst<hint+1/\eR r left key arr base (hint-lst)=false/\(hint+1<=eK\/eR r left key arr base (hint-eK)=true)) ?dy' ?fin2 ?dz') ?dA')
  case dz'=>exact⟨rfl,0,1,rfl,by lia,by lia,by lia,q0⟩
  case fin2 =>
   rintro c ag ⟨rfl,lst,eK,rfl,h1,h2,h3,h4⟩
   exact⟨rfl,lst,eK,rfl,h1,h2,h4,.inl (by lia)⟩
  case dy' =>
   rintro x c ag _ hx ⟨rfl,lst,eK,rfl,h1,h2,h3,h4⟩
   dsimp only
   by_cases pz:eK >= hint+1
   ·rw[if_pos pz]
    exact wpS_pure ⟨rfl,lst,eK,rfl,h1,h2,h4,.inl pz⟩
   ·rw[if_neg pz]
    refine wpS_bind (eG C hk hP hy (by lia) ?_)
    cases q:eR r left key arr base (hint-eK) with
    |true =>
     simp only[if_true]
     exact wpS_pure ⟨rfl,lst,eK,rfl,h1,h2,h4,.inr q⟩
    |false =>
     simp only[gu,if_false]
     exact wpS_pure ⟨rfl,_,_,rfl,by lia,by lia,by lia,q⟩
  case dA' =>
   rintro c ag ⟨rfl,lst,eK,rfl,h1,h2,h4,h5⟩
   dsimp only
   generalize ag=st at *
   have hl:∀ i,i<hint+1-min eK (hint+1)->eR r left key arr base i=true:=fun i hi=>by
    rcases h5 with h5|h5
    ·lia
    ·by_cases z:hint+1<=eK
     ·lia
     ·exact mono (j:=hint-eK) (by lia) (by lia) h5
   have An:∀ i,hint-lst<=i->i<n->eR r left key arr base i=false:=fun i hi ay=>QR (i:=hint-lst) (by lia) ay h4
   have T3:hint+1-min eK (hint+1)<=hint-lst:=by lia
   have T4:hint-lst<=n:=by lia
   generalize hint+1-min eK (hint+1)=lo at *
   generalize hint-lst=hi at *
   refine wpS_bind (wpS_mono (wpS_forRange (I:=fun x c ag=>ag=st/\∃ l u,c=(none,l,u)/\l<=u/\u<=n/\u-l<=n-x/\(∀ i,i<l->eR r left key arr base i=true)/\(∀ i,u<=i->i<n->eR r left key arr base i=false))
    (Q:=fun c ag=>ag=st/\∃ l,c=(none,l,l)/\l<=n/\(∀ i,i<l->eR r left key arr base i=true)/\(∀ i,l<=i->i<n->eR r left key arr base i=false)) ?dB' ?dC' ?dD') ?dE')
   case dD'=>exact⟨rfl,lo,hi,rfl,T3,T4,by lia,hl,An⟩
   case dC' =>
    rintro c ag ⟨rfl,l,u,rfl,h1,h2,h3,h4,h5⟩
    have:l=u:=by lia
    subst this
    exact⟨rfl,l,rfl,h2,h4,h5⟩
   case dB' =>
    rintro x c ag _ hx ⟨rfl,l,u,rfl,h1,h2,h3,h4,h5⟩
    dsimp only
    by_cases pz:l >= u
    ·rw[if_pos pz]
     have:l=u:=by lia
     subst this
     exact wpS_pure ⟨rfl,l,rfl,h2,h4,h5⟩
    ·rw[if_neg pz]
     refine wpS_bind (eG C hk hP hy (by lia) ?_)
     cases q:eR r left key arr base (l+(u-l) / 2) with
     |true =>
      simp only[if_true]
      exact wpS_pure ⟨rfl,_,_,rfl,by lia,by lia,by lia,fun i hi=>mono (j:=l+(u-l) / 2) (by lia) (by lia) q,h5⟩
     |false =>
      simp only[gu,if_false]
      exact wpS_pure ⟨rfl,_,_,rfl,by lia,by lia,by lia,h4,fun i hi ay=>QR (i:=l+(u-l) / 2) (by lia) ay q⟩
   case dE' =>
    rintro c ag ⟨rfl,l,rfl,h2,h4,h5⟩
    exact wpS_pure (h l h2 h4 h5)
end
abbrev Le(r:Value->Int)(x y:Keyed):Prop:=r x.1<=r y.1
theorem nV(e:xs[i]? = some p):R r xs i=r p.1:=by unfold R;rw[e]
theorem Gs(h:i<xs.size):R r xs i=r xs[i].1:=nV (getElem?_pos xs i h)
structure MI(r:Value->Int)(a b out:Array Keyed)(ia ib:Nat):Prop where
 ha:ia<=a.size
 hb:ib<=b.size
 perm:out.toList.Perm (a.toList.take ia++b.toList.take ib)
 up:out.toList.Pairwise (Le r)
 la:∀ x∈out.toList,∀ i,ia<=i->i<a.size->r x.1<=R r a i
 lb:∀ x∈out.toList,∀ j,ib<=j->j<b.size->r x.1<=R r b j
section
variable {r:Value->Int}{a b out:Array Keyed}{ia ib:Nat}
theorem nj{α:Type}{l:List α}{i:Nat}{x:α}(h:l[i]? = some x):l.take (i+1)=l.take i++[x]:=by
 rw[CL,h];rfl
theorem MI.pI(M:MI r a b out ia ib)(hA:Up r a 0 a.size)(hB:Up r b 0 b.size){y:Keyed}(e:b[ib]? = some y)(hl:ia<a.size->R r b ib<=R r a ia):MI r a b (out.push y) ia (ib+1):=by
 have XI:ib<b.size:=(GY.mp e).1
 have ey:=nV (r:=r) e
 refine⟨M.ha,XI,?_,?_,?_,?_⟩
 ·rw[oi,nj (x:=y) (by simpa using e),<- xl]
  exact M.perm.append_right _
 ·rw[oi,FT]
  refine⟨M.up,by simp,fun x hx z hz=>?_⟩
  have:z=y:=by simpa using hz
  subst this
  show r x.1<=r z.1
  rw[<- ey]
  exact M.lb x hx ib (bT _) XI
 ·intro x hx i hi IH
  rw[oi] at hx
  rcases dP.mp hx with hx|hx
  ·exact M.la x hx i hi IH
  ·have:x=y:=by simpa using hx
   subst this
   rw[<- ey]
   exact wc (hl (by walk_at "s1")) (hA ia i (eI _) hi IH)
 ·intro x hx j hj NC
  rw[oi] at hx
  rcases dP.mp hx with hx|hx
  ·exact M.lb x hx j (by exact kR ‹_›) NC
  ·have:x=y:=by simpa using hx
   subst this
   rw[<- ey]
   exact hB ib j (eI _) (by exact kR ‹_›) NC
theorem MI.pY(M:MI r a b out ia ib)(hA:Up r a 0 a.size)(hB:Up r b 0 b.size){y:Keyed}(e:a[ia]? = some y)(hl:ib<b.size->R r a ia<=R r b ib):MI r a b (out.push y) (ia+1) ib:=by
 have IH:ia<a.size:=(GY.mp e).1
 have ey:=nV (r:=r) e
 refine⟨IH,M.hb,?_,?_,?_,?_⟩
 ·rw[oi,nj (x:=y) (by simpa using e),xl]
  refine(M.perm.append_right [y]).trans ?_
  rw[xl]
  exact List.Perm.append_left _ R3
 ·rw[oi,FT]
  refine⟨M.up,by simp,fun x hx z hz=>?_⟩
  have:z=y:=by simpa using hz
  subst this
  show r x.1<=r z.1
  rw[<- ey]
  exact M.la x hx ia (bT _) IH
 ·intro x hx i hi iE
  rw[oi] at hx
  rcases dP.mp hx with hx|hx
  ·exact M.la x hx i (by exact kR ‹_›) iE
  ·have:x=y:=by simpa using hx
   subst this
   rw[<- ey]
   exact hA ia i (eI _) (by exact kR ‹_›) iE
 ·intro x hx j hj NC
  rw[oi] at hx
  rcases dP.mp hx with hx|hx
  ·exact M.lb x hx j hj NC
  ·have:x=y:=by simpa using hx
   subst this
   rw[<- ey]
   exact wc (hl (by walk_at "s1")) (hB ib j (eI _) hj NC)
theorem gh{xs:Array Keyed}{i k:Nat}(h:i+k<xs.size):xs.extract i (i+(k+1))=(xs.extract i (i+k)).push xs[i+k]:=by
 apply P5.mp
 rw[oi]
 simp only[Sh,RX]
 rw[show i+(k+1)-i=k+1 by exact Nat.add_sub_cancel_left ..,show i+k-i=k by exact Nat.add_sub_cancel_left ..,CL]
 congr 1
 rw[List.getElem?_drop]
 simp[h]
theorem MI.BI(hA:Up r a 0 a.size)(hB:Up r b 0 b.size):∀ (k:Nat) {out:Array Keyed} {ia:Nat},MI r a b out ia ib->ia+k<=a.size->(ib<b.size->∀ i,i<k->R r a (ia+i)<=R r b ib)->MI r a b (out++a.extract ia (ia+k)) (ia+k) ib
 |0,out,ia,M,h1,h2=>by
  have:a.extract ia (ia+0) = #[]:=P0 (by simp only[ED];lia)
  rw[this]
  simpa using M
 |k+1,out,ia,M,h1,h2=>by
  have q:=MI.BI hA hB k M (by exact kR ‹_›) fun hb i hi=>h2 hb i (by exact tS ‹_›)
  have e:a[ia+k]? = some a[ia+k]:=getElem?_pos a (ia+k) (by assumption)
  have z:=q.pY hA hB e fun hb=>h2 hb k (by exact bT _)
  rw[gh (by assumption),Array.append_push]
  exact z
theorem MI.BM(hA:Up r a 0 a.size)(hB:Up r b 0 b.size):∀ (k:Nat) {out:Array Keyed} {ib:Nat},MI r a b out ia ib->ib+k<=b.size->(ia<a.size->∀ i,i<k->R r b (ib+i)<=R r a ia)->MI r a b (out++b.extract ib (ib+k)) ia (ib+k)
 |0,out,ib,M,h1,h2=>by
  have:b.extract ib (ib+0) = #[]:=P0 (by simp only[ED];lia)
  rw[this]
  simpa using M
 |k+1,out,ib,M,h1,h2=>by
  have q:=MI.BM hA hB k M (by exact kR ‹_›) fun ha i hi=>h2 ha i (by exact tS ‹_›)
  have e:b[ib+k]? = some b[ib+k]:=getElem?_pos b (ib+k) (by assumption)
  have z:=q.pI hA hB e fun ha=>h2 ha k (by exact bT _)
  rw[gh (by assumption),Array.append_push]
  exact z
def cG(r:Value->Int)(a b out:Array Keyed):Prop:=out.toList.Perm (a.toList++b.toList)/\out.toList.Pairwise (Le r)
theorem MI.whole(M:MI r a b out a.size b.size):cG r a b out:=by
 refine⟨?_,M.up⟩
 have h:=M.perm
 rw[Px (by simp),Px (by simp)] at h
 exact h
theorem MI.Jz(M:MI r a b out ia b.size)(hA:Up r a 0 a.size)(hB:Up r b 0 b.size):cG r a b (out++a.extract ia a.size++b.extract b.size b.size):=by
 have e:b.extract b.size b.size = #[]:=by simp
 rw[e,Si]
 have ha:=M.ha
 have q:=MI.BI hA hB (a.size-ia) M (by lia) fun hb=>absurd hb (sF _)
 rw[show ia+(a.size-ia)=a.size by exact LV ‹_›] at q
 exact q.whole
theorem MI.JC(M:MI r a b out a.size ib)(hA:Up r a 0 a.size)(hB:Up r b 0 b.size):cG r a b (out++a.extract a.size a.size++b.extract ib b.size):=by
 have e:a.extract a.size a.size = #[]:=by simp
 rw[e,Si]
 have hb:=M.hb
 have q:=MI.BM hA hB (b.size-ib) M (by lia) fun ha=>absurd ha (sF _)
 rw[show ib+(b.size-ib)=b.size by exact LV ‹_›] at q
 exact q.whole
theorem MI.II(M:MI r a b out ia ib)(hA:Up r a 0 a.size)(hB:Up r b 0 b.size)(e:ib=b.size):cG r a b (out++a.extract ia a.size++b.extract ib b.size):=by subst e;exact M.Jz hA hB
theorem MI.IJ(M:MI r a b out ia ib)(hA:Up r a 0 a.size)(hB:Up r b 0 b.size)(e:ia=a.size):cG r a b (out++a.extract ia a.size++b.extract ib b.size):=by subst e;exact M.JC hA hB
theorem MI.J1(M:MI r a b out ia ib)(hA:Up r a 0 a.size)(hB:Up r b 0 b.size)(IH:ia+1=a.size)(hg:∀ j,j<b.size->R r b j<=R r a ia):cG r a b (out++b.extract ib b.size++a.extract ia a.size):=by
 have hb:=M.hb
 have q:=MI.BM hA hB (b.size-ib) M (by lia) fun ha i hi=>hg _ (by lia)
 rw[show ib+(b.size-ib)=b.size by exact LV ‹_›] at q
 have z:=MI.BI hA hB (a.size-ia) q (by lia) fun hb=>absurd hb (sF _)
 rw[show ia+(a.size-ia)=a.size by lia] at z
 exact z.whole
theorem MI.start(hA:Up r a 0 a.size)(hB:Up r b 0 b.size):MI r a b #[] 0 0:=⟨eI _,eI _,by simp,by simp,fun x hx=>by simp at hx,fun x hx=>by simp at hx⟩
end
def bR:Nat->StateT SortSt Sem Unit:=sortPriv% PySem.Builtin.setMinGallop
def tK:Array Keyed->Array Keyed->StateT SortSt Sem (Array Keyed):=sortPriv% PySem.Builtin.mergeLo
def tW:Array Keyed->Array Keyed->StateT SortSt Sem (Array Keyed):=sortPriv% PySem.Builtin.mergeHi
theorem jB(g:Nat):bR g=modify fun s=>SortSt.mk' (kindOf s) (arrOf s) (pendingOf s) g (failedOf s):=rfl
def Mg(st ag:SortSt):Prop:=∃ g,ag=SortSt.mk' (kindOf st) (arrOf st) (pendingOf st) g (failedOf st)
theorem Mg.refl(st:SortSt):Mg st st:=⟨gallopOf st,rfl⟩
theorem Mg.kind{st ag:SortSt}(h:Mg st ag):kindOf ag=kindOf st:=by obtain⟨g,rfl⟩:=h;rfl
theorem Mg.set{st ag:SortSt}(h:Mg st ag)(g:Nat):Mg st (SortSt.mk' (kindOf ag) (arrOf ag) (pendingOf ag) g (failedOf ag)):=by obtain⟨g',rfl⟩:=h;exact⟨g,rfl⟩
section
variable {prog:Program}{w:World}{A:Around}{E:Value->Shared->Prop}{s:Shared}{r:Value->Int}
theorem iD{st:SortSt}(h:Q () (SortSt.mk' (kindOf st) (arrOf st) (pendingOf st) g (failedOf st))):wpS (model prog w) A E s (bR g) Q st:=by
 rw[jB];exact wpS_modify h
theorem zQ(h:eR r false key arr base i=true):R r arr (base+i)<=r key.1:=by
 unfold eR at h;simp only[gu,if_false,Sf,decide_eq_false_iff_not] at h;lia
theorem vW(h:eR r false key arr base i=false):r key.1<R r arr (base+i):=by
 unfold eR at h;simp only[gu,if_false,Bool.not_eq_false',decide_eq_true_eq] at h;exact h
theorem DW(h:eR r true key arr base i=true):R r arr (base+i)<r key.1:=by
 unfold eR at h;simp only[if_true,decide_eq_true_eq] at h;exact h
theorem uE(h:eR r true key arr base i=false):r key.1<=R r arr (base+i):=by
 unfold eR at h;simp only[if_true,decide_eq_false_iff_not] at h;lia
end
theorem Mg.trans(h:Mg a b)(g:Mg b c):Mg a c:=by obtain⟨x,rfl⟩:=h;obtain⟨y,rfl⟩:=g;exact⟨y,rfl⟩
theorem Gb{K G:Prop}(pk:K)(h:K->G):G:=h pk
abbrev SM:=StateT SortSt Sem
abbrev L1:=Option (Array Keyed) × Array Keyed × Nat × Nat × Nat
abbrev EW:=Option (Array Keyed) × Array Keyed × Nat × Nat × Nat × Nat
abbrev L3:=Option (Array Keyed) × Array Keyed × Nat × Nat × Nat × Nat × Nat
def DV(a b out:Array Keyed)(ia ib:Nat):Array Keyed:=out++a.extract ia a.size++b.extract ib b.size
def ND(a b out:Array Keyed)(ia ib:Nat):Array Keyed:=out++b.extract ib b.size++a.extract ia a.size
def T5(a b:Array Keyed)(mg ac bc ia ib:Nat)(out:Array Keyed):SM (ForInStep L3):=elem' a ia >>= fun p =>
 if (ia+1+1 == a.size)=true then pure (.done (some (ND a b (out.push p) (ia+1) ib),out.push p,ia+1,ib,mg,ac,bc))
 else if (decide (ac<7) && decide (bc<7))=true then pure (.done (none,out.push p,ia+1,ib,mg,ac,bc)) else pure (.yield (none,out.push p,ia+1,ib,mg,ac,bc))
def EX(a b:Array Keyed)(mg ac bc ia ib:Nat)(out:Array Keyed):SM (ForInStep L3):=elem' a ia >>= fun p=>lF true p b ib (b.size-ib) 0 >>= fun x=>match x with
 |some k=>if k>0 then
   if (ib+k == b.size)=true then pure (.done (some (DV a b (out++b.extract ib (ib+k)) ia (ib+k)),out++b.extract ib (ib+k),ia,ib+k,mg,ac,k))
   else T5 a b mg ac k ia (ib+k) (out++b.extract ib (ib+k))
  else T5 a b mg ac k ia ib out
 |_=>pure (.done (some (DV a b out ia ib),out,ia,ib,mg,ac,bc))
def lo1(a b:Array Keyed)(mg ac bc ia ib:Nat)(out:Array Keyed):SM (ForInStep L3):=elem' b ib >>= fun p =>
 if (ib+1 == b.size)=true then pure (.done (some (DV a b (out.push p) ia (ib+1)),out.push p,ia,ib+1,mg,ac,bc)) else EX a b mg ac bc ia (ib+1) (out.push p)
def T6(a b:Array Keyed)(mg ac bc ia ib:Nat)(out:Array Keyed):SM (ForInStep L3):=bR mg >>= fun _=>elem' b ib >>= fun p=>lF false p a ia (a.size-ia) 0 >>= fun x=>match x with
 |some k=>if k>0 then
   if (ia+k+1 == a.size)=true then pure (.done (some (ND a b (out++a.extract ia (ia+k)) (ia+k) ib),out++a.extract ia (ia+k),ia+k,ib,mg,k,bc))
   else if (ia+k == a.size)=true then pure (.done (some (DV a b (out++a.extract ia (ia+k)) (ia+k) ib),out++a.extract ia (ia+k),ia+k,ib,mg,k,bc))
   else lo1 a b mg k bc (ia+k) ib (out++a.extract ia (ia+k))
  else lo1 a b mg k bc ia ib out
 |_=>pure (.done (some (DV a b out ia ib),out,ia,ib,mg,ac,bc))
def XJ(a b:Array Keyed)(_:Nat)(s:L3):SM (ForInStep L3) :=
 if s.2.2.2.2.1>1 then T6 a b (s.2.2.2.2.1-1) s.2.2.2.2.2.1 s.2.2.2.2.2.2 s.2.2.1 s.2.2.2.1 s.2.1 else T6 a b s.2.2.2.2.1 s.2.2.2.2.2.1 s.2.2.2.2.2.2 s.2.2.1 s.2.2.2.1 s.2.1
def XM(a b:Array Keyed)(mg bc ia ib:Nat)(out:Array Keyed):SM (ForInStep EW):=elem' b ib >>= fun p =>
 if (ib+1 == b.size)=true then pure (.done (some (DV a b (out.push p) ia (ib+1)),out.push p,ia,ib+1,0,bc+1))
 else if bc+1 >= mg then pure (.done (none,out.push p,ia,ib+1,0,bc+1)) else pure (.yield (none,out.push p,ia,ib+1,0,bc+1))
def XO(a b:Array Keyed)(mg ac ia ib:Nat)(out:Array Keyed):SM (ForInStep EW):=elem' a ia >>= fun p =>
 if (ia+1+1 == a.size)=true then pure (.done (some (ND a b (out.push p) (ia+1) ib),out.push p,ia+1,ib,ac+1,0))
 else if ac+1 >= mg then pure (.done (none,out.push p,ia+1,ib,ac+1,0)) else pure (.yield (none,out.push p,ia+1,ib,ac+1,0))
def XQ(a b:Array Keyed)(mg:Nat)(_:Nat)(s:EW):SM (ForInStep EW):=elem' b s.2.2.2.1 >>= fun pb=>elem' a s.2.2.1 >>= fun pa=>lt' pb pa >>= fun x=>match x with
 |some w=>if w=true then XM a b mg s.2.2.2.2.2 s.2.2.1 s.2.2.2.1 s.2.1 else XO a b mg s.2.2.2.2.1 s.2.2.1 s.2.2.2.1 s.2.1
 |_=>pure (.done (some (DV a b s.2.1 s.2.2.1 s.2.2.2.1),s.2.1,s.2.2.1,s.2.2.2.1,s.2.2.2.2.1,s.2.2.2.2.2))
def XR (a b:Array Keyed) (mg:Nat) (t:EW):SM (ForInStep L1):=(liftM (rule "list.sort.gallop"):SM Unit) >>= fun _ =>
 forIn [:a.size+b.size] ((none,t.2.1,t.2.2.1,t.2.2.2.1,mg+1,t.2.2.2.2.1,t.2.2.2.2.2):L3) (XJ a b) >>= fun u=>match u.1 with
 |some r=>pure (.done (some r,u.2.1,u.2.2.1,u.2.2.2.1,u.2.2.2.2.1))
 |none=>bR (u.2.2.2.2.1+1) >>= fun _=>pure (.yield (none,u.2.1,u.2.2.1,u.2.2.2.1,u.2.2.2.2.1+1))
def XS(a b:Array Keyed)(_:Nat)(s:L1):SM (ForInStep L1):=forIn [:a.size+b.size] ((none,s.2.1,s.2.2.1,s.2.2.2.1,0,0):EW) (XQ a b s.2.2.2.2) >>= fun t=>match t.1 with
 |some r=>pure (.done (some r,t.2.1,t.2.2.1,t.2.2.2.1,s.2.2.2.2))
 |none=>XR a b s.2.2.2.2 t
def loM (a b:Array Keyed):SM (Array Keyed):=(liftM (rule "list.sort.merge-lo"):SM Unit) >>= fun _=>elem' b 0 >>= fun y =>
 if (1 == b.size)=true then pure (DV a b #[y] 0 1)
 else if (0+1 == a.size)=true then pure (ND a b #[y] 0 1)
 else get >>= fun st=>forIn [:a.size+b.size] ((none,#[y],0,1,gallopOf st):L1) (XS a b) >>= fun t=>match t.1 with
 |some r=>pure r
 |none=>(liftM (unsupported (α:=Array Keyed) "internal:list.sort.merge-bound"):SM (Array Keyed))
set_option smartUnfolding false in
theorem uI:tK=loM:=rfl
section
variable {prog:Program}{w:World}{A:Around}{E:Value->Shared->Prop}{s:Shared}{κ:SortKind}{r:Value->Int}{P:Value->Prop}{a b out:Array Keyed}{mg ac bc ia ib N:Nat}{st:SortSt}
structure MC(prog:Program)(w:World)(A:Around)(s:Shared)(κ:SortKind)(r:Value->Int)(P:Value->Prop)(a b:Array Keyed):Prop where
 C:lT prog w A s κ r P
 pa:AllP P a
 pb:AllP P b
 hA:Up r a 0 a.size
 hB:Up r b 0 b.size
 hl:∀ i,i<a.size->R r b 0<=R r a i
 hg:∀ j,j<b.size->R r b j<=R r a (a.size-1)
def HS(r:Value->Int)(a b:Array Keyed)(c:Option (Array Keyed) × β):Prop:=∃ out rest,c=(some out,rest)/\cG r a b out
def LY(r:Value->Int)(a b:Array Keyed)(N:Nat)(c:L3):Prop:=∃ out ia ib mg ac bc,c=(none,out,ia,ib,mg,ac,bc)/\MI r a b out ia ib/\ia+1<a.size/\ib<b.size/\N<=ia+ib
def LI(r:Value->Int)(a b:Array Keyed)(N:Nat)(c:EW):Prop:=∃ out ia ib ac bc,c=(none,out,ia,ib,ac,bc)/\MI r a b out ia ib/\ia+1<a.size/\ib<b.size/\N<=ia+ib
theorem MC.last(c:MC prog w A s κ r P a b)(M:MI r a b out ia ib)(z:ia+1=a.size):cG r a b (ND a b out ia ib):=M.J1 c.hA c.hB z fun j hj=>by
 have:=c.hg j hj
 rwa[show a.size-1=ia by lia] at this
theorem BW(c:MC prog w A s κ r P a b)(M:MI r a b out ia ib)(h1:ia+1<a.size)(lt:R r a ia<=R r b ib)(h2:ib<b.size)(hN:N<=ia+ib)(D:∀ c,HS r a b c->Q (.done c) st)(Y:∀ c,LY r a b N c->Q (.done c) st/\Q (.yield c) st):wpS (model prog w) A E s (T5 a b mg ac bc ia ib out) Q st:=by
 refine wpS_bind (aK (by lia) fun p e=>?_)
 have M2:=M.pY c.hA c.hB e fun _=>lt
 by_cases z:ia+1+1=a.size
 ·rw[if_pos (by simpa using z)]
  exact wpS_pure (D _ ⟨_,_,rfl,c.last M2 z⟩)
 ·rw[if_neg (by simpa using z)]
  have y:=Y _ ⟨_,_,_,mg,ac,bc,rfl,M2,by lia,h2,by lia⟩
  split
  ·exact wpS_pure y.1
  ·exact wpS_pure y.2
theorem Hw(c:MC prog w A s κ r P a b)(hk:kindOf st=κ)(M:MI r a b out ia ib)(h1:ia+1<a.size)(h2:ib<b.size)(hN:N<=ia+ib)(D:∀ c,HS r a b c->Q (.done c) st)(Y:∀ c,LY r a b N c->Q (.done c) st/\Q (.yield c) st):wpS (model prog w) A E s (EX a b mg ac bc ia ib out) Q st:=by
 refine wpS_bind (aK (by lia) fun p e=>wpS_bind (dw c.C hk c.pb (c.pa.at e) (by lia) (by lia) (fun i j u v w=>c.hB i j (by lia) v (by lia)) fun l IL uS IQ=>?_))
 have ra:=nV (r:=r) e
 dsimp only
 have lt:ib+l<b.size->R r a ia<=R r b (ib+l):=fun z=>by have:=uE (IQ l (bT _) (by lia));lia
 by_cases l0:l>0
 ·have M5:=MI.BM c.hA c.hB l M (by lia) fun _ i hi=>by have:=DW (uS i hi);lia
  rw[if_pos l0]
  by_cases z:ib+l=b.size
  ·rw[if_pos (by simpa using z)]
   exact wpS_pure (D _ ⟨_,_,rfl,M5.II c.hA c.hB z⟩)
  ·rw[if_neg (by simpa using z)]
   exact BW c M5 h1 (lt (by lia)) (by lia) (by lia) D Y
 ·rw[if_neg l0]
  obtain rfl:l=0:=by lia
  exact BW c M h1 (lt h2) h2 hN D Y
theorem Cj(c:MC prog w A s κ r P a b)(hk:kindOf st=κ)(M:MI r a b out ia ib)(h1:ia+1<a.size)(lt:R r b ib<=R r a ia)(h2:ib<b.size)(hN:N<=ia+ib)(D:∀ c,HS r a b c->Q (.done c) st)(Y:∀ c,LY r a b N c->Q (.done c) st/\Q (.yield c) st):wpS (model prog w) A E s (lo1 a b mg ac bc ia ib out) Q st:=by
 refine wpS_bind (aK h2 fun p e=>?_)
 have M4:=M.pI c.hA c.hB e fun _=>lt
 by_cases z:ib+1=b.size
 ·rw[if_pos (by simpa using z)]
  exact wpS_pure (D _ ⟨_,_,rfl,M4.II c.hA c.hB z⟩)
 ·rw[if_neg (by simpa using z)]
  exact Hw c hk M4 h1 (by lia) (by lia) D Y
theorem Ip(c:MC prog w A s κ r P a b)(hk:kindOf st=κ)(M:MI r a b out ia ib)(h1:ia+1<a.size)(h2:ib<b.size)(hN:N<=ia+ib)(D:∀ ag,Mg st ag->∀ c,HS r a b c->Q (.done c) ag)(Y:∀ ag,Mg st ag->∀ c,LY r a b N c->Q (.done c) ag/\Q (.yield c) ag):wpS (model prog w) A E s (T6 a b mg ac bc ia ib out) Q st:=by
 have g:=(Mg.refl st).set mg
 refine wpS_bind (iD ?_)
 refine wpS_bind (aK h2 fun p e=>wpS_bind (dw c.C (g.kind.trans hk) c.pa (c.pb.at e) (by lia) (by lia) (fun i j u v w=>c.hA i j (by lia) v (by lia)) fun k XT vk EZ=>?_))
 have rb:=nV (r:=r) e
 dsimp only
 have lt:ia+k<a.size->R r b ib<=R r a (ia+k):=fun z=>by have:=vW (EZ k (bT _) (by lia));lia
 by_cases k0:k>0
 ·have M3:=MI.BI c.hA c.hB k M (by lia) fun _ i hi=>by have:=zQ (vk i hi);lia
  rw[if_pos k0]
  by_cases z:ia+k+1=a.size
  ·rw[if_pos (by simpa using z)]
   exact wpS_pure (D _ g _ ⟨_,_,rfl,c.last M3 z⟩)
  ·rw[if_neg (by simpa using z)]
   by_cases z2:ia+k=a.size
   ·rw[if_pos (by simpa using z2)]
    exact wpS_pure (D _ g _ ⟨_,_,rfl,M3.IJ c.hA c.hB z2⟩)
   ·rw[if_neg (by simpa using z2)]
    exact Cj c (g.kind.trans hk) M3 (by lia) (lt (by lia)) h2 (by lia) (D _ g) (Y _ g)
 ·rw[if_neg k0]
  obtain rfl:k=0:=by lia
  exact Cj c (g.kind.trans hk) M h1 (lt (by lia)) h2 hN (D _ g) (Y _ g)
theorem HH(c:MC prog w A s κ r P a b)(M:MI r a b out ia ib)(h1:ia+1<a.size)(lt:R r b ib<=R r a ia)(h2:ib<b.size)(hN:N<=ia+ib+1)(D:∀ c,HS r a b c->Q (.done c) st)(Y:∀ c,LI r a b N c->Q (.done c) st/\Q (.yield c) st):wpS (model prog w) A E s (XM a b mg bc ia ib out) Q st:=by
 refine wpS_bind (aK h2 fun p e=>?_)
 have M2:=M.pI c.hA c.hB e fun _=>lt
 by_cases z:ib+1=b.size
 ·rw[if_pos (by simpa using z)]
  exact wpS_pure (D _ ⟨_,_,rfl,M2.II c.hA c.hB z⟩)
 ·rw[if_neg (by simpa using z)]
  have y:=Y _ ⟨_,_,_,0,bc+1,rfl,M2,h1,by lia,hN⟩
  split
  ·exact wpS_pure y.1
  ·exact wpS_pure y.2
theorem Gu(c:MC prog w A s κ r P a b)(M:MI r a b out ia ib)(h1:ia+1<a.size)(lt:R r a ia<=R r b ib)(h2:ib<b.size)(hN:N<=ia+ib+1)(D:∀ c,HS r a b c->Q (.done c) st)(Y:∀ c,LI r a b N c->Q (.done c) st/\Q (.yield c) st):wpS (model prog w) A E s (XO a b mg ac ia ib out) Q st:=by
 refine wpS_bind (aK (by lia) fun p e=>?_)
 have M2:=M.pY c.hA c.hB e fun _=>lt
 by_cases z:ia+1+1=a.size
 ·rw[if_pos (by simpa using z)]
  exact wpS_pure (D _ ⟨_,_,rfl,c.last M2 z⟩)
 ·rw[if_neg (by simpa using z)]
  have y:=Y _ ⟨_,_,_,ac+1,0,rfl,M2,by lia,h2,by lia⟩
  split
  ·exact wpS_pure y.1
  ·exact wpS_pure y.2
theorem Hf(c:MC prog w A s κ r P a b)(hk:kindOf st=κ)(M:MI r a b out ia ib)(h1:ia+1<a.size)(h2:ib<b.size)(hN:N<=ia+ib+1)(D:∀ c,HS r a b c->Q (.done c) st)(Y:∀ c,LI r a b N c->Q (.done c) st/\Q (.yield c) st):wpS (model prog w) A E s (XQ a b mg x (none,out,ia,ib,ac,bc)) Q st:=by
 refine wpS_bind (aK h2 fun pb eb=>wpS_bind (aK (show ia<a.size by lia) fun pa ea=>wpS_bind (pR c.C hk (c.pb.at eb) (c.pa.at ea) ?_)))
 have rb:R r b ib=r pb.1:=nV eb
 have ra:R r a ia=r pa.1:=nV ea
 dsimp only
 by_cases hw:r pb.1<r pa.1
 ·rw[if_pos (decide_eq_true hw)]
  exact HH c M h1 (by lia) h2 hN D Y
 ·rw[if_neg (by simpa using hw)]
  exact Gu c M h1 (by lia) h2 hN D Y
theorem Hu(c:MC prog w A s κ r P a b)(hk:kindOf st=κ)(M:MI r a b out ia ib)(h1:ia+1<a.size)(h2:ib<b.size)(hN:N<=ia+ib)(D:∀ ag,Mg st ag->∀ c,HS r a b c->Q (.done c) ag)
  (Y:∀ ag,Mg st ag->∀ out ia ib mg,MI r a b out ia ib->ia+1<a.size->ib<b.size->N<=ia+ib->Q (.yield (none,out,ia,ib,mg)) ag):wpS (model prog w) A E s (XR a b mg (none,out,ia,ib,ac,bc)) Q st:=by
 refine wpS_bind (wpS_lift (wpAny_rule ⟨rfl,?_⟩))
 refine wpS_bind (wpS_mono (wpS_forRange (I:=fun _ c ag=>Mg st ag/\LY r a b N c) (Q:=fun c ag=>Mg st ag/\(HS r a b c\/LY r a b N c)) ?step ?fin ⟨.refl st,_,_,_,_,_,_,rfl,M,h1,h2,hN⟩) ?post)
 case fin =>
  rintro c ag ⟨hm,q⟩
  exact⟨hm,.inr q⟩
 case step =>
  rintro y c1 BO _ _ ⟨hm,out,ia,ib,mg,ac,bc,rfl,M,h1,h2,hN⟩
  unfold XJ
  dsimp only
  split<;>exact Ip c (hm.kind.trans hk) M h1 h2 hN (fun ag g c q=>⟨hm.trans g,.inl q⟩) fun ag g c q=>⟨⟨hm.trans g,.inr q⟩,hm.trans g,q⟩
 case post =>
  rintro c ag ⟨hm,⟨o,rest,rfl,hM⟩|⟨out,ia,ib,mg,ac,bc,rfl,M,h1,h2,hN⟩⟩
  ·exact wpS_pure (D _ hm _ ⟨_,_,rfl,hM⟩)
  ·exact wpS_bind (iD (wpS_pure (Y _ (hm.set _) _ _ _ _ M h1 h2 hN)))
theorem Gy(c:MC prog w A s κ r P a b)(hk:kindOf st=κ)(M:MI r a b out ia ib)(h1:ia+1<a.size)(h2:ib<b.size)(hN:N<=ia+ib)(D:∀ ag,Mg st ag->∀ c,HS r a b c->Q (.done c) ag)
  (Y:∀ ag,Mg st ag->∀ out ia ib mg,MI r a b out ia ib->ia+1<a.size->ib<b.size->N+1<=ia+ib->Q (.yield (none,out,ia,ib,mg)) ag):wpS (model prog w) A E s (XS a b x (none,out,ia,ib,mg)) Q st:=by
 refine wpS_bind (wpS_mono (wpS_forRange (I:=fun y c ag=>ag=st/\LI r a b (N+y) c) (Q:=fun c ag=>ag=st/\(HS r a b c\/LI r a b (N+1) c)) ?step ?fin ⟨rfl,_,_,_,_,_,rfl,M,h1,h2,hN⟩) ?post)
 case fin =>
  rintro c ag ⟨rfl,o,ia',ib',ac,bc,rfl,M',q1,q2,q3⟩
  exact⟨rfl,.inr ⟨_,_,_,_,_,rfl,M',q1,q2,by lia⟩⟩
 case step =>
  rintro y c1 BO _ hy ⟨rfl,o,ia',ib',ac,bc,rfl,M',q1,q2,q3⟩
  exact Hf (N:=N+y+1) c hk M' q1 q2 (by lia) (fun c q=>⟨rfl,.inl q⟩) fun c q=>by
   obtain⟨o,ia,ib,ac,bc,rfl,M,h1,h2,h3⟩:=q
   exact⟨⟨rfl,.inr ⟨_,_,_,_,_,rfl,M,h1,h2,by lia⟩⟩,rfl,_,_,_,_,_,rfl,M,h1,h2,by lia⟩
 case post =>
  rintro c1 ag ⟨rfl,⟨o,rest,rfl,hM⟩|⟨o,ia,ib,ac,bc,rfl,M',q1,q2,q3⟩⟩
  ·exact wpS_pure (D _ (.refl _) _ ⟨_,_,rfl,hM⟩)
  ·exact Hu c hk M' q1 q2 q3 D Y
theorem rC{st:SortSt}(C:lT prog w A s κ r P)(hk:kindOf st=κ)(T7:AllP P a)(T8:AllP P b)(hA:Up r a 0 a.size)(hB:Up r b 0 b.size)(na:1<=a.size)(nb:1<=b.size)
  (h0:R r b 0<=R r a 0) (hg:∀ j,j<b.size->R r b j<=R r a (a.size-1)) (h:∀ out ag,cG r a b out->Mg st ag->Q out ag):wpS (model prog w) A E s (tK a b) Q st:=by
 have c:MC prog w A s κ r P a b:=⟨C,T7,T8,hA,hB,fun i hi=>wc h0 (hA 0 i (bT _) (eI _) hi),hg⟩
 rw[uI]
 refine wpS_bind (wpS_lift (wpAny_rule ⟨rfl,?_⟩))
 refine wpS_bind (aK nb fun y0 e0=>?_)
 have M1:MI r a b #[y0] 0 1:=(MI.start hA hB).pI hA hB e0 fun _=>h0
 by_cases c1:1=b.size
 ·rw[if_pos (by simpa using c1)]
  exact wpS_pure (h _ _ (M1.II hA hB c1) (.refl st))
 ·rw[if_neg (by simpa using c1)]
  by_cases c2:0+1=a.size
  ·rw[if_pos (by simpa using c2)]
   exact wpS_pure (h _ _ (c.last M1 c2) (.refl st))
  ·rw[if_neg (by simpa using c2)]
   refine wpS_bind (wpS_get ?_)
   refine wpS_bind (wpS_mono (wpS_forRange (I:=fun x c ag=>Mg st ag/\∃ out ia ib mg,c=(none,out,ia,ib,mg)/\MI r a b out ia ib/\ia+1<a.size/\ib<b.size/\x+1<=ia+ib)
    (Q:=fun c ag=>Mg st ag/\HS r a b c) ?step ?fin ⟨.refl st,_,_,_,_,rfl,M1,by lia,by lia,by lia⟩) ?post)
   case fin =>
    rintro c ag ⟨_,out,ia,ib,mg,rfl,M,h1,h2,h3⟩
    lia
   case post =>
    rintro c ag ⟨hm,out,rest,rfl,hM⟩
    exact wpS_pure (h out ag hM hm)
   case step =>
    rintro x c1 BO _ hx ⟨x6,out,ia,ib,mg,rfl,M,h1,h2,h3⟩
    exact Gy (N:=x+1) c (x6.kind.trans hk) M h1 h2 h3 (fun ag g c q=>⟨x6.trans g,q⟩) fun ag g out ia ib mg M h1 h2 h3=>⟨x6.trans g,_,_,_,_,rfl,M,h1,h2,h3⟩
end
abbrev Ge(r:Value->Int)(x y:Keyed):Prop:=r y.1<=r x.1
structure MH(r:Value->Int)(a b out:Array Keyed)(na nb:Nat):Prop where
 ha:na<=a.size
 hb:nb<=b.size
 perm:out.toList.Perm (a.toList.drop na++b.toList.drop nb)
 down:out.toList.Pairwise (Ge r)
 ga:∀ x∈out.toList,∀ i,i<na->R r a i<=r x.1
 gb:∀ x∈out.toList,∀ j,j<nb->R r b j<=r x.1
section
variable {r:Value->Int}{a b out:Array Keyed}{na nb:Nat}
theorem qT{α:Type}{l:List α}{i:Nat}{x:α}(h0:0<i)(h:l[i-1]? = some x):l.drop (i-1)=x :: l.drop i:=by
 obtain⟨hi,e⟩:=ic.mp h
 rw[xk hi,e,show i-1+1=i by exact Nat.sub_add_cancel ‹_›]
theorem MH.pY(M:MH r a b out na nb)(hA:Up r a 0 a.size)(hB:Up r b 0 b.size)(h0:0<na){y:Keyed}(e:a[na-1]? = some y)(hl:0<nb->R r b (nb-1)<=R r a (na-1)):MH r a b (out.push y) (na-1) nb:=by
 have ey:=nV (r:=r) e
 have ha:=M.ha
 have hb:=M.hb
 refine⟨by lia,M.hb,?_,?_,?_,?_⟩
 ·rw[oi,qT (x:=y) h0 (by simpa using e)]
  refine(M.perm.append_right [y]).trans ?_
  exact R3
 ·rw[oi,FT]
  refine⟨M.down,by simp,fun x hx z hz=>?_⟩
  have:z=y:=by simpa using hz
  subst this
  show r z.1<=r x.1
  rw[<- ey]
  exact M.ga x hx (na-1) (by exact EC ‹_› EB)
 ·intro x hx i hi
  rw[oi] at hx
  rcases dP.mp hx with hx|hx
  ·exact M.ga x hx i (by walk_at "s4")
  ·have:x=y:=by simpa using hx
   subst this
   rw[<- ey]
   exact hA i (na-1) (eI _) (by exact kR ‹_›) (by lia)
 ·intro x hx j hj
  rw[oi] at hx
  rcases dP.mp hx with hx|hx
  ·exact M.gb x hx j hj
  ·have:x=y:=by simpa using hx
   subst this
   rw[<- ey]
   exact wc (hB j (nb-1) (eI _) (by lia) (by lia)) (hl (by lia))
theorem MH.pI(M:MH r a b out na nb)(hA:Up r a 0 a.size)(hB:Up r b 0 b.size)(h0:0<nb){y:Keyed}(e:b[nb-1]? = some y)(hl:0<na->R r a (na-1)<=R r b (nb-1)):MH r a b (out.push y) na (nb-1):=by
 have ey:=nV (r:=r) e
 have ha:=M.ha
 have hb:=M.hb
 refine⟨M.ha,by lia,?_,?_,?_,?_⟩
 ·rw[oi,qT (x:=y) h0 (by simpa using e)]
  refine(M.perm.append_right [y]).trans ?_
  rw[xl]
  exact List.Perm.append_left _ R3
 ·rw[oi,FT]
  refine⟨M.down,by simp,fun x hx z hz=>?_⟩
  have:z=y:=by simpa using hz
  subst this
  show r z.1<=r x.1
  rw[<- ey]
  exact M.gb x hx (nb-1) (by exact EC ‹_› EB)
 ·intro x hx i hi
  rw[oi] at hx
  rcases dP.mp hx with hx|hx
  ·exact M.ga x hx i hi
  ·have:x=y:=by simpa using hx
   subst this
   rw[<- ey]
   exact wc (hA i (na-1) (eI _) (by lia) (by lia)) (hl (by lia))
 ·intro x hx j hj
  rw[oi] at hx
  rcases dP.mp hx with hx|hx
  ·exact M.gb x hx j (by walk_at "s4")
  ·have:x=y:=by simpa using hx
   subst this
   rw[<- ey]
   exact hB j (nb-1) (eI _) (by exact kR ‹_›) (by lia)
theorem k_{xs:Array Keyed}{i n:Nat}(h:i<n)(hn:n<=xs.size):(xs.extract i n).reverse = #[xs[n-1]'(by lia)]++(xs.extract i (n-1)).reverse:=by
 obtain⟨k,rfl⟩:∃ k,n=i+(k+1):=⟨n-1-i,by lia⟩
 have e3:i+(k+1)-1=i+k:=by rfl
 simp only[e3]
 rw[gh (by assumption),Array.reverse_push]
theorem MH.BI(hA:Up r a 0 a.size)(hB:Up r b 0 b.size):∀ (k:Nat) {out:Array Keyed} {na p:Nat},MH r a b out na nb->p+k=na->(0<nb->∀ i,p<=i->i<na->R r b (nb-1)<=R r a i)->MH r a b (out++(a.extract p na).reverse) p nb
 |0,out,na,p,M,h1,h2=>by
  have:a.extract p na = #[]:=P0 (by simp only[ED];lia)
  have e:na=p:=by walk_at "s1"
  subst e
  rw[this]
  simpa using M
 |k+1,out,na,p,M,h1,h2=>by
  have ha:=M.ha
  have e:a[na-1]? = some (a[na-1]'(by lia)):=getElem?_pos a (na-1) (by lia)
  have q:=M.pY hA hB (by lia) e fun hb=>h2 hb _ (by lia) (by lia)
  have z:=MH.BI hA hB k (p:=p) q (by lia) fun hb i kE iE=>h2 hb i kE (by walk_at "s4")
  rw[k_ (by lia) ha,<- LZ]
  simpa using z
theorem MH.BM(hA:Up r a 0 a.size)(hB:Up r b 0 b.size):∀ (k:Nat) {out:Array Keyed} {nb p:Nat},MH r a b out na nb->p+k=nb->(0<na->∀ i,p<=i->i<nb->R r a (na-1)<=R r b i)->MH r a b (out++(b.extract p nb).reverse) na p
 |0,out,nb,p,M,h1,h2=>by
  have:b.extract p nb = #[]:=P0 (by simp only[ED];lia)
  have e:nb=p:=by walk_at "s1"
  subst e
  rw[this]
  simpa using M
 |k+1,out,nb,p,M,h1,h2=>by
  have hb:=M.hb
  have e:b[nb-1]? = some (b[nb-1]'(by lia)):=getElem?_pos b (nb-1) (by lia)
  have q:=M.pI hA hB (by lia) e fun ha=>h2 ha _ (by lia) (by lia)
  have z:=MH.BM hA hB k (p:=p) q (by lia) fun ha i kE iE=>h2 ha i kE (by walk_at "s4")
  rw[k_ (by lia) hb,<- LZ]
  simpa using z
theorem MH.whole(M:MH r a b out 0 0):cG r a b out.reverse:=by
 refine⟨?_,?_⟩
 ·have h:=M.perm
  rw[List.drop_zero,List.drop_zero] at h
  rw[Array.toList_reverse]
  exact(List.reverse_perm _).trans h
 ·rw[Array.toList_reverse,List.pairwise_reverse]
  exact M.down
theorem oR(x y:Array Keyed):(x++y.reverse).reverse=y++x.reverse:=by
 apply P5.mp
 simp
theorem MH.IJ(M:MH r a b out na nb)(hA:Up r a 0 a.size)(hB:Up r b 0 b.size)(e:na=0):cG r a b (a.extract 0 na++b.extract 0 nb++out.reverse):=by
 subst e
 have z:=MH.BM hA hB nb (p:=0) M (by exact PQ ..) fun ha=>absurd ha (sF _)
 have q:=z.whole
 rw[oR] at q
 have e2:a.extract 0 0 = #[]:=by simp
 rw[e2,Array.empty_append]
 exact q
theorem MH.II(M:MH r a b out na nb)(hA:Up r a 0 a.size)(hB:Up r b 0 b.size)(e:nb=0):cG r a b (a.extract 0 na++b.extract 0 nb++out.reverse):=by
 subst e
 have z:=MH.BI hA hB na (p:=0) M (by exact PQ ..) fun hb=>absurd hb (sF _)
 have q:=z.whole
 rw[oR] at q
 have e2:b.extract 0 0 = #[]:=by simp
 rw[e2,Si]
 exact q
theorem MH.uw(M:MH r a b out na nb)(hA:Up r a 0 a.size)(hB:Up r b 0 b.size)(e:nb=1)(hl:∀ i,i<a.size->R r b 0<=R r a i):cG r a b (b.extract 0 nb++a.extract 0 na++out.reverse):=by
 subst e
 have ha:=M.ha
 have z:=MH.BI hA hB na (p:=0) M (by exact PQ ..) fun _ i _ hi=>hl i (by walk_at "s1")
 have z2:=MH.BM hA hB 1 (p:=0) z (by exact PQ ..) fun h=>absurd h (sF _)
 have q:=z2.whole
 rw[oR,oR] at q
 rw[LZ]
 exact q
theorem MH.start:MH r a b #[] a.size b.size:=⟨bT _,bT _,by simp,by simp,fun x hx=>by simp at hx,fun x hx=>by simp at hx⟩
end
abbrev S1:=Option (Array Keyed) × Nat × Nat × Array Keyed × Nat
abbrev S2:=Option (Array Keyed) × Nat × Nat × Array Keyed × Nat × Nat
abbrev S3:=Option (Array Keyed) × Nat × Nat × Array Keyed × Nat × Nat × Nat
def DZ(a b out:Array Keyed)(na nb:Nat):Array Keyed:=a.extract 0 na++b.extract 0 nb++out.reverse
def QV(a b out:Array Keyed)(na nb:Nat):Array Keyed:=b.extract 0 nb++a.extract 0 na++out.reverse
def T9(a b:Array Keyed)(mg ac bc na nb:Nat)(out:Array Keyed):SM (ForInStep S3):=elem' a (na-1) >>= fun p =>
 if (na-1 == 0)=true then pure (.done (some (DZ a b (out.push p) (na-1) nb),na-1,nb,out.push p,mg,ac,bc))
 else if (decide (ac<7) && decide (bc<7))=true then pure (.done (none,na-1,nb,out.push p,mg,ac,bc)) else pure (.yield (none,na-1,nb,out.push p,mg,ac,bc))
def iE(a b:Array Keyed)(mg ac bc na nb:Nat)(out:Array Keyed):SM (ForInStep S3):=elem' a (na-1) >>= fun p=>lF true p b 0 nb (nb-1) >>= fun x=>match x with
 |some k=>if nb-k>0 then
   if (k == 1)=true then pure (.done (some (QV a b (out++(b.extract k nb).reverse) na k),na,k,out++(b.extract k nb).reverse,mg,ac,nb-k))
   else if (k == 0)=true then pure (.done (some (DZ a b (out++(b.extract k nb).reverse) na k),na,k,out++(b.extract k nb).reverse,mg,ac,nb-k))
   else T9 a b mg ac (nb-k) na k (out++(b.extract k nb).reverse)
  else T9 a b mg ac (nb-k) na nb out
 |_=>pure (.done (some (DZ a b out na nb),na,nb,out,mg,ac,bc))
def kE(a b:Array Keyed)(mg ac bc na nb:Nat)(out:Array Keyed):SM (ForInStep S3):=elem' b (nb-1) >>= fun p =>
 if (nb-1 == 1)=true then pure (.done (some (QV a b (out.push p) na (nb-1)),na,nb-1,out.push p,mg,ac,bc)) else iE a b mg ac bc na (nb-1) (out.push p)
def sP(a b:Array Keyed)(mg ac bc na nb:Nat)(out:Array Keyed):SM (ForInStep S3):=bR mg >>= fun _=>elem' b (nb-1) >>= fun p=>lF false p a 0 na (na-1) >>= fun x=>match x with
 |some k=>if na-k>0 then
   if (k == 0)=true then pure (.done (some (DZ a b (out++(a.extract k na).reverse) k nb),k,nb,out++(a.extract k na).reverse,mg,na-k,bc))
   else kE a b mg (na-k) bc k nb (out++(a.extract k na).reverse)
  else kE a b mg (na-k) bc na nb out
 |_=>pure (.done (some (DZ a b out na nb),na,nb,out,mg,ac,bc))
def XU(a b:Array Keyed)(_:Nat)(s:S3):SM (ForInStep S3) :=
 if s.2.2.2.2.1>1 then sP a b (s.2.2.2.2.1-1) s.2.2.2.2.2.1 s.2.2.2.2.2.2 s.2.1 s.2.2.1 s.2.2.2.1 else sP a b s.2.2.2.2.1 s.2.2.2.2.2.1 s.2.2.2.2.2.2 s.2.1 s.2.2.1 s.2.2.2.1
def XW(a b:Array Keyed)(mg ac na nb:Nat)(out:Array Keyed):SM (ForInStep S2):=elem' a (na-1) >>= fun p =>
 if (na-1 == 0)=true then pure (.done (some (DZ a b (out.push p) (na-1) nb),na-1,nb,out.push p,ac+1,0))
 else if ac+1 >= mg then pure (.done (none,na-1,nb,out.push p,ac+1,0)) else pure (.yield (none,na-1,nb,out.push p,ac+1,0))
def XX(a b:Array Keyed)(mg bc na nb:Nat)(out:Array Keyed):SM (ForInStep S2):=elem' b (nb-1) >>= fun p =>
 if (nb-1 == 1)=true then pure (.done (some (QV a b (out.push p) na (nb-1)),na,nb-1,out.push p,0,bc+1))
 else if bc+1 >= mg then pure (.done (none,na,nb-1,out.push p,0,bc+1)) else pure (.yield (none,na,nb-1,out.push p,0,bc+1))
def XY(a b:Array Keyed)(mg:Nat)(_:Nat)(s:S2):SM (ForInStep S2):=elem' b (s.2.2.1-1) >>= fun pb=>elem' a (s.2.1-1) >>= fun pa=>lt' pb pa >>= fun x=>match x with
 |some w=>if w=true then XW a b mg s.2.2.2.2.1 s.2.1 s.2.2.1 s.2.2.2.1 else XX a b mg s.2.2.2.2.2 s.2.1 s.2.2.1 s.2.2.2.1
 |_=>pure (.done (some (DZ a b s.2.2.2.1 s.2.1 s.2.2.1),s.2.1,s.2.2.1,s.2.2.2.1,s.2.2.2.2.1,s.2.2.2.2.2))
def XZ (a b:Array Keyed) (mg:Nat) (t:S2):SM (ForInStep S1):=(liftM (rule "list.sort.gallop"):SM Unit) >>= fun _ =>
 forIn [:a.size+b.size] ((none,t.2.1,t.2.2.1,t.2.2.2.1,mg+1,t.2.2.2.2.1,t.2.2.2.2.2):S3) (XU a b) >>= fun u=>match u.1 with
 |some r=>pure (.done (some r,u.2.1,u.2.2.1,u.2.2.2.1,u.2.2.2.2.1))
 |none=>bR (u.2.2.2.2.1+1) >>= fun _=>pure (.yield (none,u.2.1,u.2.2.1,u.2.2.2.1,u.2.2.2.2.1+1))
def X1(a b:Array Keyed)(_:Nat)(s:S1):SM (ForInStep S1):=forIn [:a.size+b.size] ((none,s.2.1,s.2.2.1,s.2.2.2.1,0,0):S2) (XY a b s.2.2.2.2) >>= fun t=>match t.1 with
 |some r=>pure (.done (some r,t.2.1,t.2.2.1,t.2.2.2.1,s.2.2.2.2))
 |none=>XZ a b s.2.2.2.2 t
def hiM (a b:Array Keyed):SM (Array Keyed):=(liftM (rule "list.sort.merge-hi"):SM Unit) >>= fun _=>elem' a (a.size-1) >>= fun y =>
 if (a.size-1 == 0)=true then pure (DZ a b #[y] (a.size-1) b.size)
 else if (b.size == 1)=true then pure (QV a b #[y] (a.size-1) b.size)
 else get >>= fun st=>forIn [:a.size+b.size] ((none,a.size-1,b.size,#[y],gallopOf st):S1) (X1 a b) >>= fun t=>match t.1 with
 |some r=>pure r
 |none=>(liftM (unsupported (α:=Array Keyed) "internal:list.sort.merge-bound"):SM (Array Keyed))
set_option smartUnfolding false in
theorem vH:tW=hiM:=rfl
section
variable {prog:Program}{w:World}{A:Around}{E:Value->Shared->Prop}{s:Shared}{κ:SortKind}{r:Value->Int}{P:Value->Prop}{a b out:Array Keyed}{mg ac bc na nb N:Nat}{st:SortSt}{Q:ForInStep S3->SortSt->Prop}
def HD(r:Value->Int)(a b:Array Keyed)(Q:ForInStep S3->SortSt->Prop)(st:SortSt):Prop:=∀ o rest,cG r a b o->Q (.done (some o,rest)) st
def HY(r:Value->Int)(a b:Array Keyed)(N:Nat)(Q:ForInStep S3->SortSt->Prop)(st:SortSt):Prop :=
 ∀ o na nb mg ac bc,MH r a b o na nb->1<=na->2<=nb->na+nb<=N->Q (.done (none,na,nb,o,mg,ac,bc)) st/\Q (.yield (none,na,nb,o,mg,ac,bc)) st
theorem BL(c:MC prog w A s κ r P a b)(M:MH r a b out na nb)(h1:0<na)(lt:R r b (nb-1)<=R r a (na-1))(h2:2<=nb)(hN:na+nb<=N)(D:HD r a b Q st)(Y:HY r a b N Q st):wpS (model prog w) A E s (T9 a b mg ac bc na nb out) Q st:=by
 have ha:=M.ha
 refine wpS_bind (aK (by lia) fun p e=>?_)
 have M2:=M.pY c.hA c.hB h1 e fun _=>lt
 by_cases z:na-1=0
 ·rw[if_pos (by simpa using z)]
  exact wpS_pure (D _ _ (M2.IJ c.hA c.hB z))
 ·rw[if_neg (by simpa using z)]
  have y:=Y _ _ _ mg ac bc M2 (by lia) h2 (by lia)
  split
  ·exact wpS_pure y.1
  ·exact wpS_pure y.2
theorem Hx(c:MC prog w A s κ r P a b)(hk:kindOf st=κ)(M:MH r a b out na nb)(h1:0<na)(h2:2<=nb)(hN:na+nb<=N)(D:HD r a b Q st)(Y:HY r a b N Q st):wpS (model prog w) A E s (iE a b mg ac bc na nb out) Q st:=by
 have ha:=M.ha
 have hb:=M.hb
 refine wpS_bind (aK (by lia) fun p e=>wpS_bind (dw c.C hk c.pb (c.pa.at e) (by lia) (by lia) (fun i j u v w=>c.hB i j u v (by lia)) fun l IL uS IQ=>?_))
 have ra:=nV (r:=r) e
 dsimp only
 have lt:0<l->R r b (l-1)<=R r a (na-1):=fun z=>by have:=DW (uS (l-1) (by exact EC ‹_› EB));rw[sL] at this;lia
 by_cases l0:nb-l>0
 ·have M5:=MH.BM c.hA c.hB (nb-l) (p:=l) M (by exact LV ‹_›) fun _ i kE iE=>by have:=uE (IQ i kE iE);rw[sL] at this;lia
  rw[if_pos l0]
  by_cases z4:l=1
  ·rw[if_pos (by simpa using z4)]
   exact wpS_pure (D _ _ (M5.uw c.hA c.hB z4 c.hl))
  ·rw[if_neg (by simpa using z4)]
   by_cases z6:l=0
   ·rw[if_pos (by simpa using z6)]
    exact wpS_pure (D _ _ (M5.II c.hA c.hB z6))
   ·rw[if_neg (by simpa using z6)]
    exact BL c M5 h1 (lt (by lia)) (by lia) (by lia) D Y
 ·rw[if_neg l0]
  obtain rfl:l=nb:=by lia
  exact BL c M h1 (lt (by exact Sb ‹_›)) h2 hN D Y
theorem Bt(c:MC prog w A s κ r P a b)(hk:kindOf st=κ)(M:MH r a b out na nb)(h1:0<na)(h2:2<=nb)(lt:R r a (na-1)<=R r b (nb-1))(hN:na+nb<=N)(D:HD r a b Q st)(Y:HY r a b N Q st):wpS (model prog w) A E s (kE a b mg ac bc na nb out) Q st:=by
 have hb:=M.hb
 refine wpS_bind (aK (by lia) fun p e=>?_)
 have M4:=M.pI c.hA c.hB (by exact Sb ‹_›) e fun _=>lt
 by_cases z:nb-1=1
 ·rw[if_pos (by simpa using z)]
  exact wpS_pure (D _ _ (M4.uw c.hA c.hB z c.hl))
 ·rw[if_neg (by simpa using z)]
  exact Hx c hk M4 h1 (by lia) (by lia) D Y
theorem GQ(c:MC prog w A s κ r P a b)(hk:kindOf st=κ)(M:MH r a b out na nb)(h1:0<na)(h2:2<=nb)(hN:na+nb<=N)(D:∀ ag,Mg st ag->HD r a b Q ag)(Y:∀ ag,Mg st ag->HY r a b N Q ag):wpS (model prog w) A E s (sP a b mg ac bc na nb out) Q st:=by
 have ha:=M.ha
 have hb:=M.hb
 have g:=(Mg.refl st).set mg
 refine wpS_bind (iD ?_)
 refine wpS_bind (aK (by lia) fun p e=>wpS_bind (dw c.C (g.kind.trans hk) c.pa (c.pb.at e) (by lia) (by exact EC ‹_› EB) (fun i j u v w=>c.hA i j u v (by lia)) fun k XT vk EZ=>?_))
 have rb:=nV (r:=r) e
 dsimp only
 have lt:0<k->R r a (k-1)<=R r b (nb-1):=fun z=>by have:=zQ (vk (k-1) (by exact EC ‹_› EB));rw[sL] at this;lia
 by_cases k0:na-k>0
 ·have M3:=MH.BI c.hA c.hB (na-k) (p:=k) M (by exact LV ‹_›) fun _ i kE iE=>by have:=vW (EZ i kE iE);rw[sL] at this;lia
  rw[if_pos k0]
  by_cases z:k=0
  ·rw[if_pos (by simpa using z)]
   exact wpS_pure (D _ g _ _ (M3.IJ c.hA c.hB z))
  ·rw[if_neg (by simpa using z)]
   exact Bt c (g.kind.trans hk) M3 (by lia) h2 (lt (by lia)) (by lia) (D _ g) (Y _ g)
 ·rw[if_neg k0]
  obtain rfl:k=na:=by lia
  exact Bt c (g.kind.trans hk) M h1 h2 (lt h1) hN (D _ g) (Y _ g)
def HI(r:Value->Int)(a b:Array Keyed)(N:Nat)(c:S2):Prop:=∃ na nb out ac bc,c=(none,na,nb,out,ac,bc)/\MH r a b out na nb/\1<=na/\2<=nb/\na+nb<=N
theorem Hb{Q:ForInStep S2->SortSt->Prop}(c:MC prog w A s κ r P a b)(M:MH r a b out na nb)(h1:0<na)(lt:R r b (nb-1)<=R r a (na-1))(h2:2<=nb)(hN:na+nb<=N+1)(D:∀ c,HS r a b c->Q (.done c) st)(Y:∀ c,HI r a b N c->Q (.done c) st/\Q (.yield c) st):wpS (model prog w) A E s (XW a b mg ac na nb out) Q st:=by
 have ha:=M.ha
 refine wpS_bind (aK (by lia) fun p e=>?_)
 have M2:=M.pY c.hA c.hB h1 e fun _=>lt
 by_cases z:na-1=0
 ·rw[if_pos (by simpa using z)]
  exact wpS_pure (D _ ⟨_,_,rfl,M2.IJ c.hA c.hB z⟩)
 ·rw[if_neg (by simpa using z)]
  have y:=Y _ ⟨_,_,_,ac+1,0,rfl,M2,by lia,h2,by lia⟩
  split
  ·exact wpS_pure y.1
  ·exact wpS_pure y.2
theorem GC{Q:ForInStep S2->SortSt->Prop}(c:MC prog w A s κ r P a b)(M:MH r a b out na nb)(h1:0<na)(lt:R r a (na-1)<=R r b (nb-1))(h2:2<=nb)(hN:na+nb<=N+1)(D:∀ c,HS r a b c->Q (.done c) st)(Y:∀ c,HI r a b N c->Q (.done c) st/\Q (.yield c) st):wpS (model prog w) A E s (XX a b mg bc na nb out) Q st:=by
 have hb:=M.hb
 refine wpS_bind (aK (by lia) fun p e=>?_)
 have M2:=M.pI c.hA c.hB (by exact Sb ‹_›) e fun _=>lt
 by_cases z:nb-1=1
 ·rw[if_pos (by simpa using z)]
  exact wpS_pure (D _ ⟨_,_,rfl,M2.uw c.hA c.hB z c.hl⟩)
 ·rw[if_neg (by simpa using z)]
  have y:=Y _ ⟨_,_,_,0,bc+1,rfl,M2,h1,by lia,by lia⟩
  split
  ·exact wpS_pure y.1
  ·exact wpS_pure y.2
theorem G4{Q:ForInStep S2->SortSt->Prop}{x:Nat}(c:MC prog w A s κ r P a b)(hk:kindOf st=κ)(M:MH r a b out na nb)(h1:0<na)(h2:2<=nb)(hN:na+nb<=N+1)(D:∀ c,HS r a b c->Q (.done c) st)(Y:∀ c,HI r a b N c->Q (.done c) st/\Q (.yield c) st):wpS (model prog w) A E s (XY a b mg x (none,na,nb,out,ac,bc)) Q st:=by
 have ha:=M.ha
 have hb:=M.hb
 refine wpS_bind (aK (show nb-1<b.size by lia) fun pb eb=>wpS_bind (aK (show na-1<a.size by lia) fun pa ea=>wpS_bind (pR c.C hk (c.pb.at eb) (c.pa.at ea) ?_)))
 have rb:R r b (nb-1)=r pb.1:=nV eb
 have ra:R r a (na-1)=r pa.1:=nV ea
 dsimp only
 by_cases hw:r pb.1<r pa.1
 ·rw[if_pos (decide_eq_true hw)]
  exact Hb c M h1 (by lia) h2 hN D Y
 ·rw[if_neg (by simpa using hw)]
  exact GC c M h1 (by lia) h2 hN D Y
theorem Gw{Q:ForInStep S1->SortSt->Prop}(c:MC prog w A s κ r P a b)(hk:kindOf st=κ)(M:MH r a b out na nb)(h1:0<na)(h2:2<=nb)(hN:na+nb<=N)(D:∀ ag,Mg st ag->∀ c,HS r a b c->Q (.done c) ag)
  (Y:∀ ag,Mg st ag->∀ out na nb mg,MH r a b out na nb->1<=na->2<=nb->na+nb<=N->Q (.yield (none,na,nb,out,mg)) ag):wpS (model prog w) A E s (XZ a b mg (none,na,nb,out,ac,bc)) Q st:=by
 refine wpS_bind (wpS_lift (wpAny_rule ⟨rfl,?_⟩))
 refine wpS_bind (wpS_mono (wpS_forRange (I:=fun _ c ag=>Mg st ag/\∃ na nb out mg ac bc,c=(none,na,nb,out,mg,ac,bc)/\MH r a b out na nb/\1<=na/\2<=nb/\na+nb<=N)
  (Q:=fun c ag=>Mg st ag/\(HS r a b c\/∃ na nb out mg ac bc,c=(none,na,nb,out,mg,ac,bc)/\MH r a b out na nb/\1<=na/\2<=nb/\na+nb<=N)) ?step ?fin ⟨.refl st,_,_,_,_,_,_,rfl,M,h1,h2,hN⟩) ?post)
 case fin =>
  rintro c ag ⟨hm,q⟩
  exact⟨hm,.inr q⟩
 case step =>
  rintro y c1 BO _ _ ⟨hm,na,nb,out,mg,ac,bc,rfl,M,h1,h2,hN⟩
  unfold XU
  dsimp only
  split<;>exact GQ c (hm.kind.trans hk) M h1 h2 hN (fun ag g o rest hM=>⟨hm.trans g,.inl ⟨o,rest,rfl,hM⟩⟩) fun ag g o na nb mg ac bc M h1 h2 hN=>⟨⟨hm.trans g,.inr ⟨_,_,_,_,_,_,rfl,M,h1,h2,hN⟩⟩,hm.trans g,_,_,_,_,_,_,rfl,M,h1,h2,hN⟩
 case post =>
  rintro c ag ⟨hm,⟨o,rest,rfl,hM⟩|⟨na,nb,out,mg,ac,bc,rfl,M,h1,h2,hN⟩⟩
  ·exact wpS_pure (D _ hm _ ⟨_,_,rfl,hM⟩)
  ·exact wpS_bind (iD (wpS_pure (Y _ (hm.set _) _ _ _ _ M h1 h2 hN)))
theorem Gv{Q:ForInStep S1->SortSt->Prop}{x:Nat}(c:MC prog w A s κ r P a b)(hk:kindOf st=κ)(M:MH r a b out na nb)(h1:0<na)(h2:2<=nb)(hN:na+nb<=N+1)(D:∀ ag,Mg st ag->∀ c,HS r a b c->Q (.done c) ag)
  (Y:∀ ag,Mg st ag->∀ out na nb mg,MH r a b out na nb->1<=na->2<=nb->na+nb<=N->Q (.yield (none,na,nb,out,mg)) ag):wpS (model prog w) A E s (X1 a b x (none,na,nb,out,mg)) Q st:=by
 have ha:=M.ha
 have hb:=M.hb
 refine wpS_bind (wpS_mono (wpS_forRange (I:=fun y c ag=>ag=st/\HI r a b (N+1-y) c) (Q:=fun c ag=>ag=st/\(HS r a b c\/HI r a b N c)) ?step ?fin ⟨rfl,_,_,_,_,_,rfl,M,h1,h2,hN⟩) ?post)
 case fin =>
  rintro c ag ⟨rfl,na',nX,o,ac,bc,rfl,M',q1,q2,q3⟩
  exact⟨rfl,.inr ⟨_,_,_,_,_,rfl,M',q1,q2,by lia⟩⟩
 case step =>
  rintro y c1 BO _ hy ⟨rfl,na',nX,o,ac,bc,rfl,M',q1,q2,q3⟩
  exact G4 (N:=N-y) c hk M' q1 q2 (by lia) (fun c q=>⟨rfl,.inl q⟩) fun c q=>by
   obtain⟨na,nb,o,ac,bc,rfl,M,h1,h2,h3⟩:=q
   exact⟨⟨rfl,.inr ⟨_,_,_,_,_,rfl,M,h1,h2,by walk_at "s4"⟩⟩,rfl,_,_,_,_,_,rfl,M,h1,h2,by lia⟩
 case post =>
  rintro c1 ag ⟨rfl,⟨o,rest,rfl,hM⟩|⟨na,nb,o,ac,bc,rfl,M',q1,q2,q3⟩⟩
  ·exact wpS_pure (D _ (.refl _) _ ⟨_,_,rfl,hM⟩)
  ·exact Gw c hk M' q1 q2 q3 D Y
theorem q_{st:SortSt}{a b:Array Keyed}{Q:Array Keyed->SortSt->Prop}(C:lT prog w A s κ r P)(hk:kindOf st=κ)(T7:AllP P a)(T8:AllP P b)(hA:Up r a 0 a.size)(hB:Up r b 0 b.size)(na:1<=a.size)(nb:1<=b.size)
  (h0:R r b 0<=R r a 0) (hg:∀ j,j<b.size->R r b j<=R r a (a.size-1)) (h:∀ out ag,cG r a b out->Mg st ag->Q out ag):wpS (model prog w) A E s (tW a b) Q st:=by
 have c:MC prog w A s κ r P a b:=⟨C,T7,T8,hA,hB,fun i hi=>wc h0 (hA 0 i (bT _) (eI _) hi),hg⟩
 rw[vH]
 refine wpS_bind (wpS_lift (wpAny_rule ⟨rfl,?_⟩))
 refine wpS_bind (aK (by exact EC ‹_› EB) fun y0 e0=>?_)
 have M1:MH r a b #[y0] (a.size-1) b.size:=MH.start.pY hA hB na e0 fun _=>hg _ (by exact EC ‹_› EB)
 by_cases c1:a.size-1=0
 ·rw[if_pos (by simpa using c1)]
  exact wpS_pure (h _ _ (M1.IJ hA hB c1) (.refl st))
 ·rw[if_neg (by simpa using c1)]
  by_cases c2:b.size=1
  ·rw[if_pos (by simpa using c2)]
   exact wpS_pure (h _ _ (M1.uw hA hB c2 c.hl) (.refl st))
  ·rw[if_neg (by simpa using c2)]
   refine wpS_bind (wpS_get ?_)
   refine wpS_bind (wpS_mono (wpS_forRange (I:=fun x c ag=>Mg st ag/\∃ na nb out mg,c=(none,na,nb,out,mg)/\MH r a b out na nb/\1<=na/\2<=nb/\na+nb<=a.size+b.size-x)
    (Q:=fun c ag=>Mg st ag/\HS r a b c) ?step ?fin ⟨.refl st,_,_,_,_,rfl,M1,by lia,by lia,by lia⟩) ?post)
   case fin =>
    rintro c ag ⟨_,na,nb,out,mg,rfl,M,h1,h2,h3⟩
    lia
   case post =>
    rintro c ag ⟨hm,out,rest,rfl,hM⟩
    exact wpS_pure (h out ag hM hm)
   case step =>
    rintro x c1 BO _ hx ⟨x6,na,nb,out,mg,rfl,M,h1,h2,h3⟩
    exact Gv (N:=a.size+b.size-(x+1)) c (x6.kind.trans hk) M h1 h2 (by lia) (fun ag g c q=>⟨x6.trans g,q⟩) fun ag g out na nb mg M h1 h2 h3=>⟨x6.trans g,_,_,_,_,rfl,M,h1,h2,h3⟩
end
def wr(p:Nat)(m:List Keyed)(n:Nat)(xs:Array Keyed):Array Keyed:=(m.zipIdx n).foldl (fun a (q:Keyed × Nat)=>a.setIfInBounds (p+q.2) q.1) xs
theorem vU(p:Nat):∀ (m:List Keyed) (n:Nat) (xs:Array Keyed),p+n+m.length<=xs.size->∀ k:Nat,(wr p m n xs)[k]? = if p+n<=k/\k<p+n+m.length then m[k-(p+n)]? else xs[k]?
 |[],n,xs,h,k=>by
  rw[if_neg (by simp only[List.length_nil];lia)];rfl
 |q :: m,n,xs,h,k=>by
  have ih:=vU p m (n+1) (xs.setIfInBounds (p+n) q) (by rw[Array.size_setIfInBounds];simp only[sD] at h;lia) k
  have e:wr p (q :: m) n xs=wr p m (n+1) (xs.setIfInBounds (p+n) q):=by unfold wr;rw[List.zipIdx_cons,List.foldl_cons]
  simp only[sD] at h ⊢
  rw[e,ih]
  by_cases h1:p+(n+1)<=k/\k<p+(n+1)+m.length
  ·rw[if_pos h1,if_pos (by lia),show k-(p+n)=(k-(p+(n+1)))+1 by lia,List.getElem?_cons_succ]
  ·rw[if_neg h1]
   by_cases h2:k=p+n
   ·subst h2
    rw[if_pos (by walk_at "s4"),Nat.sub_self,List.getElem?_cons_zero,Array.getElem?_setIfInBounds_self_of_lt (by lia)]
   ·rw[if_neg (by lia),Array.getElem?_setIfInBounds_ne (by walk_at "s1")]
theorem Df(h:p+m.length<=xs.size):(wr p m 0 xs).toList=xs.toList.take p++m++xs.toList.drop (p+m.length):=by
 have hl:xs.toList.length=xs.size:=by simp
 apply CH
 intro k
 have e:=vU p m 0 xs h k
 rw[GP] at e
 rw[mM,e]
 by_cases h1:k<p
 ·rw[if_neg (by lia),xl,Ee (by rw[mG];lia),List.getElem?_take_of_lt h1,mM]
 ·by_cases h2:k<p+m.length
  ·rw[if_pos (by lia),xl,yT (by rw[mG];lia),mG,show min p xs.toList.length=p by lia,Ee (by lia)]
  ·rw[if_neg (by lia),xl,yT (by rw[mG];lia),mG,show min p xs.toList.length=p by lia,yT (by lia),List.getElem?_drop,
    show p+m.length+(k-p-m.length)=k by lia,mM]
theorem GX{p q:Nat}{xs:Array Keyed}(h:p<=q)(h2:q<=xs.size):xs.toList=xs.toList.take p++(xs.extract p q).toList++xs.toList.drop q:=by
 rw[Sh,RX]
 have e1:xs.toList.take p++(xs.toList.drop p).take (q-p)=xs.toList.take q:=by
  rw[<- Pz p (xs.toList.take q),List.take_take,List.drop_take,Nat.min_eq_left h]
 rw[e1,Pz]
theorem Ei{p q:Nat}{m:List Keyed}{xs:Array Keyed}(h:p<=q)(h2:q<=xs.size)(hm:m.Perm (xs.extract p q).toList):(wr p m 0 xs).Perm xs:=by
 have hl:m.length=q-p:=by rw[hm.length_eq];simp;lia
 rw[Sg,Df (by lia),show p+m.length=q by lia]
 have e:=GX (xs:=xs) h h2
 exact(List.Perm.append_right _ (List.Perm.append_left _ hm)).trans (by rw[<- e])
def Runs(r:Value->Int)(xs:Array Keyed):List (Nat × Nat × Nat)->Nat->Nat->Prop
 |[],a,b=>a=b
 | (s,n,_) :: rest,a,b=>s=a/\1<=n/\Up r xs s (s+n)/\Runs r xs rest (s+n) b
section
variable {r:Value->Int}{xs ys:Array Keyed}
theorem Runs.le:∀ {ps:List (Nat × Nat × Nat)} {a b:Nat},Runs r xs ps a b->a+ps.length<=b
 |[],a,b,h=>by simp only[Runs] at h;simp;lia
 | (s,n,p) :: rest,a,b,h=>by
  obtain⟨rfl,h1,_,h3⟩:=h
  have:=Runs.le h3
  simp only[sD];lia
theorem Runs.append:∀ {ps qs:List (Nat × Nat × Nat)} {a b:Nat},Runs r xs (ps++qs) a b↔∃ c,Runs r xs ps a c/\Runs r xs qs c b
 |[],qs,a,b=>by simp[Runs]
 | (s,n,p) :: rest,qs,a,b=>by
  simp only[List.cons_append,Runs]
  constructor
  ·rintro⟨h1,h2,h3,h4⟩
   obtain⟨c,h5,h6⟩:=Runs.append.mp h4
   exact⟨c,⟨h1,h2,h3,h5⟩,h6⟩
  ·rintro⟨c,⟨h1,h2,h3,h5⟩,h6⟩
   exact⟨h1,h2,h3,Runs.append.mpr ⟨c,h5,h6⟩⟩
theorem Up.congr(h:Up r xs a b)(e:∀ k,a<=k->k<b->ys[k]? = xs[k]?):Up r ys a b:=fun i j h1 h2 h3=>by
 rw[dM (e i h1 (by lia)),dM (e j (by lia) h3)];exact h i j h1 h2 h3
theorem Runs.congr:∀ {ps:List (Nat × Nat × Nat)} {a b:Nat},Runs r xs ps a b->(∀ k,a<=k->k<b->ys[k]? = xs[k]?)->Runs r ys ps a b
 |[],a,b,h,_=>h
 | (s,n,p) :: rest,a,b,h,e=>by
  obtain⟨rfl,h1,h2,h3⟩:=h
  have l:=h3.le
  exact⟨rfl,h1,h2.congr fun k u v=>e k u (by lia),Runs.congr h3 fun k u v=>e k (by walk_at "s4") v⟩
theorem Up.glue(h1:Up r xs a b)(h2:Up r xs b c)(h:∀ i j,a<=i->i<b->b<=j->j<c->R r xs i<=R r xs j):Up r xs a c:=fun i j u v w=>by
 by_cases hj:j<b
 ·exact h1 i j u v hj
 ·by_cases hi:i<b
  ·exact h i j u hi (by lia) w
  ·exact h2 i j (by lia) v w
end
section
variable {prog:Program}{w:World}{A:Around}{E:Value->Shared->Prop}{s:Shared}{κ:SortKind}{r:Value->Int}{P:Value->Prop}
theorem AllP.extract(h:AllP P xs)(i j:Nat):AllP P (xs.extract i j):=fun p hp=>h p (by
 rw[Sh,RX] at hp
 exact R4 (PB hp))
theorem eO(h:i+k<j)(hj:j<=xs.size):R r (xs.extract i j) k=R r xs (i+k):=by
 apply dM
 rw[P1,if_pos (by lia)]
theorem Up.extract(h:Up r xs i j)(gX:i<=j)(hj:j<=xs.size):Up r (xs.extract i j) 0 (xs.extract i j).size:=fun a b _ h2 h3=>by
 have e:(xs.extract i j).size=j-i:=by simp only[ED];lia
 rw[e] at h3
 rw[eO (by lia) hj,eO (by lia) hj]
 exact h _ _ (by lia) (by lia) (by lia)
theorem yp(hz:sa+na+nb<=xs.size)(hk:k<na)(hnb:nX<=nb)(hA:Up r xs sa (sa+na))(hB:Up r xs (sa+na) (sa+na+nb))
  (lo1:∀ i,i<k->R r xs (sa+i)<=R r xs (sa+na)) (EX:R r xs (sa+na)<R r xs (sa+k)) (kE:∀ i,i<nX->R r xs (sa+na+i)<R r xs (sa+na-1)) (iE:∀ i,nX<=i->i<nb->R r xs (sa+na-1)<=R r xs (sa+na+i))
  (hm:cG r (xs.extract (sa+k) (sa+na)) (xs.extract (sa+na) (sa+na+nX)) m) :
  Up r (wr (sa+k) m.toList 0 xs) sa (sa+na+nb)/\(wr (sa+k) m.toList 0 xs).Perm xs/\∀ j,j<sa\/sa+na+nb<=j->(wr (sa+k) m.toList 0 xs)[j]? = xs[j]? := by
 obtain⟨mp,mu⟩:=hm
 have eab:(xs.extract (sa+k) (sa+na)).toList++(xs.extract (sa+na) (sa+na+nX)).toList=(xs.extract (sa+k) (sa+na+nX)).toList:=by
  rw[<- Array.toList_append,Array.extract_append_extract,show min (sa+k) (sa+na)=sa+k by lia,show max (sa+na) (sa+na+nX)=sa+na+nX by lia]
 rw[eab] at mp
 have ml:m.toList.length=na+nX-k:=by rw[mp.length_eq];simp;lia
 have hw:sa+k+m.toList.length<=xs.size:=by lia
 have get:=vU (sa+k) m.toList 0 xs (by lia)
 rw[GP,ml] at get
 -- every merged item is one of the ic'
 have mem:∀ (j:Nat) (p:Keyed),m.toList[j]? = some p->∃ i,sa+k<=i/\i<sa+na+nX/\r p.1=R r xs i:=fun j p e=>by
  have hp:p∈(xs.extract (sa+k) (sa+na+nX)).toList:=mp.mem_iff.mp (kH e)
  obtain⟨i,hi⟩:=List.getElem?_of_mem hp
  rw[mM,P1] at hi
  split at hi
  ·exact⟨sa+k+i,by lia,by lia,(nV hi).symm⟩
  ·cases hi
 have low:∀ i,sa+k<=i->i<sa+na+nX->R r xs (sa+na)<=R r xs i:=fun i h1 h2=>by
  by_cases h3:i<sa+na
  ·exact wc (A3 EX) (hA (sa+k) i (by lia) h1 h3)
  ·exact hB (sa+na) i (bT _) (by lia) (by lia)
 have high:∀ i,sa+k<=i->i<sa+na+nX->R r xs i<=R r xs (sa+na-1):=fun i h1 h2=>by
  by_cases h3:i<sa+na
  ·exact hA i (sa+na-1) (by lia) (by lia) (by lia)
  ·have:=kE (i-(sa+na)) (by lia)
   rw[show sa+na+(i-(sa+na))=i by lia] at this
   lia
 have X2:∀ j,j<na+nX-k->∃ i,sa+k<=i/\i<sa+na+nX/\R r (wr (sa+k) m.toList 0 xs) (sa+k+j)=R r xs i:=fun j hj=>by
  have e:=get (sa+k+j)
  rw[if_pos (by lia),show sa+k+j-(sa+k)=j by lia] at e
  have oq:j<m.toList.length:=by lia
  obtain⟨i,h1,h2,h3⟩:=mem j m.toList[j] (mE oq)
  rw[mE oq] at e
  exact⟨i,h1,h2,(nV e).trans h3⟩
 have IU:∀ j,j<sa+k\/sa+na+nX<=j->(wr (sa+k) m.toList 0 xs)[j]? = xs[j]? := fun j hj=>by
  have e:=get j
  rw[if_neg (by lia)] at e
  exact e
 refine⟨?_,Ei (by lia) (by lia) mp,fun j hj=>IU j (by lia)⟩
 have U1:Up r (wr (sa+k) m.toList 0 xs) sa (sa+k):=Up.congr (xs:=xs) (fun i j h1 h2 h3=>hA i j h1 h2 (by lia)) fun j h1 h2=>IU j (.inl h2)
 have U2:Up r (wr (sa+k) m.toList 0 xs) (sa+k) (sa+na+nX):=fun i j h1 h2 h3=>by
  have ei:=get i
  have ej:=get j
  rw[if_pos (by lia)] at ei ej
  have li:i-(sa+k)<m.toList.length:=by lia
  have lj:j-(sa+k)<m.toList.length:=by lia
  rw[mE li] at ei
  rw[mE lj] at ej
  rw[nV ei,nV ej]
  by_cases gX:i=j
  ·subst gX;exact wd _
  ·exact(AR.mp mu) _ _ li lj (by lia)
 have U3:Up r (wr (sa+k) m.toList 0 xs) (sa+na+nX) (sa+na+nb):=Up.congr (xs:=xs) (fun i j h1 h2 h3=>hB i j (by lia) h2 h3) fun j h1 h2=>IU j (.inr h1)
 refine(U1.glue U2 fun i j h1 h2 h3 h4=>?_).glue U3 fun i j h1 h2 h3 h4=>?_
 ·obtain⟨q,q1,q2,q3⟩:=X2 (j-(sa+k)) (by lia)
  rw[show sa+k+(j-(sa+k))=j by lia] at q3
  rw[q3,dM (IU i (.inl h2))]
  have:=lo1 (i-sa) (by lia)
  rw[show sa+(i-sa)=i by lia] at this
  exact wc this (low q q1 q2)
 ·have e2:=iE (j-(sa+na)) (by lia) (by lia)
  rw[show sa+na+(j-(sa+na))=j by lia] at e2
  rw[dM (IU j (.inr h3))]
  by_cases hi:i<sa+k
  ·rw[dM (IU i (.inl hi))]
   have:=lo1 (i-sa) (by lia)
   rw[show sa+(i-sa)=i by lia] at this
   have:=low (sa+na-1) (by lia) (by lia)
   lia
  ·obtain⟨q,q1,q2,q3⟩:=X2 (i-(sa+k)) (by lia)
   rw[show sa+k+(i-(sa+k))=i by lia] at q3
   rw[q3]
   exact wc (high q q1 q2) e2
structure St(r:Value->Int)(κ:SortKind)(eh:Array Keyed)(st:SortSt)(ps:List (Nat × Nat × Nat))(lo:Nat):Prop where
 kind:kindOf st=κ
 failed:failedOf st=none
 perm:(arrOf st).Perm eh
 pend:pendingOf st=ps.toArray
 runs:Runs r (arrOf st) ps 0 lo
theorem St.size{st:SortSt}{ps:List (Nat × Nat × Nat)}{lo:Nat}(h:St r κ eh st ps lo):(arrOf st).size=eh.size:=h.perm.size_eq
theorem zy{ps:List (Nat × Nat × Nat)}(h:i+1<ps.length):∃ pre x y post,ps=pre++x :: y :: post/\pre.length=i:=by
 refine⟨ps.take i,ps[i],ps[i+1],ps.drop (i+2),?_,by rw[mG];lia⟩
 rw[<- xk (by lia),<- xk (by lia),Pz]
theorem j_{st:SortSt}{ps:List (Nat × Nat × Nat)}{lo i:Nat}(C:lT prog w A s κ r P)(hP:AllP P eh)(H:St r κ eh st ps lo)(DT:lo<=eh.size)(hi:i+1<ps.length)
  (h:∀ ag hV,St r κ eh ag hV lo->hV.length+1=ps.length->hV≠[]->(∀ k,lo<=k->(arrOf ag)[k]? = (arrOf st)[k]?)->Q true ag):wpS (model prog w) A E s (mergeAt' i) Q st:=by
 obtain⟨pre,⟨sa,na,pa⟩,⟨sb,nb,pb⟩,post,rfl,DS⟩:=zy hi
 have hz:=H.size
 have qV:AllP P (arrOf st):=hP.perm H.perm
 obtain⟨c,X3,T_⟩:=Runs.append.mp H.runs
 obtain⟨rfl,n1,u1,rfl,n2,u2,X4⟩:=T_
 have le3:=X4.le
 have le1:=X3.le
 -- the new pending list
 have dL':((pendingOf st).setIfInBounds i (sa,na+nb,pa)).eraseIdxIfInBounds (i+1)=(pre++(sa,na+nb,pa) :: post).toArray:=by
  rw[H.pend]
  apply P5.mp
  simp[<- DS,List.eraseIdx_append_of_length_le]
 have new:∀ (xs:Array Keyed) (g:Nat),xs.Perm (arrOf st)->(∀ j,j<sa\/sa+na+nb<=j->xs[j]? = (arrOf st)[j]?)->Up r xs sa (sa+(na+nb)) ->
   St r κ eh (SortSt.mk' (kindOf st) xs (pre++(sa,na+nb,pa) :: post).toArray g (failedOf st)) (pre++(sa,na+nb,pa) :: post) lo:=fun xs g hp ho hu =>
  ⟨H.kind,H.failed,hp.trans H.perm,rfl,Runs.append.mpr ⟨sa,X3.congr fun k _ hk=>ho k (.inl hk),rfl,by lia,hu,by
   rw[show sa+(na+nb)=sa+na+nb by lia]
   exact X4.congr fun k hk _=>ho k (.inr hk)⟩⟩
 have len:(pre++(sa,na+nb,pa) :: post).length+1=(pre++(sa,na,pa) :: (sa+na,nb,pb) :: post).length:=by simp;lia
 have e0:(pendingOf st)[i]? = some (sa,na,pa):=by rw[H.pend,<- DS];simp
 have e1:(pendingOf st)[i+1]? = some (sa+na,nb,pb):=by rw[H.pend,<- DS];simp
 refine wpS_bind (wpS_get ?_)
 rw[e0,e1]
 dsimp only
 refine wpS_bind (wpS_modify (f:=fun _=>SortSt.mk' (kindOf st) (arrOf st) (((pendingOf st).setIfInBounds i (sa,na+nb,pa)).eraseIdxIfInBounds (i+1)) (gallopOf st) (failedOf st)) ?_)
 rw[dL']
 refine wpS_bind (aK (xs:=arrOf st) (by lia) fun kb X5=>wpS_bind (dw (arr:=arrOf st) C H.kind qV (qV.at X5) (by lia) (by lia) u1 fun k XT vk EZ=>?_))
 have rkb:=nV (r:=r) X5
 dsimp only
 by_cases z:na-k=0
 ·rw[if_pos (by simpa using z)]
  refine wpS_pure (h _ _ (new (arrOf st) (gallopOf st) (Array.Perm.refl _) (fun _ _=>rfl) ?_) len (by simp) fun _ _=>rfl)
  rw[show sa+(na+nb)=sa+na+nb by lia]
  refine u1.glue u2 fun i j h1 h2 h3 h4=>?_
  have:=zQ (vk (i-sa) (by lia))
  rw[show sa+(i-sa)=i by lia] at this
  have:=u2 (sa+na) j (bT _) h3 h4
  lia
 ·rw[if_neg (by simpa using z)]
  refine wpS_bind (aK (xs:=arrOf st) (by lia) fun ka X6=>wpS_bind (dw (arr:=arrOf st) C H.kind qV (qV.at X6) (by lia) (by lia) u2 fun l IL uS IQ=>?_))
  have rka:=nV (r:=r) X6
  rw[show sa+k+(na-k)-1=sa+na-1 by lia] at rka
  dsimp only
  by_cases z2:l=0
  ·rw[if_pos (by simpa using z2)]
   refine wpS_pure (h _ _ (new (arrOf st) (gallopOf st) (Array.Perm.refl _) (fun _ _=>rfl) ?_) len (by simp) fun _ _=>rfl)
   rw[show sa+(na+nb)=sa+na+nb by lia]
   refine u1.glue u2 fun i j h1 h2 h3 h4=>?_
   have:=uE (IQ (j-(sa+na)) (by lia) (by lia))
   rw[show sa+na+(j-(sa+na))=j by lia] at this
   have:=u1 i (sa+na-1) h1 (by lia) (by lia)
   lia
  ·rw[if_neg (by simpa using z2)]
   have lo1:∀ i,i<k->R r (arrOf st) (sa+i)<=R r (arrOf st) (sa+na):=fun i hi=>by have:=zQ (vk i hi);lia
   have EX:R r (arrOf st) (sa+na)<R r (arrOf st) (sa+k):=by have:=vW (EZ k (bT _) (by lia));lia
   have kE:∀ i,i<l->R r (arrOf st) (sa+na+i)<R r (arrOf st) (sa+na-1):=fun i hi=>by have:=DW (uS i hi);lia
   have iE:∀ i,l<=i->i<nb->R r (arrOf st) (sa+na-1)<=R r (arrOf st) (sa+na+i):=fun i h1 h2=>by have:=uE (IQ i h1 h2);lia
   have sx:((arrOf st).extract (sa+k) (sa+na)).size=na-k:=by simp only[ED];lia
   have sy:((arrOf st).extract (sa+na) (sa+na+l)).size=l:=by simp only[ED];lia
   have ux:Up r ((arrOf st).extract (sa+k) (sa+na)) 0 ((arrOf st).extract (sa+k) (sa+na)).size:=Up.extract (fun i j h1 h2 h3=>u1 i j (by lia) h2 h3) (by lia) (by lia)
   have uy:Up r ((arrOf st).extract (sa+na) (sa+na+l)) 0 ((arrOf st).extract (sa+na) (sa+na+l)).size:=Up.extract (fun i j h1 h2 h3=>u2 i j h1 h2 (by lia)) (by lia) (by lia)
   have X7:R r ((arrOf st).extract (sa+na) (sa+na+l)) 0<=R r ((arrOf st).extract (sa+k) (sa+na)) 0:=by
    rw[eO (by lia) (by lia),eO (by lia) (by lia)]
    exact A3 EX
   have X8:∀ j,j<((arrOf st).extract (sa+na) (sa+na+l)).size->R r ((arrOf st).extract (sa+na) (sa+na+l)) j<=R r ((arrOf st).extract (sa+k) (sa+na)) (((arrOf st).extract (sa+k) (sa+na)).size-1):=fun j hj=>by
    rw[sx,eO (by lia) (by lia),eO (by lia) (by lia),show sa+k+(na-k-1)=sa+na-1 by lia]
    exact A3 (kE j (by lia))
   have fin:∀ out ag,cG r ((arrOf st).extract (sa+k) (sa+na)) ((arrOf st).extract (sa+na) (sa+na+l)) out->Mg (SortSt.mk' (kindOf st) (arrOf st) (pre++(sa,na+nb,pa) :: post).toArray (gallopOf st) (failedOf st)) ag ->
     Q true (SortSt.mk' (kindOf ag) (wr (sa+k) out.toList 0 (arrOf ag)) (pendingOf ag) (gallopOf ag) (failedOf ag)):=fun out ag hm hg=>by
    obtain⟨g,rfl⟩:=hg
    obtain⟨m1,m2,m3⟩:=yp (by lia) (by lia) IL u1 u2 lo1 EX kE iE hm
    exact h _ _ (new _ g m2 m3 (by rw[show sa+(na+nb)=sa+na+nb by lia];exact m1)) len (by simp) fun k hk=>m3 k (.inr (by lia))
   have fin2:∀ out ag,cG r ((arrOf st).extract (sa+k) (sa+na)) ((arrOf st).extract (sa+na) (sa+na+l)) out->Mg (SortSt.mk' (kindOf st) (arrOf st) (pre++(sa,na+nb,pa) :: post).toArray (gallopOf st) (failedOf st)) ag ->
     failedOf ag=none:=fun out ag _ hg=>by
    obtain⟨g,rfl⟩:=hg
    exact H.failed
   by_cases z3:na-k<=l
   ·rw[if_pos z3]
    refine wpS_bind (rC (a:=(arrOf st).extract (sa+k) (sa+na)) (b:=(arrOf st).extract (sa+na) (sa+na+l)) C H.kind (qV.extract _ _) (qV.extract _ _) ux uy (by lia) (by lia) X7 X8 fun out ag hm hg=>?_)
    refine wpS_bind (wpS_modify (wpS_bind (wpS_get ?_)))
    have f:=fin out ag hm hg
    have f2:=fin2 out ag hm hg
    refine wpS_pure ?_
    show Q (failedOf ag).isNone _
    rw[f2]
    exact f
   ·rw[if_neg z3]
    refine wpS_bind (q_ (a:=(arrOf st).extract (sa+k) (sa+na)) (b:=(arrOf st).extract (sa+na) (sa+na+l)) C H.kind (qV.extract _ _) (qV.extract _ _) ux uy (by lia) (by lia) X7 X8 fun out ag hm hg=>?_)
    refine wpS_bind (wpS_modify (wpS_bind (wpS_get ?_)))
    have f:=fin out ag hm hg
    have f2:=fin2 out ag hm hg
    refine wpS_pure ?_
    show Q (failedOf ag).isNone _
    rw[f2]
    exact f
theorem Runs.modify(hf:∀ x,(f x).1=x.1/\(f x).2.1=x.2.1):∀ {ps:List (Nat × Nat × Nat)} {i a b:Nat},Runs r xs ps a b->Runs r xs (ps.modify i f) a b
 |[],_,_,_,h=>by simpa using h
 | (s,n,p) :: rest,0,a,b,h=>by
  obtain⟨h1,h2⟩:=hf (s,n,p)
  rw[List.modify_zero_cons]
  have e:f (s,n,p)=(s,n,(f (s,n,p)).2.2):=Prod.ext h1 (Prod.ext h2 rfl)
  rw[e]
  exact h
 | (s,n,p) :: rest,i+1,a,b,h=>by
  rw[List.modify_succ_cons]
  obtain⟨h1,h2,h3,h4⟩:=h
  exact⟨h1,h2,h3,Runs.modify hf h4⟩
theorem St.win{st ag:SortSt}{ps:List (Nat × Nat × Nat)}{lo hi:Nat}(H:St r κ eh st ps lo)(hw:kS lo hi st ag):St r κ eh ag ps lo :=
 ⟨hw.kind.trans H.kind,hw.failed.trans H.failed,hw.perm.trans H.perm,hw.pend.trans H.pend,H.runs.congr fun k _ hk=>hw.out k (.inl hk)⟩
theorem wpS_sortRuns{st:SortSt}(C:lT prog w A s κ r P)(hk:kindOf st=κ)(hP:AllP P (arrOf st))(hp:pendingOf st = #[])(hf:failedOf st=none)
  (h:∀ ag,(arrOf ag).Perm (arrOf st)->failedOf ag=none->Up r (arrOf ag) 0 (arrOf st).size->Q () ag):wpS (model prog w) A E s sortRuns' Q st:=by
 rw[sortRuns'_eq]
 refine wpS_bind (wpS_get ?_)
 dsimp only
 generalize ha:arrOf st=eh at *
 have H0:St r κ eh st [] 0:=⟨hk,hf,by rw[ha],by rw[hp],rfl⟩
 refine wpS_bind (wpS_mono (wpS_forRange (I:=fun x c ag=>∃ ps lo,c=(none,lo)/\St r κ eh ag ps lo/\lo<=eh.size/\x<=lo)
  (Q:=fun c ag=>∃ ps,c=(none,eh.size)/\St r κ eh ag ps eh.size) ?step ?fin ⟨[],0,rfl,H0,eI _,bT _⟩) ?post)
 case fin =>
  rintro c ag ⟨ps,lo,rfl,H,h1,h2⟩
  have:lo=eh.size:=by lia
  subst this
  exact⟨ps,rfl,H⟩
 case post =>
  rintro c ag ⟨ps,rfl,H⟩
  dsimp only
  have l0:=H.runs.le
  refine wpS_bind (wpS_mono (wpS_forRange (I:=fun y c ag=>c=(none,())/\∃ hV,St r κ eh ag hV eh.size/\hV.length+y<=eh.size)
   (Q:=fun c ag=>c=(none,())/\∃ hV,St r κ eh ag hV eh.size/\hV.length<=1) ?dN' ?QX ⟨rfl,ps,H,by lia⟩) ?dO')
  case QX =>
   rintro c ag ⟨rfl,hV,H',hl⟩
   exact⟨rfl,hV,H',by lia⟩
  case dO' =>
   rintro c ag ⟨rfl,hV,H',hl⟩
   refine wpS_pure (h ag H'.perm H'.failed ?_)
   have q:=H'.runs
   match hV,hl,q with
   |[],_,q =>
    have q:0=eh.size:=q
    intro i j _ _ hj
    lia
   |[(s',n',p')],_,q =>
    obtain⟨rfl,_,hu,e⟩:=q
    have e:0+n'=eh.size:=e
    rw[<- e]
    exact hu
  case dN' =>
   rintro y c BO _ hy ⟨rfl,hV,H',hl⟩
   refine wpS_bind (wpS_get ?_)
   have ep:(pendingOf BO).size=hV.length:=by rw[H'.pend];simp
   by_cases z:(pendingOf BO).size<=1
   ·rw[if_pos z]
    exact wpS_pure ⟨rfl,hV,H',by lia⟩
   ·rw[if_neg z]
    refine wpS_bind (j_ C hP H' (bT _) (by(repeat' split)<;>lia) fun wq ps2 H2 hlen _ _=>?_)
    rw[if_neg (by simp)]
    exact wpS_pure ⟨rfl,ps2,H2,by lia⟩
 case step =>
  rintro x c BO _ hx ⟨ps,lo,rfl,H,h1,h2⟩
  dsimp only
  by_cases z:lo >= eh.size
  ·rw[if_pos z]
   have:lo=eh.size:=by lia
   subst this
   exact wpS_pure ⟨ps,rfl,H⟩
  ·rw[if_neg z]
   have hz:=H.size
   refine wpS_bind (wpS_countRun C H.kind (hP.perm H.perm) (by lia) (by lia) fun m wq hw x6 rg hu=>?_)
   have H2:=H.win hw
   dsimp only
   refine Gb (K:=?K) ?pk fun key=>?main
   case main =>
    by_cases z2:m<minRun' eh.size eh.size 0
    ·rw[if_pos z2]
     refine wpS_bind (wpS_lift (wpAny_rule ⟨rfl,?_⟩))
     refine wpS_bind (wpS_binarySort C H2.kind (hP.perm H2.perm) (by clear key;have:=H2.size;lia) (by clear key;lia) hu fun wt X9 Ua=>?_)
     have H3:=H2.win X9
     rw[if_neg (by simp)]
     have b1:1<=min (eh.size-lo) (minRun' eh.size eh.size 0):=by clear key;lia
     have b2:lo+min (eh.size-lo) (minRun' eh.size eh.size 0)<=eh.size:=by clear key;lia
     clear X9
     generalize min (eh.size-lo) (minRun' eh.size eh.size 0)=nn at *
     revert nn wt
     exact key
    ·rw[if_neg z2]
     exact key _ H2 _ hu x6 (by lia)
   intro wt H3 nn Ua b1 b2
   refine wpS_bind (wpS_get ?_)
   have push:∀ (ag:SortSt) (hV:List (Nat × Nat × Nat)),St r κ eh ag hV lo->Up r (arrOf ag) lo (lo+nn)->∃ ps ER,((none:Option Unit),lo+nn)=(none,ER)/\St r κ eh (setPending ag ((pendingOf ag).push (lo,nn,0))) ps ER/\ER<=eh.size/\x+1<=ER:=fun ag hV G u =>
    ⟨hV++[(lo,nn,0)],lo+nn,rfl,⟨G.kind,G.failed,G.perm,by show(pendingOf ag).push _=_;rw[G.pend];simp,Runs.append.mpr ⟨lo,G.runs,rfl,b1,u,rfl⟩⟩,b2,by lia⟩
   cases hb:(pendingOf wt).back? with
   |none =>
    dsimp only
    exact wpS_bind (wpS_modify (wpS_pure (push wt ps H3 Ua)))
   |some t =>
    obtain⟨s1,n1,p1⟩:=t
    dsimp only
    generalize power' eh.size (2*s1+n1) (2*s1+n1+n1+nn) eh.size=pw
    refine wpS_bind (wpS_mono (wpS_forRange (I:=fun y c ag=>c=(none,())/\∃ hV,St r κ eh ag hV lo/\Up r (arrOf ag) lo (lo+nn))
     (Q:=fun c ag=>c=(none,())/\∃ hV,St r κ eh ag hV lo/\Up r (arrOf ag) lo (lo+nn)) ?_ (fun _ _ q=>q) ⟨rfl,ps,H3,Ua⟩) ?_)
    ·rintro y c vi _ hy ⟨rfl,hV,H4,NF⟩
     refine wpS_bind (wpS_get ?_)
     have ep:(pendingOf vi).size=hV.length:=by rw[H4.pend];simp
     by_cases z3:(pendingOf vi).size>1
     ·rw[if_pos z3]
      have e4:(pendingOf vi)[(pendingOf vi).size-2]? = some ((pendingOf vi)[(pendingOf vi).size-2]'(by lia)):=getElem?_pos _ _ (by lia)
      rw[e4]
      generalize (pendingOf vi)[(pendingOf vi).size-2]'(by lia)=tt
      obtain⟨t1,t2,dP'⟩:=tt
      dsimp only
      by_cases z4:dP'<=pw
      ·rw[if_pos z4]
       exact wpS_pure ⟨rfl,hV,H4,NF⟩
      ·rw[if_neg z4]
       refine wpS_bind (j_ C hP H4 h1 (by lia) fun EG ps5 H5 hlen _ mh=>?_)
       rw[if_neg (by simp)]
       exact wpS_pure ⟨rfl,ps5,H5,NF.congr fun k hk _=>mh k hk⟩
     ·rw[if_neg z3]
      exact wpS_pure ⟨rfl,hV,H4,NF⟩
    ·rintro c vi ⟨rfl,hV,H4,NF⟩
     dsimp only
     refine wpS_bind (wpS_modify (wpS_bind (wpS_modify (wpS_pure ?_))))
     refine push _ (hV.modify (hV.length-1) fun x=>(x.1,x.2.1,pw)) ⟨H4.kind,H4.failed,H4.perm,?_,Runs.modify (f:=fun x=>(x.1,x.2.1,pw)) (fun _=>⟨rfl,rfl⟩) H4.runs⟩ NF
     show(pendingOf vi).modify ((pendingOf vi).size-1) (fun x=>(x.1,x.2.1,pw))=_
     rw[H4.pend]
     simp
def dI (h:Heap) (a:Addr) (vs:List Value):Heap:=((h.update a (Obj.mapSeq fun _=>#[])).push (seqObj "tuple" vs.toArray 0)).push (seqObj "list" #[] 0)
theorem gK(hb:b≠a)(dr:b<h.objs.size):(dI h a vs).get? b=h.get? b:=by
 unfold dI
 rw[GB _ _ _ (by rw[size_push',GH];exact eT (tS dr)),
  GB _ _ _ (by rw[GH];exact eT dr),Heap.get?_update_ne _ _ _ _ hb]
theorem sY(hp:xs.Perm (pairsOf vs))(hs:Up r xs 0 vs.length):(xs.map (·.2)).toList.Perm vs/\(xs.map (·.2)).toList.Pairwise fun x y=>r x<=r y:=by
 have hl:xs.toList.Perm (vs.zip vs):=by rw[<- pairsOf_toList];exact Sg.mp hp
 have D1:∀ p,p∈xs.toList->p.1=p.2:=fun p js=>(mem_zip_self (hl.mem_iff.mp js)).1
 have e:(xs.map (·.2)).toList=xs.toList.map (·.1):=by
  rw[Array.toList_map];exact FU fun p js=>(D1 p js).symm
 have hsz:xs.size=vs.length:=by rw[hp.size_eq,pairsOf_size]
 rw[e]
 refine⟨?_,?_⟩
 ·have h1:=hl.map (·.1)
  rwa[LN (bT _)] at h1
 ·rw[AR]
  intro i j hi hj gX
  have kz:i<xs.size:=by simpa using hi
  have oq:j<xs.size:=by simpa using hj
  have h1:=hs i j (eI _) (kR gX) (by lia)
  rw[Gs kz,Gs oq] at h1
  simpa using h1
theorem fV {F:PySem.Fin->Shared->Prop} (ho:s.heap.get? a=some (seqObj "list" vs.toArray n)) (hsz:vs.length<=sizeLine) (hP:∀ v∈vs,P v)
  (hk:2<=vs.length->∀ (Q:SortKind->Shared->Prop),Q κ { s with heap:=dI s.heap a vs }->wpAny (model prog w) A (keyKind' vs.toArray) Q E { s with heap:=dI s.heap a vs })
  (C:2<=vs.length->lT prog w A { s with heap:=dI s.heap a vs } κ r P)
  (h:∀ out:Array Value,out.toList.Perm vs->(out.toList.Pairwise fun x y=>r x<=r y)->F (.done (.ret .none)) { s with heap:=sortedHeap s.heap a vs out }) :
  wpAny (model prog w) A (Builtin.«list.sort» ⟨[.ref a],[]⟩) F E s:=by
 rw[list_sort_plain]
 have ha:a<s.heap.objs.size:=dv ho
 refine ai (listItems_at ho rfl ?_)
 refine ai (listUpdate_at ho rfl ?_ (by simpa using hsz) (eI _))
 obtain⟨e1,Ap⟩:∃ e1,(s.heap.update a (Obj.mapSeq fun _=>#[])).get? a=some (seqObj "list" #[] e1):=⟨_,get?_update_seq ho (fun _=>#[])⟩
 refine ai (seqEpoch_at Ap rfl ?_)
 refine ai (wpAny_newTuple ?_ (by simpa using hsz))
 refine ai (wpAny_newList ?_ (eI _))
 refine wpAny_holding ?_
 have QY:(dI s.heap a vs).get? a=some (seqObj "list" #[] e1):=by
  unfold dI
  rw[GB _ _ _ (by rw[size_push',GH];exact eT (tS ha)),GB _ _ _ (by rw[GH];exact eT ha)]
  exact Ap
 show wpAny (model prog w) A _ F E { s with heap:=dI s.heap a vs }
 dsimp only
 have hvz:vs.toArray.size=vs.length:=by simp
 have fin:∀ ag:SortSt,(arrOf ag).Perm (pairsOf vs)->Up r (arrOf ag) 0 vs.length->F (.done (.ret .none)) { s with heap:=sortedHeap s.heap a vs ((arrOf ag).map (·.2)) }:=by
  intro ag hp hs
  obtain⟨h1,h2⟩:=sY hp hs
  exact h _ h1 h2
 by_cases h2:vs.toArray.size<2
 ·rw[if_pos h2,if_pos h2]
  refine ai (aC ?_)
  rw[StateT.run_pure]
  refine ai (aC ?_)
  dsimp only
  refine ai (seqEpoch_at QY rfl ?_)
  refine ai (listUpdate_at QY rfl ?_ (eI _) (by rw[Array.size_map];show(pairsOf vs).size<=_;rw[pairsOf_size];lia))
  simp only[bne_self_eq_false,gu,if_false]
  refine aC (fin (SortSt.mk' general' (vs.toArray.zip vs.toArray) #[] 7 none) (Array.Perm.refl _) ?_)
  intro i j _ gX hj
  have:i=j:=by lia
  subst this;exact wd _
 ·rw[if_neg h2,if_neg h2]
  refine ai (hk (by lia) _ ?_)
  refine ai (qf (wpS_sortRuns (st:=SortSt.mk' κ (vs.toArray.zip vs.toArray) #[] 7 none)
   (Q:=fun _ ag=>(arrOf ag).Perm (pairsOf vs)/\failedOf ag=none/\Up r (arrOf ag) 0 vs.length)
   (C (by lia)) rfl (fun p hp=>?_) rfl rfl fun ag a1 a2 a3=>⟨a1,a2,?_⟩) ?_ fun _ _ e=>e)
  ·have js:p∈(pairsOf vs).toList:=hp
   rw[pairsOf_toList] at js
   exact hP _ (mem_zip_self js).2
  ·have e:(arrOf (SortSt.mk' κ (vs.toArray.zip vs.toArray) #[] 7 none)).size=vs.length:=pairsOf_size vs
   rw[e] at a3
   exact a3
  ·rintro⟨⟨⟩,ag⟩ s' ⟨rfl,hp,hf,hs⟩
   dsimp only
   refine ai (seqEpoch_at QY rfl ?_)
   refine ai (listUpdate_at QY rfl ?_ (eI _) (by refine iS (GO ((Array.size_map ..).trans (hp.size_eq.trans (pairsOf_size _)))) ?_;lia))
   rw[hf]
   simp only[bne_self_eq_false,gu,if_false]
   exact aC (fin ag hp hs)
def gR (h:Heap) (vs:List Value):Heap:=((h.push (seqObj "list" #[] 0)).update h.objs.size (Obj.mapSeq (· ++ vs.toArray))).push (seqObj "list" vs.toArray 0)
theorem kO(hb:h.get? b=some o):(dI (gR h vs) (h.objs.size+1) vs).get? b=some o:=by
 have dr:b<h.objs.size:=dv hb
 have e:(gR h vs).get? b=some o:=by
  unfold gR
  rw[GB _ _ _ (by rw[GH,size_push'];exact eT (tS dr)),Heap.get?_update_ne _ _ _ _ (eT dr),GB _ _ _ (eT dr)]
  exact hb
 rw[gK (eT (tS dr)) (dv e)]
 exact e
theorem yx(hl:s.heap.IsList l vs.toArray)(hsz:vs.length<=sizeLine)(hP:∀ v∈vs,P v)
  (hk:2<=vs.length->∀ (A':Around) (E':Value->Shared->Prop) (s':Shared),(∀ b o,s.heap.get? b=some o->s'.heap.get? b=some o)->∀ (Q:SortKind->Shared->Prop),Q κ s'->wpAny (model prog w) A' (keyKind' vs.toArray) Q E' s')
  (C:2<=vs.length->∀ (s':Shared),(∀ b o,s.heap.get? b=some o->s'.heap.get? b=some o)->lT prog w A.in1.in1 s' κ r P)
  (h:∀ (h':Heap) (out:List Value) (n:Nat),out.Perm vs->(out.Pairwise fun x y=>r x<=r y)->(∀ b o,s.heap.get? b=some o->h'.get? b=some o)->h'.get? (s.heap.objs.size+1)=some (seqObj "list" out.toArray n)->Q (.ref (s.heap.objs.size+1)) { s with heap:=h' }) :
  wpAny (model prog w) A (call (.builtin "sorted") [.ref l]) Q E s:=by
 refine Calls.call_function_entry kind_sorted plain_sorted entry_sorted (args_sorted1 _) ?_
 unfold Builtin.«sorted»
 refine ai (m:=checkCount "sorted" 1 1 _) (aC ?_)
 refine ai (collect_list hl ?_ hsz)
 refine ai (wpAny_newList ?_ (by simpa using hsz))
 have X_:((s.heap.push (seqObj "list" #[] 0)).update s.heap.objs.size (Obj.mapSeq (· ++ vs.toArray))).objs.size=s.heap.objs.size+1:=by
  rw[GH,size_push']
 have wo:(gR s.heap vs).get? (s.heap.objs.size+1)=some (seqObj "list" vs.toArray 0):=by
  unfold gR
  rw[<- X_];exact i3 _ rfl
 show wpAny _ _ _ _ _ { s with heap:=gR s.heap vs }
 rw[X_]
 refine ai (wpAny_holding (wpAny_call_entry slot_list_sort ⟨_,wo,rfl⟩ entry_list_sort (fV (r:=r) (s:={ s with heap:=gR s.heap vs }) wo hsz hP
  (fun h2=>hk h2 _ _ _ fun b o e=>kO e) (fun h2=>?_) fun out a1 a2=>⟨_,rfl,?_⟩) (args_list_sort _)))
 ·exact C h2 _ fun b o e=>kO e
 ·obtain⟨n,e⟩:=sortedAll_at s.heap vs out
  refine aC ⟨_,rfl,h (sortedAll s.heap vs out) out.toList n a1 a2 (fun b o e=>sortedAll_old e) (by rw[P4];exact e)⟩
end
end x3
namespace L2
open PySem PySem.Spec PyProof.Rows
def pS:Key->Key->Bool
 |.inl i,.inl j=>decide (i<j)
 |.inr x,.inr y=>px x y
 |_,_=>false
def dz:List Key->List Key->Bool
 |a :: as,b :: bs=>if a=b then dz as bs else pS a b
 |_,_=>false
def w9:Key->Bool
 |.inl _=>true
 |.inr _=>false
def eB(k:List Key):List Bool:=k.map w9
theorem wZ(x:Str):px x x=false:=by unfold px;simp[List.lt_irrefl]
theorem Ci(h:px x y=true)(g:px y z=true):px x z=true:=by
 unfold px at *
 simp only[decide_eq_true_eq] at *
 exact List.lt_trans h g
theorem xN{x y:Str}(h:x.cps.toList=y.cps.toList):x=y:=by
 cases x;cases y
 simp only at h
 rw[P5.mp h]
theorem xY{x y:Str}(h:px x y=false)(g:px y x=false):x=y:=by
 unfold px at *
 simp only[decide_eq_false_iff_not] at *
 apply xN
 exact List.le_antisymm (List.not_lt.mp g) (List.not_lt.mp h)
theorem Dn(a:Key):pS a a=false:=by cases a with|inl i=>simp[pS]|inr x=>exact wZ x
theorem Hr(h:pS a b=true)(g:pS b c=true):pS a c=true:=by
 cases a<;>cases b<;>cases c<;>simp only[pS,decide_eq_true_eq] at *<;>first|lia|contradiction|exact Ci h g
theorem CN(e:w9 a=w9 b)(h:pS a b=false)(g:pS b a=false):a=b:=by
 cases a<;>cases b<;>simp only[pS,w9,decide_eq_false_iff_not] at *
 ·congr 1;lia
 ·cases e
 ·cases e
 ·congr 1;exact xY h g
theorem oW:∀ a:List Key,dz a a=false
 |[]=>rfl
 |a :: as=>by unfold dz;rw[if_pos rfl];exact oW as
theorem qI:∀ {a b c:List Key},dz a b=true->dz b c=true->dz a c=true
 |[],_,_,h,_=>by simp[dz] at h
 |_ :: _,[],_,h,_=>by simp[dz] at h
 |_ :: _,_ :: _,[],_,g=>by simp[dz] at g
 |a :: as,b :: bs,c :: cs,h,g=>by
  unfold dz at h g ⊢
  by_cases e1:a=b
  ·subst e1
   rw[if_pos rfl] at h
   by_cases e2:a=c
   ·subst e2
    rw[if_pos rfl] at g ⊢
    exact qI h g
   ·rw[if_neg e2] at g ⊢
    exact g
  ·rw[if_neg e1] at h
   by_cases e2:b=c
   ·subst e2
    rw[if_neg e1]
    exact h
   ·rw[if_neg e2] at g
    have t:=Hr h g
    have ne:a≠c:=fun e=>by subst e;rw[Dn] at t;cases t
    rw[if_neg ne]
    exact t
theorem lL:∀ {a b:List Key},eB a=eB b->dz a b=false->dz b a=false->a=b
 |[],[],_,_,_=>rfl
 |[],_ :: _,e,_,_=>by simp[eB] at e
 |_ :: _,[],e,_,_=>by simp[eB] at e
 |a :: as,b :: bs,e,h,g=>by
  simp only[eB,ft,List.cons.injEq] at e
  unfold dz at h g
  by_cases e1:a=b
  ·subst e1
   rw[if_pos rfl] at h g
   rw[lL (show eB as=eB bs from e.2) h g]
  ·rw[if_neg e1] at h
   rw[if_neg (Ne.symm e1)] at g
   exact absurd (CN e.1 h g) e1
theorem count_le(p q:α->Bool):∀ (l:List α),(∀ x∈l,p x=true->q x=true)->l.countP p<=l.countP q
 |[],_=>bT _
 |x :: l,h=>by
  have ih:=count_le p q l fun y hy=>h y (ck _ hy)
  have h1:=h x cq
  rw[PF,PF]
  cases hp:p x<;>cases hq:q x<;>simp_all<;>lia
theorem oA(p q:α->Bool)(a:α)(ha:p a=false)(hb:q a=true):∀ (l:List α),a∈l->(∀ x∈l,p x=true->q x=true)->l.countP p<l.countP q
 |[],m,_=>by cases m
 |x :: l,m,h=>by
  rw[PF,PF]
  rcases dc.mp m with rfl|m
  ·have:=count_le p q l fun y hy=>h y (ck _ hy)
   rw[ha,hb];simp;lia
  ·have ih:=oA p q a ha hb l m fun y hy=>h y (ck _ hy)
   have h1:=h x cq
   cases hp:p x<;>cases hq:q x<;>simp_all<;>lia
def IX(L:List (List Key))(k:List Key):Int:=(L.countP fun j=>dz j k:Nat)
theorem yK(e:eB a=eB b)(ma:a∈L):decide (IX L a<IX L b)=dz a b:=by
 unfold IX
 cases h:dz a b with
 |true =>
  have:=oA (fun j=>dz j a) (fun j=>dz j b) a (oW a) h L ma fun x _ hx=>qI hx h
  exact decide_eq_true (by lia)
 |false =>
  apply decide_eq_false
  cases g:dz b a with
  |false=>rw[lL e h g];lia
  |true =>
   have:=count_le (fun j=>dz j b) (fun j=>dz j a) L fun x _ hx=>qI hx g
   lia
def Ub:V->Option Key
 |.int i=>some (.inl i)
 |.str x=>some (.inr x)
 |_=>none
theorem Jf(k:Key):Ub (kV k)=some k:=by cases k<;>rfl
theorem BP:∀ k:List Key,(k.map kV).filterMap Ub=k
 |[]=>rfl
 |a :: as=>by rw[ft,y2,Jf,BP as]
def mC(H:Hp):Value->List Key
 |.ref b=>match H b with
  |some (.tup xs)=>xs.filterMap Ub
  |_=>[]
 |_=>[]
theorem cQ(h:H b=some (.tup (k.map kV))):mC H (.ref b)=k:=by
 simp only[mC,h];exact BP k
section
variable {prog:Program}{w:World}{A:Around}{E:Value->Shared->Prop}{s:Shared}{Q:Bool->Shared->Prop}
theorem Ij(ru:RelV (kV a) u)(rv:RelV (kV b) v)(e:w9 a=w9 b)(q:Q (pS a b) s):wpAny (model prog w) A (oneLt' false u v) Q E s:=by
 refine PySem.W.kat_one u v ?_
 cases a with
 |inl i =>
  cases b with
  |inr x=>cases e
  |inl j =>
   obtain⟨t,rfl⟩:=ru
   obtain⟨t',rfl⟩:=rv
   exact lt_int q
 |inr x =>
  cases b with
  |inl j=>cases e
  |inr y =>
   obtain⟨t,rfl⟩:=ru
   obtain⟨t',rfl⟩:=rv
   exact PySem.P.lt_str q
theorem Cg(ru:RelV (kV a) u)(rv:RelV (kV b) v)(e:w9 a=w9 b)(q:Q (decide (a=b)) s):wpAny (model prog w) A (eqBool u v) Q E s:=by
 cases a with
 |inl i =>
  cases b with
  |inr x=>cases e
  |inl j =>
   obtain⟨t,rfl⟩:=ru
   obtain⟨t',rfl⟩:=rv
   refine wpAny_eqBool_int ?_
   rw[<- Wd];exact q
 |inr x =>
  cases b with
  |inl j=>cases e
  |inr y =>
   obtain⟨t,rfl⟩:=ru
   obtain⟨t',rfl⟩:=rv
   refine wpAny_eqBool_str ?_
   rw[<- Wg];exact q
theorem Ae(k m:List Key)(us vs:List Value)(i:Nat)(ha:Vals (k.map kV) us)(hb:Vals (m.map kV) vs)(e:eB k=eB m)(hf:fin=false)(q:Q (dz k m) s) :
  PySem.W.KatLex prog w A true fin Q (us.zip vs) i s:=by
 induction k generalizing m us vs i with
 |nil =>
  cases m with
  |cons b m=>simp[eB] at e
  |nil =>
   rw[Paired.n0 ha,Paired.n0 hb]
   subst hf
   exact PySem.W.kat_nil q
 |cons a k ih =>
  cases m with
  |nil=>simp[eB] at e
  |cons b m =>
   obtain⟨u,us,rfl,ra,rk⟩:=Paired.c ha
   obtain⟨v,vs,rfl,rb,rm⟩:=Paired.c hb
   simp only[eB,ft,List.cons.injEq] at e
   rw[vS]
   refine PySem.W.kat_cons (Cg ra rb e.1 (PySem.W.kat_go (fun h=>PySem.W.kat_yes ?_) (fun h=>PySem.W.kat_no ?_)))
   ·have h:=of_decide_eq_true h
    subst h
    unfold dz at q
    rw[if_pos rfl] at q
    exact ih m _ _ (i+1) rk rm e.2 q
   ·have h:=of_decide_eq_false h
    unfold dz at q
    rw[if_neg h] at q
    by_cases h0:i=0
    ·subst h0
     cases a with
     |inr x =>
      cases b with
      |inl j=>cases e.1
      |inr y =>
       obtain⟨t,rfl⟩:=ra
       obtain⟨t',rfl⟩:=rb
       exact oneLt_str q
     |inl i =>
      cases b with
      |inr x=>cases e.1
      |inl j =>
       obtain⟨t,rfl⟩:=ra
       obtain⟨t',rfl⟩:=rb
       exact oneLt_int q
    ·rw[show(true && i == 0)=false by simp[h0]]
     exact Ij ra rb e.1 q
end
section
variable {X:Cx}{pins:List (Addr × Obj)}{σ:St}{H:Hp}{s:Shared}
theorem Inv.tup(I:Inv X pins σ H s)(h:H b=some (.tup xs)):∃ its:List Value,Vals xs its/\IsTup s.heap b its.toArray:=(I.bp b _ h).2
theorem tZ(I:Inv X pins σ H s)(kp:∀ b o,s.heap.get? b=some o->s'.heap.get? b=some o) :
  x3.lT X.prog X.w A s' (tuples' true) (fun v=>IX L (mC H v)) (fun v=>∃ b k,v=.ref b/\H b=some (.tup (k.map kV))/\eB k=b0 :: sh/\k∈L):=by
 rintro x y ⟨b,k,rfl,hb,hk,mk⟩ ⟨c,m,rfl,hc,hm,mm⟩ Q E q
 obtain⟨us,ru,o,e1,c1,n1,d1⟩:=I.tup hb
 obtain⟨vs,rv,o',e2,c2,n2,d2⟩:=I.tup hc
 have Au:eB k=eB m:=hk.trans hm.symm
 simp only[cQ hb,cQ hc] at q
 rw[yK Au mk] at q
 refine PySem.W.kat_lt (kp _ _ e1) d1 (kp _ _ e2) d2 (Ae k m us vs 0 ru rv Au ?_ q)
 ·have h1:=ru.length
  have h2:=rv.length
  have h3:k.length=m.length:=by
   have:=congrArg List.length Au
   simpa[eB] using this
  simp only[cE] at h1 h2
  exact decide_eq_false (by simp only[ip];lia)
theorem kat_tups(I:Inv X pins σ H s){s':Shared}(kp:∀ b o,s.heap.get? b=some o->s'.heap.get? b=some o){b0:Bool}{sh:List Bool}{ys:List V}{ks:List (List Key)}{vs:List Value}(ht:cR H ys ks)(hv:Vals ys vs)(hs:∀ k∈ks,eB k=b0 :: sh) :
  ∃ fs:List Value,PySem.W.KatTups s'.heap vs fs/\fs.length=vs.length/\∀ f∈fs,(b0=true->∃ i t,f=Value.int i t)/\(b0=false->∃ x t,f=Value.str x t):=by
 induction ys generalizing ks vs with
 |nil =>
  rw[Paired.n0 hv]
  exact⟨[],.nil,rfl,by simp⟩
 |cons y ys ih =>
  obtain⟨k,ks,rfl,⟨b,rfl,hb⟩,t⟩:=Paired.c ht
  obtain⟨v,vs,rfl,rfl,rs⟩:=Paired.c hv
  obtain⟨fs,f1,f2,f3⟩:=ih t rs fun j hj=>hs j (ck _ hj)
  have hk:=hs k cq
  obtain⟨us,ru,o,e1,c1,n1,d1⟩:=I.tup hb
  cases k with
  |nil=>simp[eB] at hk
  |cons a k =>
   obtain⟨u,us,rfl,ra,rr⟩:=Paired.c ru
   simp only[eB,ft,List.cons.injEq] at hk
   refine⟨u :: fs,.cons (kp _ _ e1) c1 d1 rfl f1,by simp[f2],fun f hf=>?_⟩
   rcases dc.mp hf with rfl|hf
   ·cases a with
    |inr x =>
     obtain⟨tk,rfl⟩:=ra
     exact⟨(fun z=>by rw[<- hk.1] at z;cases z),fun _=>⟨_,_,rfl⟩⟩
    |inl i =>
     obtain⟨tk,rfl⟩:=ra
     exact⟨fun _=>⟨_,_,rfl⟩,fun z=>by rw[<- hk.1] at z;cases z⟩
   ·exact f3 f hf
end
theorem cR.keys(h:cR H ys ks)(hv:Vals ys vs):vs.map (mC H)=ks/\∀ v∈vs,∃ b k,v=.ref b/\H b=some (.tup (k.map kV))/\k∈ks:=by
 induction ys generalizing ks vs with
 |nil=>rw[Paired.n0 hv,show ks=[] from Paired.n0 h];exact⟨rfl,by simp⟩
 |cons y ys ih =>
  obtain⟨k,ks,rfl,⟨b,rfl,g⟩,t⟩:=Paired.c h
  obtain⟨v,vs,rfl,rfl,rs⟩:=Paired.c hv
  obtain⟨e,m⟩:=ih t rs
  refine⟨by rw[ft,cQ g,e],fun v hv=>?_⟩
  rcases dc.mp hv with rfl|hv
  ·exact⟨b,k,rfl,g,cq⟩
  ·obtain⟨b',k',e1,e2,e3⟩:=m v hv
   exact⟨b',k',e1,e2,ck _ e3⟩
theorem cR.of{H:Hp}{ks:List (List Key)}(vs:List Value)(h:∀ v∈vs,∃ b k,v=Value.ref b/\H b=some (.tup (k.map kV))/\k∈ks):∃ zs,cR H zs (vs.map (mC H))/\Vals zs vs:=by
 induction vs with
 |nil=>exact⟨[],.nil,.nil⟩
 |cons v vs ih =>
  obtain⟨zs,a,c⟩:=ih fun u hu=>h u (ck _ hu)
  obtain⟨b,k,rfl,e,_⟩:=h v cq
  exact⟨.ref b :: zs,.cons ⟨b,rfl,by rw[cQ e];exact e⟩ a,.cons rfl c⟩
end L2
namespace x3
open PySem PyProof.Rows
section
variable {prog:Program}{w:World}{A:Around}{E:Value->Shared->Prop}{s:Shared}{κ:SortKind}{r:Value->Int}{P:Value->Prop}
theorem pZ{T:String}{r d:Addr}{n:Nat}{P:Nat->Value->Prop}{OK:Heap->Prop}{R:Result->Shared->Prop}(K:PySem.W.KdlSrc prog w T r d n P OK)(hh:A.handled=none)(bp:OK s.heap)(hn:n<=sizeLine)
  (hR:∀ h' tk acc c,(∀ b o,s.heap.get? b=some o->h'.get? b=some o)->h'.get? s.heap.objs.size=some { cls:=.type "list",data:=.seq acc c }->ItemsOf P acc n->R (.ok (.ret (.ref s.heap.objs.size))) { s with heap:=h',toks:=tk }) :
  codeAny (model prog w) A (.builtin "proto.collect" ⟨[.ref r],[]⟩) R s:=by
 have Ya:=K.there _ bp
 have hS:(s.heap.push { cls:=.type "list",data:=.seq ([]:List Value).toArray }).get? s.heap.objs.size=some { cls:=.type "list",data:=.seq ([]:List Value).toArray }:=i3 _ rfl
 refine codeAny_builtin F.entry_proto_collect ?_
 rw[Around.under_plainId F.plain_proto_collect _]
 show wpAny _ A.in1 (newList [] >>= fun l=>again (.builtin "list.__iadd__" ⟨[l,.ref r],[]⟩)) _ _ s
 refine ai (wpAny_newObj_type ?_)
 refine aC ⟨plainId_quiet F.plain_list_iadd _,codeAny_builtin F.entry_list_iadd ?_⟩
 rw[Around.under_plainId F.plain_list_iadd _]
 show wpAny _ A.in1 (Builtin.List.listExtendWith (.ref s.heap.objs.size) (.ref r) (.ref s.heap.objs.size)) _ _ _
 exact PySem.W.kdl_extend (R:=R) (s:={ s with heap:=s.heap.push { cls:=.type "list",data:=.seq ([]:List Value).toArray } }) K hh (K.keep _ _ bp fun b _ o e=>eS _ e) s.heap.objs.size (LW Ya.1) (LW Ya.2) _ 0 hS
  (fun h' tk x8 c' kp eo ia=>hR h' tk x8 c' (fun b o e=>kp b o (eT (dv e)) (eS _ e)) eo ia) hn
theorem rW{T:String}{r d:Addr}{n:Nat}{P:Nat->Value->Prop}{OK:Heap->Prop}{Q:List Value->Shared->Prop}(K:PySem.W.KdlSrc prog w T r d n P OK)(hh:A.handled=none)(bp:OK s.heap)(hn:n<=sizeLine)
  (hQ:∀ h' tk acc,(∀ b o,s.heap.get? b=some o->h'.get? b=some o)->s.heap.objs.size<=h'.objs.size->ItemsOf P acc n->Q acc.toList { s with heap:=h',toks:=tk }):wpAny (model prog w) A (collect (.ref r)) Q E s:=by
 unfold collect
 refine ai (wpAny_runValue (pZ K hh bp hn fun h' tk acc c kp eo ia=>?_))
 show wpAny _ A (load s.heap.objs.size >>= _) _ _ { s with heap:=h',toks:=tk }
 refine ai (wpAny_load eo ?_)
 exact aC (hQ h' tk acc kp (kR (dv eo)) ia)
theorem u_{R:List Value->Prop}
  (Uc:∀ (A':Around) (E':Value->Shared->Prop) (Q':List Value->Shared->Prop),A'.handled=A.handled->(∀ vs h1 tk,R vs->(∀ b o,s.heap.get? b=some o->h1.get? b=some o)->s.heap.objs.size<=h1.objs.size->Q' vs { s with heap:=h1,toks:=tk })->wpAny (model prog w) A' (collect v) Q' E' s)
  (hsz:∀ vs,R vs->vs.length<=sizeLine) (hP:∀ vs,R vs->∀ v∈vs,P v)
  (hk:∀ vs,R vs->2<=vs.length->∀ (A':Around) (E':Value->Shared->Prop) (s':Shared),(∀ b o,s.heap.get? b=some o->s'.heap.get? b=some o)->∀ (Q:SortKind->Shared->Prop),Q κ s'->wpAny (model prog w) A' (keyKind' vs.toArray) Q E' s')
  (C:∀ (s':Shared),(∀ b o,s.heap.get? b=some o->s'.heap.get? b=some o)->lT prog w A.in1.in1 s' κ r P)
  (h:∀ (vs:List Value) (h':Heap) (a:Addr) (out:List Value) (n tk:Nat),R vs->out.Perm vs->(out.Pairwise fun x y=>r x<=r y)->(∀ b o,s.heap.get? b=some o->h'.get? b=some o)->s.heap.objs.size<=a->h'.get? a=some (seqObj "list" out.toArray n)->Q (.ref a) { s with heap:=h',toks:=tk }) :
  wpAny (model prog w) A (call (.builtin "sorted") [v]) Q E s:=by
 refine Calls.call_function_entry kind_sorted plain_sorted entry_sorted (args_sorted1 _) ?_
 unfold Builtin.«sorted»
 refine ai (m:=checkCount "sorted" 1 1 _) (aC ?_)
 refine ai (Uc _ _ _ rfl fun vs h1 tk hR kp hz=>?_)
 have AA:=hsz vs hR
 refine ai (wpAny_newList ?_ (by simpa using AA))
 have wo:(h1.push (seqObj "list" vs.toArray 0)).get? h1.objs.size=some (seqObj "list" vs.toArray 0):=i3 _ rfl
 have old:∀ b o,s.heap.get? b=some o->(dI (h1.push (seqObj "list" vs.toArray 0)) h1.objs.size vs).get? b=some o:=fun b o e=>by
  have dr:b<h1.objs.size:=dv (kp b o e)
  rw[gK (eT dr) (by rw[size_push'];exact tS dr)]
  exact eS _ (kp b o e)
 show wpAny _ _ _ _ _ { s with heap:=h1.push (seqObj "list" vs.toArray 0),toks:=tk }
 refine ai (wpAny_holding (wpAny_call_entry slot_list_sort ⟨_,wo,rfl⟩ entry_list_sort (fV (r:=r) (s:={ s with heap:=h1.push (seqObj "list" vs.toArray 0),toks:=tk }) wo AA (hP vs hR)
  (fun h2=>hk vs hR h2 _ _ _ old) (fun h2=>C _ old) fun out a1 a2=>⟨_,rfl,?_⟩) (args_list_sort _)))
 obtain⟨n,e⟩:=sortedHeap_at (out:=out) wo
 refine aC ⟨_,rfl,h vs _ h1.objs.size out.toList n tk hR a1 a2 (fun b o e=>?_) hz (by rw[P4];exact e)⟩
 have dr:b<h1.objs.size:=dv (kp b o e)
 rw[sortedHeap_old (eT dr) (by rw[size_push'];exact tS dr)]
 exact eS _ (kp b o e)
end
end x3
namespace L2
open PySem PySem.Spec PyProof.Rows
end L2
namespace L2.Q
open PySem PySem.Spec PyProof.Rows
inductive D where
 |non|bl (b:Bool)|int (i:Int)|str (x:Str)
 |list (xs:List D)|tup (xs:List D)|dK (kvs:List (Key × D))|dT (kvs:List (List Key × D))
mutual
/-- nothing in it can be changed -/
def D.flat:D->Bool
 |.list _=>false
 |.dK _=>false
 |.dT _=>false
 |.tup xs=>cf xs
 |_=>true
def cf:List D->Bool
 |[]=>true
 |x :: xs=>x.flat && cf xs
end
theorem lr:∀ {xs:List D},cf xs=true↔∀ x∈xs,x.flat=true
 |[]=>by simp[cf]
 |x :: xs=>by simp[cf,lr (xs:=xs)]
theorem fU:cf (xs++ys)=(cf xs && cf ys):=by
 induction xs with
 |nil=>simp[cf]
 |cons x xs ih=>simp[cf,ih,Bool.and_assoc]
def ya:Key->Bool
 |.inl _=>true
 |.inr x=>decide (x.length<=sizeLine)
def QZ(kvs:List (Key × D)):Prop:=kvs.length<=sizeLine/\∀ p∈kvs,ya p.1=true
def Q0(kvs:List (List Key × D)):Prop:=kvs.length<=sizeLine/\∀ p∈kvs,p.1.length<=sizeLine/\∀ k∈p.1,ya k=true
mutual
inductive Rep(K:PySem.W.Frag)(H:Hp):D->V->Prop
 |non:Rep K H .non .non
 |bl (b:Bool):Rep K H (.bl b) (.bl b)
 |int (i:Int):Rep K H (.int i) (.int i)
 |str {x:Str}:x.length<=sizeLine->Rep K H (.str x) (.str x)
 |list {a:Addr} {vs:List V} {ds:List D}:vs.length<=sizeLine->eJ K H a vs->aI K H ds vs->Rep K H (.list ds) (.ref a)
 |tup {a:Addr} {vs:List V} {ds:List D}:vs.length<=sizeLine->H a=some (.tup vs)->aI K H ds vs->Rep K H (.tup ds) (.ref a)
 |dK {a:Addr} {vs:List V} {kvs:List (Key × D)}:QZ kvs->Rd H a (.dK ((kvs.map (·.1)).zip vs))->aI K H (kvs.map (·.2)) vs->Rep K H (.dK kvs) (.ref a)
 |dT {a:Addr} {vs:List V} {kvs:List (List Key × D)}:Q0 kvs->Rd H a (.dT ((kvs.map (·.1)).zip vs))->aI K H (kvs.map (·.2)) vs->Rep K H (.dT kvs) (.ref a)
inductive aI(K:PySem.W.Frag)(H:Hp):List D->List V->Prop
 |nil:aI K H [] []
 |cons {d:D} {v:V} {ds:List D} {vs:List V}:Rep K H d v->aI K H ds vs->aI K H (d :: ds) (v :: vs)
end
theorem Rep.ind{K:PySem.W.Frag}{H:Hp}{m1:D->V->Prop}{m2:List D->List V->Prop}(h0:m1 .non .non)(hb:∀ b,m1 (.bl b) (.bl b))(hi:∀ i,m1 (.int i) (.int i))(hs:∀ x,x.length<=sizeLine->m1 (.str x) (.str x))
  (hl:∀ a vs ds,vs.length<=sizeLine->eJ K H a vs->aI K H ds vs->m2 ds vs->m1 (.list ds) (.ref a)) (ht:∀ a vs ds,vs.length<=sizeLine->H a=some (.tup vs)->aI K H ds vs->m2 ds vs->m1 (.tup ds) (.ref a))
  (hk:∀ a vs kvs,QZ kvs->Rd H a (.dK ((kvs.map (·.1)).zip vs))->aI K H (kvs.map (·.2)) vs->m2 (kvs.map (·.2)) vs->m1 (.dK kvs) (.ref a)) (hT:∀ a vs kvs,Q0 kvs->Rd H a (.dT ((kvs.map (·.1)).zip vs))->aI K H (kvs.map (·.2)) vs->m2 (kvs.map (·.2)) vs->m1 (.dT kvs) (.ref a))
  (hn:m2 [] []) (hc:∀ d v ds vs,Rep K H d v->aI K H ds vs->m1 d v->m2 ds vs->m2 (d :: ds) (v :: vs)):(∀ {d v},Rep K H d v->m1 d v)/\∀ {ds vs},aI K H ds vs->m2 ds vs :=
 ⟨fun r=>Rep.rec (motive_1:=fun d v _=>m1 d v) (motive_2:=fun ds vs _=>m2 ds vs) h0 hb hi (fun h=>hs _ h) (fun z s r ih=>hl _ _ _ z s r ih) (fun z s r ih=>ht _ _ _ z s r ih) (fun z s r ih=>hk _ _ _ z s r ih) (fun z s r ih=>hT _ _ _ z s r ih) hn (fun r s a b=>hc _ _ _ _ r s a b) r,
  fun r=>aI.rec (motive_1:=fun d v _=>m1 d v) (motive_2:=fun ds vs _=>m2 ds vs) h0 hb hi (fun h=>hs _ h) (fun z s r ih=>hl _ _ _ z s r ih) (fun z s r ih=>ht _ _ _ z s r ih) (fun z s r ih=>hk _ _ _ z s r ih) (fun z s r ih=>hT _ _ _ z s r ih) hn (fun r s a b=>hc _ _ _ _ r s a b) r⟩
theorem pf.k'(e:Rd H a (.dK kvs)):pf H a (kV k) (oo kvs k):=.inl ⟨kvs,k,e,rfl,rfl⟩
theorem pf.t'(e:Rd H a (.dT kvs))(eb:H b=some (.tup (k.map kV))):pf H a (.ref b) (oo kvs k):=.inr ⟨kvs,k,b,e,rfl,eb,rfl⟩
theorem aS.rd(s:aS H H')(h:Rd H a u):Rd H' a u:=h.imp (s _ _) fun⟨o,e⟩=>⟨o,s _ _ e⟩
theorem Rep.GK{K:PySem.W.Frag}(s:aS H H'):(∀ {d:D} {v:V},Rep K H d v->Rep K H' d v)/\∀ {ds:List D} {vs:List V},aI K H ds vs->aI K H' ds vs :=
 Rep.ind .non .bl .int (fun _ h=>.str h) (fun _ _ _ z h _ ih=>.list z (s.lst h) ih) (fun _ _ _ z h _ ih=>.tup z (s _ _ h) ih) (fun _ _ _ kk h _ ih=>.dK kk (aS.rd s h) ih) (fun _ _ _ kk h _ ih=>.dT kk (aS.rd s h) ih) .nil fun _ _ _ _ _ _ a b=>.cons a b
theorem Rep.same{K:PySem.W.Frag}(s:aS H H')(r:Rep K H d v):Rep K H' d v:=(Rep.GK s).1 r
theorem aI.same{K:PySem.W.Frag}(s:aS H H')(r:aI K H ds vs):aI K H' ds vs:=(Rep.GK s).2 r
theorem aI.ind{K:PySem.W.Frag}{H:Hp}{m:List D->List V->Prop}(hn:m [] [])(hc:∀ d v ds vs,Rep K H d v->aI K H ds vs->m ds vs->m (d :: ds) (v :: vs)):∀ {ds vs},aI K H ds vs->m ds vs :=
 fun r=>(Rep.ind (m1:=fun _ _=>True) (m2:=m) trivial (fun _=>trivial) (fun _=>trivial) (fun _ _=>trivial) (fun _ _ _ _ _ _ _=>trivial) (fun _ _ _ _ _ _ _=>trivial) (fun _ _ _ _ _ _ _=>trivial) (fun _ _ _ _ _ _ _=>trivial) hn fun d v ds vs r s _ b=>hc d v ds vs r s b).2 r
theorem aI.length{K:PySem.W.Frag}(r:aI K H ds vs):ds.length=vs.length :=
 aI.ind (m:=fun ds vs=>ds.length=vs.length) rfl (fun _ _ _ _ _ _ ih=>by rw[sD,sD,ih]) r
theorem aI.append{K:PySem.W.Frag}(r:aI K H ds vs)(t:aI K H es ws):aI K H (ds++es) (vs++ws) :=
 aI.ind (m:=fun ds vs=>aI K H (ds++es) (vs++ws)) t (fun _ _ _ _ h _ ih=>.cons h ih) r
theorem aI.get{K:PySem.W.Frag}{H:Hp}{ds:List D}{vs:List V}{i:Nat}{d:D}(r:aI K H ds vs)(e:ds[i]? = some d):∃ v,vs[i]? = some v/\Rep K H d v :=
 aI.ind (m:=fun ds vs=>∀ i d,ds[i]? = some d->∃ v,vs[i]? = some v/\Rep K H d v) (fun i d e=>by simp at e) (fun _ _ _ _ h _ ih i d e=>by
  cases i with
  |zero=>simp at e;subst e;exact⟨_,rfl,h⟩
  |succ i =>
   obtain⟨v,e1,r⟩:=ih i d (by simpa using e)
   exact⟨v,by simpa using e1,r⟩) r i d e
theorem aI.Yb{K:PySem.W.Frag}{H:Hp}{ds:List D}{vs:List V}{i:Nat}{v:V}(r:aI K H ds vs)(e:vs[i]? = some v):∃ d,ds[i]? = some d/\Rep K H d v :=
 aI.ind (m:=fun ds vs=>∀ i v,vs[i]? = some v->∃ d,ds[i]? = some d/\Rep K H d v) (fun i d e=>by simp at e) (fun _ _ _ _ h _ ih i d e=>by
  cases i with
  |zero=>simp at e;subst e;exact⟨_,rfl,h⟩
  |succ i =>
   obtain⟨v,e1,r⟩:=ih i d (by simpa using e)
   exact⟨v,by simpa using e1,r⟩) r i v e
theorem aI.drop{K:PySem.W.Frag}(n:Nat)(r:aI K H ds vs):aI K H (ds.drop n) (vs.drop n) :=
 aI.ind (m:=fun ds vs=>∀ n,aI K H (ds.drop n) (vs.drop n)) (fun n=>by rw[List.drop_nil,List.drop_nil];exact .nil) (fun _ _ _ _ h hs ih n=>by
  cases n with
  |zero=>exact .cons h hs
  |succ n=>exact ih n) r n
theorem aI.n0{K:PySem.W.Frag}(h:aI K H [] vs):vs=[]:=by cases h;rfl
theorem aI.c{K:PySem.W.Frag}(h:aI K H (d :: ds) vs):∃ u us,vs=u :: us/\Rep K H d u/\aI K H ds us:=by
 cases h with
 |cons r rs=>exact⟨_,_,rfl,r,rs⟩
theorem aI.take{K:PySem.W.Frag}(n:Nat)(r:aI K H ds vs):aI K H (ds.take n) (vs.take n) :=
 aI.ind (m:=fun ds vs=>∀ n,aI K H (ds.take n) (vs.take n)) (fun n=>by rw[List.take_nil,List.take_nil];exact .nil) (fun _ _ _ _ h hs ih n=>by
  cases n with
  |zero=>exact .nil
  |succ n=>exact .cons h (ih n)) r n
mutual
/-- what is owned: a tree whose lists and ij' stand at As,ik' il';its leaves shared (fl: and flat) -/
inductive bG(K:PySem.W.Frag)(Hs H:Hp)(fl:Bool):D->V->List Addr->Prop
 |sh {d:D} {v:V}:(fl=true->d.flat=true)->Rep K Hs d v->bG K Hs H fl d v []
 |list {a:Addr} {vs:List V} {ds:List D} {As:List Addr}:vs.length<=sizeLine->H a=some (.lst vs)->aD K Hs H fl ds vs As->bG K Hs H fl (.list ds) (.ref a) (a :: As)
 |tup {a:Addr} {vs:List V} {ds:List D} {As:List Addr}:vs.length<=sizeLine->Hs a=some (.tup vs)->cf ds=false->aD K Hs H fl ds vs As->bG K Hs H fl (.tup ds) (.ref a) As
 |dK {a:Addr} {vs:List V} {kvs:List (Key × D)} {As:List Addr}:QZ kvs->H a=some (.dK ((kvs.map (·.1)).zip vs))->aD K Hs H fl (kvs.map (·.2)) vs As->bG K Hs H fl (.dK kvs) (.ref a) (a :: As)
 |dT {a:Addr} {vs:List V} {kvs:List (List Key × D)} {As:List Addr}:Q0 kvs->H a=some (.dT ((kvs.map (·.1)).zip vs))->aD K Hs H fl (kvs.map (·.2)) vs As->bG K Hs H fl (.dT kvs) (.ref a) (a :: As)
inductive aD(K:PySem.W.Frag)(Hs H:Hp)(fl:Bool):List D->List V->List Addr->Prop
 |nil:aD K Hs H fl [] [] []
 |cons {d:D} {v:V} {ds:List D} {vs:List V} {As Bs:List Addr}:bG K Hs H fl d v As->aD K Hs H fl ds vs Bs->aD K Hs H fl (d :: ds) (v :: vs) (As++Bs)
end
def Own(H:Hp)(a:Addr):Prop:=(∃ vs,H a=some (.lst vs))\/(∃ kvs,H a=some (.dK kvs))\/∃ kvs,H a=some (.dT kvs)
section
variable {K:PySem.W.Frag}{Hs av H H':Hp}{fl:Bool}
theorem Own.ne(h:Own H a):H a≠none:=by
 rcases h with⟨_,e⟩|⟨_,e⟩|⟨_,e⟩<;>rw[e]<;>exact fun z=>nomatch z
theorem Own.Cm(h:Own H a):H a≠some (.tup vs):=by
 rcases h with⟨_,e⟩|⟨_,e⟩|⟨_,e⟩<;>rw[e]<;>exact fun z=>nomatch z
theorem bG.ind{m1:D->V->List Addr->Prop}{m2:List D->List V->List Addr->Prop}(hs:∀ d v,(fl=true->d.flat=true)->Rep K Hs d v->m1 d v [])
  (hl:∀ a vs ds As,vs.length<=sizeLine->H a=some (.lst vs)->aD K Hs H fl ds vs As->m2 ds vs As->m1 (.list ds) (.ref a) (a :: As)) (ht:∀ a vs ds As,vs.length<=sizeLine->Hs a=some (.tup vs)->cf ds=false->aD K Hs H fl ds vs As->m2 ds vs As->m1 (.tup ds) (.ref a) As)
  (hk:∀ a vs kvs As,QZ kvs->H a=some (.dK ((kvs.map (·.1)).zip vs))->aD K Hs H fl (kvs.map (·.2)) vs As->m2 (kvs.map (·.2)) vs As->m1 (.dK kvs) (.ref a) (a :: As)) (hT:∀ a vs kvs As,Q0 kvs->H a=some (.dT ((kvs.map (·.1)).zip vs))->aD K Hs H fl (kvs.map (·.2)) vs As->m2 (kvs.map (·.2)) vs As->m1 (.dT kvs) (.ref a) (a :: As))
  (hn:m2 [] [] []) (hc:∀ d v ds vs As Bs,bG K Hs H fl d v As->aD K Hs H fl ds vs Bs->m1 d v As->m2 ds vs Bs->m2 (d :: ds) (v :: vs) (As++Bs)):(∀ {d v As},bG K Hs H fl d v As->m1 d v As)/\∀ {ds vs As},aD K Hs H fl ds vs As->m2 ds vs As :=
 ⟨fun r=>bG.rec (motive_1:=fun d v As _=>m1 d v As) (motive_2:=fun ds vs As _=>m2 ds vs As) (fun f r=>hs _ _ f r) (fun z s r ih=>hl _ _ _ _ z s r ih) (fun z s n r ih=>ht _ _ _ _ z s n r ih) (fun z s r ih=>hk _ _ _ _ z s r ih) (fun z s r ih=>hT _ _ _ _ z s r ih) hn (fun r s a b=>hc _ _ _ _ _ _ r s a b) r,
  fun r=>aD.rec (motive_1:=fun d v As _=>m1 d v As) (motive_2:=fun ds vs As _=>m2 ds vs As) (fun f r=>hs _ _ f r) (fun z s r ih=>hl _ _ _ _ z s r ih) (fun z s n r ih=>ht _ _ _ _ z s n r ih) (fun z s r ih=>hk _ _ _ _ z s r ih) (fun z s r ih=>hT _ _ _ _ z s r ih) hn (fun r s a b=>hc _ _ _ _ _ _ r s a b) r⟩
theorem BQ{a:Addr}{p:Prop}(h:a∈([]:List Addr)):p:=absurd h CY
theorem bG.Yc:(∀ {d:D} {v:V} {As:List Addr},bG K Hs H fl d v As->∀ a∈As,Own H a)/\∀ {ds:List D} {vs:List V} {As:List Addr},aD K Hs H fl ds vs As->∀ a∈As,Own H a :=
 bG.ind (m1:=fun _ _ As=>∀ a∈As,Own H a) (m2:=fun _ _ As=>∀ a∈As,Own H a) (fun _ _ _ _ a h=>BQ h) (fun _ _ _ _ _ e _ ih a h=>(dc.mp h).elim (fun z=>z ▸ .inl ⟨_,e⟩) (ih a)) (fun _ _ _ _ _ _ _ _ ih=>ih)
  (fun _ _ _ _ _ e _ ih a h=>(dc.mp h).elim (fun z=>z ▸ .inr (.inl ⟨_,e⟩)) (ih a)) (fun _ _ _ _ _ e _ ih a h=>(dc.mp h).elim (fun z=>z ▸ .inr (.inr ⟨_,e⟩)) (ih a)) (fun a h=>BQ h) fun _ _ _ _ _ _ _ _ i1 i2 a h=>(dP.mp h).elim (i1 a) (i2 a)
theorem bG.own(r:bG K Hs H fl d v As):∀ a∈As,Own H a:=bG.Yc.1 r
theorem aD.own(r:aD K Hs H fl ds vs As):∀ a∈As,Own H a:=bG.Yc.2 r
theorem bG.G3(s:aS Hs av):(∀ {d:D} {v:V} {As:List Addr},bG K Hs H fl d v As->(∀ a∈As,H' a=H a)->bG K av H' fl d v As)/\∀ {ds:List D} {vs:List V} {As:List Addr},aD K Hs H fl ds vs As->(∀ a∈As,H' a=H a)->aD K av H' fl ds vs As :=
 bG.ind (m1:=fun d v As=>(∀ a∈As,H' a=H a)->bG K av H' fl d v As) (m2:=fun ds vs As=>(∀ a∈As,H' a=H a)->aD K av H' fl ds vs As) (fun _ _ f r _=>.sh f (r.same s))
  (fun _ _ _ _ z e _ ih k=>.list z ((k _ cq).trans e) (ih fun a h=>k a (ck _ h))) (fun _ _ _ _ z e n _ ih k=>.tup z (s _ _ e) n (ih k)) (fun _ _ _ _ z e _ ih k=>.dK z ((k _ cq).trans e) (ih fun a h=>k a (ck _ h)))
  (fun _ _ _ _ z e _ ih k=>.dT z ((k _ cq).trans e) (ih fun a h=>k a (ck _ h))) (fun _=>.nil) fun _ _ _ _ _ _ _ _ i1 i2 k=>.cons (i1 fun a h=>k a (kr _ h)) (i2 fun a h=>k a (fq _ h))
theorem bG.fv(s:aS Hs av)(r:bG K Hs H fl d v As)(k:∀ a∈As,H' a=H a):bG K av H' fl d v As:=(bG.G3 s).1 r k
theorem aD.fv(s:aS Hs av)(r:aD K Hs H fl ds vs As)(k:∀ a∈As,H' a=H a):aD K av H' fl ds vs As:=(bG.G3 s).2 r k
theorem bG.grow(s:aS Hs av)(t:aS H H')(r:bG K Hs H fl d v As):bG K av H' fl d v As :=
 r.fv s fun a h=>by
  cases e:H a with
  |none=>exact absurd e (r.own a h).ne
  |some o=>exact t a o e
theorem aD.grow(s:aS Hs av)(t:aS H H')(r:aD K Hs H fl ds vs As):aD K av H' fl ds vs As :=
 r.fv s fun a h=>by
  cases e:H a with
  |none=>exact absurd e (r.own a h).ne
  |some o=>exact t a o e
theorem bG.rep2{G:Hp}(s:aS Hs G):(∀ {d:D} {v:V} {As:List Addr},bG K Hs H fl d v As->(∀ a∈As,G a=H a)->Rep K G d v)/\∀ {ds:List D} {vs:List V} {As:List Addr},aD K Hs H fl ds vs As->(∀ a∈As,G a=H a)->aI K G ds vs :=
 bG.ind (m1:=fun d v As=>(∀ a∈As,G a=H a)->Rep K G d v) (m2:=fun ds vs As=>(∀ a∈As,G a=H a)->aI K G ds vs) (fun _ _ _ r _=>r.same s)
  (fun _ _ _ _ z e _ ih k=>.list z (.inl (.inl ((k _ cq).trans e))) (ih fun a h=>k a (ck _ h))) (fun _ _ _ _ z e n _ ih k=>.tup z (s _ _ e) (ih k)) (fun _ _ _ _ z e _ ih k=>.dK z (.inl ((k _ cq).trans e)) (ih fun a h=>k a (ck _ h)))
  (fun _ _ _ _ z e _ ih k=>.dT z (.inl ((k _ cq).trans e)) (ih fun a h=>k a (ck _ h))) (fun _=>.nil) fun _ _ _ _ _ _ _ _ i1 i2 k=>.cons (i1 fun a h=>k a (kr _ h)) (i2 fun a h=>k a (fq _ h))
theorem bG.rep(s:aS Hs G)(r:bG K Hs H fl d v As)(k:∀ a∈As,G a=H a):Rep K G d v:=(bG.rep2 s).1 r k
theorem aD.reps(s:aS Hs G)(r:aD K Hs H fl ds vs As)(k:∀ a∈As,G a=H a):aI K G ds vs:=(bG.rep2 s).2 r k
theorem Rep.xu(t:∀ a vs,H a=some (.tup vs)->G a=some (.tup vs)):(∀ {d:D} {v:V},Rep K H d v->d.flat=true->Rep K G d v)/\∀ {ds:List D} {vs:List V},aI K H ds vs->cf ds=true->aI K G ds vs :=
 Rep.ind (m1:=fun d v=>d.flat=true->Rep K G d v) (m2:=fun ds vs=>cf ds=true->aI K G ds vs) (fun _=>.non) (fun b _=>.bl b) (fun i _=>.int i) (fun _ h _=>.str h) (fun _ _ _ _ _ _ _ f=>by simp[D.flat] at f) (fun _ _ _ z e _ ih f=>.tup z (t _ _ e) (ih (by simpa[D.flat] using f)))
  (fun _ _ _ _ _ _ _ f=>by simp[D.flat] at f) (fun _ _ _ _ _ _ _ f=>by simp[D.flat] at f) (fun _=>.nil) fun _ _ _ _ _ _ i1 i2 f=>by
   simp only[cf,lI] at f
   exact .cons (i1 f.1) (i2 f.2)
theorem Rep.gF(t:∀ a vs,H a=some (.tup vs)->G a=some (.tup vs))(r:Rep K H d v)(f:d.flat=true):Rep K G d v:=(Rep.xu t).1 r f
theorem aI.gF(t:∀ a vs,H a=some (.tup vs)->G a=some (.tup vs))(r:aI K H ds vs)(f:cf ds=true):aI K G ds vs:=(Rep.xu t).2 r f
theorem aI.owned(r:aI K Hs ds vs)(f:cf ds=true):aD K Hs H fl ds vs [] :=
 aI.ind (m:=fun ds vs=>cf ds=true->aD K Hs H fl ds vs []) (fun _=>.nil) (fun _ _ _ _ h _ ih f=>by
  simp only[cf,lI] at f
  exact .cons (As:=[]) (.sh (fun _=>f.1) h) (ih f.2)) r f
theorem aI.Ir(r:aI K Hs ds vs):aD K Hs H false ds vs [] :=
 aI.ind (m:=fun ds vs=>aD K Hs H false ds vs []) .nil (fun _ _ _ _ h _ ih=>.cons (As:=[]) (.sh (fun z=>Bool.noConfusion z) h) ih) r
theorem bG.Yd:(∀ {d:D} {v:V} {As:List Addr},bG K Hs H fl d v As->bG K Hs H false d v As)/\∀ {ds:List D} {vs:List V} {As:List Addr},aD K Hs H fl ds vs As->aD K Hs H false ds vs As :=
 bG.ind (fun _ _ _ r=>.sh (fun z=>Bool.noConfusion z) r) (fun _ _ _ _ z e _ ih=>.list z e ih) (fun _ _ _ _ z e n _ ih=>.tup z e n ih) (fun _ _ _ _ z e _ ih=>.dK z e ih) (fun _ _ _ _ z e _ ih=>.dT z e ih) .nil fun _ _ _ _ _ _ _ _ a b=>.cons a b
theorem bG.Q5(r:bG K Hs H fl d v As):bG K Hs H false d v As:=bG.Yd.1 r
theorem aD.Q5(r:aD K Hs H fl ds vs As):aD K Hs H false ds vs As:=bG.Yd.2 r
theorem bG.Du(t:∀ a vs,Hs a=some (.tup vs)->G a=some (.tup vs)):(∀ {d:D} {v:V} {As:List Addr},bG K Hs H true d v As->bG K G H true d v As)/\∀ {ds:List D} {vs:List V} {As:List Addr},aD K Hs H true ds vs As->aD K G H true ds vs As :=
 bG.ind (fun _ _ f r=>.sh f (r.gF t (f rfl))) (fun _ _ _ _ z e _ ih=>.list z e ih) (fun _ _ _ _ z e n _ ih=>.tup z (t _ _ e) n ih) (fun _ _ _ _ z e _ ih=>.dK z e ih) (fun _ _ _ _ z e _ ih=>.dT z e ih) .nil fun _ _ _ _ _ _ _ _ a b=>.cons a b
theorem bG.leaves(t:∀ a vs,Hs a=some (.tup vs)->G a=some (.tup vs))(r:bG K Hs H true d v As):bG K G H true d v As:=(bG.Du t).1 r
theorem aD.ind{m:List D->List V->List Addr->Prop}(hn:m [] [] [])(hc:∀ d v ds vs As Bs,bG K Hs H fl d v As->aD K Hs H fl ds vs Bs->m ds vs Bs->m (d :: ds) (v :: vs) (As++Bs)):∀ {ds vs As},aD K Hs H fl ds vs As->m ds vs As :=
 fun r=>(bG.ind (m1:=fun _ _ _=>True) (m2:=m) (fun _ _ _ _=>trivial) (fun _ _ _ _ _ _ _ _=>trivial) (fun _ _ _ _ _ _ _ _ _=>trivial) (fun _ _ _ _ _ _ _ _=>trivial) (fun _ _ _ _ _ _ _ _=>trivial) hn fun d v ds vs As Bs r s _ b=>hc d v ds vs As Bs r s b).2 r
theorem aD.append(r:aD K Hs H fl ds vs As)(t:aD K Hs H fl es ws Bs):aD K Hs H fl (ds++es) (vs++ws) (As++Bs) :=
 aD.ind (m:=fun ds vs As=>aD K Hs H fl (ds++es) (vs++ws) (As++Bs)) t (fun _ _ _ _ _ _ h _ ih=>by
  rw[xl]
  exact .cons h ih) r
theorem aD.n0(h:aD K Hs H fl [] vs As):vs=[]/\As=[]:=by cases h;exact⟨rfl,rfl⟩
theorem aD.c(h:aD K Hs H fl (d :: ds) vs As):∃ u us A B,vs=u :: us/\As=A++B/\bG K Hs H fl d u A/\aD K Hs H fl ds us B:=by
 cases h with
 |cons r rs=>exact⟨_,_,_,_,rfl,rfl,r,rs⟩
theorem aD.length(r:aD K Hs H fl ds vs As):ds.length=vs.length :=
 aD.ind (m:=fun ds vs _=>ds.length=vs.length) rfl (fun _ _ _ _ _ _ _ _ ih=>by rw[sD,sD,ih]) r
end
inductive Sl where
 /-- shared;owned;owned and walked by a loop just now (at a) -/
 |sh (d:D)|ow (fl:Bool) (d:D)|lk (a:Addr) (fl:Bool) (d:D)
 /-- an exception,at a -/
 |xc (a:Addr)
abbrev Env:=List (Option Sl)
inductive SR(K:PySem.W.Frag)(Hs H:Hp):Env->St->List Addr->Prop
 |nil:SR K Hs H [] [] []
 |non {ρ:Env} {σ:St} {ah:List Addr} {o:Option V}:SR K Hs H ρ σ ah->SR K Hs H (none :: ρ) (o :: σ) ah
 |sh {ρ:Env} {σ:St} {ah:List Addr} {d:D} {v:V}:Rep K Hs d v->SR K Hs H ρ σ ah->SR K Hs H (some (.sh d) :: ρ) (some v :: σ) ah
 |xc {ρ:Env} {σ:St} {ah:List Addr} {a:Addr}:SR K Hs H ρ σ ah->SR K Hs H (some (.xc a) :: ρ) (some (.ref a) :: σ) ah
 |ow {ρ:Env} {σ:St} {ah As:List Addr} {fl:Bool} {d:D} {v:V}:As≠[]->bG K Hs H fl d v As->SR K Hs H ρ σ ah->SR K Hs H (some (.ow fl d) :: ρ) (some v :: σ) (As++ah)
 |lk {ρ:Env} {σ:St} {ah As:List Addr} {a:Addr} {fl:Bool} {d:D}:As≠[]->bG K Hs H fl d (.ref a) As->SR K Hs H ρ σ ah->SR K Hs H (some (.lk a fl d) :: ρ) (some (.ref a) :: σ) (As++ah)
structure Wf(Hs H:Hp):Prop where
 sub:aS Hs H
 iX:∀ a vs,H a=some (.tup vs)->Hs a=some (.tup vs)
structure dn(K:PySem.W.Frag)(Hs:Hp)(ρ:Env)(σ:St)(H:Hp)(ah:List Addr):Prop where
 sr:SR K Hs H ρ σ ah
 wf:Wf Hs H
 sR:ah.Nodup
 own:∀ a∈ah,Hs a=none
structure fh(Hs H av H':Hp):Prop where
 all:aS H H'
 sh:aS Hs av
 wf:Wf av H'
 new:∀ a,av a≠none->Hs a≠none\/H a=none
section
variable {K:PySem.W.Frag}{Hs H av H' Ye Yf:Hp}
theorem fh.refl(w:Wf Hs H):fh Hs H Hs H:=⟨aS.refl _,aS.refl _,w,fun _ h=>.inl h⟩
theorem fh.trans(a:fh Hs H av H')(b:fh av H' Ye Yf):fh Hs H Ye Yf :=
 ⟨a.all.trans b.all,a.sh.trans b.sh,b.wf,fun c h=>by
  rcases b.new c h with h|h
  ·exact a.new c h
  ·exact .inr (a.all.free h)⟩
theorem fh.pE(g:fh Hs H av H')(h:Hs a=none)(h':H a≠none):av a=none:=by
 cases e:av a with
 |none=>rfl
 |some o =>
  rcases g.new a (by rw[e];exact fun z=>nomatch z) with z|z
  ·exact absurd h z
  ·exact absurd z h'
theorem SR.own{ρ:Env}{σ:St}{ah:List Addr}(s:SR K Hs H ρ σ ah):∀ a∈ah,Own H a:=by
 induction s with
 |nil=>exact fun a h=>BQ h
 |non _ ih=>exact ih
 |sh _ _ ih=>exact ih
 |xc _ ih=>exact ih
 |ow _ r _ ih=>exact fun a h=>(dP.mp h).elim (r.own a) (ih a)
 |lk _ r _ ih=>exact fun a h=>(dP.mp h).elim (r.own a) (ih a)
theorem SR.fv(s:aS Hs av)(r:SR K Hs H ρ σ ah):(∀ a∈ah,H' a=H a)->SR K av H' ρ σ ah:=by
 induction r with
 |nil=>exact fun _=>.nil
 |non _ ih=>exact fun k=>.non (ih k)
 |sh h _ ih=>exact fun k=>.sh (h.same s) (ih k)
 |xc _ ih=>exact fun k=>.xc (ih k)
 |ow ne h _ ih=>exact fun k=>.ow ne (h.fv s fun a m=>k a (kr _ m)) (ih fun a m=>k a (fq _ m))
 |lk ne h _ ih=>exact fun k=>.lk ne (h.fv s fun a m=>k a (kr _ m)) (ih fun a m=>k a (fq _ m))
theorem dn.grow(r:dn K Hs ρ σ H ah)(g:fh Hs H av H'):dn K av ρ σ H' ah :=
 ⟨r.sr.fv g.sh fun a h=>by
  cases e:H a with
  |none=>exact absurd e (r.sr.own a h).ne
  |some o=>exact g.all a o e,g.wf,r.sR,fun a h=>g.pE (r.own a h) (r.sr.own a h).ne⟩
def Ad(K:PySem.W.Frag)(Hs H:Hp)(ah:List Addr)(sl:Sl)(v:V):Prop:=match sl with
 |.sh d=>Rep K Hs d v
 |.ow fl d=>∃ As,As≠[]/\bG K Hs H fl d v As/\∀ a∈As,a∈ah
 |.lk a fl d=>∃ As,As≠[]/\bG K Hs H fl d v As/\v=.ref a/\∀ a∈As,a∈ah
 |.xc a=>v=.ref a
theorem Ad.mono(h:Ad K Hs H ah sl v)(m:∀ a∈ah,a∈bP):Ad K Hs H bP sl v:=by
 cases sl with
 |sh d=>exact h
 |xc a=>exact h
 |ow fl d =>
  obtain⟨As,ne,r,q⟩:=h
  exact⟨As,ne,r,fun a ha=>m a (q a ha)⟩
 |lk a fl d =>
  obtain⟨As,ne,r,e,q⟩:=h
  exact⟨As,ne,r,e,fun a ha=>m a (q a ha)⟩
theorem SR.get{ρ:Env}{σ:St}{ah:List Addr}{i:Nat}{sl:Sl}(s:SR K Hs H ρ σ ah)(e:ρ[i]? = some (some sl)):∃ v,σ[i]? = some (some v)/\Ad K Hs H ah sl v:=by
 induction s generalizing i with
 |nil=>simp at e
 |non s ih =>
  cases i with
  |zero=>simp at e
  |succ i=>exact ih e
 |sh r s ih =>
  cases i with
  |zero=>simp at e;subst e;exact⟨_,rfl,r⟩
  |succ i=>exact ih e
 |xc s ih =>
  cases i with
  |zero=>simp at e;subst e;exact⟨_,rfl,rfl⟩
  |succ i=>exact ih e
 |ow ne r s ih =>
  cases i with
  |zero=>simp at e;subst e;exact⟨_,rfl,_,ne,r,fun a m=>kr _ m⟩
  |succ i =>
   obtain⟨v,e1,h⟩:=ih e
   exact⟨v,e1,h.mono fun a m=>fq _ m⟩
 |lk ne r s ih =>
  cases i with
  |zero=>simp at e;subst e;exact⟨_,rfl,_,ne,r,rfl,fun a m=>kr _ m⟩
  |succ i =>
   obtain⟨v,e1,h⟩:=ih e
   exact⟨v,e1,h.mono fun a m=>fq _ m⟩
end
inductive Md where
 |sh|ow (fl:Bool)|bo
def RM(K:PySem.W.Frag)(Hs H:Hp):Md->D->V->List Addr->Prop
 |.sh,d,v,As=>As=[]/\Rep K Hs d v
 |.ow fl,d,v,As=>bG K Hs H fl d v As/\As≠[]
 |.bo,d,v,As=>As=[]/\Rep K H d v
inductive AB(K:PySem.W.Frag)(Hs H:Hp):List (Md × D)->List V->List Addr->Prop
 |nil:AB K Hs H [] [] []
 |cons {m:Md} {d:D} {v:V} {ps:List (Md × D)} {vs:List V} {As Bs:List Addr}:RM K Hs H m d v As->AB K Hs H ps vs Bs->AB K Hs H ((m,d) :: ps) (v :: vs) (As++Bs)
section
variable {K:PySem.W.Frag}{Hs H av H':Hp}
theorem RM.own{m:Md}{d:D}{v:V}{As:List Addr}(r:RM K Hs H m d v As):∀ a∈As,Own H a:=by
 cases m with
 |sh=>obtain⟨rfl,_⟩:=r;exact fun a h=>BQ h
 |ow fl=>exact bG.own r.1
 |bo=>obtain⟨rfl,_⟩:=r;exact fun a h=>BQ h
theorem RM.grow(r:RM K Hs H m d v As)(g:fh Hs H av H'):RM K av H' m d v As:=by
 cases m with
 |sh=>exact⟨r.1,r.2.same g.sh⟩
 |ow fl=>exact⟨bG.grow g.sh g.all r.1,r.2⟩
 |bo=>exact⟨r.1,r.2.same g.all⟩
theorem RM.rep(w:Wf Hs H)(r:RM K Hs H m d v As):Rep K H d v:=by
 cases m with
 |sh=>exact r.2.same w.sub
 |ow fl=>exact bG.rep w.sub r.1 fun _ _=>rfl
 |bo=>exact r.2
theorem RM.flat(w:Wf Hs H)(r:RM K Hs H m d v As)(f:d.flat=true):Rep K Hs d v:=(r.rep w).gF w.iX f
theorem AB.reps(w:Wf Hs H){ps:List (Md × D)}(r:AB K Hs H ps vs As):aI K H (ps.map (·.2)) vs:=by
 induction r with
 |nil=>exact .nil
 |cons r _ ih=>exact .cons (r.rep w) ih
end
abbrev WE:=Env->(Md->D->Prop)->Prop
abbrev WT:=Env->(Bool->Prop)->Prop
abbrev WA:=Env->(List (Md × D)->Prop)->Prop
structure lC where
 nx:Env->Prop
 rt:Md->D->Prop
 bk:Env->Prop:=fun _=>False
 ct:Env->Prop:=fun _=>False
abbrev WS:=lC->Env->Prop
def cU(av H:Hp)(As:List Addr):Prop:=As.Nodup/\∀ a∈As,av a=none/\H a=none
def sT(K:PySem.W.Frag)(t:WE):TE:=fun σ H Qv=>∃ Hs ρ ah Q,dn K Hs ρ σ H ah/\t ρ Q /\
 ∀ v H' av m d As,fh Hs H av H'->RM K av H' m d v As->cU av H As->Q m d->Qv v H'
def BU(K:PySem.W.Frag)(t:WT):TT:=fun σ H Qv=>∃ Hs ρ ah Q,dn K Hs ρ σ H ah/\t ρ Q/\∀ b H' av,fh Hs H av H'->Q b->Qv b H'
def Ud(K:PySem.W.Frag)(t:WA):TA:=fun σ H Qv=>∃ Hs ρ ah Q,dn K Hs ρ σ H ah/\t ρ Q /\
 ∀ vs H' av ps As,fh Hs H av H'->AB K av H' ps vs As->cU av H As->Q ps->Qv vs H'
def yb(K:PySem.W.Frag)(L:Str->Hp->Prop)(t:WS):TS:=fun D σ H=>∃ Hs ρ ah E,dn K Hs ρ σ H ah/\t E ρ /\
 (∀ aE H' av bq bP,aS Hs av->dn K av bq aE H' bP->E.nx bq->D.nx aE H') /\
 (∀ aE H' av bq bP,aS Hs av->dn K av bq aE H' bP->E.bk bq->D.bk aE H') /\
 (∀ aE H' av bq bP,aS Hs av->dn K av bq aE H' bP->E.ct bq->D.ct aE H') /\
 (∀ v H' av m d As,aS Hs av->Wf av H'->RM K av H' m d v As->As.Nodup->(∀ a∈As,av a=none)->E.rt m d->D.rt v H') /\
 ∀ n H',aS Hs H'->E.rt (.ow false) (.str n)->L n H'
theorem gO{K:PySem.W.Frag}{L:Str->Hp->Prop}{t:WS}{D:Ends}{σ:St}{H:Hp}{G:Prop}(x:yb K L t D σ H)(k:∀ Hs ρ ah E,dn K Hs ρ σ H ah->t E ρ ->
 (∀ aE H' av bq bP,aS Hs av->dn K av bq aE H' bP->E.nx bq->D.nx aE H') ->
 (∀ aE H' av bq bP,aS Hs av->dn K av bq aE H' bP->E.bk bq->D.bk aE H') ->
 (∀ aE H' av bq bP,aS Hs av->dn K av bq aE H' bP->E.ct bq->D.ct aE H') ->
 (∀ v H' av m d As,aS Hs av->Wf av H'->RM K av H' m d v As->As.Nodup->(∀ a∈As,av a=none)->E.rt m d->D.rt v H') ->
 (∀ n H',aS Hs H'->E.rt (.ow false) (.str n)->L n H')->G):G :=
 by
 obtain⟨Hs,ρ,ah,E,sr,h,k1,k2,k3,k4,kx⟩:=x
 exact k Hs ρ ah E sr h k1 k2 k3 k4 kx
theorem fG{K:PySem.W.Frag}{L:Str->Hp->Prop}{t:WS}{D:Ends}{σ:St}{H:Hp}{G:Prop}(x:yb K L t D σ H)(k:∀ Hs ρ ah E,dn K Hs ρ σ H ah->t E ρ ->
 (∀ aE H' av bq bP,aS Hs av->dn K av bq aE H' bP->E.nx bq->D.nx aE H') ->
 (∀ aE H' av bq bP,aS Hs av->dn K av bq aE H' bP->E.bk bq->D.bk aE H') ->
 (∀ aE H' av bq bP,aS Hs av->dn K av bq aE H' bP->E.ct bq->D.ct aE H') ->
 (∀ v H' av m d As,aS Hs av->Wf av H'->RM K av H' m d v As->As.Nodup->(∀ a∈As,av a=none)->E.rt m d->D.rt v H')->G):G :=
 gO x fun Hs ρ ah E sr h k1 k2 k3 k4 _=>k Hs ρ ah E sr h k1 k2 k3 k4
theorem kF{α β γ δ:Type _}{A B C:α->β->γ->δ->Prop}{G:Prop}(x:∃ a b c d,A a b c d/\B a b c d/\C a b c d)(k:∀ a b c d,A a b c d->B a b c d->C a b c d->G):G :=
 by
 obtain⟨a,b,c,d,p,q,r⟩:=x
 exact k a b c d p q r
abbrev QE(X:Cx)(K:PySem.W.Frag)(e:Expr)(t:WE):Prop:=PE X e (sT K t)
abbrev QT(X:Cx)(K:PySem.W.Frag)(e:Expr)(t:WT):Prop:=PT X e (BU K t)
abbrev QW(X:Cx)(K:PySem.W.Frag)(e:Expr)(t:WT):Prop:=PW X e (BU K t)
abbrev QA(X:Cx)(K:PySem.W.Frag)(es:List Expr)(t:WA):Prop:=PA X es (Ud K t)
abbrev QS(X:Cx)(K:PySem.W.Frag)(L:Str->Hp->Prop)(st:Stmt)(t:WS):Prop:=PS X st (yb K L t)
abbrev n4(X:Cx)(K:PySem.W.Frag)(L:Str->Hp->Prop)(st:List Stmt)(t:WS):Prop:=nh X st (yb K L t)
abbrev L0:Str->Hp->Prop:=fun _ _=>True
end L2.Q
namespace L2.Q
open PySem PySem.Spec PyProof.Rows
structure Kt{α:Type}(f:α->Prop):Type where
def bI{α:Type}(a:α){f:α->Prop}(_:Kt f):Prop:=f a
mutual
def D.py:D->PyData
 |.non=>.none
 |.bl b=>.bool b
 |.int i=>.int i
 |.str x=>.str x
 |.list xs=>.list (kU xs)
 |.tup xs=>.tuple (kU xs)
 |.dK _=>.none
 |.dT _=>.none
def kU:List D->List PyData
 |[]=>[]
 |x :: xs=>x.py :: kU xs
end
def b9:Nat->D->Bool
 |_,.non=>true
 |_,.bl _=>true
 |_,.int _=>true
 |_,.str x=>PyData.strOk x
 |n+1,.list xs=>xs.all (b9 n)
 |n+1,.tup xs=>xs.all (b9 n)
 |_,_=>false
def fF(x y:D):Bool:=PyData.eqv x.py y.py
def D.ty:D->String
 |.non => "NoneType"
 |.bl _ => "bool"
 |.int _ => "int"
 |.str _ => "str"
 |.list _ => "list"
 |.tup _ => "tuple"
 |.dK _ => "dict"
 |.dT _ => "dict"
def D.key1:D->Option Key
 |.int i=>some (.inl i)
 |.str x=>some (.inr x)
 |_=>none
def fJ:List D->Option (List Key)
 |[]=>some []
 |x :: xs=>match x.key1,fJ xs with
  |some k,some ks=>some (k :: ks)
  |_,_=>none
section
variable {κ:Type}[DecidableEq κ]{β:Type}
def kg(kvs:List (κ × β))(k:κ):Option β:=(kvs.find? fun kv=>decide (kv.1=k)).map (·.2)
def kX(kvs:List (κ × β))(k:κ)(v:β):List (κ × β) :=
 if (kvs.any fun kv=>decide (kv.1=k))=true then kvs.map (fun kv=>if kv.1=k then (kv.1,v) else kv) else kvs++[(k,v)]
end
theorem Rep.Ue{K:PySem.W.Frag}:(∀ {d:D} {v:V},Rep K H d v->∀ n,b9 n d=true->L2.Rep K H d.py v)/\∀ {ds:List D} {vs:List V},aI K H ds vs->∀ n,(∀ d∈ds,b9 n d=true)->L2.aI K H (kU ds) vs :=
 Rep.ind (m1:=fun d v=>∀ n,b9 n d=true->L2.Rep K H d.py v) (m2:=fun ds vs=>∀ n,(∀ d∈ds,b9 n d=true)->L2.aI K H (kU ds) vs) (fun _ _=>.none) (fun b _ _=>.bool b) (fun i _ _=>.int i) (fun _ _ _ _=>.str _)
  (fun _ _ _ _ h _ ih n o=>by
   cases n with
   |zero=>simp[b9] at o
   |succ n=>exact .list h (ih n (by simpa[b9] using o)))
  (fun _ _ _ _ h _ ih n o=>by
   cases n with
   |zero=>simp[b9] at o
   |succ n=>exact .tuple (.inl (.inl h)) (ih n (by simpa[b9] using o)))
  (fun _ _ _ _ _ _ _ n o=>by cases n<;>simp[b9] at o) (fun _ _ _ _ _ _ _ n o=>by cases n<;>simp[b9] at o) (fun _ _=>.nil)
  fun _ _ _ _ _ _ i1 i2 n o=>.cons (i1 n (o _ cq)) (i2 n fun d m=>o d (ck _ m))
theorem Rep.l2{K:PySem.W.Frag}(r:Rep K H d v)(o:b9 n d=true):L2.Rep K H d.py v:=Rep.Ue.1 r n o
theorem yw(ih:∀ d,b9 n d=true->d.py.canLay0=true/\d.py.depth<=n)(xs:List D)(h:∀ x∈xs,b9 n x=true):PyData.canLayAll0 (kU xs)=true/\PyData.depthAll (kU xs)<=n:=by
 induction xs with
 |nil=>exact⟨rfl,eI _⟩
 |cons x xs Ug =>
  have h1:=ih x (h x cq)
  have h2:=Ug fun y hy=>h y (ck _ hy)
  simp only[kU,PyData.canLayAll0,PyData.depthAll,h1.1,h2.1,Bool.and_self,true_and]
  lia
theorem jn(n:Nat):∀ (d:D),b9 n d=true->d.py.canLay0=true/\d.py.depth<=n:=by
 have st:∀ (n:Nat) (x:Str),b9 n (.str x)=true->(D.str x).py.canLay0=true/\(D.str x).py.depth<=n:=fun n x h=>by
  have h:PyData.strOk x=true:=by cases n<;>simpa[b9] using h
  exact⟨by simpa[D.py,PyData.canLay0] using h,eI _⟩
 induction n with
 |zero =>
  intro d h
  cases d with
  |str x=>exact st _ x h
  |non=>exact⟨rfl,eI _⟩
  |bl _=>exact⟨rfl,eI _⟩
  |int _=>exact⟨rfl,eI _⟩
  |_=>simp[b9] at h
 |succ n ih =>
  intro d h
  cases d with
  |str x=>exact st _ x h
  |non=>exact⟨rfl,eI _⟩
  |bl _=>exact⟨rfl,eI _⟩
  |int _=>exact⟨rfl,eI _⟩
  |list xs =>
   have h:∀ x∈xs,b9 n x=true:=by simpa[b9] using h
   have:=yw ih xs h
   simp only[D.py,PyData.canLay0,PyData.depth]
   exact⟨this.1,by lia⟩
  |tup xs =>
   have h:∀ x∈xs,b9 n x=true:=by simpa[b9] using h
   have:=yw ih xs h
   simp only[D.py,PyData.canLay0,PyData.depth]
   exact⟨this.1,by lia⟩
  |dK _=>simp[b9] at h
  |dT _=>simp[b9] at h
mutual
def D.nb:D->Bool
 |.bl _=>false
 |.list xs=>pT xs
 |.tup xs=>pT xs
 |.dK _=>false
 |.dT _=>false
 |_=>true
def pT:List D->Bool
 |[]=>true
 |x :: xs=>x.nb && pT xs
end
mutual
theorem kY:∀ (x y:D),x.nb=true->y.nb=true->(fF x y=true↔x=y)
 |.non,y,_,hy=>by cases y<;>simp_all [fF,D.py,PyData.eqv,D.nb]
 |.bl _,y,hx,_=>by simp[D.nb] at hx
 |.int i,y,_,hy=>by cases y<;>simp_all [fF,D.py,PyData.eqv,D.nb]
 |.str i,y,_,hy=>by cases y<;>simp_all [fF,D.py,PyData.eqv,D.nb]
 |.dK _,y,hx,_=>by simp[D.nb] at hx
 |.dT _,y,hx,_=>by simp[D.nb] at hx
 |.list xs,y,hx,hy=>by
  cases y with
  |list ys =>
   have:=nM xs ys (by simpa[D.nb] using hx) (by simpa[D.nb] using hy)
   simp only[fF,D.py,PyData.eqv,D.list.injEq]
   exact this
  |_=>simp_all [fF,D.py,PyData.eqv,D.nb]
 |.tup xs,y,hx,hy=>by
  cases y with
  |tup ys =>
   have:=nM xs ys (by simpa[D.nb] using hx) (by simpa[D.nb] using hy)
   simp only[fF,D.py,PyData.eqv,D.tup.injEq]
   exact this
  |_=>simp_all [fF,D.py,PyData.eqv,D.nb]
theorem nM:∀ (xs ys:List D),pT xs=true->pT ys=true->(PyData.eqvAll (kU xs) (kU ys)=true↔xs=ys)
 |[],[],_,_=>by simp[kU,PyData.eqvAll]
 |[],_ :: _,_,_=>by simp[kU,PyData.eqvAll]
 |_ :: _,[],_,_=>by simp[kU,PyData.eqvAll]
 |x :: xs,y :: ys,hx,hy=>by
  simp only[pT,lI] at hx hy
  have h1:=kY x y hx.1 hy.1
  have h2:=nM xs ys hx.2 hy.2
  simp only[kU,PyData.eqvAll,lI,List.cons.injEq]
  exact and_congr h1 h2
end
section
variable {K:PySem.W.Frag}{H:Hp}
theorem Rep.key(r:Rep K H d v)(h:d.key1=some k):v=kV k:=by
 cases r<;>simp[D.key1] at h<;>subst h<;>rfl
theorem aI.keys(r:aI K H ds vs)(h:fJ ds=some ks):vs=ks.map kV:=by
 induction ds generalizing vs ks with
 |nil=>simp[fJ] at h;subst h;exact r.n0
 |cons d ds ih =>
  obtain⟨u,us,rfl,r,rs⟩:=r.c
  unfold fJ at h
  cases e1:d.key1 with
  |none=>rw[e1] at h;simp at h
  |some k =>
   cases e2:fJ ds with
   |none=>rw[e1,e2] at h;simp at h
   |some fm =>
    rw[e1,e2] at h
    simp at h
    subst h
    rw[ft,r.key e1,ih rs e2]
theorem Rep.nr(r:Rep K H (.tup ds) v)(h:fJ ds=some ks):∃ b,v=.ref b/\H b=some (.tup (ks.map kV)):=by
 cases r with
 |tup _ e rs=>exact⟨_,rfl,by rw[e,rs.keys h]⟩
end
section
variable {κ:Type}[DecidableEq κ]{K:PySem.W.Frag}{H:Hp}
theorem zip_get{k:κ}{kvs:List (κ × D)}{vs:List V}(h:aI K H (kvs.map (·.2)) vs):match kg kvs k with
  |some d=>∃ v,oo ((kvs.map (·.1)).zip vs) k=some v/\Rep K H d v
  |none=>oo ((kvs.map (·.1)).zip vs) k=none:=by
 induction kvs generalizing vs with
 |nil=>rfl
 |cons p kvs ih =>
  obtain⟨u,us,rfl,r,rs⟩:=aI.c (d:=p.2) h
  by_cases e:p.1=k
  ·have e1:kg (p :: kvs) k=some p.2:=by simp[kg,e]
   rw[e1]
   exact⟨_,by simp only[ft,vS];exact Qx e,r⟩
  ·have e1:kg (p :: kvs) k=kg kvs k:=by simp[kg,e]
   rw[e1]
   have:=ih rs
   simp only[ft,vS,Qy (p:=(p.1,_)) e]
   exact this
theorem E_{k:κ}{kvs:List (κ × D)}{vs:List V}(h:kvs.length=vs.length):((kvs.map (·.1)).zip vs).any (fun kv=>decide (kv.1=k))=kvs.any fun kv=>decide (kv.1=k):=by
 induction kvs generalizing vs with
 |nil=>rfl
 |cons p kvs ih =>
  cases vs with
  |nil=>simp at h
  |cons v vs =>
   simp only[ft,vS,AY]
   rw[ih (vs:=vs) (by simpa using h)]
end
section
variable {K:PySem.W.Frag}{Hs H:Hp}
theorem Q6(w:Wf Hs H)(hp:H p=none)(ho:∀ vs,o≠.tup vs):fh Hs H Hs (upd H p o) :=
 ⟨(aS.refl H).upd hp,aS.refl _,⟨w.sub.upd hp,fun a vs e=>by
  by_cases h:a=p
  ·subst h;rw[kK] at e;exact absurd (Option.some.inj e) (ho vs)
  ·rw[fE h] at e;exact w.iX a vs e⟩,fun _ h=>.inl h⟩
theorem Yg(w:Wf Hs H)(hp:H p=none):fh Hs H (upd Hs p (.tup vs)) (upd H p (.tup vs)) :=
 ⟨(aS.refl H).upd hp,(aS.refl Hs).upd (w.sub.free hp),⟨fun a o e=>by
  by_cases h:a=p
  ·subst h;rw[kK] at e ⊢;exact e
  ·rw[fE h] at e ⊢;exact w.sub a o e,fun a vs e=>by
  by_cases h:a=p
  ·subst h;rw[kK] at e ⊢;exact e
  ·rw[fE h] at e ⊢;exact w.iX a vs e⟩,fun a h=>by
  by_cases e:a=p
  ·subst e;exact .inr hp
  ·rw[fE e] at h;exact .inl h⟩
theorem cU.nil:cU Hs H []:=⟨oQ,fun a h=>nomatch h⟩
theorem cU.of(s:aS H H')(f:cU Hs H' As):cU Hs H As:=⟨f.1,fun a h=>⟨(f.2 a h).1,s.free (f.2 a h).2⟩⟩
abbrev Fin(K:PySem.W.Frag)(Hs H:Hp)(Qd:Md->D->Prop)(Qv:VK):Prop:=∀ v H' av m d As,fh Hs H av H'->RM K av H' m d v As->cU av H As->Qd m d->Qv v H'
theorem Fin.after(f:Fin K Hs H Qd Qv)(g:fh Hs H av H'):Fin K av H' Qd Qv:=fun v H2 aw m d As g2 r fr q=>f v H2 aw m d As (g.trans g2) r (fr.of g.all) q
theorem Fin.sh(f:Fin K Hs H Qd Qv)(w:Wf Hs H)(r:Rep K Hs d v)(q:Qd .sh d):Qv v H:=f v H Hs .sh d [] (fh.refl w) ⟨rfl,r⟩ cU.nil q
theorem Fin.flat(f:Fin K Hs H Qd Qv)(w:Wf Hs H)(r:Rep K H d v)(hf:d.flat=true)(q:Qd .sh d):Qv v H:=f.sh w (r.gF w.iX hf) q
theorem Fin.bo(f:Fin K Hs H Qd Qv)(w:Wf Hs H)(r:Rep K H d v)(q:Qd .bo d):Qv v H:=f v H Hs .bo d [] (fh.refl w) ⟨rfl,r⟩ cU.nil q
def mn(m:Md)(d:D):Md:=match m with
 |.sh=>.sh
 |_=>bif d.flat then .sh else .bo
theorem Fin.mn(f:Fin K Hs H Qd Qv)(w:Wf Hs H)(r:Rep K H d v)(rs:m=.sh->Rep K Hs d v)(q:Qd (mn m d) d):Qv v H:=by
 cases m with
 |sh=>exact f.sh w (rs rfl) q
 |ow fl =>
  cases hf:d.flat with
  |true=>exact f.flat w r hf (by simpa[Q.mn,hf] using q)
  |false=>exact f.bo w r (by simpa[Q.mn,hf] using q)
 |bo =>
  cases hf:d.flat with
  |true=>exact f.flat w r hf (by simpa[Q.mn,hf] using q)
  |false=>exact f.bo w r (by simpa[Q.mn,hf] using q)
theorem Fin.lst(f:Fin K Hs H Qd Qv)(w:Wf Hs H)(hz:ds.length<=sizeLine)(r:aI K H ds vs)(hf:cf ds=true)(q:Qd (.ow true) (.list ds)):∀ p,H p=none->Qv (.ref p) (upd H p (.lst vs)):=fun p hp =>
 f _ _ Hs (.ow true) (.list ds) [p] (Q6 w hp fun _ z=>nomatch z) ⟨.list (by rw[<- r.length];exact hz) kK ((r.gF w.iX hf).owned hf),by simp⟩ ⟨by simp,fun a h=>by
  obtain rfl:a=p:=by simpa using h
  exact⟨w.sub.free hp,hp⟩⟩ q
theorem Fin.NH(f:Fin K Hs H Qd Qv)(w:Wf Hs H)(hz:ds.length<=sizeLine)(r:aI K Hs ds vs)(q:Qd (.ow false) (.list ds)):∀ p,H p=none->Qv (.ref p) (upd H p (.lst vs)):=fun p hp =>
 f _ _ Hs (.ow false) (.list ds) [p] (Q6 w hp fun _ z=>nomatch z) ⟨.list (by rw[<- r.length];exact hz) kK r.Ir,by simp⟩ ⟨by simp,fun a h=>by
  obtain rfl:a=p:=by simpa using h
  exact⟨w.sub.free hp,hp⟩⟩ q
theorem Fin.tup(f:Fin K Hs H Qd Qv)(w:Wf Hs H)(hz:ds.length<=sizeLine)(r:aI K H ds vs)(hf:cf ds=true)(q:Qd .sh (.tup ds)):∀ p,H p=none->Qv (.ref p) (upd H p (.tup vs)):=fun p hp =>
 f _ _ (upd Hs p (.tup vs)) .sh (.tup ds) [] (Yg w hp) ⟨rfl,.tup (by rw[<- r.length];exact hz) kK ((r.gF w.iX hf).same ((aS.refl Hs).upd (w.sub.free hp)))⟩ cU.nil q
end
section
variable {X:Cx}{K:PySem.W.Frag}
theorem PE.imp(h:PE X e te)(i:∀ σ H Q,vn σ H Q->te σ H Q):PE X e vn:=fun pins s σ H Q I q=>h pins s σ H Q I (i σ H Q q)
theorem PT.imp(h:PT X e te)(i:∀ σ H Q,vn σ H Q->te σ H Q):PT X e vn:=fun pins s σ H Q I q=>h pins s σ H Q I (i σ H Q q)
theorem PW.imp(h:PW X e te)(i:∀ σ H Q,vn σ H Q->te σ H Q):PW X e vn:=fun wh pins s σ H Q I q=>h wh pins s σ H Q I (i σ H Q q)
theorem PA.imp(h:PA X e te)(i:∀ σ H Q,vn σ H Q->te σ H Q):PA X e vn:=fun p pins s σ H Q I q=>h p pins s σ H Q I (i σ H Q q)
def NJ:Option (Option Sl)->(Md->D->Prop)->Prop
 |some (some (.sh d)),Q=>Q .sh d
 |some (some (.ow _ d)),Q=>Q .bo d
 |some (some (.lk _ _ d)),Q=>Q .bo d
 |_,_=>False
def ae(i:Nat):WE:=fun ρ Q=>NJ ρ[i]? Q
theorem Jh(h:PE X e (DE i)):QE X K e (ae i):=by
 refine PE.imp h fun σ H Qv hx=>kF hx fun Hs ρ ah Q sr h f=>?_
 unfold ae at h
 cases e:ρ[i]? with
 |none=>rw[e] at h;exact h.elim
 |some o =>
  cases o with
  |none=>rw[e] at h;exact h.elim
  |some sl =>
   obtain⟨v,e1,r⟩:=sr.sr.get e
   rw[e] at h
   cases sl with
   |sh d=>exact⟨v,e1,Fin.sh f sr.wf r h⟩
   |xc a=>exact h.elim
   |ow fl d =>
    obtain⟨As,_,r,_⟩:=r
    exact⟨v,e1,Fin.bo f sr.wf (r.rep sr.wf.sub fun _ _=>rfl) h⟩
   |lk a fl d =>
    obtain⟨As,_,r,_⟩:=r
    exact⟨v,e1,Fin.bo f sr.wf (r.rep sr.wf.sub fun _ _=>rfl) h⟩
theorem qv (i:Nat) (hN:X.N[i]? = some x:=by rfl) (hv:L6 X.env.scope x:=by first|exact Or.inl rfl|exact Or.inr (Or.inl rfl)|exact Or.inr (Or.inr rfl)) (hd:(x == ("__debug__" : Str))=false:=by decide)
  (oS:(x == ("__classdict__" : Str))=false:=by decide):QE X K (.Name x pos) (ae i):=Jh (SF hN hv hd oS)
def wC(d:D):WE:=fun _ Q=>Q .sh d
theorem zq(h:PE X e (tC v))(r:∀ H,Rep K H d v):QE X K e (wC d) :=
 PE.imp h fun σ H Qv hx=>kF hx fun Hs ρ ah Q sr h f=>Fin.sh f sr.wf (r _) h
theorem au{i j pos}:QE X K (.Constant (.int i) j pos) (wC (.int i)):=zq aa' fun _=>.int i
theorem rK{i j pos}(h:i.length<=sizeLine:=by decide):QE X K (.Constant (.str i) j pos) (wC (.str i)):=zq ad' fun _=>.str h
theorem ot{i j pos}:QE X K (.Constant (.bool i) j pos) (wC (.bl i)):=zq ab' fun _=>.bl i
theorem xT{j pos}:QE X K (.Constant .none j pos) (wC .non):=zq ac' fun _=>.non
abbrev W2:=Md->D->Md->D->(Md->D->Prop)->Prop
abbrev W1:=Md->D->(Md->D->Prop)->Prop
def jv(K:PySem.W.Frag)(r:R2)(f:W2):Prop:=∀ Hs H m x v As n y u Bs Qd Qv,Wf Hs H->RM K Hs H m x v As->RM K Hs H n y u Bs->f m x n y Qd->Fin K Hs H Qd Qv->r v u H Qv
def Uh(K:PySem.W.Frag)(r:V->Hp->VK->Prop)(f:W1):Prop:=∀ Hs H m x v As Qd Qv,Wf Hs H->RM K Hs H m x v As->f m x Qd->Fin K Hs H Qd Qv->r v H Qv
def ax(f:W2)(ta tb:WE):WE:=fun ρ Q=>ta ρ fun m x=>tb ρ fun n y=>f m x n y Q
def hX(f:W1)(ta:WE):WE:=fun ρ Q=>ta ρ fun m x=>f m x Q
variable {a b:Expr}{ta tb tc:WE}{pos:Pos}
theorem jV(br:jv K r f)(σ:St)(H:Hp)(Qv:VK)(h:sT K (ax f ta tb) σ H Qv):My r (sT K ta) (sT K tb) σ H Qv:=by
 obtain⟨Hs,ρ,ah,Q,sr,h,fin⟩:=h
 refine⟨Hs,ρ,ah,_,sr,h,fun v H1 aT m x As g1 r1 f1 q1=>⟨aT,ρ,ah,_,sr.grow g1,q1,fun u H2 aw n y Bs g2 r2 f2 q2=>?_⟩⟩
 exact br aw H2 m x v As n y u Bs Q Qv g2.wf (r1.grow g2) r2 q2 (Fin.after fin (g1.trans g2))
theorem E2(ho:cS X (binaryOp op) r)(br:jv K r f)(ha:QE X K a ta)(hb:QE X K b tb):QE X K (.BinOp a op b pos) (ax f ta tb):=PE.imp (aM' ho ha hb) (jV br)
theorem dR'(ho:Qj X (unaryOp op) r)(br:Uh K r f)(ha:QE X K a ta):QE X K (.UnaryOp op a pos) (hX f ta):=by
 refine PE.imp (aN' ho ha) fun σ H Qv hx=>kF hx fun Hs ρ ah Q sr h fin=>?_
 exact⟨Hs,ρ,ah,_,sr,h,fun v H1 aT m x As g1 r1 f1 q1=>br aT H1 m x v As Q Qv g1.wf r1 q1 (Fin.after fin g1)⟩
theorem vh(ho:cS X (compareOp op) r)(br:jv K r f)(ha:QE X K a ta)(hb:QE X K b tb)(hm:behindInMarks op b=false):QE X K (.Compare a [op] [b] pos) (ax f ta tb):=PE.imp (bg' ho ha hb hm) (jV br)
def wB(t:WE):WT:=fun ρ Q=>t ρ fun _ x=>match x with
 |.bl b=>Q b
 |_=>False
theorem zx(σ:St)(H:Hp)(Qv:Bool->Hp->Prop)(h:BU K (wB t) σ H Qv):S5 (sT K t) σ H Qv:=by
 obtain⟨Hs,ρ,ah,Q,sr,h,fin⟩:=h
 refine⟨Hs,ρ,ah,_,sr,h,fun v H1 aT m x As g1 r1 f1 q1=>?_⟩
 have r:=r1.rep g1.wf
 cases r with
 |bl b=>exact⟨b,rfl,fin b H1 aT g1 q1⟩
 |_=>exact q1.elim
theorem bN(ho:cS X (compareOp op) r)(br:jv K r f)(ha:QE X K a ta)(hb:QE X K b tb)(hm:behindInMarks op b=false):QT X K (.Compare a [op] [b] pos) (wB (ax f ta tb)):=by
 refine PT.imp (bh' ho ha hb hm) fun σ H Qv h=>?_
 obtain⟨Hs,ρ,ah,Q,sr,h,fin⟩:=h
 refine jV br σ H _ ⟨Hs,ρ,ah,_,sr,h,fun v H1 aT m x As g1 r1 f1 q1=>?_⟩
 have r:=r1.rep g1.wf
 cases r with
 |bl b=>exact⟨b,rfl,fin b H1 aT g1 q1⟩
 |_=>exact q1.elim
theorem eU(h:QE X K a t)(he:∀ whole,isTrue a X.env whole=(do let v <- whole;standAt a.pos;holding [v] (truthy v)):=by intro _;rfl):QT X K a (wB t):=PT.imp (Wt h he) zx
def m7(f g:W2)(ta tb tc:WE):WE:=fun ρ Q=>ta ρ fun m x=>tb ρ fun n y=>f m x n y fun _ z=>match z with
 |.bl k=>if k=true then tc ρ fun l w=>g n y l w Q else Q .sh (.bl false)
 |_=>False
end
end L2.Q
namespace L2.Q
open PySem PySem.Spec PyProof.Rows
section
variable {X:Cx}{K:PySem.W.Frag}{a b c:Expr}{ta tb tc:WE}{pos:Pos}
theorem vf(br:jv K r f)(Ui:jv K r' g)(σ:St)(H:Hp)(Qv:VK)(h:sT K (m7 f g ta tb tc) σ H Qv):WX r r' (sT K ta) (sT K tb) (sT K tc) σ H Qv:=by
 obtain⟨Hs,ρ,ah,Q,sr,h,fin⟩:=h
 refine⟨Hs,ρ,ah,_,sr,h,fun v H1 aT m x As g1 r1 f1 q1=>⟨aT,ρ,ah,_,sr.grow g1,q1,fun u H2 aw n y Bs g2 r2 f2 q2=>?_⟩⟩
 refine br aw H2 m x v As n y u Bs _ _ g2.wf (r1.grow g2) r2 q2 fun z H3 fR m3 d3 IY g3 r3 f3 q3=>?_
 have rr:=r3.rep g3.wf
 cases rr with
 |bl k =>
  refine⟨k,rfl,?_⟩
  have QX:Fin K fR H3 Q Qv:=Fin.after fin ((g1.trans g2).trans g3)
  cases k with
  |false=>exact QX.sh g3.wf (.bl false) q3
  |true =>
   refine⟨fR,ρ,ah,_,((sr.grow g1).grow g2).grow g3,q3,fun w H4 IZ l z I0 g4 r4 f4 q4=>?_⟩
   exact Ui IZ H4 n y u Bs l z w I0 Q Qv g4.wf ((r2.grow g3).grow g4) r4 q4 (Fin.after QX g4)
 |_=>exact q3.elim
theorem uD(ho:cS X (compareOp op) r)(nc:cS X (compareOp op') r')(br:jv K r f)(Ui:jv K r' g)(ha:QE X K a ta)(hb:QE X K b tb)(hc:QE X K c tc)
  (hm:lastMarks [op,op'] [b,c]=false:=by with_unfolding_all rfl):QT X K (.Compare a [op,op'] [b,c] pos) (wB (m7 f g ta tb tc)):=by
 refine PT.imp (bi' ho nc ha hb hc hm) fun σ H Qv h=>?_
 obtain⟨Hs,ρ,ah,Q,sr,h,fin⟩:=h
 refine vf br Ui σ H _ ⟨Hs,ρ,ah,_,sr,h,fun v H1 aT m x As g1 r1 f1 q1=>?_⟩
 have r:=r1.rep g1.wf
 cases r with
 |bl b=>exact⟨b,rfl,fin b H1 aT g1 q1⟩
 |_=>exact q1.elim
def Q7(t u:WT):WT:=fun ρ Q=>t ρ fun c=>if c=true then u ρ Q else Q false
def D2(t u:WT):WT:=fun ρ Q=>t ρ fun c=>if c=true then Q true else u ρ Q
def rj(t:WT):WT:=fun ρ Q=>t ρ fun c=>Q (!c)
variable {tA tB:WT}{rest:List Expr}
theorem nQ{t u:WT}{f:Bool->TT}{σ:St}{H:Hp}{Qv:Bool->Hp->Prop}{G:Bool->(Bool->Prop)->Env->Prop}
  (h:BU K (fun ρ Q=>t ρ fun c=>G c Q ρ) σ H Qv)
  (i:∀ c H1 aT ρ ah Q,dn K aT ρ σ H1 ah->G c Q ρ->(∀ b H' av,fh aT H1 av H'->Q b->Qv b H')->f c σ H1 Qv):BU K t σ H fun c H1=>f c σ H1 Qv:=by
 obtain⟨Hs,ρ,ah,Q,sr,h,fin⟩:=h
 exact⟨Hs,ρ,ah,_,sr,h,fun c H1 aT g1 q1=>i c H1 aT ρ ah Q (sr.grow g1) q1 fun b H' av g2=>fin b H' av (g1.trans g2)⟩
theorem vM(ha:QT X K a tA):QW X K (.BoolOp .And [a] pos) tA:=pw_and1 ha
theorem pJ(ha:QT X K a tA):QW X K (.BoolOp .Or [a] pos) tA:=pw_or1 ha
theorem Ck(ha:QT X K a tA)(hb:QW X K (.BoolOp .And (b :: rest) pos) tB):QW X K (.BoolOp .And (a :: b :: rest) pos) (Q7 tA tB):=by
 refine PW.imp (pw_and ha hb) fun σ H Qv h=>?_
 refine nQ (u:=tB) (f:=fun c σ H1 Q=>if c=true then BU K tB σ H1 Q else Q false H1) h fun c H1 aT ρ ah Q sr q fin=>?_
 cases c with
 |true=>exact⟨aT,ρ,ah,Q,sr,q,fin⟩
 |false=>exact fin false H1 aT (fh.refl sr.wf) q
theorem uT(ha:QT X K a tA)(hb:QW X K (.BoolOp .Or (b :: rest) pos) tB):QW X K (.BoolOp .Or (a :: b :: rest) pos) (D2 tA tB):=by
 refine PW.imp (pw_or ha hb) fun σ H Qv h=>?_
 refine nQ (u:=tB) (f:=fun c σ H1 Q=>if c=true then Q true H1 else BU K tB σ H1 Q) h fun c H1 aT ρ ah Q sr q fin=>?_
 cases c with
 |true=>exact fin true H1 aT (fh.refl sr.wf) q
 |false=>exact⟨aT,ρ,ah,Q,sr,q,fin⟩
theorem E3(h:QW X K a tA):QT X K a tA:=h _
theorem dR(ha:QT X K a tA):QT X K (.UnaryOp .Not a pos) (rj tA):=by
 refine PT.imp (Wu ha) fun σ H Qv h=>?_
 exact nQ (u:=tA) (f:=fun c σ H1 Q=>Q (!c) H1) h fun c H1 aT ρ ah Q sr q fin=>fin _ H1 aT (fh.refl sr.wf) q
def dS':D->Option Bool
 |.non=>some false
 |.bl b=>some b
 |.int i=>some (i != 0)
 |.str x=>some ((x.length:Int) != 0)
 |.list xs=>some !xs.isEmpty
 |.tup xs=>some !xs.isEmpty
 |.dK kvs=>none
 |.dT kvs=>none
end
def fo:W2:=fun m x n y Q=>match x,y with
 |.int i,.int j=>Q .sh (.int (i+j))
 |.str i,.str j=>i.length+j.length<=sizeLine/\Q .sh (.str (i++j))
 |.list xs,.list ys=>xs.length+ys.length<=sizeLine/\((cf xs=true/\cf ys=true/\Q (.ow true) (.list (xs++ys)))\/(m=.sh/\n=.sh/\Q (.ow false) (.list (xs++ys))))
 |.tup xs,.tup ys=>xs≠[]/\xs.length+ys.length<=sizeLine/\cf xs=true/\cf ys=true/\Q .sh (.tup (xs++ys))
 |_,_=>False
def E4(P:Int->Int->(Md->D->Prop)->Prop):W2:=fun _ x _ y Q=>match x,y with
 |.int i,.int j=>P i j Q
 |_,_=>False
def Uj(P:Int->Int->(Md->D->Prop)->Prop)(S:Str->Str->(Md->D->Prop)->Prop):W2:=fun _ x _ y Q=>match x,y with
 |.int i,.int j=>P i j Q
 |.str i,.str j=>S i j Q
 |_,_=>False
def Q8:W2:=E4 fun i j Q=>Q .sh (.int (i-j))
def ov:W2:=E4 fun i j Q=>zC i j/\Q .sh (.int (i*j))
def B1:W2:=E4 fun i j Q=>(0<j/\j<1073741824)/\Q .sh (.int (i / j))
def vt:W2:=E4 fun i j Q=>0<j/\Q .sh (.int (i % j))
def Q9:W2:=E4 fun i j Q=>HV i j/\Q .sh (.int (i ^ j.toNat))
def Jn:W2:=Uj (fun i j Q=>Q .sh (.bl (decide (i<j)))) fun i j Q=>Q .sh (.bl (px i j))
def NM:W2:=Uj (fun i j Q=>Q .sh (.bl (decide (i<=j)))) fun i j Q=>Q .sh (.bl (!px j i))
def Uk:W2:=E4 fun i j Q=>Q .sh (.bl (decide (j<i)))
def kL:W2:=fun _ x _ y Q=>match x,y with
 |.int i,.int j=>Q .sh (.bl (decide (i=j)))
 |.str i,.str j=>Q .sh (.bl (decide (i=j)))
 |.bl i,.bl j=>Q .sh (.bl (decide (i=j)))
 |_,_=>b9 12 x=true/\b9 12 y=true/\Q .sh (.bl (fF x y))
def AF:W2:=fun _ x _ y Q=>match x,y with
 |.int i,.int j=>Q .sh (.bl (!decide (i=j)))
 |.str i,.str j=>Q .sh (.bl (!decide (i=j)))
 |.bl i,.bl j=>Q .sh (.bl (!decide (i=j)))
 |_,_=>b9 12 x=true/\b9 12 y=true/\Q .sh (.bl (!fF x y))
def D.Q_:D->Bool
 |.non=>true
 |_=>false
def Ab:W2:=fun _ x _ y Q=>match y with
 |.non=>Q .sh (.bl (!x.Q_))
 |_=>False
def gq:D->Bool
 |.non=>true
 |.bl _=>true
 |.int _=>true
 |.str _=>true
 |_=>false
def inD(x:D)(ys:List D):Bool:=ys.any fun y=>fF y x
def B3(neg:Bool):W2:=fun _ x _ y Q=>match y with
 |.str j=>match x with
  |.str i=>Q .sh (.bl (if neg then !IE i j else IE i j))
  |_=>False
 |.list ys=>gq x=true/\ys.all gq=true/\Q .sh (.bl (if neg then !inD x ys else inD x ys))
 |.tup ys=>gq x=true/\ys.all gq=true/\Q .sh (.bl (if neg then !inD x ys else inD x ys))
 |.dK kvs=>∃ k,x.key1=some k/\Q .sh (.bl (if neg then !(kg kvs k).isSome else (kg kvs k).isSome))
 |.dT kvs=>match x with
  |.tup xs=>∃ ks,fJ xs=some ks/\Q .sh (.bl (if neg then !(kg kvs ks).isSome else (kg kvs ks).isSome))
  |_=>False
 |_=>False
section
variable {K:PySem.W.Frag}
theorem CK(f:Fin K Hs H Qd Qv)(w:Wf Hs H)(h:x.length<=sizeLine)(q:Qd .sh (.str x)):Qv (.str x) H:=f.sh w (.str h) q
theorem dJ(i j:Str):(i++j).length=i.length+j.length:=by
 show((i++j).cps.size)=_
 show(i.cps++j.cps).size=_
 simp[Str.length]
theorem Ig:jv K (fun x y H Q=>yW K x y H Q\/Tb K x y H Q) fo:=by
 intro Hs H m x v As n y u Bs Qd Qv w rx ry h f
 have r1:=rx.rep w
 have r2:=ry.rep w
 unfold fo at h
 cases r1 with
 |int i=>cases r2 with
  |int j=>exact .inl (f.sh w (.int _) h)
  |_=>exact h.elim
 |str hi=>cases r2 with
  |str hj=>exact .inl ⟨h.1,CK f w (by rw[dJ];exact h.1) h.2⟩
  |_=>exact h.elim
 |list z1 s1 q1=>cases r2 with
  |list z2 s2 q2 =>
   have l1:=q1.length
   have l2:=q2.length
   have hz:=h.1
   rcases h.2 with⟨f1,f2,q⟩|⟨rfl,rfl,q⟩
   ·refine .inl ⟨_,_,s1,s2,by lia,?_⟩
    exact f.lst w (by rw[qh];exact hz) (q1.append q2) (by rw[fU,f1,f2];rfl) q
   ·obtain⟨_,rx⟩:=rx
    obtain⟨_,ry⟩:=ry
    cases rx with
    |list z1' s1' JA=>cases ry with
     |list z2' s2' Yh =>
      have l1:=JA.length
      have l2:=Yh.length
      refine .inl ⟨_,_,aS.seq w.sub s1',aS.seq w.sub s2',by lia,?_⟩
      exact f.NH w (by rw[qh];exact hz) (JA.append Yh) q
  |_=>exact h.elim
 |tup t1 s1 q1=>cases r2 with
  |tup t2 s2 q2 =>
   have l1:=q1.length
   have l2:=q2.length
   obtain⟨kf,hz,f1,f2,q⟩:=h
   refine .inr ⟨_,_,_,_,rfl,rfl,.inl (.inl s1),.inl (.inl s2),?_,by lia,?_⟩
   ·intro e
    subst e
    exact kf (Pu.mp l1)
   ·refine⟨fun e=>?_,fun _=>f.tup w (by rw[qh];exact hz) (q1.append q2) (by rw[fU,f1,f2];rfl) q⟩
    subst e
    cases q2
    rw[oP] at q
    exact f.flat w (.tup t1 s1 q1) (by simpa[D.flat] using f1) q
  |_=>exact h.elim
 |_=>exact h.elim
theorem Bq{H:Hp}{x y:D}{v u:V}{m n:Md}{P:Int->Int->(Md->D->Prop)->Prop}{S:Str->Str->(Md->D->Prop)->Prop}{Q:Md->D->Prop}{G:Prop}(r1:Rep K H x v)(r2:Rep K H y u)(h:Uj P S m x n y Q)(k:∀ i j,v=.int i->u=.int j->P i j Q->G)(ks:∀ i j,v=.str i->u=.str j->S i j Q->G):G:=by
 cases r1 with
 |int i=>cases r2 with
  |int j=>exact k i j rfl rfl h
  |_=>exact h.elim
 |str hi=>cases r2 with
  |str hj=>exact ks _ _ rfl rfl h
  |_=>exact h.elim
 |_=>exact h.elim
theorem jb{H:Hp}{x y:D}{v u:V}{m n:Md}{P:Int->Int->(Md->D->Prop)->Prop}{Q:Md->D->Prop}{G:Prop}(r1:Rep K H x v)(r2:Rep K H y u)(h:E4 P m x n y Q)(k:∀ i j,v=.int i->u=.int j->P i j Q->G):G:=by
 cases r1 with
 |int i=>cases r2 with
  |int j=>exact k i j rfl rfl h
  |_=>exact h.elim
 |_=>exact h.elim
theorem Gr:jv K Fz Q8:=by
 intro Hs H m x v As n y u Bs Qd Qv w rx ry h f
 exact jb (rx.rep w) (ry.rep w) h fun i j e1 e2 q=>by
  subst e1 e2
  exact f.sh w (.int _) q
theorem Il:jv K Gh ov:=by
 intro Hs H m x v As n y u Bs Qd Qv w rx ry h f
 exact jb (rx.rep w) (ry.rep w) h fun i j e1 e2 q=>by
  subst e1 e2
  exact⟨q.1,f.sh w (.int _) q.2⟩
theorem Hn:jv K Ds B1:=by
 intro Hs H m x v As n y u Bs Qd Qv w rx ry h f
 exact jb (rx.rep w) (ry.rep w) h fun i j e1 e2 q=>by
  subst e1 e2
  exact⟨q.1,f.sh w (.int _) q.2⟩
theorem Ho:jv K D_ vt:=by
 intro Hs H m x v As n y u Bs Qd Qv w rx ry h f
 exact jb (rx.rep w) (ry.rep w) h fun i j e1 e2 q=>by
  subst e1 e2
  exact⟨q.1,f.sh w (.int _) q.2⟩
theorem Ih:jv K CQ Q9:=by
 intro Hs H m x v As n y u Bs Qd Qv w rx ry h f
 exact jb (rx.rep w) (ry.rep w) h fun i j e1 e2 q=>by
  subst e1 e2
  exact⟨q.1,f.sh w (.int _) q.2⟩
theorem JG:jv K TK Uk:=by
 intro Hs H m x v As n y u Bs Qd Qv w rx ry h f
 exact jb (rx.rep w) (ry.rep w) h fun i j e1 e2 q=>by
  subst e1 e2
  exact f.sh w (.bl _) q
theorem Fg:jv K TH Jn:=by
 intro Hs H m x v As n y u Bs Qd Qv w rx ry h f
 exact Bq (rx.rep w) (ry.rep w) h (fun i j e1 e2 q=>by
  subst e1 e2
  exact f.sh w (.bl _) q) fun i j e1 e2 q=>by
  subst e1 e2
  exact f.sh w (.bl _) q
theorem Gz:jv K TJ NM:=by
 intro Hs H m x v As n y u Bs Qd Qv w rx ry h f
 exact Bq (rx.rep w) (ry.rep w) h (fun i j e1 e2 q=>by
  subst e1 e2
  exact f.sh w (.bl _) q) fun i j e1 e2 q=>by
  subst e1 e2
  exact f.sh w (.bl _) q
theorem eq_data(w:Wf Hs H)(rx:Rep K H x v)(ry:Rep K H y u)(f:Fin K Hs H Qd Qv)(h:b9 12 x=true/\b9 12 y=true/\Qd .sh (.bl (fF x y))):TN K v u H Qv:=by
 obtain⟨h1,h2,q⟩:=h
 have l1:=jn 12 x h1
 have l2:=jn 12 y h2
 exact⟨x.py,y.py,rx.l2 h1,ry.l2 h2,l1.1,l2.1,by lia,f.sh w (.bl _) q⟩
theorem ne_data(w:Wf Hs H)(rx:Rep K H x v)(ry:Rep K H y u)(f:Fin K Hs H Qd Qv)(h:b9 12 x=true/\b9 12 y=true/\Qd .sh (.bl (!fF x y))):TQ K v u H Qv:=by
 obtain⟨h1,h2,q⟩:=h
 have l1:=jn 12 x h1
 have l2:=jn 12 y h2
 exact⟨x.py,y.py,rx.l2 h1,ry.l2 h2,l1.1,l2.1,by lia,f.sh w (.bl _) q⟩
theorem gA:jv K (QK K) kL:=by
 intro Hs H m x v As n y u Bs Qd Qv w rx ry h f
 have r1:=rx.rep w
 have r2:=ry.rep w
 have d:=fun h=>eq_data (Qd:=Qd) (Qv:=Qv) w r1 r2 f h
 cases r1 with
 |int i=>cases r2 with
  |int j=>exact f.sh w (.bl _) h
  |_=>exact d h
 |str i=>cases r2 with
  |str j=>exact f.sh w (.bl _) h
  |_=>exact d h
 |bl i=>cases r2 with
  |bl j=>exact f.sh w (.bl _) h
  |_=>exact d h
 |_=>exact d h
theorem F_:jv K (QL K) AF:=by
 intro Hs H m x v As n y u Bs Qd Qv w rx ry h f
 have r1:=rx.rep w
 have r2:=ry.rep w
 have d:=fun h=>ne_data (Qd:=Qd) (Qv:=Qv) w r1 r2 f h
 cases r1 with
 |int i=>cases r2 with
  |int j=>exact f.sh w (.bl _) h
  |_=>exact d h
 |str i=>cases r2 with
  |str j=>exact f.sh w (.bl _) h
  |_=>exact d h
 |bl i=>cases r2 with
  |bl j=>exact f.sh w (.bl _) h
  |_=>exact d h
 |_=>exact d h
theorem Ez(r:Rep K H x v):decide (v=V.non)=x.Q_:=by
 cases r<;>first|rfl|exact decide_eq_false (fun z=>nomatch z)
theorem wN:jv K (fun x y H Q=>y=.non/\Q (.bl (!decide (x=.non))) H) Ab:=by
 intro Hs H m x v As n y u Bs Qd Qv w rx ry h f
 have r1:=rx.rep w
 have r2:=ry.rep w
 have e:=Ez r1
 cases r2 with
 |non=>exact⟨rfl,by rw[e];exact f.sh w (.bl _) h⟩
 |_=>exact h.elim
theorem jU(r:Rep K H x v)(h:gq x=true):zI v=true:=by
 cases r<;>first|rfl|(simp[gq] at h)
theorem Gg(r:Rep K H x v)(s:Rep K H y u)(h:gq x=true)(g:gq y=true):BD v u=fF x y:=by
 cases r<;>simp[gq] at h<;>cases s<;>simp[gq] at g<;>rfl
theorem GZ(r:Rep K H x v)(h:gq x=true)(rs:aI K H ys us)(g:ys.all gq=true):us.all zI=true/\Qt v us=inD x ys:=by
 induction ys generalizing us with
 |nil=>rw[rs.n0];exact⟨rfl,rfl⟩
 |cons y ys ih =>
  obtain⟨u,us,rfl,s,ss⟩:=rs.c
  simp only[AX,lI] at g
  obtain⟨e1,e2⟩:=ih ss g.2
  refine⟨by simp only[AX,jU s g.1,e1,Bool.and_self],?_⟩
  unfold Qt inD at *
  rw[AY,AY,e2,Gg s r g.1 h]
theorem pK{κ:Type}[DecidableEq κ]{H:Hp}{k:κ}{kvs:List (κ × D)}{vs:List V}(r:aI K H (kvs.map (·.2)) vs):(oo ((kvs.map (·.1)).zip vs) k).isSome=(kg kvs k).isSome:=by
 have:=zip_get (k:=k) r
 split at this
 ·rename_i e
  obtain⟨v,e1,_⟩:=this
  rw[e1,e];rfl
 ·rename_i e
  rw[this,e];rfl
theorem Fi{neg:Bool}:jv K (QM K neg) (B3 neg):=by
 intro Hs H m x v As n y u Bs Qd Qv w rx ry h f
 have r1:=rx.rep w
 have r2:=ry.rep w
 cases r2 with
 |str j=>cases r1 with
  |str i=>exact f.sh w (.bl _) h
  |_=>exact h.elim
 |list z s q =>
  obtain⟨h1,h2,h3⟩:=h
  obtain⟨e1,e2⟩:=GZ r1 h1 q h2
  have h4:=jU r1 h1
  have g:Qu K neg v (.ref _) H Qv:=⟨_,_,rfl,.inl s,h4,e1,by rw[e2];exact f.sh w (.bl _) h3⟩
  cases r1<;>exact .inr g
 |tup _ s q =>
  obtain⟨h1,h2,h3⟩:=h
  obtain⟨e1,e2⟩:=GZ r1 h1 q h2
  have h4:=jU r1 h1
  have g:Qu K neg v (.ref _) H Qv:=⟨_,_,rfl,.inr (.inl (.inl s)),h4,e1,by rw[e2];exact f.sh w (.bl _) h3⟩
  cases r1<;>exact .inr g
 |dK kk e q =>
  obtain⟨k,hk,h3⟩:=h
  have ev:=r1.key hk
  subst ev
  have eg:=pK (k:=k) q
  cases k<;>exact .inl ⟨_,pf.k' e,by rw[eg];exact f.sh w (.bl _) h3⟩
 |dT kk e q =>
  cases r1 with
  |tup t1 e1 q1 =>
   obtain⟨ks,hk,h3⟩:=h
   obtain⟨b,eb,e2⟩:=Rep.nr (.tup t1 e1 q1) hk
   cases eb
   have eg:=pK (k:=ks) q
   exact .inl ⟨_,pf.t' e e2,by rw[eg];exact f.sh w (.bl _) h3⟩
  |_=>exact h.elim
 |_=>exact h.elim
end
section
variable {X:Cx}{K:PySem.W.Frag}{a b:Expr}{ta tb:WE}{pos:Pos}
theorem JV(hK:X.K=K:=by rfl):cS X (binaryOp .Add) (fun x y H Q=>yW K x y H Q\/Tb K x y H Q):=by subst hK;exact FJ.or bN'
theorem bW(ha:QE X K a ta)(hb:QE X K b tb)(hK:X.K=K:=by rfl):QE X K (.BinOp a .Add b pos) (ax fo ta tb):=E2 (JV hK) Ig ha hb
theorem J2(ha:QE X K a ta)(hb:QE X K b tb):QE X K (.BinOp a .Sub b pos) (ax Q8 ta tb):=E2 Gi Gr ha hb
theorem gW(ha:QE X K a ta)(hb:QE X K b tb):QE X K (.BinOp a .Mult b pos) (ax ov ta tb):=E2 CG Il ha hb
theorem vm(ha:QE X K a ta)(hb:QE X K b tb):QE X K (.BinOp a .FloorDiv b pos) (ax B1 ta tb):=E2 Ep Hn ha hb
theorem mq(ha:QE X K a ta)(hb:QE X K b tb):QE X K (.BinOp a .Mod b pos) (ax vt ta tb):=E2 Ed Ho ha hb
theorem Jl(ha:QE X K a ta)(hb:QE X K b tb):QE X K (.BinOp a .Pow b pos) (ax Q9 ta tb):=E2 Eu Ih ha hb
def JJ:W1:=fun _ x Q=>match x with
 |.int i=>Q .sh (.int (-i))
 |_=>False
theorem Hi:Uh K (rU fun i=>.int (-i)) JJ:=by
 intro Hs H m x v As Qd Qv w rx h f
 have r1:=rx.rep w
 cases r1 with
 |int i=>exact⟨i,rfl,f.sh w (.int _) h⟩
 |_=>exact h.elim
theorem Em(ha:QE X K a ta):QE X K (.UnaryOp .USub a pos) (hX JJ ta):=dR' aW' Hi ha
end
def b6:WA:=fun _ Q=>Q []
def ak(te:WE)(t:WA):WA:=fun ρ Q=>te ρ fun m x=>t ρ fun ps=>Q ((m,x) :: ps)
def AG:Md × D->Bool
 | (.sh,_)=>true
 | (_,d)=>d.flat
def JY:Md × D->Bool
 | (.bo,d)=>d.flat
 |_=>true
def E5:Md × D->Bool
 | (.ow true,_)=>true
 | (_,d)=>d.flat
def Dy(ps:List (Md × D)):Md:=bif ps.all AG then .sh else bif ps.all JY then .ow (ps.all E5) else .bo
def Gk(ps:List (Md × D)):Md:=bif ps.all JY then .ow (ps.all E5) else .bo
def nv(t:WA):WE:=fun ρ Q=>t ρ fun ps=>ps.length<=sizeLine/\Q (Dy ps) (.tup (ps.map (·.2)))
def tf(t:WA):WE:=fun ρ Q=>t ρ fun ps=>ps.length<=sizeLine/\Q (Gk ps) (.list (ps.map (·.2)))
section
variable {X:Cx}{K:PySem.W.Frag}{e:Expr}{es:List Expr}{te:WE}{t:WA}{pos:Pos}{Hs H:Hp}
theorem aq:QA X K [] b6:=PA.imp sN fun σ H Qv hx=>kF hx fun Hs ρ ah Q sr h f=>f [] H Hs [] [] (fh.refl sr.wf) .nil cU.nil h
theorem cU.app(f1:cU aT H As)(o:∀ a∈As,H1 a≠none)(f2:cU aw H1 Bs)(s:aS H H1)(k:∀ a,aT a=none->H1 a≠none->aw a=none):cU aw H (As++Bs) :=
 ⟨kc.mpr ⟨f1.1,f2.1,fun a ha b hb e=>by subst e;exact o a ha (f2.2 a hb).2⟩,fun a h=>by
  rcases dP.mp h with h|h
  ·exact⟨k a (f1.2 a h).1 (o a h),(f1.2 a h).2⟩
  ·exact⟨(f2.2 a h).1,s.free (f2.2 a h).2⟩⟩
theorem aa(ha:QE X K e te)(hr:QA X K es t)(hs:starEach (e :: es) X.env=(false,eval e X.env) :: starEach es X.env:=by rfl):QA X K (e :: es) (ak te t):=by
 refine PA.imp (pd ha hr hs) fun σ H Qv hx=>kF hx fun Hs ρ ah Q sr h f=>?_
 refine⟨Hs,ρ,ah,_,sr,h,fun v H1 aT m x As g1 r1 f1 q1=>⟨aT,ρ,ah,_,sr.grow g1,q1,fun vs H2 aw ps Bs g2 r2 f2 q2=>?_⟩⟩
 exact f (v :: vs) H2 aw _ _ (g1.trans g2) (.cons (r1.grow g2) r2) (f1.app (fun a h=>(r1.own a h).ne) f2 g1.all fun a h1 h2=>g2.pE h1 h2) q2
theorem AB.sh(w:Wf Hs H){ps:List (Md × D)}(r:AB K Hs H ps vs As):ps.all AG=true->aI K Hs (ps.map (·.2)) vs:=by
 induction r with
 |nil=>exact fun _=>.nil
 |@cons m d v ps vs As Bs r rs ih =>
  intro h
  simp only[AX,lI] at h
  refine .cons ?_ (ih h.2)
  cases m with
  |sh=>exact r.2
  |ow fl=>exact r.flat w h.1
  |bo=>exact r.flat w h.1
theorem AB.ow(w:Wf Hs H){ps:List (Md × D)}(r:AB K Hs H ps vs As):ps.all JY=true->(fl=true->ps.all E5=true)->∃ Bs,Bs.Sublist As/\(ps.all AG=false->Bs≠[])/\aD K Hs H fl (ps.map (·.2)) vs Bs:=by
 induction r with
 |nil=>exact fun _ _=>⟨[],FX _,(fun z=>Bool.noConfusion z),.nil⟩
 |@cons m d v ps vs A1 Cs r rs ih =>
  intro h hf
  simp only[AX,lI] at h hf
  obtain⟨Bs,sb,ne,q⟩:=ih h.2 fun z=>(hf z).2
  have sk:([]++Bs).Sublist (A1++Cs):=by simpa using sb.trans (oI _ _)
  have A4:d.flat=true->AG (m,d)=true->∃ Bs,Bs.Sublist (A1++Cs)/\(((m,d) :: ps).all AG=false->Bs≠[])/\aD K Hs H fl (((m,d) :: ps).map (·.2)) (v :: vs) Bs:=fun hd ho =>
   ⟨[]++Bs,sk,fun z=>ne (by rw[AX,ho] at z;simpa using z),.cons (.sh (fun _=>hd) (r.flat w hd)) q⟩
  cases m with
  |sh=>exact⟨[]++Bs,sk,fun z=>ne (by simpa[AG] using z),.cons (.sh (fun z=>(hf z).1) r.2) q⟩
  |bo=>exact A4 h.1 h.1
  |ow b =>
   cases hd:d.flat with
   |true=>exact A4 hd hd
   |false =>
    refine⟨A1++Bs,sb.append_left _,fun _ z=>r.2 (LJ.mp z).1,.cons ?_ q⟩
    cases fl with
    |false=>exact bG.Q5 r.1
    |true =>
     have:=(hf rfl).1
     cases b with
     |true=>exact r.1
     |false=>simp[E5,hd] at this
theorem uf:∀ {ps:List (Md × D)},cf (ps.map (·.2))=true->ps.all AG=true
 |[],_=>rfl
 | (m,d) :: ps,h=>by
  simp only[ft,cf,lI] at h
  simp only[AX,lI]
  exact⟨by cases m<;>simp[AG,h.1],uf h.2⟩
theorem fH{x1}(h:QA X K es t):QE X K (.Tuple es x1 pos) (nv t):=by
 refine PE.imp (bs' h) fun σ H Qv hx=>kF hx fun Hs ρ ah Q sr h f=>?_
 refine⟨Hs,ρ,ah,_,sr,h,fun vs H1 aT ps As g1 r1 f1 q1=>?_⟩
 obtain⟨hz,q⟩:=q1
 have rl:=(r1.reps g1.wf)
 have hl:=rl.length
 rw[cE] at hl
 refine⟨by lia,fun p hp=>?_⟩
 have g2:=Yg (vs:=vs) g1.wf hp
 have fin:=Fin.after f g1
 unfold Dy at q
 cases h1:ps.all AG with
 |true =>
  rw[h1] at q
  exact fin _ _ _ .sh _ [] g2 ⟨rfl,.tup (by lia) kK ((r1.sh g1.wf h1).same g2.sh)⟩ cU.nil q
 |false =>
  rw[h1] at q
  cases h2:ps.all JY with
  |false =>
   rw[h2] at q
   exact fin _ _ _ .bo _ [] g2 ⟨rfl,.tup (by lia) kK (rl.same g2.all)⟩ cU.nil q
  |true =>
   rw[h2] at q
   obtain⟨Bs,sb,nz,ro⟩:=r1.ow (fl:=ps.all E5) g1.wf h2 fun z=>z
   have kf:cf (ps.map (·.2))=false:=by
    cases hf:cf (ps.map (·.2)) with
    |false=>rfl
    |true=>rw[uf hf] at h1;cases h1
   have own:=ro.own
   refine f _ _ _ (.ow _) _ Bs (g1.trans g2) ⟨.tup (by lia) kK kf (ro.grow g2.sh g2.all),nz h1⟩ ⟨sb.nodup f1.1,fun a ha=>⟨?_,(f1.2 a (sb.subset ha)).2⟩⟩ q
   exact g2.pE (f1.2 a (sb.subset ha)).1 (own a ha).ne
theorem jD(h:QA X K es t):QE X K (.List es pos) (tf t):=by
 refine PE.imp (bt' h) fun σ H Qv hx=>kF hx fun Hs ρ ah Q sr h f=>?_
 refine⟨Hs,ρ,ah,_,sr,h,fun vs H1 aT ps As g1 r1 f1 q1=>?_⟩
 obtain⟨hz,q⟩:=q1
 have rl:=(r1.reps g1.wf)
 have hl:=rl.length
 rw[cE] at hl
 refine⟨by lia,fun p hp=>?_⟩
 have g2:=Q6 (o:=.lst vs) g1.wf hp fun _ z=>nomatch z
 have fin:=Fin.after f g1
 unfold Gk at q
 cases h2:ps.all JY with
 |false =>
  rw[h2] at q
  exact fin _ _ _ .bo _ [] g2 ⟨rfl,.list (by lia) (.inl (.inl kK)) (rl.same g2.all)⟩ cU.nil q
 |true =>
  rw[h2] at q
  obtain⟨Bs,sb,nz,ro⟩:=r1.ow (fl:=ps.all E5) g1.wf h2 fun z=>z
  have own:=ro.own
  refine f _ _ _ (.ow _) _ (p :: Bs) (g1.trans g2) ⟨.list (by lia) kK (ro.grow g2.sh g2.all),by simp⟩ ⟨kA.mpr ⟨fun m=>(own p m).ne hp,sb.nodup f1.1⟩,fun a ha=>?_⟩ q
  rcases dc.mp ha with rfl|ha
  ·exact⟨g1.wf.sub.free hp,g1.all.free hp⟩
  ·exact⟨g2.pE (f1.2 a (sb.subset ha)).1 (own a ha).ne,(f1.2 a (sb.subset ha)).2⟩
end
theorem aI.eM{K:PySem.W.Frag}(r:aI K H ds vs)(h:eM ds i=some d):∃ v,L2.eM vs i=some v/\Rep K H d v:=by
 unfold L2.eM at *
 rw[<- r.length]
 cases e:lP ds.length i with
 |none=>rw[e] at h;cases h
 |some j =>
  rw[e] at h
  exact r.get h
def eL:W2:=fun m x _ y Q=>match x with
 |.list xs=>match y with
  |.int i=>∃ d,eM xs i=some d/\bI d (f:=fun d=>Q (mn m d) d) ⟨⟩
  |_=>False
 |.tup xs=>match y with
  |.int i=>∃ d,eM xs i=some d/\bI d (f:=fun d=>Q (mn m d) d) ⟨⟩
  |_=>False
 |.str z=>match y with
  |.int i=>∃ c,eM z.cps.toList i=some c/\Q .sh (.str ⟨#[c]⟩)
  |_=>False
 |.dK kvs=>∃ k d,y.key1=some k/\kg kvs k=some d/\bI d (f:=fun d=>Q (mn m d) d) ⟨⟩
 |.dT kvs=>match y with
  |.tup ys=>∃ ks d,fJ ys=some ks/\kg kvs ks=some d/\bI d (f:=fun d=>Q (mn m d) d) ⟨⟩
  |_=>False
 |_=>False
def Ul(K:PySem.W.Frag):R2:=fun x y H Q=>QJ K x y H Q\/∃ a v,x=.ref a/\pf H a y (some v)/\Q v H
theorem Eo(c:Nat):(⟨#[c]⟩:Str).length<=sizeLine:=by show 1<=sizeLine;decide
theorem RM.here{K:PySem.W.Frag}(w:Wf Hs H)(r:RM K Hs H m d v As):(m=.sh/\Rep K Hs d v)\/(m≠.sh/\Rep K H d v):=by
 cases m with
 |sh=>exact .inl ⟨rfl,r.2⟩
 |ow fl=>exact .inr ⟨(fun z=>nomatch z),r.rep w⟩
 |bo=>exact .inr ⟨(fun z=>nomatch z),r.2⟩
section
variable {X:Cx}{K:PySem.W.Frag}
theorem JD:jv K (Ul K) eL:=by
 intro Hs H m x v As n y u Bs Qd Qv w rx ry h f
 have r2:=ry.rep w
 have core:∀ G:Hp,aS G H->(∀ d v,Rep K G d v->Rep K H d v/\(m=.sh->Rep K Hs d v))->Rep K G x v->Ul K v u H Qv:=by
  intro G sg up r1
  cases r1 with
  |list z s q =>
   cases r2 with
   |int i =>
    obtain⟨d,e,h⟩:=h
    obtain⟨v',e',r'⟩:=q.eM e
    obtain⟨u1,u2⟩:=up _ _ r'
    exact .inl (.inl ⟨_,v',aS.seq sg s,e',f.mn w u1 u2 h⟩)
   |_=>exact h.elim
  |tup _ s q =>
   cases r2 with
   |int i =>
    obtain⟨d,e,h⟩:=h
    obtain⟨v',e',r'⟩:=q.eM e
    obtain⟨u1,u2⟩:=up _ _ r'
    exact .inl (.inr ⟨_,v',.inl (.inl (sg _ _ s)),e',f.mn w u1 u2 h⟩)
   |_=>exact h.elim
  |str hz =>
   cases r2 with
   |int i =>
    obtain⟨c,e,h⟩:=h
    exact .inl ⟨hz,c,e,f.sh w (.str (Eo c)) h⟩
   |_=>exact h.elim
  |dK kk s q =>
   obtain⟨k,d,hk,hg,h⟩:=h
   have ev:=r2.key hk
   subst ev
   have z:=zip_get (k:=k) q
   rw[hg] at z
   obtain⟨v',e',r'⟩:=z
   obtain⟨u1,u2⟩:=up _ _ r'
   exact .inr ⟨_,v',rfl,by rw[<- e'];exact pf.k' (aS.rd sg s),f.mn w u1 u2 h⟩
  |dT kk s q =>
   cases r2 with
   |tup t2 e2 q2 =>
    obtain⟨ks,d,hk,hg,h⟩:=h
    obtain⟨b,eb,e3⟩:=Rep.nr (.tup t2 e2 q2) hk
    cases eb
    have z:=zip_get (k:=ks) q
    rw[hg] at z
    obtain⟨v',e',r'⟩:=z
    obtain⟨u1,u2⟩:=up _ _ r'
    exact .inr ⟨_,v',rfl,by rw[<- e'];exact pf.t' (aS.rd sg s) e3,f.mn w u1 u2 h⟩
   |_=>exact h.elim
  |_=>exact h.elim
 rcases rx.here w with⟨hm,r⟩|⟨hm,r⟩
 ·exact core Hs w.sub (fun d v q=>And.intro (q.same w.sub) fun _=>q) r
 ·exact core H (aS.refl H) (fun d v q=>And.intro q fun z=>absurd z hm) r
theorem Yi(hu:X.A.units+64<cLine)(hK:X.K=K:=by rfl):uj X (Ul K):=by
 subst hK
 refine uj.or BZ ?_
 intro value slice pins s σ H x y v u Q I rx ry h hs
 obtain⟨a,w,rfl,g,q⟩:=h
 cases rx
 exact tail_any (cr' I g) F.slot_dict_getitem.lookup (cl' (by lia) I g ry fun w' s3 I3 om=>⟨w,H,I3,om,q⟩) hs
variable {a b:Expr}{ta tb:WE}{pos:Pos}
theorem fI(hu:X.A.units+64<cLine)(ha:QE X K a ta)(hb:QE X K b tb)(hs:Qr b:=by exact fun _ _=>rfl)(hK:X.K=K:=by rfl):QE X K (.Subscript a b pos) (ax eL ta tb):=PE.imp (Te (Yi hu hK) ha hb hs) (jV JD)
end
def ox(xs:List α)(lo hi:Option Int):List α:=(xs.drop (HT.bE xs.length 0 lo)).take (HT.bE xs.length xs.length hi-HT.bE xs.length 0 lo)
abbrev WO:=Env->(Option Int->Prop)->Prop
def wg(t:WE):WO:=fun ρ Q=>t ρ fun _ x=>match x with
 |.int i=>Q (some i)
 |_=>False
def NR(m:Md)(x:D)(lo hi:Option Int)(Q:Md->D->Prop):Prop:=match x with
 |.str z=>Q .sh (.str (xS z lo hi))
 |.list xs=>(cf xs=true/\Q (.ow true) (.list (ox xs lo hi)))\/(m=.sh/\Q (.ow false) (.list (ox xs lo hi)))
 |.tup xs=>cf xs=true/\¬ (HT.bE xs.length 0 lo=0/\HT.bE xs.length xs.length hi=xs.length)/\Q .sh (.tup (ox xs lo hi))
 |_=>False
def Um(te:WE)(tl th:WO):WE:=fun ρ Q=>te ρ fun m x=>tl ρ fun lo=>th ρ fun hi=>NR m x lo hi Q
def tpO(K:PySem.W.Frag)(t:WO):TO:=fun σ H Qv=>∃ Hs ρ ah Q,dn K Hs ρ σ H ah/\t ρ Q/\∀ o H' av,fh Hs H av H'->Q o->Qv o H'
abbrev QO(X:Cx)(K:PySem.W.Frag)(e:Option Expr)(t:WO):Prop:=PO X e (tpO K t)
theorem zA(z:Str)(lo hi:Option Int):(xS z lo hi).length<=z.length:=by
 unfold xS Str.length
 simp only[ip,mG,CM,AZ]
 lia
theorem nJ(xs:List α)(lo hi:Option Int):(ox xs lo hi).length<=xs.length:=by
 unfold ox
 rw[mG,CM]
 lia
theorem qb{lo hi:Option Int}(h:cf xs=true):cf (ox xs lo hi)=true:=by
 rw[lr] at *
 intro x hx
 exact h x (R4 (PB hx))
section
variable {X:Cx}{K:PySem.W.Frag}{e:Expr}{lo hi:Option Expr}{te:WE}{tl th:WO}{pos p2:Pos}
theorem wW(h:QE X K e te):QO X K (some e) (wg te):=fun pins s σ H Q I hh=>bJ' h pins s σ H Q I (by
 obtain⟨Hs,ρ,ah,Qd,sr,h,f⟩:=hh
 refine⟨Hs,ρ,ah,_,sr,h,fun v H1 aT m x As g1 r1 f1 q1=>?_⟩
 have r:=r1.rep g1.wf
 cases r with
 |int i=>exact⟨i,rfl,f _ H1 aT g1 q1⟩
 |_=>exact q1.elim)
theorem lM{lo hi:Option Int}(r:aI K H ds vs):aI K H (ox ds lo hi) (Bn vs lo hi):=by
 unfold ox Bn
 rw[r.length]
 exact(r.drop _).take _
theorem dW'(hK:X.K=K:=by rfl):HZ X (fun x lo hi H Q=>TL K x lo hi H Q\/Xd K x lo hi H Q):=by
 subst hK
 intro pins s σ H x v vl vu lo hi sl Q I rx hs pl pu h
 rcases h with h|h
 ·exact HX pins s σ H x v vl vu lo hi sl Q I rx hs pl pu h
 ·exact bM' pins s σ H x v vl vu lo hi sl Q I rx hs pl pu h
theorem Ew(he:QE X K e te)(hl:QO X K lo tl)(hh:QO X K hi th)(hK:X.K=K:=by rfl):QE X K (.Subscript e (.Slice lo hi none p2) pos) (Um te tl th):=by
 refine PE.imp (bL' (dW' hK) he hl hh) fun σ H Qv hx=>kF hx fun Hs ρ ah Q sr h f=>?_
 refine⟨Hs,ρ,ah,_,sr,h,fun v H1 aT m x As g1 r1 f1 q1=>⟨aT,ρ,ah,_,sr.grow g1,q1,fun l H2 aw g2 q2=>⟨aw,ρ,ah,_,(sr.grow g1).grow g2,q2,fun u H3 fR g3 q3=>?_⟩⟩⟩
 have r3:=(r1.grow g2).grow g3
 have fin:Fin K fR H3 Q Qv:=Fin.after f ((g1.trans g2).trans g3)
 have rr:=r3.rep g3.wf
 cases rr with
 |str hz=>exact .inl ⟨hz,fin.sh g3.wf (.str (iS (zA _ _ _) hz)) q3⟩
 |list z s q =>
  have hz:=q.length
  rcases q3 with⟨hf,q3⟩|⟨rfl,q3⟩
  ·exact .inl ⟨_,s,fin.lst g3.wf (iS (nJ _ _ _) (by lia)) (lM q) (qb hf) q3⟩
  ·obtain⟨_,r3⟩:=r3
   cases r3 with
   |list z' s' q' =>
    have hz:=q'.length
    exact .inl ⟨_,aS.seq g3.wf.sub s',fin.NH g3.wf (iS (nJ _ _ _) (by lia)) (lM q') q3⟩
 |tup z s q =>
  have hz:=q.length
  obtain⟨hf,hn,q3⟩:=q3
  exact .inr ⟨_,_,rfl,.inl (.inl s),by rw[<- hz];exact hn,fin.tup g3.wf (iS (nJ _ _ _) (by lia)) (lM q) (qb hf) q3⟩
 |_=>exact q3.elim
end
def w_:W1:=fun _ x Q=>match x with
 |.str z=>Q .sh (.int z.length)
 |.list xs=>Q .sh (.int xs.length)
 |.tup xs=>Q .sh (.int xs.length)
 |.dK kvs=>Q .sh (.int kvs.length)
 |.dT kvs=>Q .sh (.int kvs.length)
 |_=>False
def Kb(T:String):W1:=fun _ x Q=>Q .sh (.bl (IC x.ty T))
def AH(K:PySem.W.Frag)(r:List V->Hp->VK->Prop)(f:W1):Prop:=∀ Hs H m x v As Qd Qv,Wf Hs H->RM K Hs H m x v As->f m x Qd->Fin K Hs H Qd Qv->r [v] H Qv
section
variable {X:Cx}{K:PySem.W.Frag}{e:Expr}{te:WE}{pos p:Pos}{x:Str}{id T:String}
theorem mY(br:AH K r f)(σ:St)(H:Hp)(Qv:VK)(h:sT K (hX f te) σ H Qv):S_ r (W0 (sT K te) WZ) σ H Qv:=by
 obtain⟨Hs,ρ,ah,Q,sr,h,fin⟩:=h
 exact⟨Hs,ρ,ah,_,sr,h,fun v H1 aT m x As g1 r1 f1 q1=>br aT H1 m x v As Q Qv g1.wf r1 q1 (Fin.after fin g1)⟩
theorem dH(hc:i5 X (.builtin id) r)(br:AH K r f)(hg:Gl X x)(hm:X.mg x=none)(hv:bootBuiltins x=some (.builtin id))(he:QE X K e te)
  (hs:starEach [e] X.env=(false,eval e X.env) :: starEach [] X.env:=by rfl) (hn:x ≠ "__name__" := by decide) (hJ:(x == ("__debug__" : Str))=false:=by decide):QE X K (.Call (.Name x p) [e] [] pos) (hX f te) :=
 PE.imp (Qo hc hg hm hv (pd he sN hs) hn hJ hs) (mY br)
theorem jK(hc:i5 X (.type T) r)(br:AH K r f)(hg:Gl X x)(hm:X.mg x=none)(hv:bootBuiltins x=some (.type T))(he:QE X K e te)
  (hs:starEach [e] X.env=(false,eval e X.env) :: starEach [] X.env:=by rfl) (hn:x ≠ "__name__" := by decide) (hJ:(x == ("__debug__" : Str))=false:=by decide):QE X K (.Call (.Name x p) [e] [] pos) (hX f te) :=
 PE.imp (bz' hc hg hm hv (pd he sN hs) hn hJ hs) (mY br)
theorem Gj(hd:(d == sysModules)=false)(x:sQ s.heap d es ep)(Yj:(es.size:Int)<2 ^ 63)
  (h:∀ t t',Q (.int es.size t) { s with toks:=t' }):wpAny (model prog w) A (call (.builtin "len") [.ref d]) Q E s:=by
 refine Calls.call_function_entry kind_len plain_len entry_len (args_len1 _) ?_
 have mt:MeetsIn prog w (Builtin.«dict.__len__» ⟨[.ref d],[]⟩) (fun _ R s=>sQ s.heap d es ep/\R (.ok (.ret (.int es.size s.toks))) { s with toks:=s.toks+1 }):=.of_wp fun A R s dk=>by
  obtain⟨hm,h⟩:=dk
  obtain⟨o,ho,hc,QN⟩:=hm
  show wpAny _ _ (dictSize d >>= _) _ _ s
  unfold dictSize
  refine ai (ai (wpAny_dictEntries ho QN (aC ?_)))
  show wpAny _ _ (Builtin.Dict.pendingCount d >>= _) _ _ s
  refine ai (wpAny_pendingCount_other hd ?_)
  refine wpAny_ret_mkInt ?_
  rw[GP];exact h
 unfold Builtin.«len»
 refine ai (m:=oneArg "len" _) (aC ?_)
 refine ai (m:=callSpecial? (.ref d) (Str.ofString "__len__")) (wpAny_callSpecial?_slot (name:=Str.ofString "__len__") x.typ F.slot_dict_len
  (call_meetsIn F.slot_dict_len x.typ F.entry_dict_len (F.args_dict_len_1 _) mt ⟨x,?_⟩))
 show wpAny _ _ _ _ _ { s with toks:=s.toks+1 }
 refine ai (wpAny_holding (aC ?_))
 refine ai (wpAny_letGo ?_)
 show wpAny _ _ (if ((es.size:Nat):Int)<0 then _ else _) _ _ _
 rw[if_neg (by lia)]
 show wpAny _ _ (if ((es.size:Nat):Int) >= 2 ^ 63 then _ else _) _ _ _
 rw[if_neg (by lia)]
 exact ai (wpAny_mkInt (aC ⟨_,rfl,h _ _⟩))
theorem du (hK:X.K=K:=by rfl):i5 X (.builtin "len") (fun xs H Q=>QH K xs H Q\/∃ a kvs,xs=[.ref a]/\Rd H a (.dT kvs)/\Q (.int kvs.length) H):=by
 subst hK
 intro pins s σ H xs us Q I r h
 rcases h with h|⟨a,kvs,rfl,ha,q⟩
 ·exact wz pins s σ H xs us Q I r h
 ·obtain⟨u,rfl,ru⟩:=Vals.one r
  cases ru
  obtain⟨z,hd,ys,rel,o,es,ep,h1,h2,h3,h4,h5⟩:=(show eW X.prog X.w H s.heap a (.dT kvs) from I.rd ha)
  have hl:es.size=kvs.length:=by
   have:=congrArg List.length h4
   rw[AZ,cE] at this
   rw[this];exact rel.length.symm
  exact Gj hd ⟨o,h1,h2,h3⟩ (by rw[sizeLine_eq] at z;lia) fun t t'=>⟨.int kvs.length,H,I.tok _,⟨t,by rw[hl]⟩,q⟩
theorem mV:AH K (fun xs H Q=>QH K xs H Q\/∃ a kvs,xs=[.ref a]/\Rd H a (.dT kvs)/\Q (.int kvs.length) H) w_:=by
 intro Hs H m x v As Qd Qv w rx h f
 have r1:=rx.rep w
 cases r1 with
 |str hz=>exact .inl ⟨hz,f.sh w (.int _) h⟩
 |list z s q=>exact .inl (.inl ⟨_,s,by rw[<- q.length];exact f.sh w (.int _) h⟩)
 |tup _ s q=>exact .inl (.inr (.inl ⟨_,.inl (.inl s),by rw[<- q.length];exact f.sh w (.int _) h⟩))
 |dK kk s q=>exact .inl (.inr (.inr ⟨_,s,by
   have:=q.length
   rw[cE] at this
   rw[PJ,cE,<- this,PR]
   exact f.sh w (.int _) h⟩))
 |dT kk s q=>exact .inr ⟨_,_,rfl,s,by
   have:=q.length
   rw[cE] at this
   rw[PJ,cE,<- this,PR]
   exact f.sh w (.int _) h⟩
 |_=>exact h.elim
end
section
variable {X:Cx}{K:PySem.W.Frag}{e e2:Expr}{te:WE}{pos p:Pos}{T:String}
theorem ye (hK:X.K=K:=by rfl):i5 X (.builtin "isinstance") (fun xs H Q=>∃ x d T,xs=[x,.ty T]/\Rep K H d x/\TF T=true/\Q (.bl (IC d.ty T)) H):=by
 subst hK
 intro pins s σ H xs us Q I r h
 obtain⟨x,d,T,rfl,rd,hT,q⟩:=h
 obtain⟨u,v,rfl,ru,rv⟩:=Vals.two r
 obtain rfl:v=Value.type T:=rv
 have hb:T∈["str", "int", "bool", "list", "tuple", "dict"]:=by simpa[TF] using hT
 have fin:∀ tk,EP X pins σ Q (.bool (IC d.ty T)) { s with toks:=tk }:=fun tk=>⟨.bl (IC d.ty T),H,I.tok tk,rfl,q⟩
 cases rd with
 |non=>exact MA I ru .non (jj X.K _ T (by simp) hb) fin
 |bl b=>exact MA I ru (.bl b) (jj X.K _ T (by simp) hb) fin
 |int i=>exact MA I ru (.int i) (jj X.K _ T (by simp) hb) fin
 |str y=>exact MA I ru (.str _) (jj X.K _ T (by simp) hb) fin
 |list z s' q' =>
  cases ru
  obtain⟨its,_,pl,_⟩:=I.list s'
  obtain⟨o,h1,h2,_⟩:=pl.isList
  exact PySem.W.kia_one PySem.W.kitx_list I.ke ⟨o,h1,h2⟩ (jj X.K "list" T (by simp) hb) (fun z=>nomatch z) fin
 |tup _ s' q'=>exact MA I ru (.tup s') (jj X.K _ T (by simp) hb) fin
 |dK _ s' q' =>
  cases ru
  obtain⟨_,_,vs,_,p⟩:=I.rd s'
  obtain⟨o,es,ep,h1,h2,_⟩:=p
  exact PySem.W.kia_one PySem.W.kitx_dict I.ke ⟨o,h1,h2.1⟩ (jj X.K "dict" T (by simp) hb) (fun z=>nomatch z) fin
 |dT _ s' q' =>
  cases ru
  obtain⟨_,_,xs,_,o,es,ep,h1,h2,_⟩:=I.rd s'
  exact PySem.W.kia_one PySem.W.kitx_dict I.ke ⟨o,h1,h2.1⟩ (jj X.K "dict" T (by simp) hb) (fun z=>nomatch z) fin
theorem zg (hm:X.mg "isinstance" = none) (he:QE X K e te) (ht:PE X e2 (tC (.ty T))) (hT:TF T=true:=by rfl) (hg:Gl X "isinstance" := by rfl) (hK:X.K=K:=by rfl)
  (hs:starEach (e :: [e2]) X.env=(false,eval e X.env) :: starEach [e2] X.env:=by rfl) (AI:starEach (e2 :: []) X.env=(false,eval e2 X.env) :: starEach [] X.env:=by rfl) (fA:(backTo pos (starEach [e2] X.env)).any (·.1)=false:=by rfl) :
  QE X K (.Call (.Name "isinstance" p) [e,e2] [] pos) (hX (Kb T) te):=by
 refine PE.imp (Qo (ye hK) hg hm iz (pd he (pd ht sN AI) hs) (by decide) (by decide) hs fA) fun σ H Qv hx=>kF hx fun Hs ρ ah Q sr h f=>?_
 refine⟨Hs,ρ,ah,_,sr,h,fun v H1 aT m x As g1 r1 f1 q1=>⟨v,x,T,rfl,r1.rep g1.wf,hT,Fin.sh (Fin.after f g1) g1.wf (.bl _) q1⟩⟩
end
def oy:Key->D
 |.inl i=>.int i
 |.inr x=>.str x
def rN:W1:=fun m x Q=>match x with
 |.list xs=>(cf xs=true/\Q (.ow true) (.list xs))\/(m=.sh/\Q (.ow false) (.list xs))
 |.tup xs=>(cf xs=true/\Q (.ow true) (.list xs))\/(m=.sh/\Q (.ow false) (.list xs))
 |.dT kvs=>Q (.ow true) (.list (kvs.map fun kv=>.tup (kv.1.map oy)))
 |_=>False
section
variable {X:Cx}{K:PySem.W.Frag}
theorem ue:∀ {ks:List Key},(∀ k∈ks,ya k=true)->aI K H (ks.map oy) (ks.map kV)
 |[],_=>.nil
 |k :: ks,h=>by
  refine .cons ?_ (ue fun j m=>h j (ck _ m))
  have:=h k cq
  cases k with
  |inl i=>exact .int i
  |inr x=>exact .str (by simpa[ya] using this)
theorem qN:∀ (ks:List Key),cf (ks.map oy)=true
 |[]=>rfl
 |k :: ks=>by simp only[ft,cf,qN ks,PZ];cases k<;>rfl
theorem oN(t:cR H ys ks)(h:∀ l∈ks,l.length<=sizeLine/\∀ k∈l,ya k=true):aI K H (ks.map fun l=>.tup (l.map oy)) ys:=by
 induction ys generalizing ks with
 |nil=>rw[show ks=[] from Paired.n0 t];exact .nil
 |cons y ys ih =>
  obtain⟨k,ks,rfl,⟨b,rfl,e⟩,t2⟩:=Paired.c t
  exact .cons (.tup (by rw[cE];exact(h _ cq).1) e (ue (h _ cq).2)) (ih t2 fun l m=>h l (ck _ m))
theorem ie:∀ (ks:List (List Key)),cf (ks.map fun l=>.tup (l.map oy))=true
 |[]=>rfl
 |l :: ks=>by simp only[ft,cf,ie ks,PZ,D.flat,qN]
theorem iK (hc:X.calm=true:=by rfl) (hK:X.K=K:=by rfl):i5 X (.type "list") (fun xs H Q=>(∃ p ys,xs=[.ref p]/\(eJ K H p ys\/kB K H p ys)/\∀ l,H l=none->Q (.ref l) (upd H l (.lst ys)))\/tU xs H Q):=by
 subst hK;exact cb'.or (vB hc)
theorem sH:AH K (fun xs H Q=>(∃ p ys,xs=[.ref p]/\(eJ K H p ys\/kB K H p ys)/\∀ l,H l=none->Q (.ref l) (upd H l (.lst ys)))\/tU xs H Q) rN:=by
 intro Hs H m x v As Qd Qv w rx h f
 have r1:=rx.rep w
 cases r1 with
 |list z s q =>
  have hl:=q.length
  rcases h with⟨hf,h⟩|⟨rfl,h⟩
  ·exact .inl ⟨_,_,rfl,.inl s,f.lst w (by lia) q hf h⟩
  ·obtain⟨_,rx⟩:=rx
   cases rx with
   |list z' s' q' =>
    have hl:=q'.length
    exact .inl ⟨_,_,rfl,.inl (aS.seq w.sub s'),f.NH w (by lia) q' h⟩
 |tup z s q =>
  have hl:=q.length
  rcases h with⟨hf,h⟩|⟨rfl,h⟩
  ·exact .inl ⟨_,_,rfl,.inr (.inl (.inl s)),f.lst w (by lia) q hf h⟩
  ·obtain⟨_,rx⟩:=rx
   cases rx with
   |tup z' s' q' =>
    have hl:=q'.length
    exact .inl ⟨_,_,rfl,.inr (.inl (.inl (w.sub _ _ s'))),f.NH w (by lia) q' h⟩
 |@dT _ vs kvs kk s q =>
  refine .inr ⟨_,s,fun ys l ht hl=>?_⟩
  have hlen:=q.length
  rw[cE] at hlen
  have e:((kvs.map (·.1)).zip vs).map (·.1)=kvs.map (·.1):=LN (by rw[cE];exact GO hlen)
  rw[e] at ht
  have rr:=oN (K:=K) ht (fun l m=>by
   obtain⟨p,hp,rfl⟩:=df.mp m
   exact kk.2 p hp)
  have ff:=ie (kvs.map (·.1))
  rw[iA] at rr ff
  exact f.lst w (by rw[cE];exact kk.1) rr ff h l hl
 |_=>exact h.elim
end
section
variable {K:PySem.W.Frag}{Hs H:Hp}
theorem SR.xZ(r:Rep K Hs d v)(i:Nat)(s:SR K Hs H ρ σ ah):∃ bP,bP.Sublist ah/\SR K Hs H (ρ.set i (some (.sh d))) (σ.set i (some v)) bP:=by
 induction s generalizing i with
 |nil=>exact⟨[],FX _,.nil⟩
 |non s ih =>
  cases i with
  |zero=>exact⟨_,List.Sublist.refl _,.sh r s⟩
  |succ i=>obtain⟨t,a,b⟩:=ih i;exact⟨t,a,.non b⟩
 |sh q s ih =>
  cases i with
  |zero=>exact⟨_,List.Sublist.refl _,.sh r s⟩
  |succ i=>obtain⟨t,a,b⟩:=ih i;exact⟨t,a,.sh q b⟩
 |xc s ih =>
  cases i with
  |zero=>exact⟨_,List.Sublist.refl _,.sh r s⟩
  |succ i=>obtain⟨t,a,b⟩:=ih i;exact⟨t,a,.xc b⟩
 |ow ne q s ih =>
  cases i with
  |zero=>exact⟨_,oI _ _,.sh r s⟩
  |succ i=>obtain⟨t,a,b⟩:=ih i;exact⟨_,a.append_left _,.ow ne q b⟩
 |lk ne q s ih =>
  cases i with
  |zero=>exact⟨_,oI _ _,.sh r s⟩
  |succ i=>obtain⟨t,a,b⟩:=ih i;exact⟨_,a.append_left _,.lk ne q b⟩
theorem qw{As ah:List Addr}(nd:As.Nodup)(n:ah.Nodup)(dj:∀ a∈As,a∉ah):(As++ah).Nodup:=kc.mpr ⟨nd,n,fun a ha b hb e=>dj a ha (e ▸ hb)⟩
theorem gn{As ah B t:List Addr}(n:(B++ah).Nodup)(dj:∀ a∈As,a∉B++ah)(a:t.Nodup)(b:∀ x∈t,x∈ah\/x∈As):(B++t).Nodup/\∀ x∈B++t,x∈B++ah\/x∈As:=by
 obtain⟨n1,n2,n3⟩:=kc.mp n
 refine⟨kc.mpr ⟨n1,a,fun x hx y hy e=>?_⟩,fun x hx=>?_⟩
 ·subst e
  rcases b x hy with z|z
  ·exact n3 x hx x z rfl
  ·exact dj x z (kr _ hx)
 ·rcases dP.mp hx with z|z
  ·exact .inl (kr _ z)
  ·exact(b x z).imp (fun z=>fq _ z) fun z=>z
theorem SR.wJ{d:D}{v:V}{fl:Bool}{As:List Addr}(ne:As≠[])(r:bG K Hs H fl d v As)(nd:As.Nodup){ρ:Env}{σ:St}{ah:List Addr}(i:Nat)(s:SR K Hs H ρ σ ah):ah.Nodup->(∀ a∈As,a∉ah) ->
  ∃ bP,bP.Nodup/\(∀ a∈bP,a∈ah\/a∈As)/\SR K Hs H (ρ.set i (some (.ow fl d))) (σ.set i (some v)) bP:=by
 induction s generalizing i with
 |nil=>exact fun n _=>⟨[],oQ,(fun a h=>BQ h),.nil⟩
 |non s ih =>
  intro n dj
  cases i with
  |zero=>exact⟨_,qw nd n dj,fun a h=>(dP.mp h).symm,.ow ne r s⟩
  |succ i=>obtain⟨t,a,b,c⟩:=ih i n dj;exact⟨t,a,b,.non c⟩
 |sh q s ih =>
  intro n dj
  cases i with
  |zero=>exact⟨_,qw nd n dj,fun a h=>(dP.mp h).symm,.ow ne r s⟩
  |succ i=>obtain⟨t,a,b,c⟩:=ih i n dj;exact⟨t,a,b,.sh q c⟩
 |xc s ih =>
  intro n dj
  cases i with
  |zero=>exact⟨_,qw nd n dj,fun a h=>(dP.mp h).symm,.ow ne r s⟩
  |succ i=>obtain⟨t,a,b,c⟩:=ih i n dj;exact⟨t,a,b,.xc c⟩
 |ow ne' q s ih =>
  intro n dj
  obtain⟨n1,n2,n3⟩:=kc.mp n
  have NS:=fun a ha m=>dj a ha (fq _ m)
  cases i with
  |zero=>exact⟨_,qw nd n2 NS,fun a h=>(dP.mp h).symm.imp (fun z=>fq _ z) fun z=>z,.ow ne r s⟩
  |succ i=>obtain⟨t,a,b,c⟩:=ih i n2 NS;exact⟨_,(gn n dj a b).1,(gn n dj a b).2,.ow ne' q c⟩
 |lk ne' q s ih =>
  intro n dj
  obtain⟨n1,n2,n3⟩:=kc.mp n
  have NS:=fun a ha m=>dj a ha (fq _ m)
  cases i with
  |zero=>exact⟨_,qw nd n2 NS,fun a h=>(dP.mp h).symm.imp (fun z=>fq _ z) fun z=>z,.ow ne r s⟩
  |succ i=>obtain⟨t,a,b,c⟩:=ih i n2 NS;exact⟨_,(gn n dj a b).1,(gn n dj a b).2,.lk ne' q c⟩
def asg:Md->D->Option Sl
 |.sh,d=>some (.sh d)
 |.ow fl,d=>some (.ow fl d)
 |.bo,d=>bif d.flat then some (.sh d) else none
theorem dn.set(i:Nat)(s:dn K Hs ρ σ H ah)(r:RM K Hs H m d v As)(nd:As.Nodup)(dj:∀ a∈As,Hs a=none/\a∉ah)(e:asg m d=some sl) :
  ∃ bP,dn K Hs (ρ.set i (some sl)) (σ.set i (some v)) H bP:=by
 have Yk:Rep K Hs d v->∃ bP,dn K Hs (ρ.set i (some (.sh d))) (σ.set i (some v)) H bP:=fun r=>by
  obtain⟨t,a,b⟩:=s.sr.xZ r i
  exact⟨t,b,s.wf,a.nodup s.sR,fun x hx=>s.own x (a.subset hx)⟩
 cases m with
 |sh=>cases e;exact Yk r.2
 |ow fl =>
  cases e
  obtain⟨t,a,b,c⟩:=SR.wJ r.2 r.1 nd i s.sr s.sR fun a ha=>(dj a ha).2
  exact⟨t,c,s.wf,a,fun x hx=>(b x hx).elim (s.own x) fun z=>(dj x z).1⟩
 |bo =>
  cases hf:d.flat with
  |true =>
   simp only[asg,hf,cond_true,Option.some.injEq] at e
   subst e
   exact Yk (r.flat s.wf hf)
  |false=>simp[asg,hf] at e
end
section
variable {X:Cx}{K:PySem.W.Frag}{e c:Expr}{te:WE}{tc:WT}{pos:Pos}{st:Stmt}{a b rest:List Stmt}{t u:WS}
theorem PS.imp{te vn:TS}(h:PS X st te)(i:∀ D σ H,vn D σ H->te D σ H):PS X st vn:=fun pins s σ H D I q=>h pins s σ H D I (i D σ H q)
theorem nh.imp{te vn:TS}(h:nh X a te)(i:∀ D σ H,vn D σ H->te D σ H):nh X a vn:=fun pins s σ H D I q=>h pins s σ H D I (i D σ H q)
def cT:WS:=fun E ρ=>E.nx ρ
def b4(t u:WS):WS:=fun E ρ=>t { E with nx:=u E } ρ
def iq(te:WE):WS:=fun E ρ=>te ρ E.rt
def dE(i:Nat)(te:WE):WS:=fun E ρ=>te ρ fun m d=>match asg m d with
 |some sl=>E.nx (ρ.set i (some sl))
 |none=>False
def ki(c:WT)(t u:WS):WS:=fun E ρ=>c ρ fun b=>if b=true then t E ρ else u E ρ
theorem aP:n4 X K L [] cT:=nh.imp an' fun D σ H hx=>fG hx fun Hs ρ ah E sr h k1 _ _ _=>k1 σ H Hs ρ ah (aS.refl _) sr h
theorem Av{D:Ends}(h:yb K L (b4 t u) D σ H):Wv (yb K L t) (yb K L u) D σ H:=by
 obtain⟨Hs,ρ,ah,E,sr,h,k1,k2,k3,k4,kx⟩:=h
 refine⟨Hs,ρ,ah,{ E with nx:=u E },sr,h,fun aE H' av bq bP s Uo q=>?_,k2,k3,k4,kx⟩
 exact⟨av,bq,bP,E,Uo,q,fun fz H2 aw dQ cx s2=>k1 fz H2 aw dQ cx (s.trans s2),fun fz H2 aw dQ cx s2=>k2 fz H2 aw dQ cx (s.trans s2),fun fz H2 aw dQ cx s2=>k3 fz H2 aw dQ cx (s.trans s2),
  fun v H2 aw m d As s2=>k4 v H2 aw m d As (s.trans s2),fun n H2 s2=>kx n H2 (s.trans s2)⟩
theorem aj(h1:QS X K L st t)(h2:n4 X K L rest u):n4 X K L (st :: rest) (b4 t u):=nh.imp (Ww h1 h2) fun D σ H h=>Av h
theorem ao(h1:QS X K L st t):n4 X K L [st] t:=SG h1
theorem bh(he:QE X K e te):QS X K L (.Return (some e) pos) (iq te):=PS.imp (Wx he) fun D σ H hx=>fG hx fun Hs ρ ah E sr h k1 k2 k3 k4 =>
 ⟨Hs,ρ,ah,_,sr,h,fun v H1 aT m d As g1 r1 f1 q1=>k4 v H1 aT m d As g1.sh g1.wf r1 f1.1 (fun a ha=>(f1.2 a ha).1) q1⟩
def rO(i:Nat):WS:=fun E ρ=>match ρ[i]? with
 |some (some (.sh d))=>E.rt .sh d
 |some (some (.ow fl d))=>E.rt (.ow fl) d
 |_=>False
theorem SR.at{ρ:Env}{σ:St}{ah:List Addr}{i:Nat}{fl:Bool}{d:D}{Hs H:Hp}(s:SR K Hs H ρ σ ah)(e:ρ[i]? = some (some (.ow fl d))):∃ v As,σ[i]? = some (some v)/\As≠[]/\bG K Hs H fl d v As/\As.Sublist ah:=by
 induction s generalizing i with
 |nil=>simp at e
 |non s ih =>
  cases i with
  |zero=>simp at e
  |succ i=>exact ih e
 |sh r s ih =>
  cases i with
  |zero=>simp at e
  |succ i=>exact ih e
 |xc s ih =>
  cases i with
  |zero=>simp at e
  |succ i=>exact ih e
 |ow ne r s ih =>
  cases i with
  |zero=>simp at e;obtain⟨rfl,rfl⟩:=e;exact⟨_,_,rfl,ne,r,LH _ _⟩
  |succ i =>
   obtain⟨v,As,a,b,c,d⟩:=ih e
   exact⟨v,As,a,b,c,d.trans (oI _ _)⟩
 |lk ne r s ih =>
  cases i with
  |zero=>simp at e
  |succ i =>
   obtain⟨v,As,a,b,c,d⟩:=ih e
   exact⟨v,As,a,b,c,d.trans (oI _ _)⟩
theorem pG{i:Nat}(he:PE X e (DE i)):QS X K L (.Return (some e) pos) (rO i):=PS.imp (Wx he) fun D σ H hx=>fG hx fun Hs ρ ah E sr h k1 k2 k3 k4=>by
 unfold rO at h
 split at h
 ·rename_i d e1
  obtain⟨v,e2,r⟩:=sr.sr.get e1
  exact⟨v,e2,k4 v H Hs .sh d [] (aS.refl _) sr.wf ⟨rfl,r⟩ oQ (fun a ha=>nomatch ha) h⟩
 ·rename_i fl d e1
  obtain⟨v,As,e2,ne,r,sb⟩:=sr.sr.at e1
  exact⟨v,e2,k4 v H Hs (.ow fl) d As (aS.refl _) sr.wf ⟨r,ne⟩ (sb.nodup sr.sR) (fun a ha=>sr.own a (sb.subset ha)) h⟩
 ·exact h.elim
theorem aG{i:Nat}{x:Str}{pos':Pos}(hN:X.N.Nodup)(hi:X.N[i]? = some x)(hx:Loc X.env.scope x)(he:QE X K e te)(hs:swapsWith e (some (.Name x pos')) pos.line X.env=pure false:=by rfl)
  (hf:X.fn x=true\/X.env.scope.names.lookup x=some .local:=by first|exact .inl rfl|exact .inr rfl|assumption):QS X K L (.Assign [.Name x pos'] e pos) (dE i te):=PS.imp (SV hN hi hx he hs hf) fun D σ H hx=>fG hx fun Hs ρ ah E sr h k1 k2 k3 k4=>by
 refine⟨Hs,ρ,ah,_,sr,h,fun v H1 aT m d As g1 r1 f1 q1=>?_⟩
 have q1:match asg m d with
  |some sl=>E.nx (ρ.set i (some sl))
  |none=>False:=q1
 cases e:asg m d with
 |none=>rw[e] at q1;exact q1.elim
 |some sl =>
  rw[e] at q1
  obtain⟨bP,s'⟩:=(sr.grow g1).set i r1 f1.1 (fun a ha=>⟨(f1.2 a ha).1,fun m=>(sr.sr.own a m).ne (f1.2 a ha).2⟩) e
  exact k1 _ H1 aT _ bP g1.sh s' q1
theorem dh(hc:QT X K c tc)(ha:n4 X K L a t)(hb:n4 X K L b u):QS X K L (.If c a b pos) (ki tc t u):=PS.imp (Wy hc ha hb) fun D σ H hx=>gO hx fun Hs ρ ah E sr h k1 k2 k3 k4 kx=>by
 refine⟨Hs,ρ,ah,_,sr,h,fun k H1 aT g1 q1=>?_⟩
 have NV:∀ aE H' av bq bP,aS aT av->dn K av bq aE H' bP->E.nx bq->D.nx aE H':=fun fz H2 aw dQ cx s2=>k1 fz H2 aw dQ cx (g1.sh.trans s2)
 have NW:∀ aE H' av bq bP,aS aT av->dn K av bq aE H' bP->E.bk bq->D.bk aE H':=fun fz H2 aw dQ cx s2=>k2 fz H2 aw dQ cx (g1.sh.trans s2)
 have NX:∀ aE H' av bq bP,aS aT av->dn K av bq aE H' bP->E.ct bq->D.ct aE H':=fun fz H2 aw dQ cx s2=>k3 fz H2 aw dQ cx (g1.sh.trans s2)
 cases k with
 |true=>exact⟨aT,ρ,ah,E,sr.grow g1,q1,NV,NW,NX,(fun v H2 aw m d As s2=>k4 v H2 aw m d As (g1.sh.trans s2)),fun n H2 s2=>kx n H2 (g1.sh.trans s2)⟩
 |false=>exact⟨aT,ρ,ah,E,sr.grow g1,q1,NV,NW,NX,(fun v H2 aw m d As s2=>k4 v H2 aw m d As (g1.sh.trans s2)),fun n H2 s2=>kx n H2 (g1.sh.trans s2)⟩
def ti(Hs H:Hp)(As:List Addr):Hp:=fun a=>if a∈As then H a else Hs a
theorem h_(n:∀ a∈As,Hs a=none):aS Hs (ti Hs H As):=fun a o e=>by
 unfold ti
 rw[if_neg fun m=>by rw[n a m] at e;cases e]
 exact e
theorem xn(w:Wf Hs H)(o:∀ a∈As,Own H a):Wf (ti Hs H As) H:=⟨fun a u e=>by
  unfold ti at e
  by_cases m:a∈As
  ·rw[if_pos m] at e;exact e
  ·rw[if_neg m] at e;exact w.sub a u e,fun a vs e=>by
  unfold ti
  rw[if_neg fun m=>(o a m).Cm e]
  exact w.iX a vs e⟩
def N0:Sl->Sl
 |.sh d=>.sh d
 |.ow _ d=>.sh d
 |.lk a fl d=>.lk a fl d
 |.xc a=>.xc a
def N3:Sl->Sl
 |.sh d=>.sh d
 |.ow _ d=>.sh d
 |.lk _ _ d=>.sh d
 |.xc a=>.xc a
def N4(i:Nat)(ρ:Env):Env:=match ρ[i]? with
 |some (some sl)=>ρ.set i (some (N0 sl))
 |_=>ρ
theorem oK{As ah B t:List Addr}(n:(B++ah).Nodup)(a:As.Sublist ah)(c:∀ x∈As,x∉t):∀ x∈As,x∉B++t:=fun x hx m=>by
 obtain⟨n1,n2,n3⟩:=kc.mp n
 rcases dP.mp m with z|z
 ·exact n3 x z x (a.subset hx) rfl
 ·exact c x hx z
theorem SR.mS(i:Nat)(s:SR K Hs H ρ σ ah):ρ[i]? = some (some (.ow fl d))->ah.Nodup ->
  ∃ (As bP:List Addr),As.Sublist ah/\bP.Sublist ah/\(∀ a∈As,a∉bP)/\∀ av,aS Hs av->(∀ a∈As,av a=H a)->SR K av H (ρ.set i (some (.sh d))) σ bP:=by
 induction s generalizing i with
 |nil=>intro e;simp at e
 |non q ih =>
  intro e n
  cases i with
  |zero=>simp at e
  |succ i =>
   obtain⟨As,t,a,b,c,d⟩:=ih i e n
   exact⟨As,t,a,b,c,fun av s k=>.non (d av s k)⟩
 |sh r q ih =>
  intro e n
  cases i with
  |zero=>simp at e
  |succ i =>
   obtain⟨As,t,a,b,c,d⟩:=ih i e n
   exact⟨As,t,a,b,c,fun av s k=>.sh (r.same s) (d av s k)⟩
 |xc q ih =>
  intro e n
  cases i with
  |zero=>simp at e
  |succ i =>
   obtain⟨As,t,a,b,c,d⟩:=ih i e n
   exact⟨As,t,a,b,c,fun av s k=>.xc (d av s k)⟩
 |ow ne r q ih =>
  intro e n
  obtain⟨n1,n2,n3⟩:=kc.mp n
  cases i with
  |zero =>
   simp at e
   obtain⟨rfl,rfl⟩:=e
   exact⟨_,_,LH _ _,oI _ _,fun a h m=>n3 a h a m rfl,fun av s k=>.sh (r.rep s k) (q.fv s fun _ _=>rfl)⟩
  |succ i =>
   obtain⟨As,t,a,b,c,d⟩:=ih i e n2
   exact⟨As,_,a.trans (oI _ _),b.append_left _,oK n a c,fun av s k=>.ow ne (r.fv s fun _ _=>rfl) (d av s k)⟩
 |lk ne r q ih =>
  intro e n
  obtain⟨n1,n2,n3⟩:=kc.mp n
  cases i with
  |zero=>simp at e
  |succ i =>
   obtain⟨As,t,a,b,c,d⟩:=ih i e n2
   exact⟨As,_,a.trans (oI _ _),b.append_left _,oK n a c,fun av s k=>.lk ne (r.fv s fun _ _=>rfl) (d av s k)⟩
theorem dn.mS(i:Nat)(s:dn K Hs ρ σ H ah):∃ av bP,aS Hs av/\dn K av (N4 i ρ) σ H bP:=by
 unfold N4
 split
 ·rename_i sl e
  have keep:N0 sl=sl->∃ av bP,aS Hs av/\dn K av (ρ.set i (some (N0 sl))) σ H bP:=fun hs=>by
   have e2:ρ.set i (some (N0 sl))=ρ:=by
    apply CH
    intro j
    rw[List.getElem?_set]
    by_cases h:i=j
    ·subst h
     rw[if_pos rfl,e]
     have:i<ρ.length:=(ic.mp e).1
     simp[this,hs]
    ·rw[if_neg h]
   rw[e2]
   exact⟨Hs,ah,aS.refl _,s⟩
  cases sl with
  |sh d=>exact keep rfl
  |xc a=>exact keep rfl
  |lk a fl d=>exact keep rfl
  |ow fl d =>
   obtain⟨As,t,a,b,c,g⟩:=SR.mS i s.sr e s.sR
   have hn:∀ a∈As,Hs a=none:=fun x hx=>s.own x (a.subset hx)
   have ho:∀ a∈As,Own H a:=fun x hx=>s.sr.own x (a.subset hx)
   refine⟨ti Hs H As,t,h_ hn,g _ (h_ hn) fun x hx=>by unfold ti;rw[if_pos hx],xn s.wf ho,b.nodup s.sR,fun x hx=>?_⟩
   unfold ti
   rw[if_neg fun m=>c x m hx]
   exact s.own x (b.subset hx)
 ·exact⟨Hs,ah,aS.refl _,s⟩
def fS(i:Nat)(t:WS):WS:=fun E ρ=>t E (N4 i ρ)
theorem zu{D:Ends}(h:yb K L (fS i t) D σ H):yb K L t D σ H:=by
 obtain⟨Hs,ρ,ah,E,sr,h,k1,k2,k3,k4,kx⟩:=h
 obtain⟨av,bP,s,Uo⟩:=sr.mS i
 exact⟨av,_,bP,E,Uo,h,fun fz H2 aw dQ cx s2=>k1 fz H2 aw dQ cx (s.trans s2),fun fz H2 aw dQ cx s2=>k2 fz H2 aw dQ cx (s.trans s2),fun fz H2 aw dQ cx s2=>k3 fz H2 aw dQ cx (s.trans s2),
  fun v H2 aw m d As s2=>k4 v H2 aw m d As (s.trans s2),fun n H2 s2=>kx n H2 (s.trans s2)⟩
theorem aO(i:Nat)(h:QS X K L st t):QS X K L st (fS i t):=PS.imp h fun D σ H h=>zu h
def kW(aT H1 av H':Hp):Hp:=fun a=>match H' a with
 |some (.tup vs)=>some (.tup vs)
 |_=>match H1 a with
  |none=>av a
  |some _=>aT a
theorem fQ(w:Wf aT H1)(s:aS H1 av)(w':Wf av H'):fh aT H1 (kW aT H1 av H') H':=by
 have sa:aS H1 H':=s.trans w'.sub
 have tp:∀ a vs,H' a=some (.tup vs)->kW aT H1 av H' a=some (.tup vs):=fun a vs e=>by unfold kW;rw[e]
 have nt:∀ a,(∀ vs,H' a≠some (.tup vs))->kW aT H1 av H' a=match H1 a with
  |none=>av a
  |some _=>aT a:=fun a h=>by
  unfold kW
  split
  ·rename_i vs e;exact absurd e (h vs)
  ·rfl
 refine⟨sa,fun a o e=>?_,⟨fun a o e=>?_,tp⟩,fun a h=>?_⟩
 ·have e1:=w.sub a o e
  have e2:=sa a o e1
  by_cases ht:∃ vs,o=.tup vs
  ·obtain⟨vs,rfl⟩:=ht
   exact tp a vs e2
  ·rw[nt a fun vs z=>ht ⟨vs,by rw[e2] at z;exact Option.some.inj z⟩,e1]
   exact e
 ·by_cases ht:∃ vs,H' a=some (.tup vs)
  ·obtain⟨vs,z⟩:=ht
   rw[tp a vs z] at e
   rw[z];exact e
  ·rw[nt a fun vs z=>ht ⟨vs,z⟩] at e
   cases q:H1 a with
   |none=>rw[q] at e;exact w'.sub a o e
   |some u =>
    rw[q] at e
    have:=w.sub a o e
    exact sa a o this
 ·cases q:H1 a with
  |none=>exact .inr rfl
  |some u =>
   refine .inl ?_
   by_cases ht:∃ vs,H' a=some (.tup vs)
   ·obtain⟨vs,z⟩:=ht
    have:=sa a u q
    rw[z] at this
    cases this
    rw[w.iX a vs q]
    exact fun z=>nomatch z
   ·rw[nt a fun vs z=>ht ⟨vs,z⟩,q] at h
    exact h
theorem wQ{aT H1 av H':Hp}{a:Addr}(s:aS H1 av)(h:av a=none)(o:Own H' a):kW aT H1 av H' a=none/\H1 a=none:=by
 have h1:=s.free h
 refine⟨?_,h1⟩
 unfold kW
 split
 ·rename_i vs e;exact absurd e o.Cm
 ·rw[h1];exact h
def xa:Md->D->Md
 |.ow true,_=>.ow true
 |_,d=>bif d.flat then .sh else .bo
theorem oV(w:Wf aT H1)(s:aS H1 av)(w':Wf av H')(r:RM K av H' m d v As)(nd:As.Nodup)(own:∀ a∈As,av a=none) :
  ∃ fN,RM K (kW aT H1 av H') H' (xa m d) d v fN/\cU (kW aT H1 av H') H1 fN:=by
 have g:=fQ w s w'
 have other:∃ fN,RM K (kW aT H1 av H') H' (bif d.flat then .sh else .bo) d v fN/\cU (kW aT H1 av H') H1 fN:=by
  cases hf:d.flat with
  |true=>exact⟨[],⟨rfl,(r.rep w').gF g.wf.iX hf⟩,cU.nil⟩
  |false=>exact⟨[],⟨rfl,r.rep w'⟩,cU.nil⟩
 cases m with
 |sh=>exact other
 |bo=>exact other
 |ow fl =>
  cases fl with
  |false=>exact other
  |true=>exact⟨As,⟨bG.leaves (fun a vs e=>g.wf.iX a vs (w'.sub _ _ e)) r.1,r.2⟩,nd,fun a h=>wQ s (own a h) (r.own a h)⟩
abbrev gE:=List D->(Md->D->Prop)->Prop
def aA(K:PySem.W.Frag)(sp:gE):Sp:=fun vs H Qv _=>∃ ds Qd,aI K H ds vs/\sp ds Qd /\
 ∀ v H' av m d As,aS H av->Wf av H'->RM K av H' m d v As->As.Nodup->(∀ a∈As,av a=none)->Qd m d->Qv v H'
def aU(n:Nat)(ds:List D):Env:=ds.map (fun d=>some (.sh d))++List.replicate (n-ds.length) none
theorem SR.start(r:aI K H ds vs):SR K H H (ds.map (fun d=>some (.sh d))++List.replicate n none) (vs.map some++List.replicate n none) []:=by
 induction ds generalizing vs with
 |nil =>
  rw[r.n0]
  induction n with
  |zero=>exact .nil
  |succ n ih=>exact .non ih
 |cons d ds ih =>
  obtain⟨u,us,rfl,r,rs⟩:=r.c
  exact .sh r (ih rs)
theorem yt(h:aA K sp vs H Qv E)(hp:∀ ds Q,sp ds Q->t { nx:=fun _=>Q .sh .non,rt:=Q } (aU N.length ds)) :
  yb K L0 t { nx:=fun _ H'=>Qv .non H',rt:=Qv } (start N vs) H:=by
 obtain⟨ds,Qd,rs,hs,fin⟩:=h
 have hl:=rs.length
 refine⟨H,aU N.length ds,[],{ nx:=fun _=>Qd .sh .non,rt:=Qd },⟨?_,⟨aS.refl _,fun _ _ e=>e⟩,oQ,fun a h=>nomatch h⟩,hp ds Qd hs,?_,?_,?_,?_,fun _ _ _ _=>trivial⟩
 ·unfold aU start
  rw[hl]
  exact SR.start rs
 ·exact fun aE H' av bq bP s sr q=>fin .non H' av .sh .non [] s sr.wf ⟨rfl,.non⟩ oQ (fun a h=>nomatch h) q
 ·exact fun aE H' av bq bP s sr q=>q.elim
 ·exact fun aE H' av bq bP s sr q=>q.elim
 ·exact fun v H' av m d As s w r nd own q=>fin v H' av m d As s w r nd own q
theorem pV.ok{P:Program}{st:Stmt}{N ps:List Str}(F:gy K x qual st f fd)(S:ku N ps (b5 st))(len:∀ ds Q,sp ds Q->ds.length=ps.length)
  (Bi:∀ (cw:Value) (A:Around) (outer:List PySem.Env) (s:Shared) (H:Hp) (E:XK),i6 k (A.deeper (envOfC qual (b5 st) s.heap.objs.size f cw))->n4 (rX i9 P w K mg base N qual (b5 st) f cw A outer s H E).L9 K L0 (gS st) t)
  (hp:∀ ds Q,sp ds Q->t { nx:=fun _=>Q .sh .non,rt:=Q } (aU N.length ds)):gv P w K mg base i9 (k+1) f fd ps (aA K sp) :=
 F.ok S (fun vs H Q E ⟨ds,Qd,rs,hs,_⟩=>by rw[<- rs.length];exact len ds Qd hs) fun cw A outer s H vs Q E hr hs=>⟨_,Bi cw A outer s H E hr,yt hs hp⟩
def aZ(sp:gE)(t:WA):WE:=fun ρ Q=>t ρ fun ps=>sp (ps.map (·.2)) fun m d=>bI (m,d) (f:=fun p=>Q (xa p.1 p.2) p.2) ⟨⟩
theorem xP{sp:gE}{t:WA}{σ:St}{H:Hp}{Qv:VK}{E:XK}(h:sT K (aZ sp t) σ H Qv):MB (aA K sp) [] E (Ud K t) σ H Qv:=by
 obtain⟨Hs,ρ,ah,Q,sr,h,f⟩:=h
 refine⟨Hs,ρ,ah,_,sr,h,fun vs H1 aT ps As g1 r1 f1 q1=>?_⟩
 refine⟨_,_,by rw[oP];exact r1.reps g1.wf,q1,fun v H' av m d As s w r nd own q=>?_⟩
 obtain⟨fN,r',fr⟩:=oV g1.wf s w r nd own
 exact Fin.after f g1 v H' _ (xa m d) d fN (fQ g1.wf s w) r' fr q
theorem a_ {k:Nat} {x:Str} {ps:List Str} {sp:gE} {p:Pos} {es:List Expr} {t:WA} (C:eP X.prog X.w X.K X.mg X.base k x ps (aA K sp)) (hr:i6 k X.A) (ha:QA X K (e :: es) t) (hg:Gl X x:=by rfl) (hJ:(x == ("__debug__" : Str))=false:=by decide) (he:starEach (e :: es) X.env=(false,eval e X.env) :: starEach es X.env:=by rfl)
  (fA:(backTo pos (starEach es X.env)).any (·.1)=false:=by rfl):QE X K (.Call (.Name x p) (e :: es) [] pos) (aZ sp t):=PE.imp (Ia C hr ha hg hJ he fA) fun σ H Qv h=>xP h
end
abbrev WG:=D->Env->(Env->Prop)->Prop
def Yl(K:PySem.W.Frag)(g:WG):TG:=fun v σ H Qv=>∃ Hs ρ ah d Q,dn K Hs ρ σ H ah/\Rep K Hs d v/\g d ρ Q/\∀ aE bq bP,dn K Hs bq aE H bP->(∀ a∈bP,a∈ah)->Q bq->Qv aE H
abbrev QG(X:Cx)(K:PySem.W.Frag)(e:Expr)(g:WG):Prop:=PG X e (Yl K g)
def gN(i:Nat):WG:=fun d ρ Q=>Q (ρ.set i (some (.sh d)))
abbrev E6:=List D->Env->(Env->Prop)->Prop
def dX'(K:PySem.W.Frag)(g:E6):DH:=fun vs σ H Qv=>∃ Hs ρ ah ds Q,dn K Hs ρ σ H ah/\aI K Hs ds vs/\g ds ρ Q/\∀ aE bq bP,dn K Hs bq aE H bP->(∀ a∈bP,a∈ah)->Q bq->Qv aE H
abbrev Ra(X:Cx)(K:PySem.W.Frag)(es:List Expr)(g:E6):Prop:=zt X es (dX' K g)
def jz:E6:=fun ds ρ Q=>ds=[]/\Q ρ
def bV(g:WG)(gs:E6):E6:=fun ds ρ Q=>match ds with
 |d :: ds=>g d ρ fun bq=>gs ds bq Q
 |[]=>False
def gT(n:Nat)(gs:E6):WG:=fun d ρ Q=>match d with
 |.tup ds=>ds.length=n/\gs ds ρ Q
 |_=>False
section
variable {X:Cx}{K:PySem.W.Frag}{e:Expr}{es:List Expr}{g:WG}{gs:E6}{pos:Pos}
theorem PG.imp(h:PG X e t)(i:∀ v σ H Q,t' v σ H Q->t v σ H Q):PG X e t':=fun pins s σ H v u Q I r q=>h pins s σ H v u Q I r (i v σ H Q q)
theorem zt.imp(h:zt X es t)(i:∀ v σ H Q,t' v σ H Q->t v σ H Q):zt X es t':=fun pins s σ H v u Q I r q=>h pins s σ H v u Q I r (i v σ H Q q)
theorem dn.DP(i:Nat)(s:dn K Hs ρ σ H ah)(r:Rep K Hs d v):∃ bP,(∀ a∈bP,a∈ah)/\dn K Hs (ρ.set i (some (.sh d))) (σ.set i (some v)) H bP:=by
 obtain⟨t,a,b⟩:=s.sr.xZ r i
 exact⟨t,fun x hx=>a.subset hx,b,s.wf,a.nodup s.sR,fun x hx=>s.own x (a.subset hx)⟩
theorem aB(hN:X.N.Nodup)(hi:X.N[i]? = some x)(hx:Loc X.env.scope x)(hf:X.fn x=true\/X.env.scope.names.lookup x=some .local:=by first|exact .inl rfl|exact .inr rfl|assumption):QG X K (.Name x pos) (gN i) :=
 PG.imp (SK hN hi hx hf) fun v σ H Qv dk=>by
  obtain⟨Hs,ρ,ah,d,Q,sr,r,h,k⟩:=dk
  obtain⟨t,m,s⟩:=sr.DP i r
  exact k _ _ t s m h
theorem eV:Ra X K [] jz:=zt.imp Wz fun v σ H Qv dk=>by
 obtain⟨Hs,ρ,ah,ds,Q,sr,r,h,k⟩:=dk
 obtain⟨rfl,h⟩:=h
 cases r
 exact⟨rfl,k σ ρ ah sr (fun _ z=>z) h⟩
theorem aN(h1:QG X K e g)(h2:Ra X K es gs)(hs:(assignEach (e :: es) X.env).map (·.2)=assign e X.env :: (assignEach es X.env).map (·.2):=by rfl):Ra X K (e :: es) (bV g gs) :=
 zt.imp (SN h1 h2 hs) fun v σ H Qv dk=>by
  obtain⟨Hs,ρ,ah,ds,Q,sr,r,h,k⟩:=dk
  cases r with
  |nil=>exact h.elim
  |cons r rs=>exact⟨_,_,rfl,Hs,ρ,ah,_,_,sr,r,h,fun fz dQ cx g0 m2 q2=>⟨Hs,dQ,cx,_,Q,g0,rs,q2,fun qA Ki dY' sr3 m3=>k qA Ki dY' sr3 fun a h=>m2 a (m3 a h)⟩⟩
theorem il(hc:X.calm=true)(h:Ra X K es gs)(hn:(assignEach es X.env).length=n:=by rfl)(kC:(assignEach es X.env).findIdx? (·.1)=none:=by rfl):QG X K (.Tuple es k pos) (gT n gs) :=
 PG.imp (WB hc h hn kC) fun v σ H Qv dk=>by
  obtain⟨Hs,ρ,ah,d,Q,sr,r,h,k⟩:=dk
  cases r with
  |tup z e rs=>exact⟨_,_,rfl,.inl (.inl (sr.wf.sub _ _ e)),by rw[<- rs.length];exact h.1,Hs,ρ,ah,_,Q,sr,rs,h.2,k⟩
  |_=>exact h.elim
end
abbrev WI:=Env->(List D->Prop)->Prop
structure rH(K:PySem.W.Frag)(J:It)(ds:List D)(C:Hp->Hp->Prop):Prop where
 go:∀ i Hs H,C Hs H->Wf Hs H->i<ds.length->J.go i H
 nL:∀ i Hs H x H' d,C Hs H->Wf Hs H->ds[i]? = some d->J.nL i H x H'->∃ av,fh Hs H av H'/\Rep K av d x
 stop:∀ Hs H,C Hs H->Wf Hs H->J.stop ds.length H
abbrev vZ(K:PySem.W.Frag)(Hs:Hp)(J:It)(ds:List D):Prop:=rH K J ds fun G _=>aS Hs G
section
variable {K:PySem.W.Frag}{Hs:Hp}{J:It}{ds:List D}{C C':Hp->Hp->Prop}{a:Addr}
theorem rH.imp(S:rH K J ds C)(h:∀ Hs H,C' Hs H->C Hs H):rH K J ds C':=⟨fun i Hs H c=>S.go i Hs H (h _ _ c),fun i Hs H x H' d c=>S.nL i Hs H x H' d (h _ _ c),fun Hs H c=>S.stop Hs H (h _ _ c)⟩
theorem rH.seq(rs:aI K Hs ds vs)(S:lR J vs fun H=>aS Hs H):vZ K Hs J ds where
 go:=fun i G H s w h=>S.go i H (s.trans w.sub) (by rw[<- rs.length];exact h)
 nL:=fun i G H x H' d s w h y=>by
  have hi:i<ds.length:=by
   rcases GU i ds.length with q|q
   ·exact q
   ·rw[tP q] at h;cases h
  obtain⟨e,z⟩:=S.nL i H x H' (s.trans w.sub) (by rw[<- rs.length];exact hi) y
  subst e
  obtain⟨d',ed,rd⟩:=rs.Yb z
  rw[h] at ed;cases ed
  exact⟨G,fh.refl w,rd.same s⟩
 stop:=fun G H s w=>by rw[rs.length];exact S.stop H (s.trans w.sub)
abbrev BJ(K:PySem.W.Frag)(a:Addr)(ds:List D)(C:Hp->Hp->Prop):Prop:=∀ Hs H,C Hs H->Wf Hs H->∃ vs,eJ K H a vs/\aI K Hs ds vs
theorem rH.list(h:BJ K a ds C):rH K (Qf K a) ds C where
 go:=fun i G H c w hi=>by
  obtain⟨vs,q,rs⟩:=h G H c w
  exact⟨vs,vs[i]'(by rw[<- rs.length];exact hi),q,by simp⟩
 nL:=fun i G H x H' d c w hd y=>by
  obtain⟨vs,q,rs⟩:=h G H c w
  obtain⟨rfl,y⟩:=y
  obtain⟨d',ed,rd⟩:=rs.Yb (y vs q)
  rw[hd] at ed;cases ed
  exact⟨G,fh.refl w,rd⟩
 stop:=fun G H c w=>by
  obtain⟨vs,q,rs⟩:=h G H c w
  exact⟨vs,q,by rw[rs.length];exact bT _⟩
theorem xX(s:eJ K Hs a vs)(rs:aI K Hs ds vs):BJ K a ds fun G _=>aS Hs G:=fun G H c w=>⟨vs,aS.seq (c.trans w.sub) s,rs.same c⟩
end
def tpI(K:PySem.W.Frag)(wi:WI):TI:=fun σ H R=>∃ Hs ρ ah Q,dn K Hs ρ σ H ah/\wi ρ Q/\∀ J H' av ds,fh Hs H av H'->vZ K av J ds->ds.length<=sizeLine->Q ds->R J H'
abbrev QI(X:Cx)(K:PySem.W.Frag)(tg iter:Expr)(wi:WI):Prop:=PI X tg iter (tpI K wi)
def lY:Md->Prop
 |.bo=>False
 |_=>True
def dN(te:WE):WI:=fun ρ Q=>te ρ fun m d=>lY m/\match d with
 |.list xs=>Q xs
 |_=>False
def y_(te:WE):WI:=fun ρ Q=>te ρ fun m d=>lY m/\match d with
 |.tup xs=>Q xs
 |_=>False
def mj(lo:Int)(n:Nat):List D:=(List.range n).map fun i=>.int (lo+(i:Nat))
def bY(te:WE):WI:=fun ρ Q=>te ρ fun _ d=>match d with
 |.int j=>j<=16777216/\-(2 ^ 62)<=j/\Q (mj 0 j.toNat)
 |_=>False
section
variable {X:Cx}{K:PySem.W.Frag}{e e2 tg:Expr}{te Uq:WE}{pos p:Pos}
theorem PI.imp(h:PI X tg iter t)(i:∀ σ H R,t' σ H R->t σ H R):PI X tg iter t':=fun pins s σ H R I q=>h pins s σ H R I (i σ H R q)
theorem lR.imp{J:It}(s:lR J vs c)(h:∀ H,c' H->c H):lR J vs c':=⟨fun i H q=>s.go i H (h H q),fun i H x H' q=>s.nL i H x H' (h H q),fun H q=>s.stop H (h H q)⟩
theorem RM.vN(g:fh Hs H aT H1)(r:RM K aT H1 m d v As)(f:cU aT H As)(h:lY m):∃ aw,fh Hs H aw H1/\Rep K aw d v:=by
 cases m with
 |sh=>exact⟨aT,g,r.2⟩
 |bo=>exact h.elim
 |ow fl =>
  have n:∀ a∈As,aT a=none:=fun a ha=>(f.2 a ha).1
  have o:=r.own
  refine⟨ti aT H1 As,⟨g.all,g.sh.trans (h_ n),xn g.wf o,fun a h=>?_⟩,bG.rep (h_ n) r.1 fun a ha=>by unfold ti;rw[if_pos ha]⟩
  unfold ti at h
  by_cases m:a∈As
  ·exact .inr (f.2 a m).2
  ·rw[if_neg m] at h;exact g.new a h
theorem dF(he:QE X K e te)(hK:X.K=K:=by rfl):QI X K tg e (dN te):=by
 subst hK
 refine PI.imp (WD he) fun σ H R hx=>kF hx fun Hs ρ ah Q sr h k=>⟨Hs,ρ,ah,_,sr,h,fun v H1 aT m d As g1 r1 f1 q1=>?_⟩
 obtain⟨nb,q1⟩:=q1
 obtain⟨aw,g2,r2⟩:=r1.vN g1 f1 nb
 cases r2 with
 |list z s rs=>exact⟨_,rfl,⟨_,aS.seq g2.wf.sub s⟩,k _ H1 aw _ g2 (.seq rs (lR.imp (zH X.K _ _) fun H' s'=>aS.seq s' s)) (by rw[rs.length];exact z) q1⟩
 |_=>exact q1.elim
theorem HN(he:QE X K e te)(hK:X.K=K:=by rfl):QI X K tg e (y_ te):=by
 subst hK
 refine PI.imp (aE' he) fun σ H R hx=>kF hx fun Hs ρ ah Q sr h k=>⟨Hs,ρ,ah,_,sr,h,fun v H1 aT m d As g1 r1 f1 q1=>?_⟩
 obtain⟨nb,q1⟩:=q1
 obtain⟨aw,g2,r2⟩:=r1.vN g1 f1 nb
 cases r2 with
 |tup z s rs=>exact⟨_,rfl,⟨_,.inl (.inl (g2.wf.sub _ _ s))⟩,k _ H1 aw _ g2 (.seq rs (lR.imp (Fv X.K _ _) fun H' s'=>.inl (.inl (s' _ _ s)))) (by rw[rs.length];exact z) q1⟩
 |_=>exact q1.elim
theorem qD(lo:Int):∀ (l:List Nat),aI K H (l.map fun i=>.int (lo+(i:Nat))) (l.map fun i=>V.int (lo+(i:Nat)))
 |[]=>.nil
 |c :: l=>.cons (.int _) (qD lo l)
theorem bK (hm:X.mg "range" = none) (he:QE X K e te) (hg:Gl X "range" := by rfl) (hs:starEach [e] X.env=(false,eval e X.env) :: starEach [] X.env:=by rfl) (gV:starEach [e] X.env=[(false,eval e X.env)]:=by rfl):QI X K tg (.Call (.Name "range" p) [e] [] pos) (bY te):=by
 refine PI.imp (aH' hg hm (pd he sN hs) gV) fun σ H R hx=>kF hx fun Hs ρ ah Q sr h k=>⟨Hs,ρ,ah,_,sr,h,fun v H1 aT m d As g1 r1 f1 q1=>?_⟩
 have r:=r1.rep g1.wf
 cases r with
 |int j =>
  obtain⟨h1,h2,q1⟩:=q1
  exact⟨j,rfl,h2,by lia,k _ H1 aT _ g1 (.seq (qD 0 _) (lR.imp (Dg _ _) fun _ _=>trivial)) (by rw[cE,PD,sizeLine_eq];lia) q1⟩
 |_=>exact q1.elim
section
variable {X:Cx}{K:PySem.W.Frag}{e tg:Expr}{te:WE}
def Ym(K:PySem.W.Frag)(wi:WI):TI:=fun σ H R=>∃ Hs ρ ah Q,dn K Hs ρ σ H ah/\wi ρ Q/\∀ J H' av ds,fh Hs H av H'->vZ K H' J ds->ds.length<=sizeLine->Q ds->R J H'
abbrev Rb(X:Cx)(K:PySem.W.Frag)(tg iter:Expr)(wi:WI):Prop:=PI X tg iter (Ym K wi)
theorem fY(h:QI X K tg iter wi):Rb X K tg iter wi:=PI.imp h fun σ H R hx=>kF hx fun Hs ρ ah Q sr h k=>⟨Hs,ρ,ah,Q,sr,h,fun J H' av ds g w z q=>k J H' av ds g (w.imp fun G H s=>g.wf.sub.trans s) z q⟩
def jo(te:WE):WI:=fun ρ Q=>te ρ fun _ d=>match d with
 |.list xs=>Q xs
 |_=>False
theorem lE(he:QE X K e te)(hK:X.K=K:=by rfl):Rb X K tg e (jo te):=by
 subst hK
 refine PI.imp (WD he) fun σ H R hx=>kF hx fun Hs ρ ah Q sr h k=>⟨Hs,ρ,ah,_,sr,h,fun v H1 aT m d As g1 r1 f1 q1=>?_⟩
 have r:=r1.rep g1.wf
 cases r with
 |list z s rs=>exact⟨_,rfl,⟨_,s⟩,k _ H1 aT _ g1 (.list (xX s rs)) (by rw[rs.length];exact z) q1⟩
 |_=>exact q1.elim
end
def qj(g:WG)(b:WS)(E:lC):List D->Env->Prop
 |[],ρ=>E.nx ρ
 |x :: xs,ρ=>g x ρ fun oz=>b { E with nx:=qj g b E xs,ct:=qj g b E xs,bk:=E.nx } oz
def mr(wi:WI)(g:WG)(b:WS):WS:=fun E ρ=>wi ρ fun ds=>qj g b E ds ρ
variable {wi:WI}{g:WG}{b:WS}{body:List Stmt}
theorem cF(hp:PassesOwn (model X.prog X.w) X.A X.env X.xe)(hc:X.calm=true)(hi:QI X K tg iter wi)(hg:QG X K tg g)(hb:n4 X K L body b)(hs:∀ x,foldedSetIterable iter X.env x=pure x:=by intro _;rfl) :
  QS X K L (.For tg iter body [] pos) (mr wi g b):=by
 refine PS.imp (aJ' hp hc hi hg hb hs) fun D σ H hx=>gO hx fun Hs ρ ah E sr h k1 k2 k3 k4 kx=>?_
 rw[CV]
 refine⟨Hs,ρ,ah,_,sr,h,fun J H1 aT ds g1 S hz q1=>?_⟩
 refine⟨fun i m σ H=>m=ds.length-i/\i<=ds.length/\∃ av bq bP,aS aT av/\dn K av bq σ H bP/\qj g b E (ds.drop i) bq,⟨ds.length,by simp,eI _,aT,ρ,ah,aS.refl _,sr.grow g1,by simpa using q1⟩,?_⟩
 rintro i m fz H2 ⟨rfl,hi,aw,dQ,cx,s2,g0,q2⟩
 by_cases dr:i<ds.length
 ·refine .inr ⟨S.go i aw H2 s2 g0.wf dr,fun qA H3=>∃ av bq bP,aS aT av/\dn K av bq qA H3 bP/\qj g b E (ds.drop (i+1)) bq,fun qA H3 h3=>⟨ds.length-(i+1),by lia,rfl,dr,h3⟩,fun x H3 y=>?_⟩
  obtain⟨fR,g3,rd⟩:=S.nL i aw H2 x H3 ds[i] s2 g0.wf (by simp[dr]) y
  rw[xk dr] at q2
  have s3:=s2.trans g3.sh
  refine⟨fR,dQ,cx,ds[i],_,g0.grow g3,rd,q2,fun σ4 vv Ur Rc _ q4=>?_⟩
  refine⟨fR,vv,Ur,_,Rc,q4,?_,?_,?_,?_,fun n H5 s5=>kx n H5 ((g1.sh.trans s3).trans s5)⟩
  ·exact fun E7 H5 oB yi yk s5 yn q5=>⟨oB,yi,yk,s3.trans s5,yn,q5⟩
  ·exact fun E7 H5 oB yi yk s5 yn q5=>k1 E7 H5 oB yi yk ((g1.sh.trans s3).trans s5) yn q5
  ·exact fun E7 H5 oB yi yk s5 yn q5=>⟨oB,yi,yk,s3.trans s5,yn,q5⟩
  ·exact fun v H5 oB m d As s5=>k4 v H5 oB m d As ((g1.sh.trans s3).trans s5)
 ·have e:i=ds.length:=by lia
  subst e
  refine .inl ⟨S.stop aw H2 s2 g0.wf,?_⟩
  rw[R_] at q2
  exact k1 fz H2 aw dQ cx (g1.sh.trans s2) g0 q2
theorem bz(xs:List D)(Pv:Nat->Env->Prop)(h0:Pv 0 ρ)
  (hs:∀ i x ρ,xs[i]? = some x->Pv i ρ->∀ N:Env->Prop,(∀ bq,Pv (i+1) bq->N bq)->g x ρ fun oz=>b { E with nx:=N,ct:=N,bk:=E.nx } oz)
  (hd:∀ ρ,Pv xs.length ρ->E.nx ρ):qj g b E xs ρ:=by
 have go:∀ (k i:Nat) (ρ:Env),i+k=xs.length->Pv i ρ->qj g b E (xs.drop i) ρ:=by
  intro k
  induction k with
  |zero =>
   intro i ρ e p
   have:i=xs.length:=by lia
   subst this
   rw[R_]
   exact hd ρ p
  |succ k ih =>
   intro i ρ e p
   have hi:i<xs.length:=by lia
   rw[xk hi]
   exact hs i xs[i] ρ (by simp[hi]) p _ fun dQ h2=>ih (i+1) dQ (by lia) h2
 have:=go xs.length 0 ρ (by lia) h0
 simpa using this
def yC(c:WT)(b:WS):WS:=fun E ρ=>∃ (Pv:Env->Prop) (μ:Env->Nat),Pv ρ/\∀ ρ,Pv ρ->c ρ fun k=>if k=true then b { E with nx:=fun bq=>Pv bq/\μ bq<μ ρ,ct:=fun bq=>Pv bq/\μ bq<μ ρ,bk:=E.nx } ρ else E.nx ρ
theorem tY(hp:PassesOwn (model X.prog X.w) X.A X.env X.xe)(hc:QT X K c tc)(hb:n4 X K L body b):QS X K L (.While c body [] pos) (yC tc b):=by
 refine PS.imp (ay' hp hc hb) fun D σ H hx=>gO hx fun Hs ρ ah E sr h k1 k2 k3 k4 kx=>?_
 obtain⟨Pv,μ,p0,turn⟩:=h
 refine⟨fun m σ H=>∃ av bq bP,aS Hs av/\dn K av bq σ H bP/\Pv bq/\μ bq=m,⟨_,Hs,ρ,ah,aS.refl _,sr,p0,rfl⟩,?_⟩
 rintro m fz H2 ⟨aw,dQ,cx,s2,g0,p2,rfl⟩
 refine⟨aw,dQ,cx,_,g0,turn dQ p2,fun k H3 fR g3 q3=>?_⟩
 cases k with
 |false=>exact k1 fz H3 fR dQ cx (s2.trans g3.sh) (g0.grow g3) q3
 |true =>
  refine⟨fun aE H'=>∃ av bq bP,aS Hs av/\dn K av bq aE H' bP/\Pv bq/\μ bq<μ dQ,fun aE H' ⟨av,bq,bP,a,b,c,d⟩=>⟨μ bq,d,av,bq,bP,a,b,c,rfl⟩,?_⟩
  have s3:aS Hs fR:=s2.trans g3.sh
  refine⟨fR,dQ,cx,_,g0.grow g3,q3,?_,?_,?_,?_,fun n H5 s5=>kx n H5 (s3.trans s5)⟩
  ·exact fun E7 H5 oB yi yk s5 yn q5=>⟨oB,yi,yk,s3.trans s5,yn,q5.1,q5.2⟩
  ·exact fun E7 H5 oB yi yk s5 yn q5=>k1 E7 H5 oB yi yk (s3.trans s5) yn q5
  ·exact fun E7 H5 oB yi yk s5 yn q5=>⟨oB,yi,yk,s3.trans s5,yn,q5.1,q5.2⟩
  ·exact fun v H5 oB m d As s5=>k4 v H5 oB m d As (s3.trans s5)
end
def tj:WT:=fun _ Q=>Q true
def Rf(m:Md)(d:D):Prop:=d.flat=true\/m=.ow true
def iH(g:WG)(tc:WT)(te:WE):List D->Env->(List D->Prop)->Prop
 |[],_,k=>k []
 |x :: xs,ρ,k=>g x ρ fun oz=>tc oz fun b=>if b=true then te oz fun m d=>Rf m d/\iH g tc te xs oz (fun out=>k (d :: out)) else iH g tc te xs oz k
def CW(tn:Nat)(ix:List Nat)(ρ:Env):Env:=List.replicate tn none++ix.map fun j=>(ρ[j]?).join.map N3
def eN(wi:WI)(g:WG)(tc:WT)(te:WE)(tn:Nat)(ix:List Nat):WE:=fun ρ Q=>wi ρ fun ds=>iH g tc te ds (CW tn ix ρ) fun out=>Q (.ow true) (.list out)
section
variable {X:Cx}{K:PySem.W.Frag}
theorem m5{Hs H G:Hp}(sr:dn K Hs ρ σ H ah)(G':Hp):∀ (ix:List Nat),SR K H G' (ix.map fun j=>(ρ[j]?).join.map N3) (ix.map fun j=>(σ[j]?).join) []
 |[]=>.nil
 |j :: ix=>by
  have ih:=m5 sr G' ix (G:=G)
  simp only[ft]
  cases e:ρ[j]? with
  |none=>exact .non ih
  |some o =>
   cases o with
   |none=>exact .non ih
   |some sl =>
    obtain⟨v,e1,r⟩:=sr.sr.get e
    rw[e1]
    cases sl with
    |sh d=>exact .sh (Rep.same sr.wf.sub r) ih
    |xc a=>subst r;exact .xc ih
    |ow fl d =>
     obtain⟨As,_,r,_⟩:=r
     exact .sh (r.rep sr.wf.sub fun _ _=>rfl) ih
    |lk a fl d =>
     obtain⟨As,_,r,_⟩:=r
     exact .sh (r.rep sr.wf.sub fun _ _=>rfl) ih
theorem ql(s:SR K H G ρ σ []):∀ (n:Nat),SR K H G (List.replicate n none++ρ) (List.replicate n none++σ) []
 |0=>s
 |n+1=>.non (ql s n)
theorem SR.heap(s:SR K Hs H ρ σ []):SR K Hs H' ρ σ []:=s.fv (aS.refl _) fun a h=>nomatch h
theorem wH(w:Wf Hs H)(n:Hs p=none)(ho:∀ vs,o≠.tup vs):Wf Hs (upd H p o):=⟨fun b u q=>by
  rw[fE (fun z=>by subst z;rw[n] at q;cases q)];exact w.sub b u q,fun b us q=>by
  by_cases hb:b=p
  ·subst hb;rw[kK] at q;exact absurd (Option.some.inj q) (ho us)
  ·rw[fE hb] at q;exact w.iX b us q⟩
structure CompI(K:PySem.W.Frag)(H1:Hp)(b:Addr)(acc:List D)(ys:List V)(As:List Addr)(Hs:Hp)(ρ:Env)(τ:St)(H:Hp):Prop where
 sm:aS H1 Hs
 sr:dn K Hs ρ τ H []
 eD:H b=some (.lst ys)
 nD:Hs b=none
 ra:aD K Hs H true acc ys As
 nd:(b :: As).Nodup
 own:∀ a∈As,Hs a=none
theorem CompI.grow(c:CompI K H1 b acc ys As Hs ρ τ H)(g:fh Hs H av H'):CompI K H1 b acc ys As av ρ τ H' :=
 ⟨c.sm.trans g.sh,c.sr.grow g,g.all _ _ c.eD,g.pE c.nD (by rw[c.eD];exact fun z=>nomatch z),c.ra.grow g.sh g.all,c.nd,fun a ha=>g.pE (c.own a ha) (c.ra.own a ha).ne⟩
theorem CompI.push(c:CompI K H1 b acc ys As Hs ρ τ H)(r:RM K Hs H m d v Bs)(ok:Rf m d)(nb:Bs.Nodup)(fb:∀ a∈Bs,Hs a=none/\a∉b :: As):∃ fN,CompI K H1 b (acc++[d]) (ys++[v]) fN Hs ρ τ (upd H b (.lst (ys++[v]))):=by
 obtain⟨B,sb,rb⟩:∃ B,B.Sublist Bs/\bG K Hs H true d v B:=by
  rcases ok with hf|rfl
  ·exact⟨[],FX _,.sh (fun _=>hf) (r.flat c.sr.wf hf)⟩
  ·exact⟨Bs,List.Sublist.refl _,r.1⟩
 obtain⟨na,nA⟩:=kA.mp c.nd
 have Rg:=fun a ha=>fb a (sb.subset ha)
 refine⟨As++(B++[]),c.sm,⟨c.sr.sr.heap,wH c.sr.wf c.nD (fun _ z=>nomatch z),oQ,fun a h=>nomatch h⟩,kK,c.nD,(c.ra.fv (H':=upd H b (.lst (ys++[v]))) (aS.refl _) fun a ha=>fE fun z=>na (by subst z;exact ha)).append (.cons (rb.fv (aS.refl _) fun a ha=>fE fun z=>(Rg a ha).2 (by subst z;exact cq)) .nil),?_,?_⟩
 ·rw[oP]
  refine kA.mpr ⟨fun m=>(dP.mp m).elim na fun m=>(Rg b m).2 cq,kc.mpr ⟨nA,sb.nodup nb,fun x hx y hy e=>(Rg y hy).2 (e ▸ ck _ hx)⟩⟩
 ·rw[oP]
  exact fun a ha=>(dP.mp ha).elim (c.own a) fun m=>(Rg a m).1
theorem pL(h:sT K (eN wi g tc te tn ix) σ H Qv):yM (Ym K wi) (Yl K g) (BU K tc) (sT K te) tn ix σ H Qv:=by
 obtain⟨Hs,ρ,ah,Q,sr,h,f⟩:=h
 rw[Ac]
 refine⟨Hs,ρ,ah,_,sr,h,fun J H1 aT ds g1 S hz q1 b hb=>?_⟩
 have st:CompI K H1 b [] [] [] H1 (CW tn ix ρ) (nH tn ix σ) (upd H1 b (.lst [])):=by
  refine⟨aS.refl _,⟨ql (m5 (G:=H1) (sr.grow g1) _ ix) tn,⟨(aS.refl H1).upd hb,fun a xs e=>?_⟩,oQ,fun a h=>nomatch h⟩,kK,hb,.nil,by simp,fun a h=>nomatch h⟩
  by_cases ha:a=b
  ·subst ha;rw[kK] at e;cases e
  ·rw[fE ha] at e;exact e
 refine⟨fun i m τ H2=>m=ds.length-i/\i<=ds.length/\∃ aw dQ acc ys As,CompI K H1 b acc ys As aw dQ τ H2/\acc.length<=i/\iH g tc te (ds.drop i) dQ (fun out=>Q (.ow true) (.list (acc++out))),
  ⟨ds.length,by simp,eI _,H1,_,[],[],[],st,bT _,by simpa using q1⟩,?_⟩
 rintro i m τ H2 ⟨rfl,hi,aw,dQ,acc,ys,As,c,la,q2⟩
 by_cases dr:i<ds.length
 ·refine .inr ⟨S.go i aw H2 c.sm c.sr.wf dr,
   fun Kj v H4=>∃ IZ vv d,CompI K H1 b acc ys As IZ vv Kj H4/\(∃ fN,CompI K H1 b (acc++[d]) (ys++[v]) fN IZ vv Kj (upd H4 b (.lst (ys++[v]))))/\iH g tc te (ds.drop (i+1)) vv (fun out=>Q (.ow true) (.list (acc++d :: out))),
   fun Kj H3=>∃ fR Ki,CompI K H1 b acc ys As fR Ki Kj H3/\iH g tc te (ds.drop (i+1)) Ki (fun out=>Q (.ow true) (.list (acc++out))),?_,?_,?_⟩
  ·rintro Kj v H4 ⟨IZ,vv,d,c4,⟨fN,c5⟩,q4⟩
   have lya:=c4.ra.length
   exact⟨ys,ds.length-(i+1),c4.eD,by lia,by lia,rfl,dr,IZ,vv,acc++[d],ys++[v],fN,c5,by rw[qh];simpa using la,by simpa using q4⟩
  ·rintro Kj H3 ⟨fR,Ki,c3,q3⟩
   exact⟨ds.length-(i+1),by lia,rfl,dr,fR,Ki,acc,ys,As,c3,by lia,q3⟩
  ·intro x H3 y
   obtain⟨fR,g3,rd⟩:=S.nL i aw H2 x H3 ds[i] c.sm c.sr.wf (by simp[dr]) y
   rw[xk dr] at q2
   have c3:=c.grow g3
   refine⟨fR,dQ,[],ds[i],_,c3.sr,rd,q2,fun τ4 vv Ur Rc m4 q4=>?_⟩
   have t4:Ur=[]:=List.eq_nil_iff_forall_not_mem.mpr fun a ha=>nomatch m4 a ha
   subst t4
   have c4:CompI K H1 b acc ys As fR vv τ4 H3:=⟨c3.sm,Rc,c3.eD,c3.nD,c3.ra,c3.nd,c3.own⟩
   refine⟨fR,vv,[],_,Rc,q4,fun k H5 oB g5 q5=>?_⟩
   have c5:=c4.grow g5
   cases k with
   |false=>exact⟨oB,vv,c5,q5⟩
   |true =>
    refine⟨oB,vv,[],_,c5.sr,q5,fun v H6 Hs6 m6 d6 As6 g6 r6 f6 q6=>?_⟩
    have c6:=c5.grow g6
    refine⟨Hs6,vv,d6,c6,c6.push r6 q6.1 f6.1 fun a ha=>⟨(f6.2 a ha).1,fun m=>?_⟩,q6.2⟩
    rcases dc.mp m with rfl|m
    ·have:=(f6.2 _ ha).2
     rw[c5.eD] at this;cases this
    ·exact(c5.ra.own a m).ne (f6.2 a ha).2
 ·have e:i=ds.length:=by lia
  subst e
  refine .inl ⟨S.stop aw H2 c.sm c.sr.wf,?_⟩
  rw[R_] at q2
  have q2:Q (.ow true) (.list (acc++[])):=q2
  rw[oP] at q2
  have lya:=c.ra.length
  have rm:RM K aw H2 (.ow true) (.list acc) (.ref b) (b :: As):=⟨.list (by lia) c.eD c.ra,by simp⟩
  obtain⟨fN,r',fr⟩:=oV g1.wf c.sm c.sr.wf rm c.nd fun a ha=>(dc.mp ha).elim (fun z=>z ▸ c.nD) (c.own a)
  exact Fin.after f g1 (.ref b) H2 _ (.ow true) (.list acc) fN (fQ g1.wf c.sm c.sr.wf) r' fr q2
theorem z5.imp(h:z5 X ifs t)(i:∀ σ H Q,t' σ H Q->t σ H Q):z5 X ifs t':=fun pins s σ H Q I q=>h pins s σ H Q I (i σ H Q q)
abbrev Rh(X:Cx)(K:PySem.W.Frag)(ifs:List Expr)(t:WT):Prop:=z5 X ifs (BU K t)
theorem cX:Rh X K [] tj:=z5.imp Ek fun σ H Qv hx=>kF hx fun Hs ρ ah Q sr h k=>k true H Hs (fh.refl sr.wf) h
theorem oH(h:QT X K c t):Rh X K [c] t:=DY h
theorem gG(hc:X.calm=true)(hi:Rb X K tg iter wi)(O:bL X scope tn cn ix)
  (hg:∀ C fp gd hU,QG (bu X scope C (tn++cn) fp gd hU) K tg g) (pe:∀ C fp gd hU,Rh (bu X scope C (tn++cn) fp gd hU) K ifs tc) (he:∀ C fp gd hU,QE (bu X scope C (tn++cn) fp gd hU) K elt te)
  (hs:∀ x,foldedSetIterable iter X.env x=pure x:=by intro _;rfl):QE X K (.ListComp elt [⟨tg,iter,ifs,0⟩] scope pos) (eN wi g tc te tn.length ix) :=
 PE.imp (Fe hc hi O hg pe he hs) fun σ H Qv h=>pL h
end
theorem cZ(p:D->Bool)(f:D->D)(Iv:Env->Prop):∀ (xs:List D) (ρ:Env) (k:List D->Prop),Iv ρ ->
  (∀ x∈xs,∀ ρ,Iv ρ->∀ N1:Env->Prop,∀ N2:Env->D->Prop,(∀ bq,Iv bq->p x=false->N1 bq)->(∀ bq,Iv bq->p x=true->N2 bq (f x))->g x ρ fun oz=>tc oz fun b=>if b=true then te oz fun m d=>Rf m d/\N2 oz d else N1 oz) ->
  k ((xs.filter p).map f)->iH g tc te xs ρ k
 |[],_,k,_,_,h=>h
 |x :: xs,ρ,k,iv,hs,h=>by
  refine hs x cq ρ iv _ _ (fun bq N9 hp=>?_) (fun bq N9 hp=>?_)
  ·exact cZ p f Iv xs bq k N9 (fun y hy=>hs y (ck _ hy)) (by simpa[hp] using h)
  ·exact cZ p f Iv xs bq _ N9 (fun y hy=>hs y (ck _ hy)) (by simpa[hp] using h)
def Upd(K:PySem.W.Frag)(Hs H:Hp)(σ:St)(fl:Bool)(v:V)(up:Bool->D->Env)(fN:List Addr):Prop:=∀ aw H2 fl2 d2 gi,aS Hs aw->Wf aw H2->(∀ a,Hs a=none->H a≠none->aw a=none)->(fl2=true->fl=true) ->
  bG K aw H2 fl2 d2 v gi->gi≠[]->gi.Nodup->(∀ a∈gi,aw a=none/\(a∈fN\/H a=none))->(∀ a,H a≠none->a∉fN->H2 a=H a)->∃ cx,dn K aw (up fl2 d2) σ H2 cx
structure Place(K:PySem.W.Frag)(Hs H:Hp)(σ:St)(fl:Bool)(d:D)(v:V)(up:Bool->D->Env):Prop where
 ex:∃ fN,bG K Hs H fl d v fN/\fN≠[]/\fN.Nodup/\(∀ a∈fN,Hs a=none)/\Upd K Hs H σ fl v up fN
theorem Upd.node{K:PySem.W.Frag}{Hs H aw H2:Hp}{σ:St}{fl fl2:Bool}{up:Bool->D->Env}{a:Addr}{A C:List Addr}{o:HO}{d2:D}(k:Upd K Hs H σ fl (.ref a) up (a :: A))(g:fh Hs H aw H2)(own:∀ x∈a :: A,Hs x=none/\H x≠none)(ho:∀ vs,o≠.tup vs)(hf:fl2=true->fl=true)
  (r:bG K aw (upd H2 a o) fl2 d2 (.ref a) (a :: C)) (nC:C.Nodup) (Ri:a∉C) (hC:∀ x∈C,x∈A\/(aw x=none/\H x=none)):∃ cx,dn K aw (up fl2 d2) σ (upd H2 a o) cx:=by
 have hn:∀ x∈a :: A,aw x=none:=fun x hx=>g.pE (own x hx).1 (own x hx).2
 refine k aw _ fl2 d2 (a :: C) g.sh (wH g.wf (hn a cq) ho) (fun b h1 h2=>g.pE h1 h2) hf r (PH _ _) (kA.mpr ⟨Ri,nC⟩) (fun b hb=>?_) fun b h1 h2=>?_
 ·rcases dc.mp hb with rfl|hb
  ·exact⟨hn _ cq,.inl cq⟩
  ·exact(hC b hb).elim (fun q=>⟨hn b (ck _ q),.inl (ck _ q)⟩) fun q=>⟨q.1,.inr q.2⟩
 ·rw[fE fun z=>h2 (by subst z;exact cq)]
  cases q:H b with
  |none=>exact absurd q h1
  |some o=>exact g.all b o q
abbrev WP:=Env->(Bool->D->(Bool->D->Env)->Prop)->Prop
def tpP(K:PySem.W.Frag)(t:WP):TE:=fun σ H Qv=>∃ Hs ρ ah Q,dn K Hs ρ σ H ah/\t ρ Q/\∀ v H' av fl d up,fh Hs H av H'->Place K av H' σ fl d v up->Q fl d up->Qv v H'
abbrev QP(X:Cx)(K:PySem.W.Frag)(e:Expr)(t:WP):Prop:=PE X e (tpP K t)
section
variable {K:PySem.W.Frag}{Hs H av H':Hp}{σ:St}{fl:Bool}{d:D}{v:V}{up:Bool->D->Env}
theorem Place.grow(p:Place K Hs H σ fl d v up)(g:fh Hs H av H'):Place K av H' σ fl d v up:=by
 obtain⟨fN,r,ne,nd,own,k⟩:=p.ex
 refine⟨fN,r.grow g.sh g.all,ne,nd,fun a h=>g.pE (own a h) (r.own a h).ne,fun aw H2 fl2 d2 gi s2 w2 n2 hf r2 ne2 n5 o2 st=>?_⟩
 refine k aw H2 fl2 d2 gi (g.sh.trans s2) w2 (fun a h1 h2=>n2 a (g.pE h1 h2) ?_) hf r2 ne2 n5 (fun a h=>⟨(o2 a h).1,(o2 a h).2.imp id g.all.free⟩) fun a h1 h2=>?_
 ·cases e:H a with
  |none=>exact absurd e h2
  |some o=>rw[g.all a o e];exact fun z=>nomatch z
 ·cases e:H a with
  |none=>exact absurd e h1
  |some o =>
   have:=g.all a o e
   rw[<- this]
   exact st a (by rw[this];exact fun z=>nomatch z) h2
theorem bG.ne2:(∀ {d:D} {v:V} {As:List Addr},bG K Hs H true d v As->d.flat=false->As≠[])/\∀ {ds:List D} {vs:List V} {As:List Addr},aD K Hs H true ds vs As->cf ds=false->As≠[] :=
 bG.ind (m1:=fun d _ As=>d.flat=false->As≠[]) (m2:=fun ds _ As=>cf ds=false->As≠[]) (fun _ _ f _ h=>by rw[f rfl] at h;cases h) (fun _ _ _ _ _ _ _ _ _=>PH _ _) (fun _ _ _ _ _ _ n _ ih _=>ih n) (fun _ _ _ _ _ _ _ _ _=>PH _ _) (fun _ _ _ _ _ _ _ _ _=>PH _ _)
  (fun h=>by simp[cf] at h) fun d _ _ _ _ _ _ _ i1 i2 h=>by
   cases e:d.flat with
   |false=>exact fun z=>i1 e (LJ.mp z).1
   |true =>
    simp only[cf,e,Bool.true_and] at h
    exact fun z=>i2 h (LJ.mp z).2
theorem bG.ne{d:D}{v:V}{As:List Addr}(r:bG K Hs H true d v As)(h:d.flat=false):As≠[]:=bG.ne2.1 r h
theorem bG.nil_of{fl:Bool}{d:D}{v:V}{As:List Addr}(r:bG K Hs H fl d v As)(h:d.flat=true):As=[]:=by
 cases r with
 |sh _ _=>rfl
 |tup _ _ n _=>simp[D.flat,n] at h
 |_=>simp[D.flat] at h
def rp(i:Nat):WP:=fun ρ Q=>match ρ[i]? with
 |some (some (.ow fl d))=>Q fl d fun fl2 d2=>ρ.set i (some (.ow fl2 d2))
 |_=>False
theorem SR.put{Hs H:Hp}{fl:Bool}{d:D}{ρ:Env}{σ:St}{ah:List Addr}(i:Nat)(s:SR K Hs H ρ σ ah):ρ[i]? = some (some (.ow fl d))->ah.Nodup ->
  ∃ (v:V) (As bP:List Addr),σ[i]? = some (some v)/\As≠[]/\bG K Hs H fl d v As/\As.Sublist ah/\∀ aw H2 fl2 d2 gi,aS Hs aw->bG K aw H2 fl2 d2 v gi->gi≠[]->gi.Nodup->(∀ a∈gi,a∈ah->a∈As)->(∀ a∈ah,a∉As->H2 a=H a) ->
   ∃ cx,cx.Nodup/\(∀ a∈cx,a∈ah\/a∈gi)/\SR K aw H2 (ρ.set i (some (.ow fl2 d2))) σ cx:=by
 induction s generalizing i with
 |nil=>intro e;simp at e
 |@non ρ σ ah o q ih =>
  intro e n
  cases i with
  |zero=>simp at e
  |succ i =>
   obtain⟨v,As,t,a,b,c,d,g⟩:=ih i (by simpa using e) n
   refine⟨v,As,t,by simpa using a,b,c,d,fun aw H2 fl2 d2 gi s2 r2 ne2 n5 dj st=>?_⟩
   obtain⟨t2,x,y,z⟩:=g aw H2 fl2 d2 gi s2 r2 ne2 n5 dj st
   exact⟨t2,x,y,.non z⟩
 |sh r q ih =>
  intro e n
  cases i with
  |zero=>simp at e
  |succ i =>
   obtain⟨v,As,t,a,b,c,d,g⟩:=ih i (by simpa using e) n
   refine⟨v,As,t,by simpa using a,b,c,d,fun aw H2 fl2 d2 gi s2 r2 ne2 n5 dj st=>?_⟩
   obtain⟨t2,x,y,z⟩:=g aw H2 fl2 d2 gi s2 r2 ne2 n5 dj st
   exact⟨t2,x,y,.sh (r.same s2) z⟩
 |xc q ih =>
  intro e n
  cases i with
  |zero=>simp at e
  |succ i =>
   obtain⟨v,As,t,a,b,c,d,g⟩:=ih i (by simpa using e) n
   refine⟨v,As,t,by simpa using a,b,c,d,fun aw H2 fl2 d2 gi s2 r2 ne2 n5 dj st=>?_⟩
   obtain⟨t2,x,y,z⟩:=g aw H2 fl2 d2 gi s2 r2 ne2 n5 dj st
   exact⟨t2,x,y,.xc z⟩
 |@ow ρ σ t2 B fl0 d0 v ne r q ih =>
  intro e n
  obtain⟨n1,n2,n3⟩:=kc.mp n
  cases i with
  |zero =>
   simp at e
   obtain⟨rfl,rfl⟩:=e
   refine⟨v,B,t2,rfl,ne,r,LH _ _,fun aw H2 fl2 d2 gi s2 r2 ne2 n5 dj st=>⟨gi++t2,kc.mpr ⟨n5,n2,fun a ha b hb e=>?_⟩,fun a h=>?_,.ow ne2 r2 (q.fv s2 fun a h=>st a (fq _ h) fun z=>n3 a z a h rfl)⟩⟩
   ·subst e
    exact n3 a (dj a ha (fq _ hb)) a hb rfl
   ·exact(dP.mp h).symm.imp (fun z=>fq _ z) id
  |succ i =>
   obtain⟨v,As,t,a,b,c,d,g⟩:=ih i (by simpa using e) n2
   have hB:∀ x∈B,x∉As:=fun x hx m=>n3 x hx x (d.subset m) rfl
   refine⟨v,As,B++t,by simpa using a,b,c,d.trans (oI _ _),fun aw H2 fl2 d2 gi s2 r2 ne2 n5 dj st=>?_⟩
   obtain⟨t2,x,y,z⟩:=g aw H2 fl2 d2 gi s2 r2 ne2 n5 (fun a ha m=>dj a ha (fq _ m)) fun a ha m=>st a (fq _ ha) m
   refine⟨B++t2,kc.mpr ⟨n1,x,fun a ha b hb e=>?_⟩,fun a h=>?_,.ow ne (r.fv s2 fun a h=>st a (kr _ h) (hB a h)) z⟩
   ·subst e
    rcases y a hb with w|w
    ·exact n3 a ha a w rfl
    ·exact hB a ha (dj a w (kr _ ha))
   ·rcases dP.mp h with w|w
    ·exact .inl (kr _ w)
    ·exact(y a w).imp (fun w=>fq _ w) id
 |@lk ρ σ t2 B a0 fl0 d0 ne r q ih =>
  intro e n
  obtain⟨n1,n2,n3⟩:=kc.mp n
  cases i with
  |zero=>simp at e
  |succ i =>
   obtain⟨v,As,t,a,b,c,d,g⟩:=ih i (by simpa using e) n2
   have hB:∀ x∈B,x∉As:=fun x hx m=>n3 x hx x (d.subset m) rfl
   refine⟨v,As,B++t,by simpa using a,b,c,d.trans (oI _ _),fun aw H2 fl2 d2 gi s2 r2 ne2 n5 dj st=>?_⟩
   obtain⟨t2,x,y,z⟩:=g aw H2 fl2 d2 gi s2 r2 ne2 n5 (fun a ha m=>dj a ha (fq _ m)) fun a ha m=>st a (fq _ ha) m
   refine⟨B++t2,kc.mpr ⟨n1,x,fun a ha b hb e=>?_⟩,fun a h=>?_,.lk ne (r.fv s2 fun a h=>st a (kr _ h) (hB a h)) z⟩
   ·subst e
    rcases y a hb with w|w
    ·exact n3 a ha a w rfl
    ·exact hB a ha (dj a w (kr _ ha))
   ·rcases dP.mp h with w|w
    ·exact .inl (kr _ w)
    ·exact(y a w).imp (fun w=>fq _ w) id
theorem cL{X:Cx}{i:Nat}{e:Expr}(h:PE X e (DE i)):QP X K e (rp i):=PE.imp h fun σ H Qv hx=>kF hx fun Hs ρ ah Q sr h f=>by
 unfold rp at h
 split at h
 ·rename_i fl d e1
  obtain⟨v,As,t,e2,ne,r,sb,g⟩:=SR.put i sr.sr e1 sr.sR
  refine⟨v,e2,f v H Hs fl d _ (fh.refl sr.wf) ⟨As,r,ne,sb.nodup sr.sR,fun a h=>sr.own a (sb.subset h),fun aw H2 fl2 d2 gi s2 w2 n2 _ r2 ne2 n5 o2 st=>?_⟩ h⟩
  obtain⟨t2,x,y,z⟩:=g aw H2 fl2 d2 gi s2 r2 ne2 n5 (fun a ha m=>(o2 a ha).2.elim id fun q=>absurd q (sr.sr.own a m).ne) fun a ha m=>st a (sr.sr.own a ha).ne m
  exact⟨t2,z,w2,x,fun a h=>(y a h).elim (fun q=>n2 a (sr.own a q) (sr.sr.own a q).ne) fun q=>(o2 a q).1⟩
 ·exact h.elim
theorem bG.wk{fl fl2:Bool}{d:D}{v:V}{As:List Addr}(h:fl2=true->fl=true)(r:bG K Hs H fl d v As):bG K Hs H fl2 d v As:=by
 cases fl2 with
 |false=>exact r.Q5
 |true=>rw[h rfl] at r;exact r
theorem aD.wk{fl fl2:Bool}{d:List D}{v:List V}{As:List Addr}(h:fl2=true->fl=true)(r:aD K Hs H fl d v As):aD K Hs H fl2 d v As:=by
 cases fl2 with
 |false=>exact r.Q5
 |true=>rw[h rfl] at r;exact r
theorem aD.at{fl:Bool}{ds:List D}{vs:List V}{As:List Addr}{j:Nat}{d:D}(r:aD K Hs H fl ds vs As)(e:ds[j]? = some d)(n:As.Nodup) :
  ∃ (v:V) (B:List Addr),vs[j]? = some v/\bG K Hs H fl d v B/\B.Sublist As/\∀ aw H2 fl2 d2 B2,aS Hs aw->(fl2=true->fl=true)->bG K aw H2 fl2 d2 v B2->B2.Nodup->(∀ a∈B2,a∈As->a∈B)->(∀ a∈As,a∉B->H2 a=H a) ->
   ∃ gi,gi.Nodup/\(∀ a∈gi,(a∈As/\a∉B)\/a∈B2)/\(B2≠[]->gi≠[])/\aD K aw H2 fl2 (ds.set j d2) vs gi:=by
 induction ds generalizing vs As j with
 |nil=>simp at e
 |cons x ds ih =>
  obtain⟨v,us,A,B,rfl,rfl,r,rs⟩:=r.c
  obtain⟨n1,n2,n3⟩:=kc.mp n
  cases j with
  |zero =>
   simp at e
   subst e
   refine⟨v,A,rfl,r,LH _ _,fun aw H2 fl2 d2 B2 s2 hf r2 n5 dj st=>⟨B2++B,kc.mpr ⟨n5,n2,fun a ha b hb e=>?_⟩,fun a h=>?_,fun ne z=>ne (LJ.mp z).1,.cons r2 ((rs.wk hf).fv s2 fun a h=>st a (fq _ h) fun z=>n3 a z a h rfl)⟩⟩
   ·subst e
    exact n3 a (dj a ha (fq _ hb)) a hb rfl
   ·rcases dP.mp h with w|w
    ·exact .inr w
    ·exact .inl ⟨fq _ w,fun z=>n3 a z a w rfl⟩
  |succ j =>
   obtain⟨v,C,a,b,c,g⟩:=ih (j:=j) rs (by simpa using e) n2
   have hA:∀ x∈A,x∉C:=fun x hx m=>n3 x hx x (c.subset m) rfl
   refine⟨v,C,by simpa using a,b,c.trans (oI _ _),fun aw H2 fl2 d2 B2 s2 hf r2 n5 dj st=>?_⟩
   obtain⟨gi,x,y,w,z⟩:=g aw H2 fl2 d2 B2 s2 hf r2 n5 (fun a ha m=>dj a ha (fq _ m)) fun a ha m=>st a (fq _ ha) m
   refine⟨A++gi,kc.mpr ⟨n1,x,fun a ha b hb e=>?_⟩,fun a h=>?_,fun ne q=>w ne (LJ.mp q).2,.cons ((r.wk hf).fv s2 fun a h=>st a (kr _ h) (hA a h)) z⟩
   ·subst e
    rcases y a hb with q|q
    ·exact n3 a ha a q.1 rfl
    ·exact hA a ha (dj a q (kr _ ha))
   ·rcases dP.mp h with q|q
    ·exact .inl ⟨kr _ q,hA a q⟩
    ·exact(y a q).imp (fun q=>⟨fq _ q.1,q.2⟩) id
theorem GJ{α:Type}{xs:List α}{i:Int}{x:α}(h:eM xs i=some x):∃ j,lP xs.length i=some j/\xs[j]? = some x:=by
 unfold L2.eM at h
 cases e:lP xs.length i with
 |none=>rw[e] at h;cases h
 |some j=>rw[e] at h;exact⟨j,rfl,h⟩
def Oy(p:WP)(t:WE):WP:=fun ρ Q=>p ρ fun fl d up=>t ρ fun _ y=>fl=true/\match y with
 |.int i=>match d with
  |.list ds=>∃ j d',lP ds.length i=some j/\ds[j]? = some d'/\d'.flat=false/\Q true d' fun fl2 d2=>up fl2 (.list (ds.set j d2))
  |.tup ds=>∃ j d',lP ds.length i=some j/\ds[j]? = some d'/\d'.flat=false/\Q true d' fun fl2 d2=>up fl2 (.tup (ds.set j d2))
  |_=>False
 |_=>False
theorem ym{α:Type}{xs:List α}{i:Int}{j:Nat}{x:α}(h:lP xs.length i=some j)(e:xs[j]? = some x):eM xs i=some x:=by unfold L2.eM;rw[h];exact e
theorem Aa{ds:List D}{j:Nat}{d:D}(e:ds[j]? = some d)(h:d.flat=false):cf ds=false:=by
 cases q:cf ds with
 |false=>rfl
 |true=>rw[lr.mp q d (kH e)] at h;cases h
theorem wG{ds:List D}{j:Nat}{d d2:D}(e:ds[j]? = some d)(h:d2.flat=false):cf (ds.set j d2)=false:=by
 have hj:j<ds.length:=(ic.mp e).1
 exact Aa (j:=j) (d:=d2) (by simp[hj]) h
theorem Im{X:Cx}{a b:Expr}{p:WP}{t:WE}{pos:Pos}(hu:X.A.units+64<cLine)(ha:QP X K a p)(hb:QE X K b t)(hs:Qr b:=by exact fun _ _=>rfl)(hK:X.K=K:=by rfl):QP X K (.Subscript a b pos) (Oy p t):=by
 refine PE.imp (Te (Yi hu hK) ha hb hs) fun σ H Qv hx=>kF hx fun Hs ρ ah Q sr h f=>?_
 refine⟨Hs,ρ,ah,_,sr,h,fun v H1 aT fl d up g1 p1 q1=>⟨aT,ρ,ah,_,sr.grow g1,q1,fun u H2 aw m y As g2 r2 f2 q2=>?_⟩⟩
 have p2:=p1.grow g2
 have gg:=g1.trans g2
 obtain⟨rfl,q2⟩:=q2
 have ry:=r2.rep g2.wf
 cases ry with
 |int i =>
  obtain⟨fN,r,ne,nd,own,k⟩:=p2.ex
  cases r with
  |sh hf _=>exact absurd rfl ne
  |@list a0 vs0 ds0 A0 hz e rs =>
   obtain⟨j,d',e1,e2,hd,q⟩:=q2
   obtain⟨na,nb⟩:=kA.mp nd
   obtain⟨w,B,e3,r3,sb,g⟩:=rs.at e2 nb
   refine .inl (.inl ⟨_,w,.inl (.inl e),ym (by rw[<- rs.length];exact e1) e3,f w H2 aw true d' _ gg ⟨B,r3,r3.ne hd,sb.nodup nb,fun a h=>own a (ck _ (sb.subset h)),fun fR H3 OB d3 IY s3 w3 n3 hf r4 ne3 Us o3 st=>?_⟩ q⟩)
   have ag:∀ x∈A0,x∉B->H3 x=H2 x:=fun x hx m=>st x (rs.own x hx).ne m
   obtain⟨I0,x4,y4,z4,r5⟩:=g fR H3 OB d3 IY s3 hf r4 Us (fun a ha m=>(o3 a ha).2.elim id fun q=>absurd q (rs.own a m).ne) ag
   have eA:H3 a0=H2 a0:=st a0 (by rw[e];exact fun z=>nomatch z) fun m=>na (sb.subset m)
   have cl:∀ a∈I0,fR a=none/\(a∈a0 :: A0\/H2 a=none):=fun a h=>by
    rcases y4 a h with⟨m,_⟩|m
    ·exact⟨n3 a (own a (ck _ m)) (rs.own a m).ne,.inl (ck _ m)⟩
    ·exact⟨(o3 a m).1,(o3 a m).2.imp (fun q=>ck _ (sb.subset q)) id⟩
   refine k fR H3 OB (.list _) (_ :: I0) s3 w3 n3 hf (.list hz (eA.trans e) r5) (by simp) (kA.mpr ⟨fun m=>?_,x4⟩) (fun a h=>?_) fun a h1 h2=>st a h1 fun m=>h2 (ck _ (sb.subset m))
   ·rcases y4 _ m with⟨q,_⟩|q
    ·exact na q
    ·rcases (o3 _ q).2 with q|q
     ·exact na (sb.subset q)
     ·rw[e] at q;cases q
   ·rcases dc.mp h with rfl|h
    ·exact⟨n3 _ (own _ cq) (by rw[e];exact fun z=>nomatch z),.inl cq⟩
    ·exact cl a h
  |tup hz e hn rs =>
   obtain⟨j,d',e1,e2,hd,q⟩:=q2
   obtain⟨w,B,e3,r3,sb,g⟩:=rs.at e2 nd
   refine .inl (.inr ⟨_,w,.inl (.inl (g2.wf.sub _ _ e)),ym (by rw[<- rs.length];exact e1) e3,f w H2 aw true d' _ gg ⟨B,r3,r3.ne hd,sb.nodup nd,fun a h=>own a (sb.subset h),fun fR H3 OB d3 IY s3 w3 n3 hf r4 ne3 Us o3 st=>?_⟩ q⟩)
   obtain⟨I0,x4,y4,z4,r5⟩:=g fR H3 OB d3 IY s3 hf r4 Us (fun a ha m=>(o3 a ha).2.elim id fun q=>absurd q (rs.own a m).ne) (fun x hx m=>st x (rs.own x hx).ne m)
   have IA:cf (List.set _ j d3)=false:=wG e2 (by
    cases hh:d3.flat with
    |false=>rfl
    |true=>exact absurd (r4.nil_of hh) ne3)
   refine k fR H3 OB (.tup _) I0 s3 w3 n3 hf (.tup hz (s3 _ _ e) IA r5) (z4 ne3) x4 (fun a h=>?_) fun a h1 h2=>st a h1 fun m=>h2 (sb.subset m)
   rcases y4 a h with⟨m,_⟩|m
   ·exact⟨n3 a (own a m) (rs.own a m).ne,.inl m⟩
   ·exact⟨(o3 a m).1,(o3 a m).2.imp (fun q=>sb.subset q) id⟩
  |_=>exact q2.elim
 |_=>exact q2.elim
end
section
variable {X:Cx}{K:PySem.W.Frag}{e:Expr}{p:WP}{te:WE}{apos dy pos:Pos}
def mU(fl:Bool)(m:Md)(d:D):Option Bool:=match m with
 |.sh=>some (fl && d.flat)
 |.ow b=>some (fl && b)
 |.bo=>bif d.flat then some fl else none
def B4(p:WP)(te:WE):WS:=fun E ρ=>p ρ fun fl d up=>match d with
 |.list xs=>te ρ fun m x=>xs.length<sizeLine/\match mU fl m x with
  |some fl2=>E.nx (up fl2 (.list (xs++[x])))
  |none=>False
 |_=>False
theorem yU{Hs H:Hp}{fl fl2:Bool}{m:Md}{d:D}{v:V}{As:List Addr}(w:Wf Hs H)(r:RM K Hs H m d v As)(h:mU fl m d=some fl2):(fl2=true->fl=true)/\∃ B,B.Sublist As/\bG K Hs H fl2 d v B:=by
 cases m with
 |sh =>
  cases h
  exact⟨fun z=>by cases fl<;>simp_all,[],FX _,.sh (fun z=>by cases fl<;>simp_all) r.2⟩
 |ow b =>
  cases h
  refine⟨fun z=>by cases fl<;>simp_all,As,List.Sublist.refl _,r.1.wk fun z=>by cases fl<;>simp_all⟩
 |bo =>
  cases hf:d.flat with
  |true =>
   simp only[mU,hf,cond_true,Option.some.injEq] at h
   subst h
   exact⟨id,[],FX _,.sh (fun _=>hf) (r.flat w hf)⟩
  |false=>simp[mU,hf] at h
theorem Place.put{aT H1 aw H2:Hp}{σ:St}{fl:Bool}{xs:List D}{v:V}{up:Bool->D->Env}(pl:Place K aT H1 σ fl (.list xs) v up)(g:fh aT H1 aw H2) :
  ∃ a vs A,v=.ref a/\H2 a=some (.lst vs)/\H1 a=some (.lst vs)/\aD K aw H2 fl xs vs A/\(a :: A).Nodup/\(∀ x∈a :: A,aw x=none/\H1 x≠none) /\
   ∀ fl2 ys ws C,(fl2=true->fl=true)->aD K aw H2 fl2 ys ws C->ws.length<=sizeLine->C.Nodup->a∉C->(∀ x∈C,x∈A\/(aw x=none/\H1 x=none))->∃ cx,dn K aw (up fl2 (.list ys)) σ (upd H2 a (.lst ws)) cx:=by
 obtain⟨fN,r,ne,nd,own,k⟩:=pl.ex
 cases r with
 |sh hf _=>exact absurd rfl ne
 |@list a vs _ A hz e rs =>
  have e2:=g.all _ _ e
  have Rj:=rs.grow g.sh g.all
  have hw:∀ x∈a :: A,aT x=none/\H1 x≠none:=fun x hx=>⟨own x hx,by
   rcases dc.mp hx with rfl|hx
   ·rw[e];exact fun z=>nomatch z
   ·exact(rs.own x hx).ne⟩
  exact⟨a,vs,A,rfl,e2,e,Rj,nd,fun x hx=>⟨g.pE (hw x hx).1 (hw x hx).2,(hw x hx).2⟩,fun fl2 ys ws C hf om hz ndC Ri hC=>k.node g hw (fun _ z=>by cases z) hf (.list hz kK (om.fv (aS.refl _) fun b hb=>fE fun z=>Ri (by subst z;exact hb))) ndC Ri hC⟩
theorem Place.Yn{aT H1:Hp}{σ:St}{fl:Bool}{xs:List D}{v:V}{up:Bool->D->Env}(w:Wf aT H1)(pl:Place K aT H1 σ fl (.list xs) v up):∃ a vs,v=.ref a/\eJ K H1 a vs:=by
 obtain⟨fN,r,ne,nd,own,k⟩:=pl.ex
 cases r with
 |sh hf _=>exact absurd rfl ne
 |list hz e rs=>exact⟨_,_,rfl,.inl (.inl e)⟩
theorem m_ (ho:QP X K e p) {e2:Expr} (he:QE X K e2 te) (hK:X.K=K:=by rfl) (hs:swapsWith (.Call (.Attribute e "append" apos) [e2] [] dy) none pos.line X.env=pure false:=by rfl)
  (xE:attributeBase e "append" X.env (eval e X.env)=eval e X.env:=by rfl)
  (uk:((backTo dy (starEach [e2] X.env)).all (fun x=>!x.1) && (backToKw dy (keywordEach [] X.env)).all (fun x=>x.1.isSome)
   && decide ([e2].length+([]:List Keyword).length+(if ([]:List Keyword).isEmpty then 0 else 1)<30))=true:=by rfl)
  (hline:(apos.endLine == dy.line)=true:=by rfl) (tq:starEach (e2 :: []) X.env=(false,eval e2 X.env) :: starEach [] X.env:=by rfl) (xI:(backTo dy (starEach [] X.env)).any (·.1)=false:=by rfl) :
  QS X K L (.Expr (.Call (.Attribute e "append" apos) [e2] [] dy) pos) (B4 p te):=by
 subst hK
 refine PS.imp (Mb (Ic PySem.F.plainAttrs_list PySem.F.slot_list_append PySem.F.type_list_append Tn ho (pd he sN tq) xE uk hline tq xI) hs) fun D σ H hx=>fG hx fun Hs ρ ah E sr h k1 k2 k3 k4=>?_
 refine⟨Hs,ρ,ah,_,sr,h,fun v H1 aT fl d up g1 p1 q1=>?_⟩
 cases d with
 |list xs =>
  obtain⟨a1,vs1,e1,s1⟩:=p1.Yn g1.wf
  subst e1
  refine⟨.inl ⟨rfl,_,s1⟩,aT,ρ,ah,_,sr.grow g1,q1,fun y H2 aw m x As g2 r2 f2 q2=>?_⟩
  obtain⟨hz,q2⟩:=q2
  obtain⟨a,vs,A,ea,e2,_,rs,nd,hn,k⟩:=p1.put g2
  cases ea
  have hl:=rs.length
  refine⟨a1,vs,y,rfl,rfl,e2,by lia,?_⟩
  cases hp:mU fl m x with
  |none=>rw[hp] at q2;exact q2.elim
  |some fl2 =>
   rw[hp] at q2
   obtain⟨hf,B,sb,rb⟩:=yU g2.wf r2 hp
   obtain⟨na,nA⟩:=kA.mp nd
   have fB:∀ x∈B,aw x=none/\H1 x=none:=fun x hx=>f2.2 x (sb.subset hx)
   have c1:(A++(B++[])).Nodup:=by
    rw[oP]
    exact kc.mpr ⟨nA,sb.nodup f2.1,fun x hx z hz e=>by subst e;exact(hn x (ck _ hx)).2 (fB x hz).2⟩
   have c2:a1∉A++(B++[]):=by
    rw[oP]
    intro m
    rcases dP.mp m with m|m
    ·exact na m
    ·exact(hn _ cq).2 (fB _ m).2
   have c3:∀ x∈A++(B++[]),x∈A\/(aw x=none/\H1 x=none):=by
    rw[oP]
    intro x hx
    exact(dP.mp hx).imp id fun z=>fB x z
   obtain⟨cx,g0⟩:=k fl2 (xs++[x]) (vs++[y]) (A++(B++[])) hf ((rs.wk hf).append (.cons rb .nil)) (by rw[qh];simp;lia) c1 c2 c3
   exact k1 σ _ aw _ cx (g1.sh.trans g2.sh) g0 q2
 |_=>exact q1.elim
def qe:WE:=fun _ Q=>Q (.ow true) (.dT [])
theorem rQ:QE X K (.Dict [] [] pos) qe:=PE.imp cx' fun σ H Qv hx=>kF hx fun Hs ρ ah Q sr h f=>fun a ha =>
 f _ _ Hs (.ow true) (.dT []) [a] (Q6 sr.wf ha fun _ z=>nomatch z) ⟨.dT (vs:=[]) ⟨eI _,fun p hp=>nomatch hp⟩ kK .nil,by simp⟩ ⟨by simp,fun b hb=>by
  obtain rfl:b=a:=by simpa using hb
  exact⟨sr.wf.sub.free ha,ha⟩⟩ h
section
variable {κ:Type}[DecidableEq κ]
theorem yh{Hs H:Hp}{fl:Bool}{k:κ}{d:D}{v:V}(r:bG K Hs H fl d v []){kvs:List (κ × D)}{vs:List V}{As:List Addr}(qs:aD K Hs H fl (kvs.map (·.2)) vs As):∃ ws Bs,Bs.Sublist As /\
  aD K Hs H fl ((kvs.map fun kv=>if kv.1=k then (kv.1,d) else kv).map (·.2)) ws Bs/\((kvs.map (·.1)).zip vs).map (fun kv=>if kv.1=k then (kv.1,v) else kv)=(((kvs.map fun kv=>if kv.1=k then (kv.1,d) else kv)).map (·.1)).zip ws:=by
 induction kvs generalizing vs As with
 |nil=>exact⟨[],[],FX _,.nil,rfl⟩
 |cons p kvs ih =>
  obtain⟨u,vs,A,B,rfl,rfl,q,qs⟩:=aD.c (d:=p.2) qs
  obtain⟨ws,Bs,sb,rs,e⟩:=ih qs
  by_cases h:p.1=k
  ·refine⟨v :: ws,[]++Bs,by simpa using sb.trans (oI _ _),?_,?_⟩
   ·simp only[ft,h,if_true]
    exact .cons r rs
   ·simp only[ft,vS,h,if_true,e]
  ·refine⟨u :: ws,A++Bs,sb.append_left _,?_,?_⟩
   ·simp only[ft,h,if_false]
    exact .cons q rs
   ·simp only[ft,vS,h,if_false,e]
theorem zj{Hs H:Hp}{fl:Bool}{k:κ}{d:D}{v:V}(r:bG K Hs H fl d v []){kvs:List (κ × D)}{vs:List V}{As:List Addr}(q:aD K Hs H fl (kvs.map (·.2)) vs As) :
  ∃ ws Bs,Bs.Sublist As/\aD K Hs H fl ((kX kvs k d).map (·.2)) ws Bs/\putK ((kvs.map (·.1)).zip vs) k v=((kX kvs k d).map (·.1)).zip ws:=by
 have hl:=q.length
 rw[cE] at hl
 unfold putK kX
 rw[E_ hl]
 cases h:kvs.any fun kv=>decide (kv.1=k) with
 |true =>
  simp only[if_true]
  exact yh r q
 |false =>
  simp only[gu,if_false]
  refine⟨vs++[v],As++([]++[]),by simp,?_,?_⟩
  ·rw[y6]
   exact q.append (.cons r .nil)
  ·rw[y6,List.zip_append (by rw[cE];exact hl)]
   rfl
theorem yP{Hs H:Hp}{fl:Bool}{k:κ}{d:D}{v:V}(r:Rep K Hs d v)(hd:d.flat=true){kvs:List (κ × D)}{vs:List V}{As:List Addr}(q:aD K Hs H fl (kvs.map (·.2)) vs As) :
  ∃ ws Bs,Bs.Sublist As/\aD K Hs H fl ((kX kvs k d).map (·.2)) ws Bs/\putK ((kvs.map (·.1)).zip vs) k v=((kX kvs k d).map (·.1)).zip ws:=zj (.sh (fun _=>hd) r) q
theorem jO{β:Type}(kvs:List (κ × β))(k:κ)(v:β):(kX kvs k v).length<=kvs.length+1:=by
 unfold kX
 split
 ·rw[cE];exact Sd _ _
 ·simp
theorem nZ{β:Type}{kvs:List (κ × β)}{k:κ}{v:β}{p:κ × β}(h:p∈kX kvs k v):p.1=k\/p.1∈kvs.map (·.1):=by
 unfold kX at h
 split at h
 ·obtain⟨q,hq,e⟩:=df.mp h
  by_cases hk:q.1=k
  ·rw[if_pos hk] at e;subst e;exact .inl hk
  ·rw[if_neg hk] at e;subst e;exact .inr (df.mpr ⟨q,hq,rfl⟩)
 ·rcases dP.mp h with h|h
  ·exact .inr (df.mpr ⟨p,h,rfl⟩)
  ·have:p=(k,v):=by simpa using h
   subst this;exact .inl rfl
end
def rJ(p:WP)(tk tv:WE):WS:=fun E ρ=>tv ρ fun _ x=>p ρ fun fl d up=>tk ρ fun _ y=>x.flat=true/\match d with
 |.dK kvs=>∃ k,y.key1=some k/\kvs.length<sizeLine/\E.nx (up fl (.dK (kX kvs k x)))
 |.dT kvs=>match y with
  |.tup ys=>∃ ks,fJ ys=some ks/\kvs.length<sizeLine/\E.nx (up fl (.dT (kX kvs ks x)))
  |_=>False
 |_=>False
theorem wM{H:Hp}{d:D}{v:V}{k:Key}(r:Rep K H d v)(h:d.key1=some k):ya k=true:=by
 cases r<;>simp[D.key1] at h<;>subst h
 ·rfl
 ·rename_i hz;simp[ya,hz]
theorem z_{H:Hp}{ds:List D}{vs:List V}{ks:List Key}(r:aI K H ds vs)(h:fJ ds=some ks):ks.length=ds.length/\∀ k∈ks,ya k=true:=by
 induction ds generalizing vs ks with
 |nil=>simp[fJ] at h;subst h;exact⟨rfl,fun k hk=>nomatch hk⟩
 |cons d ds ih =>
  obtain⟨u,us,rfl,r,rs⟩:=r.c
  unfold fJ at h
  cases e1:d.key1 with
  |none=>rw[e1] at h;simp at h
  |some k =>
   cases e2:fJ ds with
   |none=>rw[e1,e2] at h;simp at h
   |some fm =>
    rw[e1,e2] at h
    simp at h
    subst h
    obtain⟨a,b⟩:=ih rs e2
    refine⟨by simp[a],fun j hj=>?_⟩
    rcases dc.mp hj with rfl|hj
    ·exact wM r e1
    ·exact b j hj
theorem ph{a b c:Expr}{tk tv:WE}{pos':Pos}(hu:X.A.units+64<cLine)(ho:QP X K a p)(hi:QE X K b tk)(hv:QE X K c tv)(hs:swapsWith c (some (.Subscript a b pos')) pos.line X.env=pure false:=by rfl) :
  QS X K L (.Assign [.Subscript a b pos'] c pos) (rJ p tk tv):=by
 refine PS.imp (cu' (by lia) ho hi hv hs) fun D σ H hx=>fG hx fun Hs ρ ah E sr h k1 k2 k3 k4=>?_
 refine⟨Hs,ρ,ah,_,sr,h,fun v H1 aT m1 x As1 g1 r1 f1 q1=>⟨aT,ρ,ah,_,sr.grow g1,q1,fun u H2 aw fl d up g2 p2 q2=>⟨aw,ρ,ah,_,(sr.grow g1).grow g2,q2,fun y H3 fR m3 yd IY g3 r3 f3 q3=>?_⟩⟩⟩
 obtain⟨hx,q3⟩:=q3
 have rx:Rep K fR x v:=((r1.grow g2).grow g3).flat g3.wf hx
 have ry:=r3.rep g3.wf
 obtain⟨fN,r,ne,nd,own,k⟩:=p2.ex
 have sm:aS Hs fR:=(g1.sh.trans g2.sh).trans g3.sh
 have lv:∀ x∈fN,aw x=none/\H2 x≠none:=fun x hx=>⟨own x hx,(r.own x hx).ne⟩
 cases r with
 |sh hf _=>exact absurd rfl ne
 |@dK a0 vs kvs A kk e rs =>
  obtain⟨key,hk,hz,q⟩:=q3
  have ey:=ry.key hk
  subst ey
  obtain⟨na,nA⟩:=kA.mp nd
  obtain⟨ws,Bs,sb,om,ew⟩:=yP (k:=key) rx hx (rs.grow g3.sh g3.all)
  have hl:kvs.length=vs.length:=by have:=rs.length;rwa[cE] at this
  refine⟨a0,_,rfl,DM.k (g3.all _ _ e) (by rw[PJ,cE,<- hl,PR];exact hz),?_⟩
  rw[ew]
  have nB:a0∉Bs:=fun z=>na (sb.subset z)
  obtain⟨cx,g0⟩:=k.node (fl2:=fl) (d2:=.dK (kX kvs key x)) g3 lv (fun _ z=>by cases z) id (.dK ⟨iS (jO _ _ _) hz,fun p hp=>(nZ hp).elim (fun z=>by rw[z];exact wM ry hk) fun z=>by obtain⟨p',js,e'⟩:=df.mp z;rw[<- e'];exact kk.2 p' js⟩ kK (om.fv (aS.refl _) fun b hb=>fE fun z=>nB (by subst z;exact hb)))
   (sb.nodup nA) nB fun b hb=>.inl (sb.subset hb)
  exact k1 σ _ fR _ cx sm g0 q
 |@dT a0 vs kvs A kk e rs =>
  cases ry with
  |tup t1 e1 JA =>
   obtain⟨key,hk,hz,q⟩:=q3
   obtain⟨b,eb,e5⟩:=Rep.nr (.tup t1 e1 JA) hk
   cases eb
   obtain⟨kl,ko⟩:=z_ JA hk
   obtain⟨na,nA⟩:=kA.mp nd
   obtain⟨ws,Bs,sb,om,ew⟩:=yP (k:=key) rx hx (rs.grow g3.sh g3.all)
   have hl:kvs.length=vs.length:=by have:=rs.length;rwa[cE] at this
   refine⟨a0,_,rfl,DM.t (g3.all _ _ e) e5 (by rw[PJ,cE,<- hl,PR];exact hz),?_⟩
   rw[ew]
   have nB:a0∉Bs:=fun z=>na (sb.subset z)
   have l1:=JA.length
   obtain⟨cx,g0⟩:=k.node (fl2:=fl) (d2:=.dT (kX kvs key x)) g3 lv (fun _ z=>by cases z) id (.dT ⟨iS (jO _ _ _) hz,fun p hp=>(nZ hp).elim (fun z=>by rw[z];exact⟨by lia,ko⟩) fun z=>by obtain⟨p',js,e'⟩:=df.mp z;rw[<- e'];exact kk.2 p' js⟩ kK (om.fv (aS.refl _) fun b hb=>fE fun z=>nB (by subst z;exact hb)))
    (sb.nodup nA) nB fun b hb=>.inl (sb.subset hb)
   exact k1 σ _ fR _ cx sm g0 q
  |_=>exact q3.elim
 |_=>exact q3.elim
end
abbrev WJ:=Env->Str->(Str->Prop)->Prop
section
variable {X:Cx}{K:PySem.W.Frag}{e:Expr}{te:WE}{j:WJ}
def jC:List D->Option (List Str)
 |[]=>some []
 |.str x :: xs=>(jC xs).map (x :: ·)
 |_ :: _=>none
def lK(to te:WE):WE:=fun ρ Q=>to ρ fun _ x=>match x with
 |.str z=>te ρ fun _ y=>match y with
  |.list ys=>∃ zs,jC ys=some zs/\(zs.map (·.length)).sum+zs.length*z.length<=16777216/\Q .sh (.str (Str.join z zs))
  |_=>False
 |_=>False
theorem Am(r:aI K H ds vs)(q:Vals vs us)(h:jC ds=some zs):StrsAre us zs:=by
 induction ds generalizing vs us zs with
 |nil =>
  simp[jC] at h
  subst h
  have:=r.n0
  subst this
  rw[Paired.n0 q];exact .nil
 |cons d ds ih =>
  obtain⟨v,vs,rfl,r1,rs⟩:=r.c
  obtain⟨u,us,rfl,q1,qs⟩:=Paired.c q
  cases r1 with
  |str hz =>
   simp only[jC] at h
   cases e:jC ds with
   |none=>rw[e] at h;cases h
   |some ys =>
    rw[e] at h
    cases h
    obtain⟨t,rfl⟩:=q1
    exact .cons _ t (ih rs qs e)
  |_=>simp[jC] at h
theorem Dj (hK:X.K=K:=by rfl):Qs X "str.join" (fun x xs H Q=>∃ z a ds vs zs,x=.str z/\xs=[.ref a]/\eJ K H a vs/\aI K H ds vs/\jC ds=some zs/\(zs.map (·.length)).sum+zs.length*z.length<=16777216/\Q (.str (Str.join z zs)) H):=by
 subst hK
 intro pins s σ H x xs v us Q I rx rs h
 obtain⟨z,a,ds,vs,zs,rfl,rfl,hs,rr,e,hz,q⟩:=h
 obtain⟨t,rfl⟩:=rx
 obtain⟨u,rfl,ru⟩:=Vals.one rs
 cases ru
 obtain⟨its,rv,pl,_⟩:=I.list hs
 exact join_list pl.isList (by simpa using Am rr rv e) hz fun t' k=>⟨.str _,H,I.tok _,⟨t',rfl⟩,by rw[show Txt.join z zs=Str.join z zs from StrLaws.glued_eq_join z zs];exact q⟩
theorem uF:∀ {zs:List Str},(Str.join z zs).length<=(zs.map (·.length)).sum+zs.length*z.length
 |[]=>by show Str.empty.length<=_;exact iS (show Str.empty.length<=0 by decide) (eI _)
 |[x]=>by simp[Str.join]
 |x :: y :: r=>by
  have ih:=uF (z:=z) (zs:=y :: r)
  show(x++z++Str.join z (y :: r)).length<=_
  rw[dJ,dJ]
  simp only[ft,List.sum_cons,sD,Nat.add_mul,Nat.one_mul] at ih ⊢
  lia
theorem tX(ho:QE X K o to)(he:QE X K e te)(hK:X.K=K:=by rfl)
  (xE:attributeBase o "join" X.env (eval o X.env)=eval o X.env:=by rfl)
  (uk:((backTo dy (starEach [e] X.env)).all (fun x=>!x.1) && (backToKw dy (keywordEach [] X.env)).all (fun x=>x.1.isSome)
   && decide ([e].length+([]:List Keyword).length+(if ([]:List Keyword).isEmpty then 0 else 1)<30))=true:=by rfl)
  (hline:(apos.endLine == dy.line)=true:=by rfl) (tq:starEach (e :: []) X.env=(false,eval e X.env) :: starEach [] X.env:=by rfl) (xI:(backTo dy (starEach [] X.env)).any (·.1)=false:=by rfl) :
  QE X K (.Call (.Attribute o "join" apos) [e] [] dy) (lK to te):=by
 subst hK
 refine PE.imp (Ic PySem.F.plainAttrs_str PySem.F.slot_str_join PySem.F.type_str_join Dj ho (pd he sN tq) xE uk hline tq xI) fun σ H Qv hx=>kF hx fun Hs ρ ah Q sr h f=>?_
 refine⟨Hs,ρ,ah,_,sr,h,fun v H1 aT m x As g1 r1 f1 q1=>?_⟩
 have r:=r1.rep g1.wf
 cases r with
 |str hz =>
  refine⟨rfl,aT,ρ,ah,_,sr.grow g1,q1,fun y H2 aw m2 x2 gi g2 r2 f2 q2=>?_⟩
  have rr:=r2.rep g2.wf
  cases rr with
  |list z s rs =>
   obtain⟨zs,e,hz,q⟩:=q2
   exact⟨_,_,_,_,zs,rfl,rfl,s,rs,e,hz,Fin.sh (Fin.after f (g1.trans g2)) g2.wf (.str (iS uF (by rw[sizeLine_eq];exact hz))) q⟩
  |_=>exact q2.elim
 |_=>exact q1.elim
def nr(k:List Key):D:=.tup (k.map oy)
def Hv:W1:=fun _ x Q=>match x with
 |.list xs=>∃ ks sh,xs=ks.map nr/\(∀ k∈ks,eB k=true :: sh)/\∀ ms:List (List Key),ms.Perm ks->(ms.Pairwise fun a b=>dz b a=false)->Q (.ow true) (.list (ms.map nr))
 |_=>False
theorem rY{H:Hp}{ks:List Key}{vs:List V}(r:aI K H (ks.map oy) vs):vs=ks.map kV/\∀ k∈ks,ya k=true:=by
 induction ks generalizing vs with
 |nil=>exact⟨r.n0,fun k h=>nomatch h⟩
 |cons k ks ih =>
  obtain⟨u,us,rfl,r1,rs⟩:=aI.c (d:=oy k) r
  obtain⟨e,o⟩:=ih rs
  subst e
  cases k with
  |inl i=>cases r1;exact⟨rfl,fun j hj=>by rcases dc.mp hj with rfl|hj;rfl;exact o j hj⟩
  |inr x =>
   cases r1 with
   |str hz=>exact⟨rfl,fun j hj=>by rcases dc.mp hj with rfl|hj;simp[ya,hz];exact o j hj⟩
theorem Fl{H:Hp}{ks:List (List Key)}{vs:List V}(r:aI K H (ks.map nr) vs):cR H vs ks/\∀ k∈ks,k.length<=sizeLine/\∀ j∈k,ya j=true:=by
 induction ks generalizing vs with
 |nil=>rw[r.n0];exact⟨.nil,fun k h=>nomatch h⟩
 |cons k ks ih =>
  obtain⟨u,us,rfl,r1,rs⟩:=aI.c (d:=nr k) r
  obtain⟨t,o⟩:=ih rs
  cases r1 with
  |tup hz e q =>
   obtain⟨e2,o2⟩:=rY q
   subst e2
   exact⟨.cons ⟨_,rfl,e⟩ t,fun j hj=>by
    rcases dc.mp hj with rfl|hj
    ·exact⟨by simpa using hz,o2⟩
    ·exact o j hj⟩
theorem iB:bootBuiltins "sorted" = some (.builtin "sorted"):=by decide +kernel
end
def shF(A:List Addr)(F:Nat->List Addr):Nat->List Addr
 |0=>A
 |i+1=>F i
abbrev Plan:=List (WE ⊕ Nat)
def ek':Option (Option Sl)->Option (Md × D)
 |some (some (.sh d))=>some (.sh,d)
 |some (some (.ow fl d))=>some (.ow fl,d)
 |_=>none
def Yo:gE:=fun ds Q=>∃ ns:List Int,ds=[.list (ns.map .int)]/\ns.length<=63/\∀ m,Q m (.bl true)
theorem ints_rep{K:PySem.W.Frag}:∀ (ns:List Int),aI K H (ns.map .int) (ns.map V.int)
 |[]=>.nil
 |n :: ns=>.cons (.int n) (ints_rep ns)
theorem Az{K:PySem.W.Frag}{H:Hp}{a:Addr}{ns:List Int}{E:XK}(hl:ns.length<=63)(hS:eJ K H a (ns.map V.int)):aA K Yo [.ref a] H (fun v _=>v=.bl true) E:=by
 refine⟨[.list (ns.map .int)],fun _ d=>d=.bl true,.cons (.list (by rw[cE];exact iS hl (by decide)) hS (ints_rep ns)) .nil,⟨ns,rfl,hl,fun _=>rfl⟩,?_⟩
 intro v H' av m d As s w r nd own q
 subst q
 have:=r.rep w
 cases this
 rfl
abbrev sg(x:Str):List Nat:=x.cps.toList
theorem tM(x y:Str):sg (x++y)=sg x++sg y:=by
 show(x.cps++y.cps).toList=_
 simp[sg]
theorem empty_app(x:Str):Str.empty++x=x:=xN (by rw[<- sg,tM];rfl)
def Yp(x:Str):Prop:=∀ c∈sg x,c<0x110000
theorem Dq(x:Str):PyData.strOk x=true↔Yp x:=by
 unfold PyData.strOk Yp sg
 rw[Array.all_eq_true']
 simp
theorem el'(x:α)(l:List α):eM (x :: l) 0=some x:=by simp[L2.eM,lP]
theorem em'(x y:α)(l:List α):eM (x :: y :: l) 1=some y:=by
 have:=EJ (xs:=x :: y :: l) (j:=1) (v:=y) rfl
 exact this
theorem en'(x y z:α)(l:List α):eM (x :: y :: z :: l) 2=some z:=by
 have:=EJ (xs:=x :: y :: z :: l) (j:=2) (v:=z) rfl
 exact this
theorem Ik:Str.empty.length=0:=by decide
end L2.Q
namespace L2.Q.R
open PySem PySem.Spec PyProof.Rows L2.Q
section
variable {f:D->Prop}{k:Kt f}
theorem Lx:bI .non k=f .non:=rfl
theorem OD:bI (.bl b) k=f (.bl b):=rfl
theorem Mw:bI (.int i) k=f (.int i):=rfl
theorem KZ:bI (.str x) k=f (.str x):=rfl
theorem JF:bI (.list xs) k=f (.list xs):=rfl
theorem Lj:bI (.tup xs) k=f (.tup xs):=rfl
theorem Oi:bI (.dK xs) k=f (.dK xs):=rfl
theorem Om:bI (.dT xs) k=f (.dT xs):=rfl
end
theorem JQ{f:Bool->Prop}{k:Kt f}:bI true k=f true:=rfl
theorem Iw{f:Bool->Prop}{k:Kt f}:bI false k=f false:=rfl
theorem Lh{d:D}{f:Md × D->Prop}{k:Kt f}:bI (Md.sh,d) k=f (.sh,d):=rfl
theorem Ku{b:Bool}{d:D}{f:Md × D->Prop}{k:Kt f}:bI (Md.ow b,d) k=f (.ow b,d):=rfl
theorem La{d:D}{f:Md × D->Prop}{k:Kt f}:bI (Md.bo,d) k=f (.bo,d):=rfl
theorem Kf{d:D}{f:Option Sl->Prop}{k:Kt f}:bI (some (.sh d)) k=f (some (.sh d)):=rfl
theorem Lb{b:Bool}{d:D}{f:Option Sl->Prop}{k:Kt f}:bI (some (.ow b d)) k=f (some (.ow b d)):=rfl
theorem Lf{p:Md × D}{f:Option (Md × D)->Prop}{k:Kt f}:bI (some p) k=f (some p):=rfl
theorem Oz{p:Bool}{f:Option Bool->Prop}{k:Kt f}:bI (some p) k=f (some p):=rfl
theorem Mu{d:D}{f:Option (Option Sl)->Prop}{k:Kt f}:bI (some (some (.sh d))) k=f (some (some (.sh d))):=rfl
theorem Lw{b:Bool}{d:D}{f:Option (Option Sl)->Prop}{k:Kt f}:bI (some (some (.ow b d))) k=f (some (some (.ow b d))):=rfl
section
variable {E:lC}{ρ:Env}{Q:Md->D->Prop}{B:Bool->Prop}{t u:WS}{te ta tb tc OG:WE}{tt tu:WT}{tar:WA}{i j n:Nat}{m m':Md}{d d':D}{sp:gE}{p:WP}{R:List (Md × D)->Prop}
theorem Lz:cT E ρ=E.nx ρ:=rfl
theorem Ob:b4 t u E ρ=t { E with nx:=u E } ρ:=rfl
theorem M7:iq te E ρ=te ρ E.rt:=rfl
def put(sl:Option Sl)(k:Sl->Prop):Prop:=match sl with
 |some s=>k s
 |none=>False
theorem K9:put (some (.sh d)) k=k (.sh d):=rfl
theorem Ly:put (some (.ow b d)) k=k (.ow b d):=rfl
theorem Oh:dE i te E ρ=te ρ fun m d=>bI (asg m d) (f:=fun o=>put o fun sl=>E.nx (ρ.set i (some sl))) ⟨⟩:=rfl
theorem Oj:ki tt t u E ρ=tt ρ fun b=>bI b (f:=fun b=>if b=true then t E ρ else u E ρ) ⟨⟩:=rfl
theorem Li:rO i E ρ=bI ρ[i]? (f:=fun o=>match o with
 |some (some (.sh d))=>E.rt .sh d
 |some (some (.ow fl d))=>E.rt (.ow fl) d
 |_=>False) ⟨⟩:=rfl
def mov(o:Option (Md × D))(k:Md × D->Prop):Prop:=match o with
 |some p=>k p
 |none=>False
theorem IK{p:Md × D}{k:Md × D->Prop}:mov (some p) k=k p:=rfl
theorem Nu:fS i t E ρ=t E (N4 i ρ):=rfl
-- tests
def bol(d:D)(B:Bool->Prop):Prop:=match d with
 |.bl b=>B b
 |_=>False
theorem LR:bol (.bl b) B=B b:=rfl
theorem wB_:wB te ρ B=te ρ fun _ x=>bI x (f:=fun x=>bol x B) ⟨⟩:=rfl
theorem N7:rj tt ρ B=tt ρ fun c=>B (!c):=rfl
theorem Nr:Q7 tt tu ρ B=tt ρ fun c=>bI c (f:=fun c=>if c=true then tu ρ B else B false) ⟨⟩:=rfl
theorem er':D2 tt tu ρ B=tt ρ fun c=>bI c (f:=fun c=>if c=true then B true else tu ρ B) ⟨⟩:=rfl
theorem Ng:tj ρ B=B true:=rfl
-- expressions
theorem Mx:ae i ρ Q=bI ρ[i]? (f:=fun o=>NJ o Q) ⟨⟩:=rfl
theorem Jo:NJ (some (some (.sh d))) Q=Q .sh d:=rfl
theorem Ju:NJ (some (some (.ow b d))) Q=Q .bo d:=rfl
theorem wC_:wC d ρ Q=Q .sh d:=rfl
theorem eu':ax f ta tb ρ Q=ta ρ fun m x=>tb ρ fun n y=>f m x n y Q:=rfl
theorem ev':hX f ta ρ Q=ta ρ fun m x=>f m x Q:=rfl
theorem JL:m7 f g ta tb tc ρ Q=ta ρ fun m x=>tb ρ fun n y=>f m x n y fun _ z=>bI z (f:=fun z=>bol z fun k=>bI k (f:=fun k=>if k=true then tc ρ fun l w=>g n y l w Q else Q .sh (.bl false)) ⟨⟩) ⟨⟩:=by
 unfold m7 bI bol
 rfl
theorem Ms:ak te tar ρ R=te ρ fun m x=>tar ρ fun ps=>R ((m,x) :: ps):=rfl
theorem Nh:b6 ρ R=R []:=rfl
theorem NB:nv tar ρ Q=tar ρ fun ps=>ps.length<=sizeLine/\Q (Dy ps) (.tup (ps.map (·.2))):=rfl
theorem Ot:tf tar ρ Q=tar ρ fun ps=>ps.length<=sizeLine/\Q (Gk ps) (.list (ps.map (·.2))):=rfl
theorem Mr:aZ sp tar ρ Q=tar ρ fun ps=>sp (ps.map (·.2)) fun m d=>bI (m,d) (f:=fun p=>Q (xa p.1 p.2) p.2) ⟨⟩:=rfl
-- operators
section
variable {x y:Str}{a b:Int}{xs ys:List D}{kvs:List (Key × D)}{B5:List (List Key × D)}
theorem Jx:fo m (.int a) m' (.int b) Q=Q .sh (.int (a+b)):=rfl
theorem JR:fo m (.str x) m' (.str y) Q=(x.length+y.length<=sizeLine/\Q .sh (.str (x++y))):=rfl
theorem J9:fo m (.list xs) m' (.list ys) Q=(xs.length+ys.length<=sizeLine/\((cf xs=true/\cf ys=true/\Q (.ow true) (.list (xs++ys)))\/(m=.sh/\m'=.sh/\Q (.ow false) (.list (xs++ys))))):=rfl
theorem Jk:fo m (.tup xs) m' (.tup ys) Q=(xs≠[]/\xs.length+ys.length<=sizeLine/\cf xs=true/\cf ys=true/\Q .sh (.tup (xs++ys))):=rfl
theorem J0:Q8 m (.int a) m' (.int b) Q=Q .sh (.int (a-b)):=rfl
theorem Js:ov m (.int a) m' (.int b) Q=(zC a b/\Q .sh (.int (a*b))):=rfl
theorem JZ:B1 m (.int a) m' (.int b) Q=((0<b/\b<1073741824)/\Q .sh (.int (a / b))):=rfl
theorem J_:vt m (.int a) m' (.int b) Q=(0<b/\Q .sh (.int (a % b))):=rfl
theorem JK:Q9 m (.int a) m' (.int b) Q=(HV a b/\Q .sh (.int (a ^ b.toNat))):=rfl
theorem Ml:Jn m (.int a) m' (.int b) Q=Q .sh (.bl (decide (a<b))):=rfl
theorem K6:Jn m (.str x) m' (.str y) Q=Q .sh (.bl (px x y)):=rfl
theorem KN:NM m (.int a) m' (.int b) Q=Q .sh (.bl (decide (a<=b))):=rfl
theorem Mi:NM m (.str x) m' (.str y) Q=Q .sh (.bl (!px y x)):=rfl
theorem Kq:Uk m (.int a) m' (.int b) Q=Q .sh (.bl (decide (b<a))):=rfl
theorem Kz:kL m (.int a) m' (.int b) Q=Q .sh (.bl (decide (a=b))):=rfl
theorem Kr:kL m (.str x) m' (.str y) Q=Q .sh (.bl (decide (x=y))):=rfl
theorem Kh:kL m (.bl k) m' (.bl l) Q=Q .sh (.bl (decide (k=l))):=rfl
theorem Ov:kL m (.list xs) m' d Q=(b9 12 (.list xs)=true/\b9 12 d=true/\Q .sh (.bl (fF (.list xs) d))):=by cases d<;>rfl
theorem Oe:kL m (.tup xs) m' d Q=(b9 12 (.tup xs)=true/\b9 12 d=true/\Q .sh (.bl (fF (.tup xs) d))):=by cases d<;>rfl
theorem Nt:kL m .non m' d Q=(b9 12 .non=true/\b9 12 d=true/\Q .sh (.bl (fF .non d))):=by cases d<;>rfl
theorem Ls:AF m (.int a) m' (.int b) Q=Q .sh (.bl (!decide (a=b))):=rfl
theorem Mt:AF m (.str x) m' (.str y) Q=Q .sh (.bl (!decide (x=y))):=rfl
theorem NP:AF m (.list xs) m' d Q=(b9 12 (.list xs)=true/\b9 12 d=true/\Q .sh (.bl (!fF (.list xs) d))):=by cases d<;>rfl
theorem Nj:AF m (.tup xs) m' d Q=(b9 12 (.tup xs)=true/\b9 12 d=true/\Q .sh (.bl (!fF (.tup xs) d))):=by cases d<;>rfl
theorem N5:AF m .non m' d Q=(b9 12 .non=true/\b9 12 d=true/\Q .sh (.bl (!fF .non d))):=by cases d<;>rfl
theorem Mj:Ab m d m' .non Q=Q .sh (.bl (!d.Q_)):=rfl
theorem M8:B3 neg m (.str x) m' (.str y) Q=Q .sh (.bl (if neg then !IE x y else IE x y)):=rfl
theorem MN:B3 neg m d m' (.list ys) Q=(gq d=true/\ys.all gq=true/\Q .sh (.bl (if neg then !inD d ys else inD d ys))):=rfl
theorem Ny:B3 neg m d m' (.tup ys) Q=(gq d=true/\ys.all gq=true/\Q .sh (.bl (if neg then !inD d ys else inD d ys))):=rfl
theorem Ou:B3 neg m d m' (.dK kvs) Q = ∃ k,d.key1=some k/\Q .sh (.bl (if neg then !(kg kvs k).isSome else (kg kvs k).isSome)):=rfl
theorem Oo:B3 neg m (.tup xs) m' (.dT B5) Q = ∃ ks,fJ xs=some ks/\Q .sh (.bl (if neg then !(kg B5 ks).isSome else (kg B5 ks).isSome)):=rfl
theorem Nx:JJ m (.int a) Q=Q .sh (.int (-a)):=rfl
theorem Nb:eL m (.list xs) m' (.int a) Q = ∃ d,eM xs a=some d/\bI d (f:=fun d=>Q (mn m d) d) ⟨⟩:=rfl
theorem MP:eL m (.tup xs) m' (.int a) Q = ∃ d,eM xs a=some d/\bI d (f:=fun d=>Q (mn m d) d) ⟨⟩:=rfl
theorem Ol:eL m (.str x) m' (.int a) Q = ∃ c,eM x.cps.toList a=some c/\Q .sh (.str ⟨#[c]⟩):=rfl
theorem Nq:eL m (.dK kvs) m' d Q = ∃ k d',d.key1=some k/\kg kvs k=some d'/\bI d' (f:=fun d'=>Q (mn m d') d') ⟨⟩:=rfl
theorem N6:eL m (.dT B5) m' (.tup ys) Q = ∃ ks d',fJ ys=some ks/\kg B5 ks=some d'/\bI d' (f:=fun d'=>Q (mn m d') d') ⟨⟩:=rfl
theorem L_:w_ m (.str x) Q=Q .sh (.int x.length):=rfl
theorem K3:w_ m (.list xs) Q=Q .sh (.int xs.length):=rfl
theorem Kw:w_ m (.tup xs) Q=Q .sh (.int xs.length):=rfl
theorem Mq:w_ m (.dK kvs) Q=Q .sh (.int kvs.length):=rfl
theorem K7:w_ m (.dT B5) Q=Q .sh (.int B5.length):=rfl
theorem N8{T:String}:Kb T m d Q=Q .sh (.bl (IC d.ty T)):=rfl
theorem J5:rN m (.list xs) Q=((cf xs=true/\Q (.ow true) (.list xs))\/(m=.sh/\Q (.ow false) (.list xs))):=rfl
theorem J4:rN m (.tup xs) Q=((cf xs=true/\Q (.ow true) (.list xs))\/(m=.sh/\Q (.ow false) (.list xs))):=rfl
theorem J7:rN m (.dT B5) Q=Q (.ow true) (.list (B5.map fun kv=>.tup (kv.1.map oy))):=rfl
theorem ew':Um te tl th ρ Q=te ρ fun m x=>tl ρ fun lo=>th ρ fun hi=>NR m x lo hi Q:=rfl
def int'(d:D)(k:Int->Prop):Prop:=match d with
 |.int i=>k i
 |_=>False
theorem Ln:int' (.int a) k=k a:=rfl
theorem K8:wg te ρ O=te ρ fun _ x=>bI x (f:=fun x=>int' x fun i=>O (some i)) ⟨⟩:=by unfold wg bI int';rfl
theorem NZ{lo hi:Option Int}:NR m (.str x) lo hi Q=Q .sh (.str (xS x lo hi)):=rfl
theorem M9{lo hi:Option Int}:NR m (.list xs) lo hi Q=((cf xs=true/\Q (.ow true) (.list (ox xs lo hi)))\/(m=.sh/\Q (.ow false) (.list (ox xs lo hi)))):=rfl
theorem Og{lo hi:Option Int}:NR m (.tup xs) lo hi Q=(cf xs=true/\¬ (HT.bE xs.length 0 lo=0/\HT.bE xs.length xs.length hi=xs.length)/\Q .sh (.tup (ox xs lo hi))):=rfl
end
-- texts
def Ut(d:D)(k:Str->Prop):Prop:=match d with
 |.str x=>k x
 |_=>False
theorem K_:Ut (.str x) k=k x:=rfl
def vw(d:D)(k:List D->Prop):Prop:=match d with
 |.list x=>k x
 |_=>False
theorem Je:vw (.list x) k=k x:=rfl
theorem JP:lK OG te ρ Q=OG ρ fun _ x=>bI x (f:=fun x=>Ut x fun z=>te ρ fun _ y=>bI y (f:=fun y=>vw y fun ys=>∃ zs,jC ys=some zs/\(zs.map (·.length)).sum+zs.length*z.length<=16777216/\Q .sh (.str (Str.join z zs))) ⟨⟩) ⟨⟩:=by unfold lK bI Ut vw;rfl
-- places
theorem ex'{P:Bool->D->(Bool->D->Env)->Prop}:rp i ρ P=bI ρ[i]? (f:=fun o=>match o with
 |some (some (.ow fl d))=>P fl d fun fl2 d2=>ρ.set i (some (.ow fl2 d2))
 |_=>False) ⟨⟩:=rfl
def Uu(o:Option Bool)(k:Bool->Prop):Prop:=match o with
 |some b=>k b
 |none=>False
theorem Iu:Uu (some b) k=k b:=rfl
theorem Oa:B4 p te E ρ=p ρ fun fl d up=>bI d (f:=fun d=>vw d fun xs=>te ρ fun m x=>xs.length<sizeLine/\bI (mU fl m x) (f:=fun o=>Uu o fun fl2=>E.nx (up fl2 (.list (xs++[x])))) ⟨⟩) ⟨⟩:=by unfold B4 bI vw Uu;rfl
theorem Jb:qe ρ Q=Q (.ow true) (.dT []):=rfl
def dct(d y:D)(k1:List (Key × D)->Prop)(k2:List (List Key × D)->List D->Prop):Prop:=match d with
 |.dK kvs=>k1 kvs
 |.dT kvs=>match y with
  |.tup ys=>k2 kvs ys
  |_=>False
 |_=>False
theorem Nz:dct (.dK kvs) y k1 k2=k1 kvs:=rfl
theorem MK:dct (.dT kvs) (.tup ys) k1 k2=k2 kvs ys:=rfl
theorem Ko:rJ p tk tv E ρ=tv ρ fun _ x=>p ρ fun fl d up=>tk ρ fun _ y=>x.flat=true/\bI d (f:=fun d=>dct d y (fun kvs=>∃ k,y.key1=some k/\kvs.length<sizeLine/\E.nx (up fl (.dK (kX kvs k x)))) (fun kvs ys=>∃ ks,fJ ys=some ks/\kvs.length<sizeLine/\E.nx (up fl (.dT (kX kvs ks x))))) ⟨⟩:=by
 unfold rJ bI dct
 rfl
-- loops
variable {LQ:List D->Prop}
theorem Ni:mr wi g b E ρ=wi ρ fun ds=>qj g b E ds ρ:=rfl
theorem Jj:dN te ρ LQ=te ρ fun m d=>lY m/\bI d (f:=fun d=>vw d LQ) ⟨⟩:=by unfold dN bI vw;rfl
def OJ(d:D)(k:List D->Prop):Prop:=match d with
 |.tup x=>k x
 |_=>False
theorem KH:OJ (.tup x) k=k x:=rfl
theorem LK:y_ te ρ LQ=te ρ fun m d=>lY m/\bI d (f:=fun d=>OJ d LQ) ⟨⟩:=by unfold y_ bI OJ;rfl
theorem JN:bY te ρ LQ=te ρ fun _ d=>bI d (f:=fun d=>int' d fun j=>j<=16777216/\-(2 ^ 62)<=j/\LQ (mj 0 j.toNat)) ⟨⟩:=by unfold bY bI int';rfl
theorem Iz:lY .sh=True:=rfl
theorem I_:lY (.ow b)=True:=rfl
theorem IW:lY .bo=False:=rfl
theorem gN_:gN i d ρ N=N (ρ.set i (some (.sh d))):=rfl
theorem gT_:gT n gs d ρ N=bI d (f:=fun d=>OJ d fun ds=>ds.length=n/\gs ds ρ N) ⟨⟩:=by unfold gT bI OJ;rfl
theorem Lq:bV g gs (d :: ds) ρ N=g d ρ fun bq=>gs ds bq N:=rfl
theorem NQ:jz [] ρ N=N ρ:=by simp[jz]
theorem KD:eN wi g tt te tn ix ρ Q=wi ρ fun ds=>iH g tt te ds (CW tn ix ρ) fun out=>Q (.ow true) (.list out):=rfl
end
theorem B{c:Bool}{f:Bool->Prop}{k:Kt f}(h1:c=true->f true)(h2:c=false->f false):bI c k:=by
 cases c with
 |true=>exact h1 rfl
 |false=>exact h2 rfl
theorem D{p:Prop}[Decidable p]{f:Bool->Prop}{k:Kt f}(h1:p->f true)(h2:¬ p->f false):bI (decide p) k :=
 B (fun h=>h1 (of_decide_eq_true h)) fun h=>h2 (of_decide_eq_false h)
theorem T{c:Bool}{f:Bool->Prop}{k:Kt f}(h:c=true)(h1:f true):bI c k:=by subst h;exact h1
theorem F{c:Bool}{f:Bool->Prop}{k:Kt f}(h:c=false)(h1:f false):bI c k:=by subst h;exact h1
end L2.Q.R
namespace L2
open PySem PySem.Spec PyProof.Rows
end L2
namespace L2.Q
open PySem PySem.Spec PyProof.Rows
section
variable {K:PySem.W.Frag}{p:Pos}
def Mf:W1:=fun _ x Q=>match x with
 |.list xs=>∃ ks b,xs=ks.map oy/\(∀ k∈ks,w9 k=b)/\∀ ms:List Key,ms.Perm ks->(ms.Pairwise fun a b=>pS b a=false)->Q (.ow true) (.list (ms.map oy))
 |.dK kvs=>∃ b,(∀ p∈kvs,w9 p.1=b)/\∀ ms:List Key,ms.Perm (kvs.map (·.1))->(ms.Pairwise fun a b=>pS b a=false)->Q (.ow true) (.list (ms.map oy))
 |_=>False
section
variable {Hs H:Hp}{fl:Bool}
theorem aD.erase(k:Nat)(r:aD K Hs H fl ds vs As):∃ Bs,Bs.Sublist As/\aD K Hs H fl (ds.eraseIdx k) (vs.eraseIdx k) Bs:=by
 induction ds generalizing vs As k with
 |nil =>
  obtain⟨rfl,rfl⟩:=r.n0
  exact⟨[],List.Sublist.refl _,.nil⟩
 |cons d ds ih =>
  obtain⟨u,us,A,B,rfl,rfl,r,rs⟩:=r.c
  cases k with
  |zero=>exact⟨B,oI _ _,rs⟩
  |succ k =>
   obtain⟨C,sb,q⟩:=ih k rs
   exact⟨A++C,sb.append_left _,.cons r q⟩
end
end
abbrev WIL:=Env->(List D->Prop)->Prop
section
variable {X:Cx}{K:PySem.W.Frag}
theorem dB(hN:X.N.Nodup)(sP:X.N[i]? = some x)(hx:Loc X.env.scope x)(hc:X.calm=true)
  (hi:Rb X K tg iter wi) (O:bL X scope tn cn ix)
  (hg:∀ C fp gd hU,QG (bu X scope C (tn++cn) fp gd hU) K tg g) (pe:∀ C fp gd hU,Rh (bu X scope C (tn++cn) fp gd hU) K ifs tc) (he:∀ C fp gd hU,QE (bu X scope C (tn++cn) fp gd hU) K elt te)
  (MX:swapsWith (.ListComp elt [⟨tg,iter,ifs,0⟩] scope pos) (some (.Name x pos')) TC.line X.env=pure true:=by rfl)
  (hs:∀ x,foldedSetIterable iter X.env x=pure x:=by intro _;rfl) (hf:X.fn x=true\/X.env.scope.names.lookup x=some .local:=by first|exact .inl rfl|exact .inr rfl|assumption) :
  QS X K L (.Assign [.Name x pos'] (.ListComp elt [⟨tg,iter,ifs,0⟩] scope pos) TC) (dE i (eN wi g tc te tn.length ix)) :=
 PS.imp (vo hN sP hx hc hi O hg pe he MX hs hf) fun D σ H hx=>fG hx fun Hs ρ ah E sr h k1 k2 k3 k4=>by
  refine pL ⟨Hs,ρ,ah,_,sr,h,fun v H1 aT m d As g1 r1 f1 q1=>?_⟩
  have q1:match asg m d with
   |some sl=>E.nx (ρ.set i (some sl))
   |none=>False:=q1
  cases e:asg m d with
  |none=>rw[e] at q1;exact q1.elim
  |some sl =>
   rw[e] at q1
   obtain⟨bP,s'⟩:=(sr.grow g1).set i r1 f1.1 (fun a ha=>⟨(f1.2 a ha).1,fun m=>(sr.sr.own a m).ne (f1.2 a ha).2⟩) e
   exact k1 _ H1 aT _ bP g1.sh s' q1
end
end L2.Q
namespace L2.Q.R
open PySem PySem.Spec PyProof.Rows L2.Q
section
variable {ρ:Env}{Q:Md->L2.Q.D->Prop}{te:WE}{i:Nat}{d:L2.Q.D}{p:WP}{a:Addr}{b:Bool}{LQ:List L2.Q.D->Prop}
theorem Kg{f:Option Sl->Prop}{k:Kt f}:bI (some (.lk a b d)) k=f (some (.lk a b d)):=rfl
theorem K4{f:Option (Option Sl)->Prop}{k:Kt f}:bI (some (some (.lk a b d))) k=f (some (some (.lk a b d))):=rfl
theorem J3:NJ (some (some (.lk a b d))) Q=Q .bo d:=rfl
def eA'(o:Option (Option Sl))(k:Bool->L2.Q.D->Prop):Prop:=match o with
 |some (some (.ow fl d))=>k fl d
 |_=>False
theorem Jp:eA' (some (some (.ow b d))) k=k b d:=rfl
theorem Kc:jo te ρ LQ=te ρ fun _ d=>bI d (f:=fun d=>vw d LQ) ⟨⟩:=by unfold jo bI vw;rfl
def wpAt(d:L2.Q.D)(i:Int)(P:Bool->L2.Q.D->(Bool->L2.Q.D->Env)->Prop)(up:Bool->L2.Q.D->Env):Prop:=match d with
 |.list ds=>∃ j d',lP ds.length i=some j/\ds[j]? = some d'/\d'.flat=false/\bI d' (f:=fun d'=>P true d' fun fl2 d2=>up fl2 (.list (ds.set j d2))) ⟨⟩
 |.tup ds=>∃ j d',lP ds.length i=some j/\ds[j]? = some d'/\d'.flat=false/\bI d' (f:=fun d'=>P true d' fun fl2 d2=>up fl2 (.tup (ds.set j d2))) ⟨⟩
 |_=>False
section
variable {P:Bool->L2.Q.D->(Bool->L2.Q.D->Env)->Prop}{up:Bool->L2.Q.D->Env}{ds:List L2.Q.D}{j:Int}
theorem Mh:wpAt (.list ds) j P up = ∃ k d',lP ds.length j=some k/\ds[k]? = some d'/\d'.flat=false/\bI d' (f:=fun d'=>P true d' fun fl2 d2=>up fl2 (.list (ds.set k d2))) ⟨⟩:=rfl
theorem Kp:wpAt (.tup ds) j P up = ∃ k d',lP ds.length j=some k/\ds[k]? = some d'/\d'.flat=false/\bI d' (f:=fun d'=>P true d' fun fl2 d2=>up fl2 (.tup (ds.set k d2))) ⟨⟩:=rfl
theorem MF:Oy p te ρ P=p ρ fun fl d up=>te ρ fun _ y=>fl=true/\bI y (f:=fun y=>int' y fun i=>bI d (f:=fun d=>wpAt d i P up) ⟨⟩) ⟨⟩:=by
 unfold Oy bI int' wpAt
 rfl
end
end
end L2.Q.R
namespace L2
open PySem PySem.Spec PyProof.Rows Builtin Builtin.Str Builtin.Int
end L2
namespace L2
open PySem PySem.Spec PyProof.Rows
end L2
namespace L2.Q
open PySem PySem.Spec PyProof.Rows
section
variable {X:Cx}{K:PySem.W.Frag}{e a b:Expr}{ta tb:WE}{p pos:Pos}{x:Str}{id:String}
theorem GD{H:Hp}{bs:List Bool}{vs:List V}(r:aI K H (bs.map D.bl) vs):vs=bs.map V.bl:=by
 induction bs generalizing vs with
 |nil=>exact r.n0
 |cons b bs ih =>
  obtain⟨u,us,rfl,r1,rs⟩:=aI.c (d:=D.bl b) r
  cases r1
  rw[ih rs];rfl
theorem Hm:bootBuiltins "min" = some (.builtin "min"):=by decide +kernel
def Eh:R2:=fun x y H Q=>match x,y with
 |.int i,.int j=>Q (.int (if j<i then j else i)) H
 |_,_=>False
def Ea:W2:=fun _ x _ y Q=>match x,y with
 |.int i,.int j=>Q .sh (.int (if j<i then j else i))
 |_,_=>False
theorem DN:jv K Eh Ea:=by
 intro Hs H m x v As n y u Bs Qd Qv w rx ry h f
 have r1:=rx.rep w
 have r2:=ry.rep w
 cases r1 with
 |int i=>cases r2 with
  |int j=>exact f.sh w (.int _) h
  |_=>exact h.elim
 |_=>cases r2<;>exact h.elim
theorem Fq(hc:i5 X (.builtin id) fun xs H Q=>∃ x y,xs=[x,y]/\r x y H Q)(br:jv K r f)(hg:Gl X x)(hm:X.mg x=none)(hv:bootBuiltins x=some (.builtin id))(ha:QE X K a ta)(hb:QE X K b tb)
  (hs:starEach [a,b] X.env=(false,eval a X.env) :: starEach [b] X.env:=by rfl) (AI:starEach [b] X.env=(false,eval b X.env) :: starEach [] X.env:=by rfl) (hn:x ≠ "__name__" := by decide) (hJ:(x == ("__debug__" : Str))=false:=by decide)
  (fA:(backTo pos (starEach [b] X.env)).any (·.1)=false:=by rfl):QE X K (.Call (.Name x p) [a,b] [] pos) (ax f ta tb):=by
 refine PE.imp (Qo hc hg hm hv (pd ha (pd hb sN AI) hs) hn hJ hs fA) fun σ H Qv h=>?_
 obtain⟨Hs,ρ,ah,Q,sr,h,fin⟩:=jV br σ H Qv h
 exact⟨Hs,ρ,ah,Q,sr,h,fun v H1 aT m x As g1 r1 f1 q1=>by
  obtain⟨aw,dQ,cx,Q2,g0,h2,fin2⟩:=fin v H1 aT m x As g1 r1 f1 q1
  exact⟨aw,dQ,cx,Q2,g0,h2,fun u H2 fR n y Bs g2 r2 f2 q2=>⟨v,u,rfl,fin2 u H2 fR n y Bs g2 r2 f2 q2⟩⟩⟩
theorem Hl (hc:X.calm=true:=by rfl):i5 X (.builtin "min") fun xs H Q=>∃ x y,xs=[x,y]/\Eh x y H Q:=fun pins s σ H xs us Q I r dk=>by
 obtain⟨x,y,e,q⟩:=dk
 subst e
 unfold Eh at q
 split at q
 ·exact bk' hc pins s σ H _ us Q I r ⟨_,_,rfl,q⟩
 ·exact q.elim
end
end L2.Q
namespace L2.Q.R
open PySem PySem.Spec PyProof.Rows L2.Q
section
variable {Q:Md->L2.Q.D->Prop}{m m':Md}{a b:Int}
theorem KQ:Ea m (.int a) m' (.int b) Q=Q .sh (.int (if b<a then b else a)):=rfl
end
end L2.Q.R
namespace L2.Q
open PySem PySem.Spec PyProof.Rows
theorem b7(O:Nat->List D->Prop)(Iv:Env->Prop):∀ (xs:List D) (i:Nat) (pre:List D) (ρ:Env) (k:List D->Prop),Iv ρ->O i pre ->
  (∀ j x,xs[j]? = some x->∀ ρ,Iv ρ->∀ out,O (i+j) out->∀ N1:Env->Prop,∀ N2:Env->D->Prop,(∀ bq d,Iv bq->O (i+j+1) (out++[d])->N2 bq d)->g x ρ fun oz=>tc oz fun b=>if b=true then te oz fun m d=>Rf m d/\N2 oz d else N1 oz) ->
  (∀ out,O (i+xs.length) (pre++out)->k out)->iH g tc te xs ρ k
 |[],i,pre,_,k,_,h0,_,h=>h [] (by simpa using h0)
 |x :: xs,i,pre,ρ,k,iv,h0,hs,h=>by
  refine hs 0 x rfl ρ iv pre h0 _ _ (fun bq d N9 o'=>?_)
  refine b7 O Iv xs (i+1) (pre++[d]) bq _ N9 o' (fun j y hy ρ iv out ho=>?_) fun out ho=>?_
  ·have:=hs (j+1) y (by simpa using hy) ρ iv out (by rwa[show i+(j+1)=i+1+j by lia])
   rwa[show i+(j+1)+1=i+1+j+1 by lia] at this
  ·refine h (d :: out) ?_
   rw[xl] at ho
   rwa[sD,show i+(xs.length+1)=i+1+xs.length by lia]
end L2.Q
namespace TS
open PySem PySem.SetTable
def fk:Nat->Nat->Nat
 |0,s=>s
 |k+1,s=>5*fk k s+1
theorem Gn(a b s:Nat):fk (a+b) s=fk b (fk a s):=by
 induction b with
 |zero=>rfl
 |succ b ih=>show 5*fk (a+b) s+1=5*fk b (fk a s)+1;rw[ih]
theorem yo(n s:Nat):4*fk n s+1=5 ^ n*(4*s+1):=by
 induction n with
 |zero=>simp[fk]
 |succ n ih =>
  show 4*(5*fk n s+1)+1=5 ^ (n+1)*(4*s+1)
  rw[y8,PX (5 ^ n) 5,GN,<- ih];lia
theorem z7(m:Nat):∃ q,5 ^ 2 ^ m=1+2 ^ (m+2)*q/\q % 2=1:=by
 induction m with
 |zero=>exact⟨1,by decide,by decide⟩
 |succ m ih =>
  obtain⟨q,e,o⟩:=ih
  refine⟨q+2 ^ (m+1)*(q*q),?_,?_⟩
  ·have hp:5 ^ 2 ^ (m+1)=(5 ^ 2 ^ m) ^ 2:=by rw[y8 2 m,Nat.pow_mul]
   rw[hp,e]
   clear e hp
   have e1:2 ^ (m+1+2)=2*2 ^ (m+2):=by rw[show m+1+2=(m+2)+1 by exact Nat.add_assoc ..,y8];lia
   have e2:2 ^ (m+2)=2*2 ^ (m+1):=by rw[show m+2=(m+1)+1 by rfl,y8];lia
   rw[e1,e2]
   generalize 2 ^ (m+1)=y
   rw[Nat.pow_two]
   simp only[Nat.mul_add,Nat.add_mul,Nat.one_mul,Nat.mul_one]
   have a1:2*y*q*(2*y*q)=2*(2*y)*(y*(q*q)):=by
    simp only[GN,Nat.mul_left_comm,PX]
   have a2:2*(2*y)*q=2*y*q+2*y*q:=by
    rw[GN 2 (2*y) q];lia
   rw[a1,a2];lia
  ·have:2 ^ (m+1)*(q*q) % 2=0:=by
    rw[y8,PX (2 ^ m) 2,GN,Nat.mul_mod_right]
   lia
theorem CZ(m x:Nat):∃ r,fk (2 ^ m) x=x+2 ^ m*r/\r % 2=1:=by
 obtain⟨q,e,o⟩:=z7 m
 have c:=yo (2 ^ m) x
 rw[e] at c
 refine⟨q*(4*x+1),?_,?_⟩
 ·have e2:2 ^ (m+2)=4*2 ^ m:=by rw[Nat.pow_add];lia
  rw[e2,Nat.add_mul,Nat.one_mul,GN,GN] at c
  lia
 ·rw[Nat.mul_mod,o,Nat.one_mul];lia
theorem Hh(m s e:Nat):∃ k,k+1<=2 ^ m/\fk k s % 2 ^ m=e % 2 ^ m:=by
 induction m with
 |zero=>exact⟨0,by decide,by simp[Nat.mod_one]⟩
 |succ m ih =>
  obtain⟨k,hk,h⟩:=ih
  have hp:2 ^ (m+1)=2 ^ m*2:=y8 ..
  have Yq:0<2 ^ m:=Nat.pow_pos (by decide)
  have key:∀ a:Nat,a % (2 ^ m*2)=a % 2 ^ m+2 ^ m*(a / 2 ^ m % 2):=fun a=>Nat.mod_mul
  by_cases c:fk k s / 2 ^ m % 2=e / 2 ^ m % 2
  ·exact⟨k,by walk_at "s4",by rw[hp,key,key,h,c]⟩
  ·refine⟨k+2 ^ m,by lia,?_⟩
   obtain⟨r,er,ro⟩:=CZ m (fk k s)
   rw[Gn,er,hp,key,key,Nat.add_mul_mod_self_left,h,Nat.add_mul_div_left _ _ Yq]
   have:(fk k s / 2 ^ m+r) % 2=e / 2 ^ m % 2:=by lia
   rw[this]
def rq(M:Nat)(p:Probe):Probe :=
 if p.more>0 then { p with j:=p.j+1,more:=p.more-1 } else
 { p with j:=(leap M p.i p.perturb).1,more:=runEnd M (leap M p.i p.perturb).1-(leap M p.i p.perturb).1,i:=(leap M p.i p.perturb).1,perturb:=(leap M p.i p.perturb).2 }
def ps(M:Nat)(h:Int):Nat->Probe
 |0=>{ j:=bits h % (M+1),more:=runEnd M (bits h % (M+1))-bits h % (M+1),i:=bits h % (M+1),perturb:=bits h,dummy:=none }
 |n+1=>rq M (ps M h n)
def J(M:Nat)(h:Int)(n:Nat):Nat:=(ps M h n).j
theorem uz(h:i<=M):i<=runEnd M i/\runEnd M i<=M/\runEnd M i<=i+9:=by
 unfold runEnd;split<;>lia
theorem En(M:Nat)(h:Int):∀ n,(ps M h n).i<=M/\(ps M h n).j+(ps M h n).more<=M/\(ps M h n).dummy=none/\(ps M h n).more<=9
 |0=>by
  have h0:bits h % (M+1)<=M:=PN (GV _ (PY _))
  have:=uz h0
  exact⟨h0,by show bits h % (M+1)+(runEnd M (bits h % (M+1))-bits h % (M+1))<=M;lia,rfl,by show runEnd M (bits h % (M+1))-bits h % (M+1)<=9;lia⟩
 |n+1=>by
  obtain⟨a,b,c,d⟩:=En M h n
  show(rq M (ps M h n)).i<=M/\_/\(rq M (ps M h n)).dummy=none/\_
  unfold rq
  by_cases hm:(ps M h n).more>0
  ·simp only[hm,if_true]
   show _/\(rq M (ps M h n)).j+(rq M (ps M h n)).more<=M/\_/\(rq M (ps M h n)).more<=9
   simp only[rq,hm,if_true]
   exact⟨a,by lia,c,by walk_at "s4"⟩
  ·simp only[hm,if_false]
   show _/\(rq M (ps M h n)).j+(rq M (ps M h n)).more<=M/\_/\(rq M (ps M h n)).more<=9
   simp only[rq,hm,if_false]
   have h0:(leap M (ps M h n).i (ps M h n).perturb).1<=M:=PN (GV _ (PY _))
   have:=uz h0
   exact⟨h0,by lia,c,by lia⟩
theorem Uv(M:Nat)(h:Int)(n:Nat):J M h n<=M:=by
 have:=En M h n
 unfold J;lia
theorem xq(M:Nat)(h:Int)(n:Nat):∀ r,r<=(ps M h n).more->ps M h (n+r)={ ps M h n with j:=(ps M h n).j+r,more:=(ps M h n).more-r }
 |0,_=>rfl
 |r+1,hr=>by
  show rq M (ps M h (n+r))=_
  rw[xq M h n r (by exact kR ‹_›)]
  unfold rq
  rw[if_pos (show(ps M h n).more-r>0 by lia)]
  simp only[Probe.mk.injEq,true_and,and_true]
  walk_at "s1"
def lp(M:Nat)(h:Int):Nat->Nat × Nat
 |0=>(bits h % (M+1),bits h)
 |k+1=>leap M (lp M h k).1 (lp M h k).2
def jI(M:Nat)(h:Int):Nat->Nat
 |0=>0
 |k+1=>jI M h k+(runEnd M (lp M h k).1-(lp M h k).1)+1
theorem CT(M:Nat)(h:Int):∀ k,(lp M h k).1<=M
 |0=>PN (GV _ (PY _))
 |k+1=>PN (GV _ (PY _))
theorem vR(M:Nat)(h:Int):∀ k,jI M h k<=10*k
 |0=>bT _
 |k+1=>by
  have:=vR M h k
  have:=uz (CT M h k)
  show jI M h k+_+1<=_;lia
theorem uc(M:Nat)(h:Int):∀ k,ps M h (jI M h k)={ j:=(lp M h k).1,more:=runEnd M (lp M h k).1-(lp M h k).1,i:=(lp M h k).1,perturb:=(lp M h k).2,dummy:=none }
 |0=>rfl
 |k+1=>by
  have ih:=uc M h k
  have e:=xq M h (jI M h k) (runEnd M (lp M h k).1-(lp M h k).1) (by rw[ih];exact bT _)
  show rq M (ps M h (jI M h k+(runEnd M (lp M h k).1-(lp M h k).1)))=_
  rw[e,ih]
  unfold rq
  rw[if_neg (by simp)]
  rfl
theorem Bu(M:Nat)(h:Int):∀ k,(lp M h k).2=bits h / 32 ^ k
 |0=>by simp[lp]
 |k+1=>by
  show(lp M h k).2 / 32=_
  rw[Bu M h k,Nat.div_div_eq_div_mul,y8]
theorem Di(h:Int):bits h<2 ^ 64:=by
 unfold bits
 have h1:=Int.emod_nonneg h (show(2 ^ 64:Int)≠0 by decide)
 have h2:=Sj h (show(0:Int)<2 ^ 64 by decide)
 lia
theorem xf(M:Nat)(h:Int):∀ k,(lp M h (13+k)).1 % (M+1)=fk k (lp M h 13).1 % (M+1)
 |0=>rfl
 |k+1=>by
  have e:(lp M h (13+k)).2=0:=by
   rw[Bu]
   refine Nat.div_eq_of_lt (ly (Di h) ?_)
   exact iS (by decide:2 ^ 64<=32 ^ 13) (Nat.pow_le_pow_right (by decide) (by exact Sd _ _))
  show(leap M (lp M h (13+k)).1 (lp M h (13+k)).2).1 % (M+1)=_
  unfold leap
  rw[e]
  show((lp M h (13+k)).1*5+1+0 / 32) % (M+1) % (M+1)=(5*fk k (lp M h 13).1+1) % (M+1)
  rw[Nat.mod_mod,Nat.zero_div,GP,Nat.add_mod,Nat.mul_mod,xf M h k,<- Nat.mul_mod,<- Nat.add_mod,PX]
theorem cover(hM:M+1=2 ^ m)(h:Int)(he:e<=M):∃ k,k<=M+13/\(lp M h k).1=e:=by
 obtain⟨k,hk,q⟩:=Hh m (lp M h 13).1 e
 rw[<- hM] at hk q
 refine⟨13+k,by lia,?_⟩
 have:=xf M h k
 rw[q] at this
 rwa[Nat.mod_eq_of_lt (GL (CT M h _)),Nat.mod_eq_of_lt (GL he)] at this
theorem Hz(M:Nat)(h:Int)(k:Nat):J M h (jI M h k)=(lp M h k).1:=by unfold J;rw[uc]
theorem uL(hM:M+1=2 ^ m)(h:Int)(iL:Nat->Bool)(he:e<=M)(hf:iL e=false):∃ n,n<=10*(M+13)/\iL (J M h n)=false/\∀ k<n,iL (J M h k)=true:=by
 obtain⟨k,hk,q⟩:=cover hM h he
 have hb:=vR M h k
 have hB:iL (J M h (jI M h k))=false:=by rw[Hz,q];exact hf
 generalize jI M h k=b at hb hB
 have go:∀ b,iL (J M h b)=false->∃ n,n<=b/\iL (J M h n)=false/\∀ k<n,iL (J M h k)=true:=by
  intro b
  induction b using Nat.strongRecOn with
  |ind b ih =>
   intro hB
   by_cases c:∃ k,k<b/\iL (J M h k)=false
   ·obtain⟨k,h1,h2⟩:=c
    obtain⟨n,a1,a2,a3⟩:=ih k h1 h2
    exact⟨n,by lia,a2,a3⟩
   ·refine⟨b,bT _,hB,fun k hk=>?_⟩
    cases z:iL (J M h k) with
    |true=>rfl
    |false=>exact absurd ⟨k,hk,z⟩ c
 obtain⟨n,a1,a2,a3⟩:=go b hB
 exact⟨n,by lia,a2,a3⟩
def Up(xs:Array Nat):Prop:=∀ i j:Nat,i<j->j<xs.size->xs.getD i 0<xs.getD j 0
theorem um{xs:Array Nat}{i d d':Nat}(h:i<xs.size):xs.getD i d=xs.getD i d':=by simp[Array.getD,h]
theorem pq{xs:Array Nat}(U:Up xs)(j:Nat):∀ (fuel lo hi:Nat),hi-lo<=fuel->lo<=hi->hi<=xs.size->(∀ i<lo,xs.getD i 0<j)->(∀ i,hi<=i->i<xs.size->j<=xs.getD i 0) ->
  below.go xs j fuel lo hi<=xs.size/\(∀ i<below.go xs j fuel lo hi,xs.getD i 0<j)/\(∀ i,below.go xs j fuel lo hi<=i->i<xs.size->j<=xs.getD i 0)
 |0,lo,hi,hf,h1,h2,h3,h4=>by
  obtain rfl:lo=hi:=by lia
  exact⟨h2,h3,h4⟩
 |fuel+1,lo,hi,hf,h1,h2,h3,h4=>by
  unfold below.go
  by_cases c:lo<hi
  ·rw[if_pos c]
   dsimp only
   have hm:(lo+hi) / 2<xs.size:=by lia
   by_cases d:xs.getD ((lo+hi) / 2) j<j
   ·rw[if_pos d]
    rw[um (d':=0) hm] at d
    refine pq U j fuel _ _ (by lia) (by lia) h2 (fun i kz=>?_) h4
    by_cases e:i=(lo+hi) / 2
    ·rw[e];exact d
    ·exact Se (U i _ (by lia) hm) d
   ·rw[if_neg d]
    rw[um (d':=0) hm] at d
    refine pq U j fuel _ _ (by lia) (by lia) (by exact kR ‹_›) h3 fun i kz hs=>?_
    by_cases e:i=(lo+hi) / 2
    ·rw[e];exact LS ‹_›
    ·have:=U ((lo+hi) / 2) i (by lia) hs;lia
  ·rw[if_neg c]
   obtain rfl:lo=hi:=by lia
   exact⟨h2,h3,h4⟩
theorem bD(U:Up xs)(j:Nat):below xs j<=xs.size/\(∀ i<below xs j,xs.getD i 0<j)/\(∀ i,below xs j<=i->i<xs.size->j<=xs.getD i 0) :=
 pq U j xs.size 0 xs.size (by lia) (by lia) (bT _) (fun i h=>absurd h (EA i)) fun i h1 h2=>by lia
theorem below_at(U:Up xs)(h:i<xs.size):below xs (xs.getD i 0)=i:=by
 obtain⟨a,b,c⟩:=bD U (xs.getD i 0)
 by_cases h1:below xs (xs.getD i 0)<i
 ·have:=c _ (bT _) (by lia)
  have:=U _ i h1 h
  lia
 ·by_cases h2:i<below xs (xs.getD i 0)
  ·have:=b i h2;lia
  ·lia
theorem uR(U:Up xs)(h:i<xs.size):below xs (xs.getD i 0+1)=i+1:=by
 obtain⟨a,b,c⟩:=bD U (xs.getD i 0+1)
 by_cases h1:below xs (xs.getD i 0+1)<i+1
 ·have:=c i (by lia) h;lia
 ·by_cases h2:i+1<below xs (xs.getD i 0+1)
  ·have:=b (i+1) h2
   have:=U i (i+1) (by lia) (by lia);lia
  ·lia
def taken(xs:Array Nat)(j:Nat):Bool:=xs[below xs j]? == some j
theorem wY{xs:Array Nat}{i j:Nat}(h:xs[i]? = some j):i<xs.size/\xs.getD i 0=j:=by
 obtain⟨h1,h2⟩:=GY.mp h
 exact⟨h1,by simp[Array.getD,h1,h2]⟩
theorem yu{xs:Array Nat}{i:Nat}(h:i<xs.size):xs[i]? = some (xs.getD i 0):=by simp[Array.getD,h]
theorem fL{xs:Array Nat}(U:Up xs){j:Nat}:taken xs j=true↔∃ i,i<xs.size/\xs.getD i 0=j:=by
 unfold taken
 rw[beq_iff_eq]
 constructor
 ·intro h;exact⟨_,wY h⟩
 ·rintro⟨i,h,rfl⟩
  rw[below_at U h]
  exact yu h
theorem jM{xs:Array Nat}(U:Up xs){j:Nat}(h:taken xs j=true):below xs j<xs.size/\xs.getD (below xs j) 0=j:=by
 unfold taken at h
 rw[beq_iff_eq] at h
 exact wY h
theorem cY(xs:Array α)(x:α)(h:p<=xs.size):(insertAt xs p x).size=xs.size+1:=by
 unfold insertAt
 simp
 lia
theorem Qm(xs:Array α)(x:α)(h:p<=xs.size)(i:Nat):(insertAt xs p x)[i]? = if i<p then xs[i]? else if i=p then some x else xs[i-1]? := by
 unfold insertAt
 have hs:((xs.extract 0 p).push x).size=p+1:=by simp;lia
 by_cases h1:i<p
 ·rw[if_pos h1,Array.getElem?_append_left (by lia),Array.getElem?_push,if_neg (by simp;lia),P1]
  rw[if_pos (by lia)];simp
 ·rw[if_neg h1]
  by_cases h2:i=p
  ·rw[if_pos h2,Array.getElem?_append_left (by lia),Array.getElem?_push,if_pos (by simp;lia)]
  ·rw[if_neg h2,Array.getElem?_append_right (by lia),hs,P1]
   by_cases h3:i-(p+1)<min xs.size xs.size-p
   ·rw[if_pos h3]
    congr 1;lia
   ·rw[if_neg h3,DC (by lia)]
theorem dO(h:p<=xs.size)(i:Nat):(insertAt xs p x).getD i 0=if i<p then xs.getD i 0 else if i=p then x else xs.getD (i-1) 0:=by
 have e:∀ (ys:Array Nat) (k:Nat),ys.getD k 0=ys[k]?.getD 0:=fun ys k=>by
  simp[DB]
 rw[e,Qm xs x h]
 split
 ·rw[e]
 ·split
  ·rfl
  ·rw[e]
theorem Bm(U:Up xs)(hj:taken xs j=false):Up (insertAt xs (below xs j) j):=by
 obtain⟨a,b,c⟩:=bD U j
 have ne:∀ i,i<xs.size->xs.getD i 0≠j:=fun i hi e=>by
  have:=(fL U (j:=j)).mpr ⟨i,hi,e⟩
  rw[hj] at this;cases this
 intro i k hik hk
 rw[cY xs j a] at hk
 rw[dO a,dO a]
 by_cases h1:k<below xs j
 ·rw[if_pos (by lia),if_pos h1];exact U i k hik (by lia)
 ·rw[if_neg h1]
  by_cases h2:k=below xs j
  ·rw[if_pos h2,if_pos (by lia)];exact b i (by lia)
  ·rw[if_neg h2]
   by_cases h3:i<below xs j
   ·rw[if_pos h3];exact U i (k-1) (by lia) (by lia)
   ·rw[if_neg h3]
    by_cases h4:i=below xs j
    ·rw[if_pos h4]
     have:=c (k-1) (by lia) (by lia)
     have:=ne (k-1) (by lia)
     lia
    ·rw[if_neg h4];exact U (i-1) (k-1) (by lia) (by lia)
theorem yl(U:Up xs)(hj:taken xs j=false):taken (insertAt xs (below xs j) j) k=(decide (k=j) || taken xs k):=by
 have a:=(bD U j).1
 have U':=Bm U hj
 apply wa.mpr
 rw[fL U',Bool.or_eq_true,decide_eq_true_eq,fL U]
 rw[cY xs j a]
 constructor
 ·rintro⟨i,hi,e⟩
  rw[dO a] at e
  by_cases h1:i<below xs j
  ·rw[if_pos h1] at e;exact .inr ⟨i,by lia,e⟩
  ·rw[if_neg h1] at e
   by_cases h2:i=below xs j
   ·rw[if_pos h2] at e;exact .inl e.symm
   ·rw[if_neg h2] at e;exact .inr ⟨i-1,by lia,e⟩
 ·rintro(rfl|⟨i,hi,e⟩)
  ·exact⟨below xs k,by lia,by rw[dO a,if_neg (by lia),if_pos rfl]⟩
  ·by_cases h1:i<below xs j
   ·exact⟨i,by lia,by rw[dO a,if_pos h1];exact e⟩
   ·exact⟨i+1,by lia,by rw[dO a,if_neg (by lia),if_neg (by lia)];exact e⟩
def Reach(M:Nat)(place:Array Nat)(h:Int)(j:Nat):Prop:=∃ n,n<=10*(M+13)/\J M h n=j/\∀ k<n,taken place (J M h k)=true
structure TI{α:Type}(t:SetTable)(es:Array (Int × α)):Prop where
 pw:∃ m,t.mask+1=2 ^ m/\3<=m
 sz:t.place.size=es.size
 up:Up t.place
 le:∀ i,i<t.place.size->t.place.getD i 0<=t.mask
 dm:t.dummies = #[]
 few:es.size*5<t.mask*3
 path:∀ i h x,es[i]? = some (h,x)->Reach t.mask t.place h (t.place.getD i 0)
section
variable {α:Type}{t:SetTable}{es:Array (Int × α)}
theorem TI.slot(T:TI t es)(j:Nat):t.slot j=if taken t.place j then .live (below t.place j) else .empty:=by
 unfold SetTable.slot taken
 dsimp only
 split
 ·rfl
 ·have:has t.dummies j=false:=by rw[T.dm];rfl
  rw[this];rfl
theorem TI.fits(T:TI t es):t.fits es.size=true:=by
 have:=T.few
 simp only[SetTable.fits,fill,T.dm,T.sz,lI,beq_iff_eq,decide_eq_true_eq,true_and]
 simp;lia
theorem TI.odd(T:TI t es):t.gaveWay=false:=by
 obtain⟨m,h,h3⟩:=T.pw
 unfold SetTable.gaveWay
 rw[beq_eq_false_iff_ne]
 have:2 ^ m=2*2 ^ (m-1):=by
  rw[show m=(m-1)+1 by lia,y8];simp;lia
 lia
theorem TI.free(T:TI t es):∃ e,e<=t.mask/\taken t.place e=false:=by
 have hf:=T.few
 have hs:=T.sz
 by_cases c:∃ e,e<=t.mask/\taken t.place e=false
 ·exact c
 ·exfalso
  have all:∀ e,e<=t.mask->taken t.place e=true:=fun e he=>by
   cases z:taken t.place e with
   |true=>rfl
   |false=>exact absurd ⟨e,he,z⟩ c
  -- slot e stands at place at most e
  have go:∀ e,e<=t.mask->e<=below t.place e:=by
   intro e
   induction e with
   |zero=>intro _;exact eI _
   |succ e ih =>
    intro he
    have h1:=jM T.up (all e (by exact kR ‹_›))
    have h2:=jM T.up (all (e+1) he)
    have:=ih (by exact kR ‹_›)
    obtain⟨_,b,c⟩:=bD T.up (e+1)
    by_cases z:below t.place e<below t.place (e+1)
    ·walk_at "s1"
    ·have:=c (below t.place e) (by exact LS ‹_›) h1.1
     lia
  have:=go t.mask (bT _)
  have:=(jM T.up (all t.mask (bT _))).1
  lia
theorem TI.put(T:TI t es)(hj:j<=t.mask)(hn:taken t.place j=false)(hr:Reach t.mask t.place h j)(ht:t'.mask=t.mask)(hp:t'.place=insertAt t.place (below t.place j) j)(hd:t'.dummies = #[])
  (hf:(es.size+1)*5<t.mask*3):TI t' (insertAt es (below t.place j) (h,x)):=by
 have a:=(bD T.up j).1
 have a':below t.place j<=es.size:=by rw[<- T.sz];exact a
 refine⟨by rw[ht];exact T.pw,by rw[hp,cY _ _ a,cY _ _ a',T.sz],by rw[hp];exact Bm T.up hn,fun i hi=>?_,hd,by rw[cY _ _ a',ht];exact hf,fun i g y e=>?_⟩
 ·rw[hp,cY _ _ a] at hi
  rw[hp,dO a,ht]
  split
  ·exact T.le i (by lia)
  ·split
   ·exact hj
   ·exact T.le (i-1) (by lia)
 ·have mono:∀ {g:Int} {k:Nat},Reach t.mask t.place g k->Reach t'.mask t'.place g k:=fun {g k} ⟨n,h1,h2,h3⟩=>⟨n,by rw[ht];exact h1,by rw[ht];exact h2,fun q hq=>by
   rw[hp,ht,yl T.up hn,h3 q hq,Bool.or_true]⟩
  rw[Qm es _ a'] at e
  rw[hp,dO a,<- hp]
  by_cases h1:i<below t.place j
  ·rw[if_pos h1] at e ⊢
   exact mono (T.path i g y e)
  ·rw[if_neg h1] at e ⊢
   by_cases h2:i=below t.place j
   ·rw[if_pos h2] at e ⊢
    cases e
    exact mono hr
   ·rw[if_neg h2] at e ⊢
    exact mono (T.path (i-1) g y e)
end
theorem iy[DecidableEq α]:∀ {l m:List α},l.Nodup->(∀ x∈l,x∈m)->l.length<=m.length
 |[],_,_,_=>eI _
 |x :: l,m,nd,h=>by
  rw[kA] at nd
  have hx:=h x cq
  have:=iy (l:=l) (m:=m.erase x) nd.2 fun y hy=>(List.mem_erase_of_ne (fun e=>nd.1 (by rw[<- e];exact hy))).mpr (h y (ck _ hy))
  rw[List.length_erase_of_mem hx] at this
  have:0<m.length:=Py hx
  simp only[sD];lia
def iL(owner:Array (Option Nat))(j:Nat):Bool:=(owner.getD j (some 0)).isSome
theorem qt(h:Int)(owner:Array (Option Nat)):∀ (fuel k:Nat),(∀ q<jI M h k,iL owner (J M h q)=true)->(∃ K,k<=K/\K<k+fuel/\K<=M+13/\iL owner (lp M h K).1=false) ->
  ∃ j n,layClean.free M owner fuel (lp M h k).1 (lp M h k).2=some j/\J M h n=j/\n<=10*(M+13)/\iL owner j=false/\∀ q<n,iL owner (J M h q)=true
 |0,k,_,⟨K,h1,h2,_⟩=>by lia
 |fuel+1,k,hq,⟨K,h1,h2,h3,h4⟩=>by
  have Uw:∀ r,r<=runEnd M (lp M h k).1-(lp M h k).1->J M h (jI M h k+r)=(lp M h k).1+r:=fun r hr=>by
   unfold J
   rw[xq M h (jI M h k) r (by rw[uc];exact hr),uc]
  have hle:=uz (CT M h k)
  have e:∀ r,(owner.getD ((lp M h k).1+r) (some 0)).isNone = !iL owner ((lp M h k).1+r):=fun r=>by
   unfold iL;cases owner.getD ((lp M h k).1+r) (some 0)<;>rfl
  unfold layClean.free
  cases hf:(List.range (runEnd M (lp M h k).1+1-(lp M h k).1)).find? fun r=>(owner.getD ((lp M h k).1+r) (some 0)).isNone with
  |some r =>
   obtain⟨a1,a2,a3⟩:=List.find?_range_eq_some.mp hf
   have a2:r<runEnd M (lp M h k).1+1-(lp M h k).1:=by simpa using a2
   rw[e] at a1
   have a1:iL owner ((lp M h k).1+r)=false:=by simpa using a1
   have occs:∀ q<jI M h k+r,iL owner (J M h q)=true:=fun q Rk=>by
    by_cases z:q<jI M h k
    ·exact hq q z
    ·have:=a3 (q-jI M h k) (by lia)
     rw[e] at this
     have hj:=Uw (q-jI M h k) (by lia)
     rw[show jI M h k+(q-jI M h k)=q by lia] at hj
     rw[hj]
     simpa using this
   refine⟨_,jI M h k+r,rfl,Uw r (by lia),?_,a1,occs⟩
   have hb:=vR M h K
   by_cases z:jI M h k+r<=jI M h K
   ·lia
   ·have:=occs (jI M h K) (by lia)
    rw[Hz,h4] at this;cases this
  |none =>
   have hn:=List.find?_eq_none.mp hf
   have Yr:∀ r,r<=runEnd M (lp M h k).1-(lp M h k).1->iL owner ((lp M h k).1+r)=true:=fun r hr=>by
    have:=hn r (by simp;lia)
    rw[e] at this
    simpa using this
   dsimp only
   have hK:K≠k:=fun z=>by
    subst z
    have:=Yr 0 (eI _)
    rw[GP,h4] at this;cases this
   refine qt h owner fuel (k+1) (fun q Rk=>?_) ⟨K,by lia,by lia,h3,h4⟩
   by_cases z:q<jI M h k
   ·exact hq q z
   ·have Rk:q<jI M h k+(runEnd M (lp M h k).1-(lp M h k).1)+1:=Rk
    have hj:=Uw (q-jI M h k) (by lia)
    rw[show jI M h k+(q-jI M h k)=q by lia] at hj
    rw[hj]
    exact Yr _ (by lia)
structure OI(M:Nat)(hs:List Int)(owner:Array (Option Nat)):Prop where
 sz:owner.size=M+1
 lt:∀ j v:Nat,owner[j]? = some (some v)->v<hs.length
 inj:∀ j j' v:Nat,owner[j]? = some (some v)->owner[j']? = some (some v)->j=j'
 all:∀ v:Nat,v<hs.length->∃ j:Nat,owner[j]? = some (some v)
 path:∀ j v:Nat,owner[j]? = some (some v)->∃ n,n<=10*(M+13)/\J M (hs.getD v 0) n=j/\∀ q<n,iL owner (J M (hs.getD v 0) q)=true
theorem tG(h:j<owner.size):iL owner j=true↔∃ v,owner[j]? = some (some v):=by
 unfold iL
 rw[y9 h]
 simp only[Array.getD,h,dite_true,Option.some.injEq]
 cases hh:owner[j] with
 |none =>
  have:owner.getInternal j h=none:=hh
  rw[this];simp
 |some v =>
  have:owner.getInternal j h=some v:=hh
  rw[this];simp
theorem OI.free(O:OI M hs owner)(hl:hs.length<=M):∃ e,e<=M/\iL owner e=false:=by
 by_cases c:∃ e,e<=M/\iL owner e=false
 ·exact c
 ·exfalso
  have all:∀ e,e<=M->∃ v,owner[e]? = some (some v):=fun e he=>by
   refine(tG (by rw[O.sz];lia)).mp ?_
   cases z:iL owner e with
   |true=>rfl
   |false=>exact absurd ⟨e,he,z⟩ c
  have nd:((List.range (M+1)).map fun j=>(owner.getD j none).getD 0).Nodup:=by
   rw[Pt,qk]
   refine List.Pairwise.imp_of_mem ?_ (Pt.mp List.nodup_range)
   intro a b ha hb kf z
   obtain⟨va,ea⟩:=all a (by have:=mI.mp ha;lia)
   obtain⟨vb,eb⟩:=all b (by have:=mI.mp hb;lia)
   rw[DB,DB,ea,eb] at z
   have z:va=vb:=z
   subst z
   exact kf (O.inj _ _ _ ea eb)
  have:=iy (m:=List.range hs.length) nd fun x hx=>by
   obtain⟨j,hj,rfl⟩:=df.mp hx
   obtain⟨v,e⟩:=all j (by have:=mI.mp hj;lia)
   rw[DB,e]
   exact mI.mpr (O.lt _ _ e)
  simp at this
  lia
theorem OI.lay(hM:M+1=2 ^ m)(O:OI M hs owner)(hl:hs.length<=M)(h:Int) :
  ∃ j,layClean.free M owner (turns M) (bits h % (M+1)) (bits h)=some j/\OI M (hs++[h]) (owner.setIfInBounds j (some hs.length)):=by
 obtain⟨e,he,hf⟩:=O.free hl
 obtain⟨K,hK,hKe⟩:=cover hM h he
 obtain⟨j,n,e1,e2,e3,e4,e5⟩:=qt h owner (turns M) 0 (fun q hq=>absurd hq (EA q)) ⟨K,eI _,by unfold turns;lia,hK,by rw[hKe];exact hf⟩
 refine⟨j,e1,?_⟩
 have hj:j<owner.size:=by rw[O.sz,<- e2];exact GL (Uv M h n)
 have get:∀ i,(owner.setIfInBounds j (some hs.length))[i]? = if j=i then some (some hs.length) else owner[i]? := fun i=>by
  rw[Array.getElem?_setIfInBounds]
  by_cases z:j=i
  ·subst z;simp[hj]
  ·simp[z]
 have oc:∀ i,iL owner i=true->iL (owner.setIfInBounds j (some hs.length)) i=true:=fun i hi=>by
  unfold iL at hi ⊢
  rw[DB] at hi ⊢
  rw[get]
  split
  ·rfl
  ·exact hi
 have kf:∀ v,owner[j]?≠some (some v):=fun v z=>by
  have:=(tG hj).mpr ⟨v,z⟩
  rw[e4] at this;cases this
 refine⟨by rw[Array.size_setIfInBounds];exact O.sz,fun i v z=>?_,fun i i' v z z'=>?_,fun v hv=>?_,fun i v z=>?_⟩
 ·rw[get] at z
  split at z
  ·cases z;simp
  ·have:=O.lt i v z;simp;lia
 ·rw[get] at z z'
  split at z
  ·cases z
   split at z'
   ·lia
   ·exact absurd (O.lt _ _ z') (sF _)
  ·split at z'
   ·cases z'
    exact absurd (O.lt _ _ z) (sF _)
   ·exact O.inj i i' v z z'
 ·simp at hv
  by_cases c:v=hs.length
  ·exact⟨j,by rw[get,if_pos rfl,c]⟩
  ·obtain⟨i,hi⟩:=O.all v (by lia)
   refine⟨i,?_⟩
   rw[get,if_neg (fun z=>kf v (by rw[z];exact hi))]
   exact hi
 ·rw[get] at z
  split at z
  ·rename_i Ux
   cases z
   refine⟨n,e3,?_,fun q hq=>oc _ ?_⟩
   ·rw[LG,yT (bT _)]
    simp[e2,Ux]
   ·have:=e5 q hq
    rw[LG,yT (bT _)]
    simpa using this
  ·have hv:=O.lt i v z
   obtain⟨n',a1,a2,a3⟩:=O.path i v z
   have eg:(hs++[h]).getD v 0=hs.getD v 0:=by
    rw[LG,LG,Ee hv]
   rw[eg]
   exact⟨n',a1,a2,fun q hq=>oc _ (a3 q hq)⟩
theorem OI.nil(M:Nat):OI M [] (Array.replicate (M+1) none):=by
 have no:∀ (j v:Nat),¬ (Array.replicate (M+1) (none:Option Nat))[j]? = some (some v):=fun j v z=>by
  rw[Array.getElem?_replicate] at z
  split at z<;>cases z
 exact⟨by simp,fun j v z=>absurd z (no j v),fun j j' v z _=>absurd z (no j v),fun v hv=>absurd hv (EA v),fun j v z=>absurd z (no j v)⟩
theorem Fy(hM:M+1=2 ^ m)(hs:Array Int)(hl:hs.size<=M):∃ owner,layClean M hs=some owner/\OI M hs.toList owner:=by
 have go:∀ (l pre:List Int) (owner:Array (Option Nat)),OI M pre owner->pre.length+l.length<=M->∃ Ys,l.foldl (fun acc h=>do
   let (owner,k) ← acc
   let j ← layClean.free M owner (turns M) (bits h % (M+1)) (bits h)
   pure (owner.setIfInBounds j (some k),k+1)) (some (owner,pre.length))=some (Ys,pre.length+l.length)/\OI M (pre++l) Ys:=by
  intro l
  induction l with
  |nil=>intro pre owner O _;exact⟨owner,rfl,by rw[oP];exact O⟩
  |cons h l ih =>
   intro pre owner O hz
   rw[sD] at hz
   obtain⟨j,e,O'⟩:=O.lay hM (by lia) h
   obtain⟨o2,e2,O2⟩:=ih (pre++[h]) _ O' (by simp;lia)
   refine⟨o2,?_,by rw[xl] at O2;exact O2⟩
   rw[List.foldl_cons]
   have:(do
    let (owner,k) ← (some (owner,pre.length):Option (Array (Option Nat) × Nat))
    let j ← layClean.free M owner (turns M) (bits h % (M+1)) (bits h)
    pure (owner.setIfInBounds j (some k),k+1))=some (owner.setIfInBounds j (some pre.length),(pre++[h]).length):=by
    simp[e]
   rw[this,e2]
   simp;lia
 obtain⟨o,e,O⟩:=go hs.toList [] _ (OI.nil M) (by simpa using hl)
 refine⟨o,?_,by simpa using O⟩
 unfold layClean
 rw[<- Array.foldl_toList]
 have e':=e
 simp only[List.length_nil] at e'
 rw[e']
 rfl
theorem jm:∀ (fuel a:Nat),3<=a->n<2 ^ (a+fuel)->∃ b,3<=b/\sizeAbove.go n fuel (2 ^ a)=2 ^ b/\n<2 ^ b/\(2 ^ b<=2*n\/b=a)
 |0,a,ha,h=>⟨a,ha,rfl,by simpa using h,.inr rfl⟩
 |fuel+1,a,ha,h=>by
  unfold sizeAbove.go
  by_cases c:2 ^ a<=n
  ·rw[if_pos c]
   obtain⟨b,h1,h2,h3,h4⟩:=jm fuel (a+1) (by lia) (by rw[show a+1+fuel=a+(fuel+1) by lia];exact h)
   refine⟨b,h1,by rw[y8] at h2;exact h2,h3,?_⟩
   rcases h4 with h4|h4
   ·exact .inl h4
   ·left
    rw[h4,y8];lia
  ·rw[if_neg c]
   exact⟨a,ha,rfl,by lia,.inr rfl⟩
theorem mO(h:n<2 ^ 60):∃ b,3<=b/\sizeAbove n=2 ^ b/\n<2 ^ b/\(2 ^ b<=2*n\/b=3) :=
 jm 64 3 (bT _) (Se h (by decide))
section
variable {α:Type}
def bQ(M:Nat)(owner:Array (Option Nat)):List (Nat × Nat):=(List.range (M+1)).filterMap fun j=>(owner.getD j none).map (j,·)
theorem eX:p∈bQ M owner↔p.1<M+1/\owner[p.1]? = some (some p.2):=by
 unfold bQ
 rw[R6]
 constructor
 ·rintro⟨j,hj,e⟩
  rw[DB] at e
  cases h:owner[j]? with
  |none=>rw[h] at e;cases e
  |some o =>
   rw[h] at e
   cases o with
   |none=>cases e
   |some v =>
    cases e
    exact⟨mI.mp hj,h⟩
 ·rintro⟨h1,h2⟩
  exact⟨p.1,mI.mpr h1,by rw[DB,h2];rfl⟩
theorem tE(M:Nat)(owner:Array (Option Nat)):((bQ M owner).map (·.1)).Pairwise (· < ·):=by
 unfold bQ
 rw[qk,List.pairwise_filterMap]
 refine List.Pairwise.imp ?_ List.pairwise_lt_range
 intro a b OL p hp q hq
 cases h1:owner.getD a none with
 |none=>rw[h1] at hp;cases hp
 |some x =>
  cases h2:owner.getD b none with
  |none=>rw[h2] at hq;cases hq
  |some y =>
   rw[h1] at hp;rw[h2] at hq
   cases hp;cases hq
   exact OL
theorem tL{l:List Nat}(h:l.Pairwise (· < ·)):Up l.toArray:=fun i j gX hj=>by
 have hj:j<l.length:=by simpa using hj
 have:=AR.mp h i j (by walk_at "s1") hj gX
 have e:∀ k (hk:k<l.length),l.toArray.getD k 0=l[k]:=fun k hk=>by simp[Array.getD,hk]
 rw[e i (by walk_at "s1"),e j hj]
 exact this
theorem uA{β:Type}{f:α->Option β}:∀ {l:List α},(∀ x∈l,(f x).isSome=true)->(l.filterMap f).length=l.length/\∀ i:Nat,(l.filterMap f)[i]? = (l[i]?).bind f
 |[],_=>⟨rfl,fun i=>by simp⟩
 |x :: l,h=>by
  obtain⟨a,b⟩:=uA (f:=f) (l:=l) fun y hy=>h y (ck _ hy)
  have hx:=h x cq
  cases e:f x with
  |none=>rw[e] at hx;cases hx
  |some y =>
   rw[y2,e]
   refine⟨by simp[a],fun i=>?_⟩
   cases i with
   |zero=>simp[e]
   |succ i=>simpa using b i
theorem tR(es:Array (Int × α)):(List.range es.size).filterMap (fun i=>es[i]?)=es.toList:=by
 apply CH
 intro i
 rw[(uA (l:=List.range es.size) fun x hx=>by
  have:=mI.mp hx
  simp[this]).2 i]
 by_cases h:i<es.size
 ·rw[List.getElem?_range h,mM];rfl
 ·rw[tP (by simpa using h),tP (by simpa using h)];rfl
theorem Es{M m finger moves:Nat}{led plain:Bool}(hM:M+1=2 ^ m)(hm:3<=m){es:Array (Int × α)}(hf:es.size*5<M*3) :
  ∃ t order,laid M finger moves led plain (es.map (·.1))=some (t,order)/\t.plain=plain/\t.led=led/\t.mask=M/\TI t (order.filterMap fun i=>es[i]?)/\(order.filterMap fun i=>es[i]?).size=es.size/\(order.filterMap fun i=>es[i]?).toList.Perm es.toList/\order.toList.Perm (List.range es.size):=by
 obtain⟨owner,e,O⟩:=Fy hM (es.map (·.1)) (by rw[Array.size_map];lia)
 have hn:(es.map (·.1)).toList.length=es.size:=by simp
 refine⟨{ mask:=M,place:=((bQ M owner).map (·.1)).toArray,dummies:=#[],finger,led,moves,plain },((bQ M owner).map (·.2)).toArray,?_,rfl,rfl,rfl,?_⟩
 ·unfold laid
  rw[e];rfl
 have Yt:∀ p∈bQ M owner,p.2<es.size:=fun p hp=>by
  have:=O.lt _ _ (eX.mp hp).2
  lia
 have nd:((bQ M owner).map (·.2)).Nodup:=by
  rw[Pt,qk]
  have:=tE M owner
  rw[qk] at this
  refine List.Pairwise.imp_of_mem ?_ this
  intro p q hp hq dr z
  have:=O.inj _ _ _ (eX.mp hp).2 (by rw[z];exact(eX.mp hq).2)
  lia
 have pm:((bQ M owner).map (·.2)).Perm (List.range es.size):=by
  refine(List.perm_ext_iff_of_nodup nd List.nodup_range).mpr fun v=>⟨fun hv=>?_,fun hv=>?_⟩
  ·obtain⟨p,hp,rfl⟩:=df.mp hv
   exact mI.mpr (Yt p hp)
  ·obtain⟨j,hj⟩:=O.all v (by rw[hn];exact mI.mp hv)
   have Yu:=(GY.mp hj).1
   rw[O.sz] at Yu
   exact df.mpr ⟨(j,v),eX.mpr ⟨Yu,hj⟩,rfl⟩
 have hlen:(bQ M owner).length=es.size:=by
  have:=pm.length_eq
  simpa using this
 have Kk:(((bQ M owner).map (·.2)).toArray.filterMap fun i=>es[i]?).toList=(bQ M owner).filterMap fun p=>es[p.2]? := by
  rw[Array.toList_filterMap,R7];rfl
 obtain⟨f1,f2⟩:=uA (l:=bQ M owner) (f:=fun p=>es[p.2]?) fun p hp=>by simp[Yt p hp]
 have eD':∀ i:Nat,(((bQ M owner).map (·.2)).toArray.filterMap fun i=>es[i]?)[i]? = ((bQ M owner)[i]?).bind fun p=>es[p.2]? := fun i=>by
  rw[<- mM,Kk];exact f2 i
 have hsz:(((bQ M owner).map (·.2)).toArray.filterMap fun i=>es[i]?).size=es.size:=by
  rw[<- AZ,Kk,f1,hlen]
 have fA:∀ i:Nat,∀ p,(bQ M owner)[i]? = some p->((bQ M owner).map (·.1)).toArray.getD i 0=p.1:=fun i p hp=>by
  rw[DB]
  simp[hp]
 have tk:∀ j,iL owner j=true->j<=M->taken ((bQ M owner).map (·.1)).toArray j=true:=fun j hj hM'=>by
  obtain⟨v,hv⟩:=(tG (by rw[O.sz];exact GL ‹_›)).mp hj
  obtain⟨i,hi⟩:=LM.mp (eX.mpr (show((j,v):Nat × Nat).1<M+1/\owner[((j,v):Nat × Nat).1]? = some (some ((j,v):Nat × Nat).2) from⟨by show j<M+1;exact GL ‹_›,hv⟩))
  exact(fL (tL (tE M owner))).mpr ⟨i,by
   have:=(ic.mp hi).1
   simpa using this,fA i _ hi⟩
 refine⟨?_,hsz,?_,by simpa using pm⟩
 ·refine⟨⟨m,hM,hm⟩,?_,tL (tE M owner),fun i hi=>?_,rfl,by rw[hsz];exact hf,fun i h x hx=>?_⟩
  ·rw[hsz];simp[hlen]
  ·have hi:i<(bQ M owner).length:=by simpa using hi
   have e1:=mE hi
   show((bQ M owner).map (·.1)).toArray.getD i 0<=M
   rw[fA i _ e1]
   have:=(eX.mp (kH e1)).1
   lia
  ·rw[eD'] at hx
   cases hp:(bQ M owner)[i]? with
   |none=>rw[hp] at hx;cases hx
   |some p =>
    rw[hp] at hx
    have hx:es[p.2]? = some (h,x):=hx
    have hm':=eX.mp (kH hp)
    obtain⟨n,a1,a2,a3⟩:=O.path _ _ hm'.2
    have hh:(es.map (·.1)).toList.getD p.2 0=h:=by
     rw[LG,mM,Array.getElem?_map,hx];rfl
    rw[hh] at a2 a3
    refine⟨n,a1,?_,fun q hq=>tk _ (a3 q hq) (Uv M h q)⟩
    show J M h n=((bQ M owner).map (·.1)).toArray.getD i 0
    rw[fA i _ hp];exact a2
 ·rw[Kk]
  have:=pm.filterMap fun i=>es[i]?
  rw[tR,R7] at this
  exact this
theorem xK{t:SetTable}{es:Array (Int × α)}(hn:es.size<=10000) :
  ∃ t' order,t.relaid (es.map (·.1)) (grown es.size)=some (t',order)/\t'.plain=t.plain/\t'.led=t.led/\sizeAbove (grown es.size)<=16777216/\(es.size<=1000->t'.mask<=8191)/\TI t' (order.filterMap fun i=>es[i]?)/\(order.filterMap fun i=>es[i]?).size=es.size/\(order.filterMap fun i=>es[i]?).toList.Perm es.toList/\order.toList.Perm (List.range es.size):=by
 have hg:grown es.size=es.size*4:=by unfold grown;rw[if_neg (by lia)]
 obtain⟨b,h3,e,dr,hle⟩:=mO (n:=es.size*4) (by lia)
 have h8:8<=2 ^ b:=Nat.pow_le_pow_right (n:=2) (by decide) h3
 unfold relaid
 rw[hg,e]
 obtain⟨t',order,q1,q2,q3,qm,q4⟩:=Es (M:=2 ^ b-1) (m:=b) (finger:=t.finger) (moves:=t.movedTo (2 ^ b-1)) (led:=t.led) (plain:=t.plain) (by lia) h3 (es:=es) (by lia)
 refine⟨t',order,q1,q2,q3,?_,fun hz=>?_,q4⟩
 ·rcases hle with hle|rfl
  ·lia
  ·decide
 ·rw[qm]
  rcases hle with hle|rfl
  ·lia
  ·decide
end
section
variable {α:Type}{t:SetTable}{es:Array (Int × α)}
theorem ug(T:TI t es)(hashAt:Nat->Int)(h:Int):∀ (fuel n:Nat),(∃ N,n<=N/\N<n+fuel/\taken t.place (J t.mask h N)=false) ->
  ∃ n',n<=n'/\n'<n+fuel/\(∀ q,n<=q->q<n'->taken t.place (J t.mask h q)=true/\hashAt (below t.place (J t.mask h q))≠h) /\
   ((taken t.place (J t.mask h n')=false/\probe.go t hashAt h fuel (ps t.mask h n)=some (.empty (J t.mask h n') none)) \/
    (taken t.place (J t.mask h n')=true/\hashAt (below t.place (J t.mask h n'))=h/\probe.go t hashAt h fuel (ps t.mask h n)=some (.candidate (J t.mask h n') (below t.place (J t.mask h n')) (ps t.mask h (n'+1)))))
 |0,n,⟨N,h1,h2,_⟩=>by lia
 |fuel+1,n,⟨N,h1,h2,h3⟩=>by
  unfold probe.go
  have hs:=T.slot (J t.mask h n)
  have hd:=(En t.mask h n).2.2.1
  by_cases c:taken t.place (J t.mask h n)=true
  ·rw[if_pos c] at hs
   have hs:t.slot (ps t.mask h n).j=.live (below t.place (J t.mask h n)):=hs
   rw[hs]
   dsimp only
   by_cases e:hashAt (below t.place (J t.mask h n))=h
   ·rw[if_pos (by simpa using e)]
    exact⟨n,bT _,by lia,fun q a b=>by lia,.inr ⟨c,e,rfl⟩⟩
   ·rw[if_neg (by simpa using e)]
    have hN:N≠n:=fun z=>by rw[z,c] at h3;cases h3
    obtain⟨n',a1,a2,a3,a4⟩:=ug T hashAt h fuel (n+1) ⟨N,by lia,by lia,h3⟩
    refine⟨n',by exact kR ‹_›,by lia,fun q b1 b2=>?_,a4⟩
    by_cases z:q=n
    ·subst z;exact⟨c,e⟩
    ·exact a3 q (by lia) b2
  ·have c:taken t.place (J t.mask h n)=false:=by simpa using c
   rw[if_neg (by rw[c];exact g9)] at hs
   have hs:t.slot (ps t.mask h n).j=.empty:=hs
   rw[hs]
   dsimp only
   rw[hd]
   exact⟨n,bT _,by lia,fun q a b=>by lia,.inl ⟨c,rfl⟩⟩
end
section
variable {prog:Program}{w:World}{K:Type}[DecidableEq K]{knd:KeyKind prog w K}
abbrev aW(knd:KeyKind prog w K)(k:List K):Int:=tupleKeyHash knd k
def zU(knd:KeyKind prog w K)(p:List K × Addr):Int × Value:=(aW knd p.1,.ref p.2)
structure Kx(knd:KeyKind prog w K)(h:Heap)(a:Addr)(ks:List (List K × Addr)):Prop where
 ob:∃ o es ep t,h.get? a=some o/\o.ExactSet/\o.data=.set es ep t/\TI t es/\t.mask<=8191/\t.led=(!w.params.followText "set-order")/\es.toList=ks.map (zU knd)
 nd:(ks.map (·.1)).Nodup
 is:∀ p∈ks,IsTupleKey knd h p.1 p.2
variable {A:Around}{E:Value->Shared->Prop}{s:Shared}
theorem jW(hk:IsTupleKey knd s.heap k a)(h:Q false s):wpAny (model prog w) A (ofAClassStatement 8 (.ref a)) Q E s:=by
 have hT:=hk.typeIs
 obtain⟨o,items,n,ho,_,hd,hi⟩:=hk
 unfold ofAClassStatement
 refine ai (wpAny_typeOf hT ?_)
 dsimp only
 refine ai ?_
 refine aC ?_
 simp only[GW,gu,if_false]
 refine ai (wpAny_seqItems ho hd ?_)
 dsimp only
 refine ai ?_
 rw[<- Array.forIn_toList]
 refine wpAny_forIn_list _ (fun rest r s'=>r.1=none/\s'=s/\∀ v∈rest,carriedByValue v=true) _ ?_ ?_ _ _ ⟨rfl,rfl,hi.byValue⟩
 ·rintro v rest r s' ⟨hr,rfl,pj⟩
  have hv:=pj v cq
  have e:ofAClassStatement 7 v=pure false:=by
   cases v with
   |ref a=>cases hv
   |_=>rfl
  rw[e]
  refine ai (aC ?_)
  simp only[gu,if_false]
  exact aC ⟨rfl,rfl,fun u E8=>pj u (ck _ E8)⟩
 ·rintro⟨r1,r2⟩ s' ⟨hr,rfl,_⟩
  simp only at hr
  subst hr
  exact aC h
theorem jd(hk:IsTupleKey knd s.heap k a)(BF:∀ k v,knd.is k v=true->v.scannable=true)(h:∀ b,Q b s):wpAny (model prog w) A (hashByValue 8 (.ref a)) Q E s:=by
 have hT:=hk.typeIs
 obtain⟨o,items,n,ho,_,hd,hi⟩:=hk
 have eF':∀ v∈items.toList,v.scannable=true:=by
  clear ho hd
  generalize items.toList=l at hi
  induction hi with
  |nil=>intro v hv;cases hv
  |cons h1 _ ih =>
   intro v hv
   rcases dc.mp hv with rfl|hv
   ·exact BF _ _ h1
   ·exact ih v hv
 unfold hashByValue
 refine ai (wpAny_specialOf hT F.slot_tuple_hash.lookup ?_)
 dsimp only
 refine ai (wpAny_seqItems ho hd ?_)
 dsimp only[Option.getD]
 refine ai ?_
 rw[<- Array.forIn_toList]
 refine wpAny_forIn_list _ (fun rest r s'=>s'=s/\∀ v∈rest,v.scannable=true) _ ?_ ?_ _ _ ⟨rfl,eF'⟩
 ·rintro v rest r s' ⟨rfl,pj⟩
  rw[hashByValue_scannable 7 (pj v cq)]
  refine ai (aC ?_)
  split
  ·exact aC (aC (h _))
  ·exact aC ⟨rfl,fun u E8=>pj u (ck _ E8)⟩
 ·rintro⟨r1,r2⟩ s' ⟨rfl,_⟩
  cases r1 with
  |none=>exact aC (h true)
  |some b=>exact aC (h b)
end
local macro_rules | `(tactic| walk_at $s:str) => do
 let x:=s.getString
 if x.startsWith "PV" then `(tactic| exact $(Lean.mkIdent (.str (.str (.num (.str (.str (.str .anonymous "_private") "PySem") "SetOps") 0) "PySem") (x.drop 2).toString)))
 else Lean.Macro.throwUnsupported
abbrev yS:Array (Int × Value)->Nat->Int:=by walk_at "PVstoredHashAt"
abbrev Dv:Array (Int × Value)->Option (SetTable × Array Nat)->Sem (Array (Int × Value) × SetTable):=by walk_at "PVreordered"
abbrev oM:Array (Int × Value)->SetTable->Bool:=by walk_at "PVdrawn"
abbrev Jg:Array (Int × Value)->SetTable->Sem Unit:=by walk_at "PVmustBeLedForItsPlaces"
def tD:Array (Int × Value)->Nat->Int:=yS
theorem pW(es:Array (Int × Value))(i:Nat):tD es i=(es[i]?.map (·.1)).getD 0:=rfl
section
variable {prog:Program}{w:World}{K:Type}[DecidableEq K]{knd:KeyKind prog w K}{A:Around}{E:Value->Shared->Prop}{s:Shared}
theorem vJ(hk:IsTupleKey knd s.heap k a)(hy:∀ y∈ys,∃ k' b,y=.ref b/\IsTupleKey knd s.heap k' b)(h:Q false s):wpAny (model prog w) A (searchCouldBeSeen (.ref a) ys) Q E s:=by
 unfold searchCouldBeSeen
 refine ai ?_
 refine wpAny_forIn_list _ (fun rest r s'=>r.1=none/\s'=s/\∀ y∈rest,∃ k' b,y=.ref b/\IsTupleKey knd s.heap k' b) _ ?_ ?_ _ _ ⟨rfl,rfl,hy⟩
 ·rintro y rest r s' ⟨hr,rfl,pj⟩
  obtain⟨k',b,rfl,hb⟩:=pj y cq
  have go:∀ (P:Prop),P->P:=fun _ p=>p
  dsimp only
  split
  ·exact aC ⟨rfl,rfl,fun u E8=>pj u (ck _ E8)⟩
  ·refine ai (wpAny_eqIsQuiet_tuple hk ?_)
   simp only[GW,gu,if_false]
   refine ai (wpAny_eqIsQuiet_tuple hb ?_)
   simp only[GW,gu,if_false]
   refine ai (jW hk ?_)
   simp only[gu,if_false]
   refine ai (jW hb ?_)
   simp only[gu,if_false]
   exact aC ⟨rfl,rfl,fun u E8=>pj u (ck _ E8)⟩
 ·rintro⟨r1,r2⟩ s' ⟨hr,rfl,_⟩
  simp only at hr
  subst hr
  exact aC h
theorem Jy{K G:Prop}(pk:K)(h:K->G):G:=h pk
theorem qU{a x:Addr}{k:List K}{ks:List (List K × Addr)}{o:Obj}{es:Array (Int × Value)}{ep:Nat}{t:SetTable}(hu:A.units<cLine)(ho:s.heap.get? a=some o)(hd:o.data=.set es ep t)(T:TI t es)(he:es.toList=ks.map (zU knd))
  (xh:∀ p∈ks,IsTupleKey knd s.heap p.1 p.2) (hx:IsTupleKey knd s.heap k x) {Q:SetFound->Shared->Prop} (Yv:k∈ks.map (·.1)->Q (.there none) s)
  (nf:Nat) (hnf:nf<=10*(t.mask+13)) (DU:taken t.place (J t.mask (aW knd k) nf)=false) (Yw:∀ q<nf,taken t.place (J t.mask (aW knd k) q)=true)
  (DL:k∉ks.map (·.1)->Q (.free (J t.mask (aW knd k) nf) false) s) :
  ∀ (fuel n:Nat) (stand:Option Probe),stand.getD (t.probeStart (aW knd k))=ps t.mask (aW knd k) n->n<=nf->nf<n+fuel ->
   (∀ q<n,∀ p,ks[below t.place (J t.mask (aW knd k) q)]? = some p->p.1≠k)->wpAny (model prog w) A (setSearchFrom a (.ref x) (aW knd k) true fuel stand) Q E s
 |0,n,stand,_,h1,h2,_=>by lia
 |fuel+1,n,stand,kC,h1,h2,hq=>by
  have Uy:∀ i:Nat,es[i]? = (ks[i]?).map (zU knd):=fun i=>by rw[<- mM,he,kQ]
  unfold setSearchFrom
  refine ai (wpAny_setState_of ho hd T.fits ?_)
  dsimp only
  rw[if_neg (by rw[T.odd];exact g9)]
  obtain⟨n',a1,a2,a3,a4⟩:=ug T (tD es) (aW knd k) (10*turns t.mask) n ⟨nf,h1,by unfold turns;lia,DU⟩
  have Sz:n'<=nf:=by
   by_cases z:n'<=nf
   ·exact z
   ·have:=(a3 nf h1 (by exact Nat.lt_of_not_le ‹_›)).1
    rw[DU] at this;cases this
  rcases a4 with⟨c1,c2⟩|⟨c1,c2,c3⟩
  ·have c2:t.probe (tD es) (aW knd k) (stand.getD (t.probeStart (aW knd k)))=some (.empty (J t.mask (aW knd k) n') none):=by rw[kC];exact c2
   have e:n'=nf:=by
    by_cases z:n'<nf
    ·have:=Yw n' z
     rw[c1] at this;cases this
    ·lia
   have c2:t.probe (yS es) (aW knd k) (stand.getD (t.probeStart (aW knd k)))=some (.empty (J t.mask (aW knd k) n') none):=c2
   rw[c2]
   dsimp only
   rw[e]
   refine aC (DL fun hm=>?_)
   obtain⟨p,hp,rfl⟩:=df.mp hm
   obtain⟨i,hi⟩:=LM.mp hp
   have ei:es[i]? = some (aW knd p.1,.ref p.2):=by rw[Uy,hi];rfl
   have Yx:i<t.place.size:=by rw[T.sz];exact(GY.mp ei).1
   obtain⟨ni,b1,b2,b3⟩:=T.path i _ _ ei
   have bt:below t.place (J t.mask (aW knd p.1) ni)=i:=by rw[b2];exact below_at T.up Yx
   have tk:taken t.place (J t.mask (aW knd p.1) ni)=true:=by rw[b2];exact(fL T.up).mpr ⟨i,Yx,rfl⟩
   have dr:ni<nf:=by
    by_cases z:nf<ni
    ·have:=b3 nf z
     rw[DU] at this;cases this
    ·have:ni≠nf:=fun z=>by rw[z,DU] at tk;cases tk
     lia
   by_cases z:ni<n
   ·exact hq ni z p (by rw[bt];exact hi) rfl
   ·refine(a3 ni (by exact LS ‹_›) (by lia)).2 ?_
    rw[bt,pW,ei];rfl
  ·have c3:t.probe (yS es) (aW knd k) (stand.getD (t.probeStart (aW knd k)))=some (.candidate (J t.mask (aW knd k) n') (below t.place (J t.mask (aW knd k) n')) (ps t.mask (aW knd k) (n'+1))):=by rw[kC];exact c3
   rw[c3]
   dsimp only
   have tk:=jM T.up c1
   have OO:t.slot (J t.mask (aW knd k) n')=.live (below t.place (J t.mask (aW knd k) n')):=by rw[T.slot,if_pos c1]
   generalize hi:below t.place (J t.mask (aW knd k) n')=i at tk c2 OO ⊢
   have hil:i<es.size:=by rw[<- T.sz];exact tk.1
   obtain⟨p,hp⟩:∃ p,ks[i]? = some p:=by
    have:i<ks.length:=by
     have:=congrArg List.length he
     simp at this;lia
    exact⟨_,mE this⟩
   have ei:es[i]? = some (aW knd p.1,.ref p.2):=by rw[Uy,hp];rfl
   have E9:=kH hp
   have kf:n'≠nf:=fun z=>by rw[z,DU] at c1;cases c1
   have again:¬ p.1=k->wpAny (model prog w) A (setSearchFrom a (.ref x) (aW knd k) true fuel (some (ps t.mask (aW knd k) (n'+1)))) Q E s:=fun hpk =>
    qU hu ho hd T he xh hx Yv nf hnf DU Yw DL fuel (n'+1) (some (ps t.mask (aW knd k) (n'+1))) rfl (by lia) (by lia) fun q Rk p' js=>by
     by_cases z:q<n
     ·exact hq q z p' js
     ·by_cases z2:q=n'
      ·subst z2
       rw[hi,hp] at js
       cases js
       exact hpk
      ·intro e'
       have:=(a3 q (by exact LS ‹_›) (by lia)).2
       refine this ?_
       rw[pW,Uy,js]
       show aW knd p'.1=_
       rw[e']
   have ay:p.1=k->k∈ks.map (·.1):=fun e=>e ▸ df.mpr ⟨p,E9,rfl⟩
   have seen:∀ y∈List.map (fun x=>x.snd) (Array.filter (fun x=>x.fst == aW knd k) es).toList,∃ k' b,y=.ref b/\IsTupleKey knd s.heap k' b:=fun y hy=>by
    obtain⟨e',QQ,rfl⟩:=df.mp hy
    rw[Array.toList_filter] at QQ
    have:=(vT.mp QQ).1
    rw[he] at this
    obtain⟨p',js,rfl⟩:=df.mp this
    exact⟨p'.1,p'.2,rfl,xh p' js⟩
   refine Jy ?pk (K:=?K) fun key=>?main
   case main =>
    split
    ·refine ai (vJ hx seen ?_)
     rw[if_neg g9]
     exact key
    ·exact key
   rw[ei]
   dsimp only
   refine ai (wpAny_holding (wpAny_eqBool_tuple hu (xh p E9) hx ?_))
   refine ai (wpAny_setState_of ho hd T.fits ?_)
   dsimp only
   by_cases e:p.1=k
   ·rw[if_pos (by simp[e])]
    exact aC (Yv (ay e))
   ·rw[if_neg (by simp[e])]
    have T1:t.sameMemory t.moves t.mask=some true:=by unfold sameMemory;rw[if_pos (by simp)]
    rw[T1]
    dsimp only
    rw[if_pos rfl,OO]
    dsimp only
    rw[ei]
    dsimp only
    refine ai (m:=isSame (.ref p.2) (.ref p.2)) ?_
    unfold isSame
    dsimp only
    rw[if_pos (by simp)]
    refine aC (ai (aC ?_))
    rw[if_pos rfl]
    dsimp only
    rw[if_neg (by simp[e])]
    exact again e
end
theorem ji:∀ {l l2:List β},l.Perm l2->∀ {m:List α},l2=m.map f->∃ m':List α,l=m'.map f/\m'.Perm m:=by
 intro l l2 p
 induction p with
 |nil=>intro m e;exact⟨m,by rw[<- e],.refl _⟩
 |cons x _ ih =>
  intro m e
  cases m with
  |nil=>cases e
  |cons y m =>
   simp only[ft,List.cons.injEq] at e
   obtain⟨m',e1,p1⟩:=ih e.2
   exact⟨y :: m',by rw[ft,<- e1,e.1],p1.cons _⟩
 |swap x y l =>
  intro m e
  match m,e with
  |a :: b :: m,e =>
   simp only[ft,List.cons.injEq] at e
   exact⟨b :: a :: m,by simp[e.1,e.2.1,e.2.2],.swap ..⟩
 |trans _ _ ih1 Ug =>
  intro m e
  obtain⟨m',e1,p1⟩:=Ug e
  obtain⟨m2,e2,p2⟩:=ih1 e1
  exact⟨m2,e2,p2.trans p1⟩
theorem uQ(xs:Array α)(p:Nat)(x:α):(insertAt xs p x).toList=xs.toList.take p++x :: xs.toList.drop p:=by
 unfold insertAt
 simp
 rw[Px (by simp)]
theorem qF(hz:(order.filterMap fun i=>es[i]?).size=es.size)
  (h:Q (order.filterMap fun i=>es[i]?,t) s):wpAny (model prog w) A (Dv es (some (t,order))) Q E s:=by
 show wpAny _ _ (if ((order.filterMap fun i=>es[i]?).size != es.size)=true then (do unsupported "internal:set-table-lost-an-element";pure (order.filterMap fun i=>es[i]?,t)) else pure (order.filterMap fun i=>es[i]?,t)) _ _ _
 rw[if_neg (by simp[hz])]
 exact aC h
section
variable {prog:Program}{w:World}{K:Type}[DecidableEq K]{knd:KeyKind prog w K}{A:Around}{E:Value->Shared->Prop}{s:Shared}
theorem IsTupleKey.fv(hk:IsTupleKey knd h k a)(e:∀ o,h.get? a=some o->h'.get? a=some o):IsTupleKey knd h' k a:=by
 obtain⟨o,items,n,ho,r⟩:=hk
 exact⟨o,items,n,e o ho,r⟩
theorem Kx.ne(S:Kx knd h a ks)(hx:IsTupleKey knd h k x):x≠a:=by
 obtain⟨⟨o,es,ep,t,ho,hex,_⟩,_,_⟩:=S
 obtain⟨o',items,n,nc,hc,_⟩:=hx
 intro z
 subst z
 rw[ho] at nc
 cases nc
 rw[hex.1] at hc
 exact absurd hc (by decide)
theorem HJ(S:Kx knd s.heap a ks)(hx:IsTupleKey knd s.heap k x)(hz:ks.length<1000)(hu:A.units<cLine)(BF:∀ k v,knd.is k v=true->v.scannable=true)
  (h:∀ (b:Bool) (h':Heap) (fm:List (List K × Addr)),Heap.SameBut a s.heap h'->Kx knd h' a fm->(k∈ks.map (·.1)/\fm=ks\/k∉ks.map (·.1)/\fm.Perm ((k,x) :: ks))->Q b { s with heap:=h' }) :
  wpAny (model prog w) A (setAddHashed a (.ref x) (aW knd k)) Q E s:=by
 obtain⟨⟨o,es,ep,t,ho,hex,hd,T,hM,hL,he⟩,nd,is⟩:=id S
 have hlen:es.size=ks.length:=by
  have:=congrArg List.length he
  simpa using this
 obtain⟨m,hm,_⟩:=T.pw
 obtain⟨e0,he0,hf0⟩:=T.free
 obtain⟨nf,n1,n2,n3⟩:=uL hm (aW knd k) (taken t.place) he0 hf0
 unfold setAddHashed setAddHashedIn
 refine wpAny_holding (ai (wpAny_setState_of ho hd T.fits ?_))
 dsimp only
 have hbs:byScan (.ref x) es=false:=by simp[byScan,Value.scannable]
 rw[hbs]
 simp only[gu,if_false]
 refine ai ?_
 unfold setSearch
 refine qU hu ho hd T he is hx (fun ay=>?_) nf n1 n2 n3 (fun mh=>?_) 100000 0 none rfl (eI _) (by lia) fun q hq=>absurd hq (EA q)
 ·dsimp only
  refine aC ?_
  have e:s={ s with heap:=s.heap }:=by cases s;rfl
  rw[e]
  exact h _ _ ks (Heap.SameBut.refl a s.heap) S (.inl ⟨ay,rfl⟩)
 ·dsimp only
  generalize hj:J t.mask (aW knd k) nf=j at n2 ⊢
  have hjm:j<=t.mask:=by rw[<- hj];exact Uv ..
  have hre:Reach t.mask t.place (aW knd k) j:=⟨nf,n1,hj,n3⟩
  refine ai (wpAny_setState_of ho hd T.fits ?_)
  dsimp only
  have eP':t.put j=({ t with place:=insertAt t.place (below t.place j) j,dummies:=#[] },below t.place j):=by
   unfold SetTable.put
   have:has t.dummies j=false:=by rw[T.dm];rfl
   simp only[this,gu,if_false]
   rw[T.dm]
  rw[eP']
  dsimp only
  have ay:(insertAt es (below t.place j) (aW knd k,.ref x)).toList=(ks.take (below t.place j)++(k,x) :: ks.drop (below t.place j)).map (zU knd):=by
   rw[uQ,he,y6,ft,List.map_take,List.map_drop];rfl
  have KG:(ks.take (below t.place j)++(k,x) :: ks.drop (below t.place j)).Perm ((k,x) :: ks):=by
   refine List.perm_middle.trans ?_
   rw[Pz]
  have KL:below t.place j<=es.size:=by rw[<- T.sz];exact(bD T.up j).1
  have AA:(insertAt es (below t.place j) (aW knd k,Value.ref x)).size=es.size+1:=cY _ _ KL
  have hxa:=S.ne hx
  have Yy:∀ h',Heap.SameBut a s.heap h'->∀ fm:List (List K × Addr),fm.Perm ((k,x) :: ks)->∀ p∈fm,IsTupleKey knd h' p.1 p.2:=fun h' sb fm pm p hp=>by
   have:IsTupleKey knd s.heap p.1 p.2:=by
    rcases dc.mp (pm.mem_iff.mp hp) with rfl|hp
    ·exact hx
    ·exact is p hp
   exact IsTupleKey.fv this fun o' nc=>sb.extBut _ _ (S.ne this) nc
  have Yz:∀ fm:List (List K × Addr),fm.Perm ((k,x) :: ks)->(fm.map (·.1)).Nodup:=fun fm pm=>by
   rw[(pm.map _).nodup_iff,ft,kA]
   exact⟨mh,nd⟩
  -- behind the flag
  have main:∀ pl:Bool,wpAny (model prog w) A (do
    storeSet a (insertAt es (below t.place j) (aW knd k,.ref x)) { t with place:=insertAt t.place (below t.place j) j,dummies:=#[],plain:=pl }
    if (!false && ({ t with place:=insertAt t.place (below t.place j) j,dummies:=#[],plain:=pl }:SetTable).tooFull)=true then do
      setRelay a (grown (es.size+1))
      pure true
     else pure true) Q E s:=fun pl=>by
   generalize OQ:({ t with place:=insertAt t.place (below t.place j) j,dummies:=#[],plain:=pl }:SetTable)=t'
   have tm:t'.mask=t.mask:=by rw[<- OQ]
   have tp:t'.place=insertAt t.place (below t.place j) j:=by rw[<- OQ]
   have td:t'.dummies = #[]:=by rw[<- OQ]
   have YB:t'.fill=es.size+1:=by
    unfold SetTable.fill
    rw[tp,td,cY _ _ (bD T.up j).1,T.sz];simp
   refine ai (wpAny_storeSet_of ho hd ?_ (by rw[AA,sizeLine_eq];lia))
   have Ap:(s.heap.update a (Obj.putSet (insertAt es (below t.place j) (aW knd k,.ref x)) t')).get? a=some { o with data:=.set (insertAt es (below t.place j) (aW knd k,.ref x)) (ep+1) t' }:=by
    have:=GA (Obj.putSet (insertAt es (below t.place j) (aW knd k,.ref x)) t') ho (by rw[putSet_of _ _ hd];rfl)
    rw[putSet_of _ _ hd] at this;exact this
   have yv:=Heap.SameBut.update s.heap a (Obj.putSet (insertAt es (below t.place j) (aW knd k,.ref x)) t')
   by_cases c:t'.tooFull=true
   ·rw[if_pos (by rw[c];rfl)]
    have Yj:t'.fits (insertAt es (below t.place j) (aW knd k,Value.ref x)).size=true:=by
     have:=T.few
     simp only[SetTable.fits,YB,lI,beq_iff_eq,decide_eq_true_eq]
     rw[tp,cY _ _ (bD T.up j).1,AA,T.sz,tm]
     exact⟨rfl,by lia⟩
    obtain⟨t2,order,r1,r2,r3,r4,r5,r6,r7,r8,_⟩:=xK (t:=t') (es:=insertAt es (below t.place j) (aW knd k,Value.ref x)) (by lia)
    rw[AA] at r1 r4
    unfold setRelay
    refine ai (ai (wpAny_setState_of Ap rfl Yj ?_))
    dsimp only
    rw[if_neg (by rw[sizeLine_eq];lia)]
    refine ai ?_
    rw[r1]
    obtain⟨fm,ek,pk⟩:=ji r8 ay
    refine qF r7 ?_
    dsimp only
    refine wpAny_storeSet_of Ap rfl ?_ (by rw[r7,AA,sizeLine_eq];lia)
    refine aC ?_
    have KP:=yv.trans (Heap.SameBut.update _ a (Obj.putSet (order.filterMap fun i=>(insertAt es (below t.place j) (aW knd k,Value.ref x))[i]?) t2))
    have qB:=GA (Obj.putSet (order.filterMap fun i=>(insertAt es (below t.place j) (aW knd k,Value.ref x))[i]?) t2) Ap (by rw[putSet_of _ _ rfl];rfl)
    rw[putSet_of _ _ rfl] at qB
    exact h true _ fm KP ⟨⟨_,_,_,_,qB,hex,rfl,r6,r5 (by lia),by rw[r3,<- OQ];exact hL,ek⟩,Yz fm (pk.trans KG),Yy _ KP fm (pk.trans KG)⟩ (.inr ⟨mh,pk.trans KG⟩)
   ·rw[if_neg (by simpa using c)]
    refine aC ?_
    have uk:(es.size+1)*5<t.mask*3:=by
     unfold SetTable.tooFull at c
     rw[YB,tm] at c
     simpa using c
    exact h true _ _ yv ⟨⟨_,_,_,_,Ap,hex,rfl,T.put hjm n2 hre tm tp td uk,by rw[tm];exact hM,by rw[<- OQ];exact hL,ay⟩,Yz _ KG,Yy _ yv _ KG⟩ (.inr ⟨mh,KG⟩)
  split
  ·refine ai (jd hx BF fun b=>?_)
   cases b with
   |true=>exact main t.plain
   |false=>exact main false
  ·exact ai (aC (main t.plain))
end
end TS
namespace TS
open PySem PySem.SetTable PyProof.Rows
section
variable {prog:Program}{w:World}{A:Around}{R:Result->Shared->Prop}{I:Addr}{fp wr:List Addr}{n:Nat}{P:Nat->Value->Prop}{St:Nat->Heap->Prop}
theorem yZ(W:Walks prog w A.in1 I fp wr n P St)(S:Addr)(Fc:S∉fp)(SI:Nat->Heap->Prop)(keep:∀ i h h',SI i h->(∀ b o,b∉wr->h.get? b=some o->h'.get? b=some o)->SI i h')
  (step:∀ (i:Nat) (v:Value) (s':Shared) (E':Value->Shared->Prop) (Q:Bool->Shared->Prop),P i v->SI i s'.heap->(∀ b h' tk,Heap.SameBut S s'.heap h'->SI (i+1) h'->Q b { s' with heap:=h',toks:=tk })->wpAny (model prog w) A.in1 (setAdd S v) Q E' s') :
  ∀ (k i:Nat) (s:Shared),n-i=k->i<=n->St i s.heap->SI i s.heap ->
   (∀ h' tk,SI n h'->(∀ b o,b∉wr->b≠S->s.heap.get? b=some o->h'.get? b=some o)->R (.ok (.ret .none)) { s with heap:=h',toks:=tk }) ->
   codeAny (model prog w) A (.builtin "set.update.loop" ⟨[.ref S,.ref I],[]⟩) R s:=by
 have hSw:S∉wr:=fun h=>Fc (W.sub _ h)
 intro k
 induction k with
 |zero =>
  intro i s hk hi kC hS hR
  have ay:i=n:=by lia
  subst ay
  refine codeAny_builtin F.entry_set_update_loop ?_
  rw[Around.under_plainId F.plain_set_update_loop _]
  show wpAny _ A.in1 (pyNext (.ref I) >>= _) _ _ s
  refine ai (W.done s _ _ kC fun h' tk ja=>?_)
  show wpAny _ A.in1 (ret Value.none) _ _ _
  exact aC (hR h' tk (keep _ _ _ hS ja) fun b o hb _ e=>ja b o hb e)
 |succ k ih =>
  intro i s hk hi kC hS hR
  have dr:i<n:=by lia
  refine codeAny_builtin F.entry_set_update_loop ?_
  rw[Around.under_plainId F.plain_set_update_loop _]
  show wpAny _ A.in1 (pyNext (.ref I) >>= _) _ _ s
  refine ai (W.item i s _ _ dr kC fun v h' tk hP eQ' ja=>?_)
  show wpAny _ A.in1 (holding [v] (setAdd S v) >>= _) _ _ _
  refine ai (wpAny_holding (step i v _ _ _ hP (keep _ _ _ hS ja) fun b h2 Rl sb hS2=>?_))
  refine aC ⟨plainId_quiet F.plain_set_update_loop _,ih (i+1) _ (by lia) dr (W.frame _ _ _ eQ' fun b hb o e=>?_) hS2 fun h3 tk3 hS3 EZ=>?_⟩
  ·exact sb.extBut b o (fun z=>Fc (by rw[<- z];exact hb)) e
  ·exact hR h3 tk3 hS3 fun b o hb OS e=>EZ b o hb OS (sb.extBut b o OS (ja b o hb e))
end
section
variable {prog:Program}{w:World}{A:Around}{E:Value->Shared->Prop}{s:Shared}
theorem yR(a:Value)
  (h:Q₁ (.ref s.heap.objs.size) { s with heap:=s.heap.push { cls:=.type "set",dict:=none,data:=.set #[] 0 (.fresh 0 0 (!w.params.followText "set-order")) } }) :
  codeAny (model prog w) A (.call (.builtin "set.__new__") ⟨[.type "set",a],[]⟩) (wants Q₁ E) s:=by
 refine codeAny_of_tree ?_
 show wpAny _ A.in1 (do checkBuiltinCall "set.__new__" ⟨[.type "set",a],[]⟩;again (.builtin "set.__new__" ⟨[.type "set",a],[]⟩)) _ _ s
 refine ai (wpAny_of_eq (F.newCall_set_1 a) (aC ⟨plainId_quiet F.plain_set_new _,codeAny_builtin F.entry_set_new ?_⟩))
 rw[Around.under_plainId F.plain_set_new _]
 unfold Builtin.«set.__new__» Builtin.Frozenset.newClass
 have Fh:=sub_set_self
 obtain⟨hp,g,d,tk,os⟩:=s
 dsimp only
 wp_walk
 refine wpAny_askSetting (aC ?_)
 dsimp only
 simp only[newObj]
 refine ai (wpAny_alloc (aC ?_))
 exact aC h
theorem pU(hh:A.handled=none)(hl:s.heap.IsList l items)(SI:Nat->Heap->Prop)
  (h0:∀ h,h.get? s.heap.objs.size=some { cls:=.type "set",dict:=none,data:=.set #[] 0 (.fresh 0 0 (!w.params.followText "set-order")) }->(∀ b o,s.heap.get? b=some o->h.get? b=some o)->SI 0 h)
  (keep:∀ i h h',SI i h->(∀ b o,b<=s.heap.objs.size->h.get? b=some o->h'.get? b=some o)->SI i h')
  (step:∀ (i:Nat) (v:Value) (s':Shared) (E':Value->Shared->Prop) (Q:Bool->Shared->Prop),items[i]? = some v->SI i s'.heap->(∀ b h' tk,Heap.SameBut s.heap.objs.size s'.heap h'->SI (i+1) h'->Q b { s' with heap:=h',toks:=tk }) ->
   wpAny (model prog w) A.in1.in1.in1 (setAdd s.heap.objs.size v) Q E' s')
  (h:∀ (h':Heap) (tk:Nat),SI items.size h'->(∀ b o,b<s.heap.objs.size->s.heap.get? b=some o->h'.get? b=some o)->Q (.ref s.heap.objs.size) { s with heap:=h',toks:=tk }) :
  wpAny (model prog w) A (call (.type "set") [.ref l]) Q E s:=by
 obtain⟨c,tl,iz'⟩:=F.called_set.mro
 have iA':=F.called_set.made
 have Fh:=F.called_set.sub
 refine wpAny_call (codeAny_of_tree ?_)
 show wpAny _ _ (callAny (.type "set") _) _ _ _
 refine aC ⟨Code.quiet_builtin _ (by decide +kernel),codeAny_builtin F.entry_type_call ?_⟩
 rw[Around.under_plain (weight_type_call_type "set" [.ref l] []) rfl]
 have h1:=F.called_set.notType
 have h2:=F.called_set.canCreate
 have hct:=F.typeCall_set_1 (.ref l)
 repeat (any_goals (first|assumption|wp_step))
 refine codeAny_mono (yR (.ref l) (E:=E) (Q₁:=fun obj dS=>obj=.ref s.heap.objs.size/\dS={ s with heap:=s.heap.push { cls:=.type "set",dict:=none,data:=.set #[] 0 (.fresh 0 0 (!w.params.followText "set-order")) } }) ⟨rfl,rfl⟩) fun r dS hr=>?_
 cases r with
 |error e=>exact hr
 |ok fl =>
  cases fl with
  |ret obj =>
   obtain⟨rfl,rfl⟩:=hr
   generalize iC':(!w.params.followText "set-order")=led at h0 ⊢
   have hS:(s.heap.push { cls:=.type "set",dict:=none,data:=.set #[] 0 (.fresh 0 0 led) }).get? s.heap.objs.size=some { cls:=.type "set",dict:=none,data:=.set #[] 0 (.fresh 0 0 led) }:=i3 _ rfl
   have hT:Shared.TypeIs { s with heap:=s.heap.push { cls:=.type "set",dict:=none,data:=.set #[] 0 (.fresh 0 0 led) } } (.ref s.heap.objs.size) "set" := ⟨_,hS,rfl⟩
   have hli:=F.called_set.init.lookup
   have hbi:=F.called_set.init.bind (.ref s.heap.objs.size)
   repeat (any_goals (first|assumption|wp_step))
   refine codeAny_mono (codeAny_call_builtin (R:=wants (fun r EI=>r=.none/\∃ h' tk,EI={ s with heap:=h',toks:=tk }/\SI items.size h' /\
     (∀ b o,b<s.heap.objs.size->s.heap.get? b=some o->h'.get? b=some o)) E) F.called_set.init.plain F.entry_set_init (check_set_init_1 hT ?_)) fun eU' EI Uz=>?_
   ·obtain⟨ol,YC,ve,nl,YD⟩:=hl
    obtain⟨iF',eV',iG',eW'⟩:=ol
    simp only at ve YD
    subst ve;subst YD
    have eX':(s.heap.push { cls:=.type "set",dict:=none,data:=.set #[] 0 (.fresh 0 0 led) }).get? l=some { cls:=.type "list",dict:=eV',data:=.seq items nl,slots:=eW' }:=eS _ YC
    have iH':=F.sub_list_set
    have iI':=F.sub_list_frozenset
    have kf:(Value.type "list" == Value.type "dict")=false:=by decide
    have IL:(s.heap.push { cls:=.type "set",dict:=none,data:=.set #[] 0 (.fresh 0 0 led) }).IsList l items:=⟨_,eX',rfl,nl,rfl⟩
    unfold Builtin.«set.__init__» noKeywords Builtin.Frozenset.updateFrom
    generalize hPI:pyIter=PI
    wp_walk
    subst hPI
    refine wpAny_pyIter_list IL ?_
    refine ai (wpAny_runValue ?_)
    have YF:l<s.heap.objs.size:=dv YC
    have hh3:A.in1.in1.in1.handled=none:=by simp[hh]
    have hsz:(s.heap.push { cls:=.type "set",dict:=none,data:=.set #[] 0 (.fresh 0 0 led) }).objs.size=s.heap.objs.size+1:=Heap.size_push ..
    have fa':l≠(s.heap.push { cls:=.type "set",dict:=none,data:=.set #[] 0 (.fresh 0 0 led) }).objs.size:=by
     rw[hsz];exact eT (tS YF)
    have Fc:s.heap.objs.size∉[(s.heap.push { cls:=.type "set",dict:=none,data:=.set #[] 0 (.fresh 0 0 led) }).objs.size,l]:=by
     rw[hsz];simp only[dc,kP,CY,or_false,not_or]
     exact⟨eT (Nat.lt_succ_self _),LW YF⟩
    refine yZ (Walks.list hh3 _ l fa' items) s.heap.objs.size Fc SI (fun i h h' hi hk=>keep i h h' hi fun b o hb e=>hk b o ?_ e) (fun i v s' E' Q' hP hi hq=>step i v s' E' Q' hP hi hq) (items.size-0) 0 _ (by lia) (eI _)
     ⟨⟨_,i3 _ rfl,rfl,rfl⟩,(IL.push _)⟩ ?hS0 ?hR
    ·rw[hsz]
     simp only[dc,CY,or_false]
     exact eT (GL hb)
    case hS0 =>
     exact h0 _ (eS _ hS) fun b o e=>eS _ (eS _ e)
    case hR =>
     intro h' OU OV ja
     show wpAny _ _ _ _ _ _
     refine aC ?_
     show wpAny _ _ (ret Value.none) _ _ _
     refine aC ⟨rfl,h',OU,rfl,OV,fun b o hb e=>?_⟩
     refine ja b o ?_ (eT hb) (eS _ (eS _ e))
     rw[hsz]
     simp only[dc,CY,or_false]
     exact eT (tS hb)
   ·cases eU' with
    |error e=>exact Uz
    |ok fd' =>
     cases fd' with
     |ret r =>
      obtain⟨rfl,h',tk,rfl,OV,ja⟩:=Uz
      repeat (any_goals (first|assumption|wp_step))
      exact h _ _ OV ja
     |_=>exact Uz.elim
  |_=>exact hr.elim
end
theorem qy:Manifest.owners.lookup (String.ofList ['r','o','t','a','r','e','t','i','_','t','e','s'].reverse)=some Manifest.sig_set_iterator:=by kernel_rfl
theorem bU:Slot "set_iterator" "__next__" "set_iterator.__next__" :=
 .of (owner := "set_iterator") (n := "__next__") (by rw[typeLookup_type,builtinLookup_eq_fast];kernel_rfl) (by decide +kernel) (by decide +kernel) (by decide +kernel)
  (by first|exact .inl (by decide +kernel)|exact .inr (by decide +kernel)) (by rw[isSubtype_type];kernel_rfl)
theorem lV:entryFor table "set_iterator.__next__" = some Builtin.«set_iterator.__next__» := entryFor_of_tree (by kernel_rfl)
theorem pC (a:Value):argsOk "set_iterator.__next__" ⟨[a],[]⟩:=by
 unfold argsOk;rw[signature?_of (id := "set_iterator.__next__") (n:=['_','_','t','x','e','n','_','_']) (o:=['r','o','t','a','r','e','t','i','_','t','e','s']) (by kernel_rfl) qy];kernel_rfl
theorem iC:Slot "set_iterator" "__iter__" "set_iterator.__iter__" :=
 .of (owner := "set_iterator") (n := "__iter__") (by rw[typeLookup_type,builtinLookup_eq_fast];kernel_rfl) (by decide +kernel) (by decide +kernel) (by decide +kernel)
  (by first|exact .inl (by decide +kernel)|exact .inr (by decide +kernel)) (by rw[isSubtype_type];kernel_rfl)
theorem l_:entryFor table "set.__iter__" = some Builtin.«frozenset.__iter__» :=
 entryFor_alias (id' := "frozenset.__iter__") (by kernel_rfl) rfl (by decide +kernel) (by kernel_rfl)
theorem jc:∀ (l:List α) (i:Nat) (h:i<l.length),(l[i] :: l.eraseIdx i).Perm l
 |x :: l,0,_=>.refl _
 |x :: l,i+1,h=>by
  have ih:=jc l i (by simpa using h)
  exact(List.Perm.swap _ _ _).trans (ih.cons x)
theorem wK(next:Nat->Nat):∀ (fuel k:Nat) (left:List α) (out:Array α),left.length=fuel->(pickOrder.go next fuel k left out).toList.Perm (out.toList++left)
 |0,k,left,out,h=>by
  have:left=[]:=Pu.mp h
  subst this
  unfold pickOrder.go
  rw[oP]
 |fuel+1,k,left,out,h=>by
  unfold pickOrder.go
  have dr:next k % left.length<left.length:=GV _ (by lia)
  rw[mE dr]
  dsimp only
  refine(wK next fuel (k+1) _ _ (by rw[PC];split<;>lia)).trans ?_
  rw[oi,xl]
  refine List.Perm.append_left _ ?_
  exact jc _ _ dr
theorem jX(next:Nat->Nat)(xs:Array α):(pickOrder next xs).toList.Perm xs.toList:=by
 unfold pickOrder
 have:=wK next xs.size 0 xs.toList #[] (by simp)
 simpa using this
section
variable {prog:Program}{w:World}{A:Around}{E:Value->Shared->Prop}{s:Shared}
theorem pM(hn:n≠0)(h:∀ i d,i<n->Q i { s with drawn:=d }):wpAny M A (choose src n) Q E s:=fun Γ p _=>⟨hn,h _ _ (GV _ (Nat.pos_of_ne_zero hn))⟩
theorem Dr(n:Nat):∀ (xs:List α) (s:Shared) (Q:List α->Shared->Prop),xs.length=n->(∀ ys d,ys.Perm xs->Q ys { s with drawn:=d })->wpAny (model prog w) A (drawOrder n xs) Q E s:=by
 induction n with
 |zero =>
  intro xs s Q h q
  have:xs=[]:=Pu.mp h
  subst this
  unfold drawOrder
  exact aC (q [] s.drawn (.refl _))
 |succ n ih =>
  intro xs s Q h q
  cases xs with
  |nil=>cases h
  |cons x xs =>
   unfold drawOrder
   refine ai (pM (by simp) fun i d hi=>?_)
   rw[mE hi]
   dsimp only
   refine ai (ih _ _ _ (by rw[PC,if_pos hi];simp at h ⊢;lia) fun ys d' py=>?_)
   refine aC ?_
   exact q _ d' ((py.cons _).trans (jc _ _ hi))
def rz(h:Heap)(I:Addr)(first:Value)(i:Nat)(a:Addr)(n ep:Nat):Prop :=
 h.get? I=some { cls:=.type "set_iterator",dict:=none,data:=.fields #[first,.int i 0,.ref a,.int n 0,.int ep 0],slots:=#[] }
def AJ(h:Heap)(a:Addr)(es:Array (Int × Value))(ep:Nat)(t:SetTable):Prop:=∃ o,h.get? a=some o/\o.data=.set es ep t
variable {a I:Addr}{es:Array (Int × Value)}{ep:Nat}{t:SetTable}{first:Value}{i n:Nat}
theorem rz.typeIs (h:rz s.heap I first i a n ep):s.TypeIs (.ref I) "set_iterator" := ⟨_,h,rfl⟩
theorem wI(hit:rz s.heap I first i a n ep)
  (h:wpAny (model prog w) A.in1 (Builtin.«set_iterator.__next__» ⟨[.ref I],[]⟩) (fun fin s'=>∃ v,fin=.done (.ret v)/\Q (some v) s') (fun e s'=>wpAny (model prog w) A (isInstance e (.type "StopIteration")) (fun b DJ=>b=true/\Q none DJ) E s') s) :
  wpAny (model prog w) A (pyNext (.ref I)) Q E s:=by
 unfold pyNext
 refine ai (wpAny_attempt (wpAny_callSpecial?_slot (name:=Str.ofString "__next__") hit.typeIs bU
  (wpAny_call_entry bU hit.typeIs lV ?_ (pC _))))
 refine qf h (fun fin s' ⟨v,e,q⟩=>⟨v,e,aC q⟩) fun e s' q=>?_
 refine ai (qf q (fun b DJ dk=>?_) fun _ _ x=>x)
 obtain⟨e,q⟩:=dk
 subst e
 rw[if_pos rfl]
 exact aC q
theorem xV{P:Fin->Shared->Prop}{Q:Option Value->Shared->Prop}(hh:A.handled=none)(hQ:∀ h',(∀ b o,s.heap.get? b=some o->h'.get? b=some o)->Q none { s with heap:=h' }) :
  wpAny (model prog w) A.in1 (newExc (.type "StopIteration") [] >>= fun e=>raiseNew e) P (fun e s'=>wpAny (model prog w) A (isInstance e (.type "StopIteration")) (fun b DJ=>b=true/\Q none DJ) E s') s:=by
 refine ai ?_
 simp only[newExc,newTuple]
 refine ai (wpAny_newObj_type ?_ (by size_fits))
 refine ai (m:=firstArgMember _ _) (wpAny_of_eq (a:=Value.none) (by first|rfl|(simp only[firstArgMember];rfl)) ?_)
 refine wpAny_newObj_type ?_ (by size_fits)
 simp only[raiseNew]
 refine ai (wpAny_handled ?_)
 rw[show A.in1.handled=none from hh]
 refine ai (aC (wpAny_throw ?_))
 refine wpAny_isInstance (T := "StopIteration") (b:=true) ⟨_,i3 _ rfl,rfl⟩ isSubtype_stop ⟨rfl,?_⟩
 exact hQ _ fun b o e=>eS _ (eS _ e)
theorem g_{Q:Option Value->Shared->Prop}{slot:Nat}{r:Option (Value × Nat)}(hh:A.handled=none)(kf:a≠I)(hit:rz s.heap I (.int slot 0) i a es.size ep)(xi:AJ s.heap a es ep t)(hf:t.fits es.size=true)
  (hr:∀ (A':Around) (E':Value->Shared->Prop) (Q':Option (Value × Nat)->Shared->Prop),Q' r s->wpAny (model prog w) A' (setNext a slot i ep) Q' E' s)
  (h1:∀ x nx h',r=some (x,nx)->rz h' I (.int nx 0) (i+1) a es.size ep->Heap.SameBut I s.heap h'->Q (some x) { s with heap:=h' })
  (h2:∀ h',r=none->(∀ b o,b≠I->s.heap.get? b=some o->h'.get? b=some o)->Q none { s with heap:=h' }) :
  wpAny (model prog w) A (pyNext (.ref I)) Q E s:=by
 obtain⟨o,ho,hd⟩:=xi
 refine wI hit ?_
 unfold Builtin.«set_iterator.__next__»
 refine ai (m:=slotArgs "__next__" 0 ⟨[.ref I],[]⟩) (wpAny_of_eq (a:=(.ref I,[])) rfl ?_)
 dsimp only
 refine ai (wpAny_fieldsOf hit rfl ?_)
 dsimp only
 refine ai (wpAny_setEntries_of ho hd hf ?_)
 rw[if_neg (by simp)]
 simp only[G0]
 refine ai (hr _ _ _ ?_)
 cases r with
 |some p =>
  obtain⟨x,nx⟩:=p
  dsimp only
  refine ai (wpAny_setField_rec hit (by simp) fun g1 e1 yv=>?_)
  refine ai (wpAny_setField_rec (s:={ s with heap:=g1 }) e1 (by simp) fun g2 e2 KP=>?_)
  exact aC ⟨x,rfl,h1 x nx g2 rfl (by unfold rz;simpa[rawInt] using e2) (yv.trans KP)⟩
 |none =>
  dsimp only
  refine ai (wpAny_setField_rec hit (by simp) fun g1 e1 yv=>?_)
  exact xV (s:={ s with heap:=g1 }) hh fun h' k=>h2 h' rfl fun b o hb e=>k b o (yv.extBut b o hb e)
theorem mR{Q:Option Value->Shared->Prop}{T:Addr}{ix:List Nat}{oT:Obj}{kT:Nat}(hh:A.handled=none)(hit:rz s.heap I (.ref T) i a es.size ep)(xi:AJ s.heap a es ep t)(hf:t.fits es.size=true)
  (hT:s.heap.get? T=some oT) (hTd:oT.data=.seq (ix.map fun(k:Nat)=>Value.int k 0).toArray kT)
  (h1:∀ k e h',ix[i]? = some k->es[k]? = some e->rz h' I (.ref T) (i+1) a es.size ep->Heap.SameBut I s.heap h'->Q (some e.2) { s with heap:=h' }) (w4:∀ k∈ix,k<es.size)
  (h2:∀ h',ix[i]? = none->(∀ b o,b≠I->s.heap.get? b=some o->h'.get? b=some o)->Q none { s with heap:=h' }) :
  wpAny (model prog w) A (pyNext (.ref I)) Q E s:=by
 obtain⟨o,ho,hd⟩:=xi
 refine wI hit ?_
 unfold Builtin.«set_iterator.__next__»
 refine ai (m:=slotArgs "__next__" 0 ⟨[.ref I],[]⟩) (wpAny_of_eq (a:=(.ref I,[])) rfl ?_)
 dsimp only
 refine ai (wpAny_fieldsOf hit rfl ?_)
 dsimp only
 refine ai (wpAny_setEntries_of ho hd hf ?_)
 rw[if_neg (by simp)]
 refine ai (wpAny_seqItems hT hTd ?_)
 dsimp only
 simp only[G0,List.getElem?_toArray,kQ]
 cases hk:ix[i]? with
 |some k =>
  dsimp only[Option.map]
  have kG:=w4 k (kH hk)
  refine ai ?_
  unfold setNextDrawn
  refine ai (wpAny_setState_of ho hd hf ?_)
  dsimp only
  simp only[G0]
  rw[if_neg (by simp),y9 kG]
  refine aC ?_
  refine ai (wpAny_setField_rec hit (by simp) fun g1 e1 yv=>?_)
  exact aC ⟨_,rfl,h1 k es[k] g1 hk (y9 kG) (by unfold rz;simpa[rawInt] using e1) yv⟩
 |none =>
  dsimp only[Option.map]
  refine ai (wpAny_setField_rec hit (by simp) fun g1 e1 yv=>?_)
  refine ai (wpAny_setField_rec (s:={ s with heap:=g1 }) e1 (by simp) fun g2 e2 KP=>?_)
  exact xV (s:={ s with heap:=g2 }) hh fun h' k=>h2 h' hk fun b o hb e=>k b o ((yv.trans KP).extBut b o hb e)
theorem oY (a:Value):argsOk "set_iterator.__iter__" ⟨[a],[]⟩:=by
 unfold argsOk;rw[signature?_of (id := "set_iterator.__iter__") (n:=['_','_','r','e','t','i','_','_']) (o:=['r','o','t','a','r','e','t','i','_','t','e','s']) (by kernel_rfl) qy];kernel_rfl
theorem lU:entryFor table "set_iterator.__iter__" = some Builtin.«dict_keyiterator.__iter__» :=
 entryFor_alias (id' := "dict_keyiterator.__iter__") (by kernel_rfl) rfl (by decide +kernel) (by kernel_rfl)
theorem lO(hit:rz s.heap I first i a n ep)(h:Q (.ref I) s):wpAny (model prog w) A (pyIter (.ref I)) Q E s:=by
 refine wpAny_pyIter_slot hit.typeIs iC (wpAny_call_entry iC hit.typeIs lU ?_ (oY _))
 show wpAny _ _ (ret (.ref I)) _ _ s
 exact aC ⟨_,rfl, "set_iterator",_,hit.typeIs,bU.lookup,h⟩
theorem pO {slot:Nat} {Q:Option (Value × Nat)->Shared->Prop} (hb:w.params.followText "set-order" = true) (xi:AJ s.heap a es ep t) (hf:t.fits es.size=true)
  (h:Q (((pickOrder (w.params.setOrder a ep) es)[i]?).map fun e=>(e.2,slot)) s):wpAny (model prog w) A (setNext a slot i ep) Q E s:=by
 obtain⟨o,ho,hd⟩:=xi
 unfold setNext
 refine ai (wpAny_setState_of ho hd hf ?_)
 dsimp only
 unfold setsByText
 refine ai (ai (wpAny_askSetting (aC ?_)))
 dsimp only
 rw[if_pos (by exact hb),if_neg (by simp)]
 refine ai ?_
 unfold setWalk
 refine ai (wpAny_setState_of ho hd hf ?_)
 dsimp only
 unfold setsByText
 refine ai (ai (wpAny_askSetting (aC ?_)))
 dsimp only
 rw[if_pos (by exact hb)]
 refine ai (wpAny_askSetting (aC ?_))
 exact aC h
theorem m9 {slot:Nat} {Q:Option (Value × Nat)->Shared->Prop} (hb:w.params.followText "set-order" = false) (hl:t.led=true) (KW:(!t.plain && decide (es.size>1))=false) (xi:AJ s.heap a es ep t) (hf:t.fits es.size=true)
  (h:Q (match es[below t.place slot]?,t.place[below t.place slot]? with
  |some (_,x),some j=>some (x,j+1)
  |_,_=>none) s):wpAny (model prog w) A (setNext a slot i ep) Q E s:=by
 obtain⟨o,ho,hd⟩:=xi
 unfold setNext
 refine ai (wpAny_setState_of ho hd hf ?_)
 dsimp only
 unfold setsByText
 refine ai (ai (wpAny_askSetting (aC ?_)))
 dsimp only
 rw[if_neg (by rw[show(model prog w).w.params.followText "set-order" = false from hb];exact g9)]
 have e0:oM es t=(!t.plain && decide (es.size>1)):=rfl
 unfold oM at e0
 rw[e0,KW,if_neg g9]
 refine ai (m:=Jg es t) ?_
 show wpAny _ _ (if (!t.led && !es.isEmpty)=true then unsupported "set:maker-not-led" else pure ()) _ _ s
 rw[if_neg (by rw[hl];simp)]
 exact aC (aC h)
def PV(ys:List (Int × Value))(i:Nat)(v:Value):Prop:=∃ e,ys[i]? = some e/\v=e.2
theorem rz.keep(x:rz h I first i a n ep)(e:∀ o,h.get? I=some o->h'.get? I=some o):rz h' I first i a n ep:=e _ x
theorem AJ.keep(x:AJ h a es ep t)(e:∀ o,h.get? a=some o->h'.get? a=some o):AJ h' a es ep t:=let ⟨o,ho,r⟩:=x;⟨o,e _ ho,r⟩
theorem wj (hh:A.handled=none) (kf:a≠I) (hb:w.params.followText "set-order" = true) (hf:t.fits es.size=true) :
  Walks prog w A I [I,a] [I] es.size (PV (pickOrder (w.params.setOrder a ep) es).toList) (fun i h=>(∃ slot:Nat,rz h I (.int slot 0) i a es.size ep)/\AJ h a es ep t) where
 sub:=fun b hb=>by simp at hb;simp[hb]
 frame:=fun _ _ _ ⟨⟨sl,x⟩,y⟩ hk=>⟨⟨sl,x.keep fun o e=>hk I (by simp) o e⟩,y.keep fun o e=>hk a (by simp) o e⟩
 item:=fun i s Q E hi ⟨⟨sl,x⟩,y⟩ hQ=>by
  have hlen:(pickOrder (w.params.setOrder a ep) es).size=es.size:=by
   have:=(jX (w.params.setOrder a ep) es).length_eq
   simpa using this
  refine g_ hh kf x y hf (r:=((pickOrder (w.params.setOrder a ep) es)[i]?).map fun e=>(e.2,sl)) (fun A' E' Q' q=>pO hb y hf q) (fun v nx h' e x' sb=>?_) fun h' e k=>?_
  ·rw[y9 (by lia)] at e
   cases e
   exact hQ _ h' s.toks ⟨_,by rw[mM];exact y9 (by lia),rfl⟩ ⟨⟨_,x'⟩,y.keep fun o e=>sb.extBut _ _ kf e⟩ fun b o hb e=>sb.extBut b o (fun h=>hb (by simp[h])) e
  ·rw[y9 (by lia)] at e
   cases e
 done:=fun s Q E ⟨⟨sl,x⟩,y⟩ hQ=>by
  have hlen:(pickOrder (w.params.setOrder a ep) es).size=es.size:=by
   have:=(jX (w.params.setOrder a ep) es).length_eq
   simpa using this
  refine g_ hh kf x y hf (r:=((pickOrder (w.params.setOrder a ep) es)[es.size]?).map fun e=>(e.2,sl)) (fun A' E' Q' q=>pO hb y hf q) (fun v nx h' e x' sb=>?_) fun h' e k=>?_
  ·rw[DC (by lia)] at e
   cases e
  ·exact hQ h' s.toks fun b o hb e=>k b o (fun h=>hb (by simp[h])) e
 self:=fun _ _ _ _ ⟨⟨sl,x⟩,y⟩ hQ=>lO x hQ
def slotAt(t:SetTable):Nat->Nat
 |0=>0
 |i+1=>t.place.getD i 0+1
theorem jw(U:Up t.place)(h:i<=t.place.size):below t.place (slotAt t i)=i:=by
 cases i with
 |zero =>
  obtain⟨_,b,_⟩:=bD U 0
  by_cases z:below t.place 0=0
  ·exact z
  ·exact absurd (b 0 (Nat.pos_of_ne_zero z)) (EA _)
 |succ i=>exact uR U (by lia)
theorem vy (hh:A.handled=none) (kf:a≠I) (hb:w.params.followText "set-order" = false) (hl:t.led=true) (KW:(!t.plain && decide (es.size>1))=false) (U:Up t.place) (hz:t.place.size=es.size) (hf:t.fits es.size=true) :
  Walks prog w A I [I,a] [I] es.size (PV es.toList) (fun i h=>rz h I (.int (slotAt t i:Nat) 0) i a es.size ep/\AJ h a es ep t) where
 sub:=fun b hb=>by simp at hb;simp[hb]
 frame:=fun _ _ _ ⟨x,y⟩ hk=>⟨x.keep fun o e=>hk I (by simp) o e,y.keep fun o e=>hk a (by simp) o e⟩
 item:=fun i s Q E hi ⟨x,y⟩ hQ=>by
  have KL:=jw (t:=t) U (i:=i) (by lia)
  have e1:es[below t.place (slotAt t i)]? = some es[i]:=by rw[KL];exact y9 hi
  have e2:t.place[below t.place (slotAt t i)]? = some (t.place.getD i 0):=by rw[KL];exact yu (by lia)
  refine g_ hh kf x y hf (r:=some (es[i].2,t.place.getD i 0+1)) (fun A' E' Q' q=>m9 hb hl KW y hf (by rw[e1,e2];exact q)) (fun v nx h' e x' sb=>?_) fun h' e k=>nomatch e
  cases e
  exact hQ _ h' s.toks ⟨_,by rw[mM];exact y9 hi,rfl⟩ ⟨x',y.keep fun o e=>sb.extBut _ _ kf e⟩ fun b o hb e=>sb.extBut b o (fun h=>hb (by simp[h])) e
 done:=fun s Q E ⟨x,y⟩ hQ=>by
  have KL:=jw (t:=t) U (i:=es.size) (by lia)
  have e1:es[below t.place (slotAt t es.size)]? = none:=by rw[KL];exact DC (bT _)
  refine g_ hh kf x y hf (r:=none) (fun A' E' Q' q=>m9 hb hl KW y hf (by rw[e1];exact q)) (fun v nx h' e x' sb=>nomatch e) fun h' e k=>?_
  exact hQ h' s.toks fun b o hb e=>k b o (fun h=>hb (by simp[h])) e
 self:=fun _ _ _ _ ⟨x,y⟩ hQ=>lO x hQ
theorem uJ{T:Addr}{ix:List Nat}{kT:Nat}(hh:A.handled=none)(kf:a≠I)(hTI:T≠I)(hf:t.fits es.size=true)(hp:ix.Perm (List.range es.size)) :
  Walks prog w A I [I,a,T] [I] es.size (PV (ix.filterMap fun k=>es[k]?)) (fun i h=>rz h I (.ref T) i a es.size ep/\AJ h a es ep t/\∃ o,h.get? T=some o/\o.data=.seq (ix.map fun(k:Nat)=>Value.int k 0).toArray kT):=by
 have hlen:ix.length=es.size:=by simpa using hp.length_eq
 have w4:∀ k∈ix,k<es.size:=fun k hk=>mI.mp (hp.mem_iff.mp hk)
 obtain⟨f1,f2⟩:=uA (l:=ix) (f:=fun k=>es[k]?) fun k hk=>by simp[w4 k hk]
 exact {
  sub:=fun b hb=>by simp at hb;simp[hb]
  frame:=fun _ _ _ ⟨x,y,o,z,zd⟩ hk=>⟨x.keep fun o e=>hk I (by simp) o e,y.keep fun o e=>hk a (by simp) o e,o,hk T (by simp) o z,zd⟩
  item:=fun i s Q E hi ⟨x,y,o,z,zd⟩ hQ=>by
   refine mR hh x y hf z zd (fun k e h' e1 e2 x' sb=>?_) w4 fun h' e k=>?_
   ·refine hQ _ h' s.toks ⟨e,by rw[f2,e1];exact e2,rfl⟩ ⟨x',y.keep fun o e=>sb.extBut _ _ kf e,o,sb.extBut _ _ hTI z,zd⟩ fun b o hb e=>sb.extBut b o (fun h=>hb (by simp[h])) e
   ·rw[mE (by lia)] at e;cases e
  done:=fun s Q E ⟨x,y,o,z,zd⟩ hQ=>by
   refine mR hh x y hf z zd (fun k e h' e1 e2 x' sb=>?_) w4 fun h' e k=>?_
   ·rw[tP (by lia)] at e1;cases e1
   ·exact hQ h' s.toks fun b o hb e=>k b o (fun h=>hb (by simp[h])) e
  self:=fun _ _ _ _ ⟨x,_⟩ hQ=>lO x hQ }
end
section
variable {prog:Program}{w:World}{A:Around}{E:Value->Shared->Prop}{s:Shared}{a:Addr}{o:Obj}{es:Array (Int × Value)}{ep:Nat}{t:SetTable}
theorem Ay (hh:A.handled=none) (ho:s.heap.get? a=some o) (hex:o.ExactSet) (hd:o.data=.set es ep t) (hf:t.fits es.size=true) (U:Up t.place) (hz:t.place.size=es.size) (hl:t.led=(!w.params.followText "set-order")) (hn:es.size<=sizeLine)
  (h:∀ (I:Addr) (h2:Heap) d (fp:List Addr) (St:Nat->Heap->Prop) (ys:List (Int × Value)),(∀ b o,s.heap.get? b=some o->h2.get? b=some o)->s.heap.objs.size<=I->(∀ b∈fp,b=a\/s.heap.objs.size<=b)->ys.Perm es.toList ->
   Walks prog w A I fp [I] es.size (PV ys) St->St 0 h2->Q (.ref I) { s with heap:=h2,drawn:=d }):wpAny (model prog w) A (pyIter (.ref a)) Q E s:=by
 have hT:s.TypeIs (.ref a) "set" := ⟨o,ho,hex.1⟩
 have dr:a<s.heap.objs.size:=dv ho
 refine wpAny_pyIter_slot hT F.slot_set_iter (wpAny_call_entry F.slot_set_iter hT l_ ?_ (F.args_set_iter_1 _))
 unfold Builtin.«frozenset.__iter__»
 refine ai (m:=Builtin.Frozenset.slot0 "__iter__" ⟨[.ref a],[]⟩) (wpAny_of_eq (a:=a) rfl ?_)
 refine ai ?_
 unfold Builtin.Frozenset.sizeOf
 refine ai (wpAny_setEntries_of ho hd hf (aC ?_))
 refine ai ?_
 unfold setDrawn
 refine ai (wpAny_setState_of ho hd hf ?_)
 dsimp only
 unfold setsByText
 refine ai (ai (wpAny_askSetting (aC ?_)))
 refine aC ?_
 have e0:oM es t=(!t.plain && decide (es.size>1)):=rfl
 unfold oM at e0
 rw[e0]
 show wpAny _ _ (if (!w.params.followText "set-order" && (!t.plain && decide (es.size>1)))=true then _ else _) _ _ s
 cases hb:w.params.followText "set-order" with
 |true =>
  rw[if_neg (by simp)]
  refine ai (aC ?_)
  refine ai (wpAny_setEpoch_of ho hd hf ?_)
  refine ai (wpAny_newObj_type ?_)
  refine aC ⟨_,rfl, "set_iterator",_,⟨_,i3 _ rfl,rfl⟩,bU.lookup,?_⟩
  have nc:(s.heap.push { cls:=.type "set_iterator",data:=.fields #[rawInt 0,rawInt 0,.ref a,rawInt es.size,rawInt ep] }).get? a=some o:=eS _ ho
  exact h s.heap.objs.size _ s.drawn _ _ _ (fun b o e=>eS _ e) (bT _) (fun b hb=>by
   rcases dc.mp hb with rfl|hb
   ·exact .inr (bT _)
   ·exact .inl (kP.mp hb)) (jX _ _) (wj (ep:=ep) hh (eT dr) hb hf) ⟨⟨0,i3 _ rfl⟩,o,nc,hd⟩
 |false =>
  cases KW:(!t.plain && decide (es.size>1)) with
  |false =>
   rw[if_neg (by simp)]
   refine ai (aC ?_)
   refine ai (wpAny_setEpoch_of ho hd hf ?_)
   refine ai (wpAny_newObj_type ?_)
   refine aC ⟨_,rfl, "set_iterator",_,⟨_,i3 _ rfl,rfl⟩,bU.lookup,?_⟩
   have nc:(s.heap.push { cls:=.type "set_iterator",data:=.fields #[rawInt 0,rawInt 0,.ref a,rawInt es.size,rawInt ep] }).get? a=some o:=eS _ ho
   exact h s.heap.objs.size _ s.drawn _ _ _ (fun b o e=>eS _ e) (bT _) (fun b hb=>by
    rcases dc.mp hb with rfl|hb
    ·exact .inr (bT _)
    ·exact .inl (kP.mp hb)) (.refl _) (vy (ep:=ep) hh (eT dr) hb (by rw[hl,hb];rfl) KW U hz hf) ⟨i3 _ rfl,o,nc,hd⟩
  |true =>
   rw[if_pos (by simp)]
   refine ai (Dr es.size (List.range es.size) s _ (by simp) fun ix d hp=>?_)
   refine ai (wpAny_newObj_type ?_ ?hzz)
   case hzz =>
    have:=hp.length_eq
    rw[PD] at this
    show(ix.map fun(i:Nat)=>rawInt i).toArray.size<=sizeLine
    rw[ip,cE,this];exact hn
   have Ap:(s.heap.push { cls:=.type "tuple",data:=.seq (ix.map fun(i:Nat)=>rawInt i).toArray }).get? a=some o:=eS _ ho
   refine ai (wpAny_setEpoch_of Ap hd hf ?_)
   refine ai (wpAny_newObj_type ?_)
   refine aC ⟨_,rfl, "set_iterator",_,⟨_,i3 _ rfl,rfl⟩,bU.lookup,?_⟩
   have Rm:(s.heap.push { cls:=.type "tuple",data:=.seq (ix.map fun(i:Nat)=>rawInt i).toArray }).objs.size=s.heap.objs.size+1:=Heap.size_push ..
   refine h (s.heap.push { cls:=.type "tuple",data:=.seq (ix.map fun(i:Nat)=>rawInt i).toArray }).objs.size _ d [(s.heap.push { cls:=.type "tuple",data:=.seq (ix.map fun(i:Nat)=>rawInt i).toArray }).objs.size,a,s.heap.objs.size] _ (ix.filterMap fun k=>es[k]?) (fun b o e=>eS _ (eS _ e)) (by rw[Rm];exact Nat.le_succ _) (fun b hb=>?_) ?_
    (uJ (ep:=ep) (kT:=0) (T:=s.heap.objs.size) (ix:=ix) (t:=t) hh (by rw[Rm];exact eT (tS dr)) (by rw[Rm];exact eT (Nat.lt_succ_self _)) hf hp) ⟨i3 _ rfl,⟨o,eS _ Ap,hd⟩,_,eS _ (i3 _ rfl),rfl⟩
   ·rcases dc.mp hb with rfl|hb
    ·exact .inr (by rw[Rm];exact Nat.le_succ _)
    ·rcases dc.mp hb with rfl|hb
     ·exact .inl rfl
     ·rw[kP.mp hb];exact .inr (bT _)
   ·have:=hp.filterMap fun k=>es[k]?
    rw[tR] at this
    exact this
theorem yX (hT:s.TypeIs (.ref a) "set") (h:Q false s):wpAny (model prog w) A (Builtin.List.listLengthHint (.ref a)) Q E s:=by
 unfold Builtin.List.listLengthHint
 refine ai (wpAny_specialOf hT PySem.F.slot_set_len.lookup ?_)
 generalize YG:("set.__len__" : String)=id0
 wp_delta
 rw[show splitId id0=some ("set", "__len__") from by subst YG;decide +kernel]
 subst YG
 refine ai (wpAny_isInstance (T := "set") (b:=true) hT (by rw[isSubtype_type];kernel_rfl) ?_)
 refine wpAny_ite_split (fun OL=>absurd OL (by decide)) (fun _=>?_)
 refine wpAny_ite_split (fun _=>?_) (fun OL=>absurd (by decide +kernel) OL)
 refine ai (wpAny_typeOf hT ?_)
 exact aC h
theorem FN {R:Result->Shared->Prop} (hh:A.handled=none) (ho:s.heap.get? a=some o) (hex:o.ExactSet) (hd:o.data=.set es ep t) (hf:t.fits es.size=true) (U:Up t.place) (hz:t.place.size=es.size) (hl:t.led=(!w.params.followText "set-order")) (hn:es.size<=sizeLine)
  (S:Addr) (YH:S≠a) (res:Value) (c₀:Nat) (hS:s.heap.get? S=some { cls:=.type "list",data:=.seq #[] c₀ })
  (hR:∀ h' tk d x8 c' ys,(∀ b o,b≠S->s.heap.get? b=some o->h'.get? b=some o)->h'.get? S=some { cls:=.type "list",dict:=none,data:=.seq x8 c',slots:=#[] }->ys.Perm es.toList->ItemsOf (PV ys) x8 es.size->R (.ok (.ret res)) { s with heap:=h',toks:=tk,drawn:=d }) :
  wpAny (model prog w) A.in1 (Builtin.List.listExtendWith (.ref S) (.ref a) res)
   (fun fin s'=>match fin with|.done f=>R (.ok f) s'|.again c'=>c'.quiet=true/\codeAny (model prog w) A c' R s') (fun e s'=>R (.error e) s') s:=by
 have hT:s.TypeIs (.ref a) "set" := ⟨o,ho,hex.1⟩
 have hSl:=dv hS
 unfold Builtin.List.listExtendWith
 refine ai (wpAny_typeOf hT ?_)
 have h1:Builtin.List.listSameRef (.ref S) (.ref a)=false:=by simp[Builtin.List.listSameRef,YH]
 simp only[h1,show(Value.type "set" == Value.type "list")=false by decide,show(Value.type "set" == Value.type "tuple")=false by decide,Bool.or_false,gu,if_false]
 refine ai (Ay (A:=A.in1) hh ho hex hd hf U hz hl hn fun I h2 d fp St ys kp hI hfp hp W st=>?_)
 have Fc:S∉fp:=fun hm=>by
  rcases hfp S hm with z|z
  ·exact YH z
  ·exact absurd hSl (Nat.not_lt.mpr z)
 have key:∀ (h:Heap) (c₁ tk:Nat),St 0 h->(∀ b o,b≠S->s.heap.get? b=some o->h.get? b=some o) ->
   h.get? S=some { cls:=.type "list",data:=.seq #[] c₁ }->codeAny (model prog w) A (.builtin "list.extend.loop" ⟨[.ref S,.ref I,res],[]⟩) R { s with heap:=h,toks:=tk,drawn:=d }:=by
  intro h c₁ tk kC hk OW
  refine codeAny_extend_loopS W.toS hn S Fc res es.size 0 _ #[] c₁ rfl (eI _) kC OW (ItemsOf.nil _) fun s' x8 c' hm OV BG=>?_
  rw[Moved.eq_with hm]
  refine hR s'.heap s'.toks d x8 c' ys (fun b o hb e=>hm.heap b o (fun D1=>?_) (hk b o hb e)) OV hp BG
  rcases dc.mp D1 with e'|D1
  ·exact hb e'
  ·exact absurd (dv e) (by rw[kP.mp D1];exact Nat.not_lt.mpr hI)
 have OW:h2.get? S=some { cls:=.type "list",data:=.seq #[] c₀ }:=kp _ _ hS
 refine ai (wpAny_holding (yX (s:={ s with heap:=h2,drawn:=d }) ⟨o,kp _ _ ho,hex.1⟩ ?_))
 refine wpAny_ite_split (fun _=>?_) (fun _=>aC ⟨plainId_quiet PySem.F.plain_extend_loop _,key _ c₀ _ st (fun b o _ e=>kp b o e) OW⟩)
 refine ai (wpAny_rule ?_)
 refine ai ?_
 show wpAny _ _ (updateSeq S (·.push .none) >>= fun _=>updateSeq S (·.pop)) _ _ _
 refine ai (wpAny_updateSeq OW rfl ?_)
 have YJ:=GA (Obj.mapSeq (·.push Value.none)) OW rfl
 refine wpAny_updateSeq (hz:=by seq_fits) YJ rfl ?_
 have fm':=GA (Obj.mapSeq (·.pop)) YJ rfl
 refine aC ⟨plainId_quiet PySem.F.plain_extend_loop _,key _ _ _ ?_ (fun b o hb e=>?_) fm'⟩
 ·refine W.frame 0 _ _ st fun b hb o e=>?_
  have OS:b≠S:=fun h=>Fc (h ▸ hb)
  exact(LP _ _ (Ne.symm OS)).trans ((LP _ _ (Ne.symm OS)).trans e)
 ·exact(LP _ _ (Ne.symm hb)).trans ((LP _ _ (Ne.symm hb)).trans (kp _ _ e))
theorem vC(h:ItemsOf (PV ys) acc n)(hn:ys.length=n):acc.toList=ys.map (·.2):=by
 apply CH
 intro i
 rw[kQ]
 by_cases hi:i<n
 ·have kz:i<acc.size:=by rw[h.1];exact hi
  have e1:acc[i]? = some acc[i]:=y9 kz
  obtain⟨e,he,hv⟩:=h.2 i acc[i] e1
  rw[mM,e1,he,hv];rfl
 ·rw[tP (by rw[AZ,h.1];lia),tP (by lia)];rfl
theorem jH {R:Result->Shared->Prop} (hh:A.handled=none) (ho:s.heap.get? a=some o) (hex:o.ExactSet) (hd:o.data=.set es ep t) (hf:t.fits es.size=true) (U:Up t.place) (hz:t.place.size=es.size) (hl:t.led=(!w.params.followText "set-order")) (hn:es.size<=sizeLine)
  (hR:∀ h' tk d x8 c' ys,(∀ b o,s.heap.get? b=some o->h'.get? b=some o)->h'.get? s.heap.objs.size=some { cls:=.type "list",dict:=none,data:=.seq x8 c',slots:=#[] }->ys.Perm es.toList->ItemsOf (PV ys) x8 es.size->R (.ok (.ret (.ref s.heap.objs.size))) { s with heap:=h',toks:=tk,drawn:=d }) :
  codeAny (model prog w) A (.builtin "proto.collect" ⟨[.ref a],[]⟩) R s:=by
 have dr:a<s.heap.objs.size:=dv ho
 have hS:(s.heap.push { cls:=.type "list",data:=.seq ([]:List Value).toArray }).get? s.heap.objs.size=some { cls:=.type "list",data:=.seq ([]:List Value).toArray }:=i3 _ rfl
 refine codeAny_builtin F.entry_proto_collect ?_
 rw[Around.under_plainId F.plain_proto_collect _]
 show wpAny _ A.in1 (newList [] >>= fun l=>again (.builtin "list.__iadd__" ⟨[l,.ref a],[]⟩)) _ _ s
 refine ai (wpAny_newObj_type ?_)
 refine aC ⟨plainId_quiet F.plain_list_iadd _,codeAny_builtin F.entry_list_iadd ?_⟩
 rw[Around.under_plainId F.plain_list_iadd _]
 show wpAny _ A.in1 (Builtin.List.listExtendWith (.ref s.heap.objs.size) (.ref a) (.ref s.heap.objs.size)) _ _ _
 exact FN (R:=R) (s:={ s with heap:=s.heap.push { cls:=.type "list",data:=.seq ([]:List Value).toArray } }) hh (eS _ ho) hex hd hf U hz hl hn s.heap.objs.size (LW dr) _ 0 hS fun h' tk d x8 c' ys kp eo hp ia =>
  hR h' tk d x8 c' ys (fun b o e=>kp b o (eT (dv e)) (eS _ e)) eo hp ia
theorem rB (hh:A.handled=none) (ho:s.heap.get? a=some o) (hex:o.ExactSet) (hd:o.data=.set es ep t) (hf:t.fits es.size=true) (U:Up t.place) (hz:t.place.size=es.size) (hl:t.led=(!w.params.followText "set-order")) (hn:es.size<=sizeLine)
  (hQ:∀ h' tk d vs,(∀ b o,s.heap.get? b=some o->h'.get? b=some o)->s.heap.objs.size<=h'.objs.size->vs.Perm (es.toList.map (·.2))->Q vs { s with heap:=h',toks:=tk,drawn:=d }):wpAny (model prog w) A (collect (.ref a)) Q E s:=by
 unfold collect
 refine ai (wpAny_runValue (jH hh ho hex hd hf U hz hl hn fun h' tk d acc c ys kp eo hp ia=>?_))
 show wpAny _ A (load s.heap.objs.size >>= _) _ _ { s with heap:=h',toks:=tk,drawn:=d }
 refine ai (wpAny_load eo ?_)
 refine aC (hQ h' tk d _ kp (kR (dv eo)) ?_)
 rw[vC ia (by rw[hp.length_eq];simp)]
 exact hp.map _
end
end TS
namespace x3
open PySem PyProof.Rows
section
variable {prog:Program}{w:World}{A:Around}{E:Value->Shared->Prop}{s:Shared}{κ:SortKind}{r:Value->Int}{P:Value->Prop}
theorem rE{R:List Value->Prop}
  (Uc:∀ (A':Around) (E':Value->Shared->Prop) (Q':List Value->Shared->Prop),A'.handled=A.handled->(∀ vs h1 tk d,R vs->(∀ b o,s.heap.get? b=some o->h1.get? b=some o)->s.heap.objs.size<=h1.objs.size->Q' vs { s with heap:=h1,toks:=tk,drawn:=d })->wpAny (model prog w) A' (collect v) Q' E' s)
  (hsz:∀ vs,R vs->vs.length<=sizeLine) (hP:∀ vs,R vs->∀ v∈vs,P v)
  (hk:∀ vs,R vs->2<=vs.length->∀ (A':Around) (E':Value->Shared->Prop) (s':Shared),(∀ b o,s.heap.get? b=some o->s'.heap.get? b=some o)->∀ (Q:SortKind->Shared->Prop),Q κ s'->wpAny (model prog w) A' (keyKind' vs.toArray) Q E' s')
  (C:∀ (s':Shared),(∀ b o,s.heap.get? b=some o->s'.heap.get? b=some o)->lT prog w A.in1.in1 s' κ r P)
  (h:∀ (vs:List Value) (h':Heap) (a:Addr) (out:List Value) (n tk:Nat) d,R vs->out.Perm vs->(out.Pairwise fun x y=>r x<=r y)->(∀ b o,s.heap.get? b=some o->h'.get? b=some o)->s.heap.objs.size<=a->h'.get? a=some (seqObj "list" out.toArray n)->Q (.ref a) { s with heap:=h',toks:=tk,drawn:=d }) :
  wpAny (model prog w) A (call (.builtin "sorted") [v]) Q E s:=by
 refine Calls.call_function_entry kind_sorted plain_sorted entry_sorted (args_sorted1 _) ?_
 unfold Builtin.«sorted»
 refine ai (m:=checkCount "sorted" 1 1 _) (aC ?_)
 refine ai (Uc _ _ _ rfl fun vs h1 tk d hR kp hz=>?_)
 have AA:=hsz vs hR
 refine ai (wpAny_newList ?_ (by simpa using AA))
 have wo:(h1.push (seqObj "list" vs.toArray 0)).get? h1.objs.size=some (seqObj "list" vs.toArray 0):=i3 _ rfl
 have old:∀ b o,s.heap.get? b=some o->(dI (h1.push (seqObj "list" vs.toArray 0)) h1.objs.size vs).get? b=some o:=fun b o e=>by
  have dr:b<h1.objs.size:=dv (kp b o e)
  rw[gK (eT dr) (by rw[size_push'];exact tS dr)]
  exact eS _ (kp b o e)
 show wpAny _ _ _ _ _ { s with heap:=h1.push (seqObj "list" vs.toArray 0),toks:=tk,drawn:=d }
 refine ai (wpAny_holding (wpAny_call_entry slot_list_sort ⟨_,wo,rfl⟩ entry_list_sort (fV (r:=r) (s:={ s with heap:=h1.push (seqObj "list" vs.toArray 0),toks:=tk,drawn:=d }) wo AA (hP vs hR)
  (fun h2=>hk vs hR h2 _ _ _ old) (fun h2=>C _ old) fun out a1 a2=>⟨_,rfl,?_⟩) (args_list_sort _)))
 obtain⟨n,e⟩:=sortedHeap_at (out:=out) wo
 refine aC ⟨_,rfl,h vs _ h1.objs.size out.toList n tk d hR a1 a2 (fun b o e=>?_) hz (by rw[P4];exact e)⟩
 have dr:b<h1.objs.size:=dv (kp b o e)
 rw[sortedHeap_old (eT dr) (by rw[size_push'];exact tS dr)]
 exact eS _ (kp b o e)
end
end x3
namespace TS
open PySem PySem.SetTable PyProof.Rows
section
variable {prog:Program}{w:World}{K:Type}[DecidableEq K]{knd:KeyKind prog w K}{A:Around}{E:Value->Shared->Prop}{s:Shared}
theorem zW(led:Bool):TI (α:=α) (SetTable.fresh 0 0 led) #[] :=
 ⟨⟨3,rfl,bT _⟩,rfl,fun i j h hj=>absurd hj (EA _),fun i hi=>absurd hi (EA _),rfl,(by show 0*5<7*3;decide),fun i h x e=>by simp at e⟩
theorem pP{l:Addr}{items:Array Value}{xs:List (List K × Addr)}{Q:Value->Shared->Prop}(hh:A.handled=none)(hu:A.units+8<cLine)(hl:s.heap.IsList l items)(hi:items.toList=xs.map fun p=>Value.ref p.2)
  (xh:∀ p∈xs,IsTupleKey knd s.heap p.1 p.2) (hz:xs.length<=1000) (BF:∀ k v,knd.is k v=true->v.scannable=true)
  (h:∀ h' tk ks,Kx knd h' s.heap.objs.size ks->(∀ k,k∈ks.map (·.1)↔k∈xs.map (·.1))->(∀ p∈ks,p∈xs)->(∀ b o,s.heap.get? b=some o->h'.get? b=some o)->Q (.ref s.heap.objs.size) { s with heap:=h',toks:=tk }) :
  wpAny (model prog w) A (call (.type "set") [.ref l]) Q E s:=by
 have lt:∀ p∈xs,p.2<s.heap.objs.size:=fun p hp=>by
  obtain⟨o,_,_,ho,_⟩:=xh p hp
  exact dv ho
 refine pU hh hl (fun i h=>∃ ks,Kx knd h s.heap.objs.size ks/\(∀ k,k∈ks.map (·.1)↔k∈(xs.take i).map (·.1))/\(∀ p∈ks,p∈xs)/\ks.length<=i/\∀ p∈xs,IsTupleKey knd h p.1 p.2) (fun h e k=>?_) (fun i h h' ⟨ks,S,m1,m2,m3,m4⟩ k=>?_) (fun i v s' E' Q' hv ⟨ks,S,m1,m2,m3,m4⟩ q=>?_) fun h' tk ⟨ks,S,m1,m2,m3,m4⟩ k=>?_
 ·exact⟨[],⟨⟨_,#[],0,_,e,⟨rfl,rfl,rfl⟩,rfl,zW _,(by show 7<=8191;decide),rfl,rfl⟩,oQ,fun p hp=>nomatch hp⟩,fun k=>by simp,(fun p hp=>nomatch hp),bT _,fun p hp=>IsTupleKey.fv (xh p hp) fun o ho=>k _ _ ho⟩
 ·obtain⟨⟨o,es,ep,t,ho,r⟩,nd,is⟩:=S
  exact⟨ks,⟨⟨o,es,ep,t,k _ _ (bT _) ho,r⟩,nd,fun p hp=>IsTupleKey.fv (is p hp) fun o ho=>k _ _ (kR (lt p (m2 p hp))) ho⟩,m1,m2,m3,fun p hp=>IsTupleKey.fv (m4 p hp) fun o ho=>k _ _ (kR (lt p hp)) ho⟩
 ·have D3:items.toList[i]? = some v:=by rw[mM];exact hv
  rw[hi,kQ] at D3
  cases ex:xs[i]? with
  |none=>rw[ex] at D3;cases D3
  |some p =>
   rw[ex] at D3
   cases D3
   have hp:=kH ex
   have hil:i<xs.length:=(ic.mp ex).1
   have tk1:(xs.take (i+1)).map (·.1)=(xs.take i).map (·.1)++[p.1]:=by
    rw[CL,ex,y6];rfl
   unfold setAdd
   refine wpAny_holding (ai (wpAny_pyHash_tuple (by show A.units+3<cLine;lia) (m4 p hp) ?_))
   refine HJ (s:={ s' with toks:=s'.toks+(p.1.length+1) }) S (m4 p hp) (by lia) (by show A.units+3<cLine;lia) BF fun b h' fm sb S' c=>?_
   refine q b h' _ sb ⟨fm,S',fun k=>?_,fun p' js=>?_,?_,fun p' js=>IsTupleKey.fv (m4 p' js) fun o ho=>sb.extBut _ _ (eT (lt p' js)) ho⟩
   ·rw[tk1,dP,kP,<- m1]
    rcases c with⟨c1,rfl⟩|⟨c1,c2⟩
    ·exact⟨.inl,fun z=>z.elim id fun e=>e ▸ c1⟩
    ·rw[(c2.map _).mem_iff,ft,dc]
     exact⟨fun z=>z.symm,fun z=>z.symm⟩
   ·rcases c with⟨c1,rfl⟩|⟨c1,c2⟩
    ·exact m2 p' js
    ·rcases dc.mp (c2.mem_iff.mp js) with rfl|z
     ·exact hp
     ·exact m2 p' z
   ·rcases c with⟨c1,rfl⟩|⟨c1,c2⟩
    ·exact Nat.le_succ_of_le ‹_›
    ·rw[c2.length_eq];simp;lia
 ·have e:items.size=xs.length:=by
   have:=congrArg List.length hi
   simpa using this
  rw[e,AV] at m1
  exact h h' tk ks S m1 m2 fun b o ho=>k b o (dv ho) ho
end
end TS
namespace L2
open PySem PySem.Spec PyProof.Rows
section
variable {X:Cx}{pins:List (Addr × Obj)}{σ:St}{H:Hp}{s:Shared}
theorem Inv.drawn{d}(I:Inv X pins σ H s):Inv X pins σ H { s with drawn:=d }:=⟨I.ok,I.os,I.bare,I.base,I.loc,I.cell,I.free,I.oj,I.pin,I.bp,I.len⟩
theorem zR:∀ (k:Key) (v:Value),(mP prog w).is k v=true->v.scannable=true:=fun k v h=>by
 rcases zh h with⟨i,t,rfl,rfl⟩|⟨x,t,rfl,rfl⟩<;>rfl
def ik(K:PySem.W.Frag):V->Hp->VK->Prop:=fun x H Q=>match x with
 |.ref p=>∃ ys ks b0 sh,eJ K H p ys/\ys.length<=1000/\cR H ys ks/\(∀ k∈ks,eB k=b0 :: sh) /\
   ∀ zs ms l,cR H zs ms->ms.Nodup->(∀ k,k∈ms↔k∈ks)->(ms.Pairwise fun a b=>dz b a=false)->H l=none->Q (.ref l) (upd H l (.lst zs))
 |_=>False
theorem cR.pairs(h:cR H ys ks)(hv:Vals ys vs):∃ xs:List (List Key × Addr),vs=xs.map (fun p=>Value.ref p.2)/\xs.map (·.1)=ks/\∀ p∈xs,H p.2=some (.tup (p.1.map kV)):=by
 induction ys generalizing ks vs with
 |nil=>exact⟨[],Paired.n0 hv,(show ks=[] from Paired.n0 h).symm,fun p hp=>nomatch hp⟩
 |cons y ys ih =>
  obtain⟨k,ks,rfl,⟨b,rfl,g⟩,t⟩:=Paired.c h
  obtain⟨v,vs,rfl,rfl,rs⟩:=Paired.c hv
  obtain⟨xs,e1,e2,e3⟩:=ih t rs
  refine⟨(k,b) :: xs,by rw[e1];rfl,by rw[<- e2];rfl,fun p hp=>?_⟩
  rcases dc.mp hp with rfl|hp
  ·exact g
  ·exact e3 p hp
end
section
variable {X:Cx}{e:Expr}{te:TE}{p p2 pos Fm:Pos}
theorem rF (hc:X.calm=true) (hu:X.A.units+64<cLine) (hg:Gl X "sorted") (hm:X.mg "sorted" = none) (UA:Gl X "set") (rg:X.mg "set" = none) (he:PE X e te)
  (hv:bootBuiltins "sorted" = some (.builtin "sorted")) (hv2:bootBuiltins "set" = some (.type "set"))
  (AI:starEach [e] X.env=(false,eval e X.env) :: starEach [] X.env:=by rfl)
  (hs:starEach [.Call (.Name "set" p2) [e] [] Fm] X.env=(false,eval (.Call (.Name "set" p2) [e] [] Fm) X.env) :: starEach [] X.env:=by rfl) :
  PE X (.Call (.Name "sorted" p) [.Call (.Name "set" p2) [e] [] Fm] [] pos) (WL (ik X.K) te):=by
 intro pins s σ H Q I h
 refine wpAny_Call_Name_kw (HL I hg hm hv ?_ (by decide) (by decide))
 refine PyProof.Rows.callWith_builtin1 ?_ hs rfl
 rw[hs]
 refine Calls.spliced_cons ?_
 refine wpAny_Call_Name_kw (HL I UA rg hv2 ?_ (by decide) (by decide))
 refine PyProof.Rows.callWith_type1 ?_ AI rfl
 rw[AI]
 refine Calls.spliced_cons (cv (he pins s σ H _ I h) fun u s1 cK=>L2.hG cK fun x H1 I1 r1 q1=>Calls.spliced_nil ?_)
 have q1:ik X.K x H1 Q:=q1
 obtain⟨a,rfl⟩:∃ a,x=.ref a:=by
  unfold ik at q1
  split at q1
  ·exact⟨_,rfl⟩
  ·exact q1.elim
 obtain⟨ys,ks,b0,sh,hl,Rn,ht,Iy,q⟩:=q1
 cases r1
 obtain⟨vs,rv,pl,hz⟩:=I1.list hl
 obtain⟨xs,ex,ek,hx⟩:=ht.pairs rv
 have Ro:X.A.handled=none:=I1.ok.hd hc
 have hlen:xs.length=ys.length:=by rw[rv.length,ex,cE]
 have xh:∀ p∈xs,IsTupleKey (mP X.prog X.w) s1.heap p.1 p.2:=fun p hp=>by
  obtain⟨us,ru,o,e1,c1,n1,d1⟩:=I1.tup (hx p hp)
  exact⟨o,us.toArray,n1,e1,c1,d1,by simpa using Tq ru⟩
 refine TS.pP (knd:=mP X.prog X.w) Ro (by lia) pl.isList (by simpa using ex) xh (by lia) zR fun h2 tk fm S m1 m2 kp=>?_
 refine Calls.spliced_nil ?_
 obtain⟨⟨o,es,ep,t,ho,hex,hd,T,hM,hL,Kk⟩,nd,is⟩:=S
 have fp':es.toList.map (·.2)=fm.map fun p=>Value.ref p.2:=by rw[Kk,iA];rfl
 have iJ':fm.length<=1000:=by
  have:=TS.iy nd (m:=ks) fun k hk=>by rw[<- ek];exact(m1 k).mp hk
  rw[cE] at this
  have:ks.length=xs.length:=by rw[<- ek,cE]
  lia
 have fq':es.size=fm.length:=by
  have:=congrArg List.length Kk
  simpa using this
 have fr':∀ p∈fm,p.1∈ks:=fun p hp=>by rw[<- ek];exact df.mpr ⟨p,m2 p hp,rfl⟩
 have mem:∀ g7:List Value,g7.Perm (fm.map fun p=>Value.ref p.2)->∀ v∈g7,∃ b k,v=.ref b/\H1 b=some (.tup (k.map kV))/\k∈ks:=fun g7 pv v hv=>by
  obtain⟨p,hp,rfl⟩:=df.mp (pv.mem_iff.mp hv)
  exact⟨p.2,p.1,rfl,hx p (m2 p hp),fr' p hp⟩
 have YK:s1.heap.objs.size<=h2.objs.size:=kR (dv ho)
 refine x3.rE (s:={ s1 with heap:=h2,toks:=tk }) (κ:=tuples' true) (R:=fun g7=>g7.Perm (fm.map fun p=>Value.ref p.2)) (r:=fun v=>IX ks (mC H1 v)) (P:=fun v=>∃ b k,v=.ref b/\H1 b=some (.tup (k.map kV))/\eB k=b0 :: sh/\k∈ks)
  (fun A' E' Q' hA hQ=>TS.rB (s:={ s1 with heap:=h2,toks:=tk }) (hA.trans Ro) ho hex hd T.fits T.up T.sz hL (by rw[fq',sizeLine_eq];lia) fun h' OU d g7 Fn YL pv=>hQ g7 h' OU d (by rw[<- fp'];exact pv) Fn YL)
  (fun g7 pv=>by rw[pv.length_eq,cE,sizeLine_eq];lia) (fun g7 pv v hv=>?_) (fun g7 pv h2' A' E' s' Fn Q' q'=>?_) (fun s' Fn=>tZ I1 fun b o e=>Fn b o (kp b o e)) fun g7 h' a' out n OU d pv pm pw Fn ha eo=>?_
 ·obtain⟨b,k,e1,e2,e3⟩:=mem g7 pv v hv
  exact⟨b,k,e1,e2,Iy k e3,e3⟩
 ·obtain⟨zs,z1,z2⟩:=cR.of (H:=H1) (ks:=ks) g7 (mem g7 pv)
  obtain⟨fs,f1,f2,f3⟩:=kat_tups I1 (s':=s') (fun b o e=>Fn b o (kp b o e)) z1 z2 fun k hk=>by
   obtain⟨v,hv,rfl⟩:=df.mp hk
   obtain⟨b,k,rfl,e2,e3⟩:=mem g7 pv v hv
   rw[cQ e2];exact Iy k e3
  cases b0 with
  |true =>
   refine PySem.W.kat_kind (T:=.type "int") f1 (by lia) (fun f hf=>?_) (by decide) q'
   obtain⟨i,t,rfl⟩:=(f3 f hf).1 rfl
   exact .now
  |false =>
   refine PySem.W.kat_kind (T:=.type "str") f1 (by lia) (fun f hf=>?_) (by decide) q'
   obtain⟨i,t,rfl⟩:=(f3 f hf).2 rfl
   exact .now
 ·have OX:=pm.trans pv
  obtain⟨zs,z1,z2⟩:=cR.of (H:=H1) (ks:=ks) out fun v hv=>mem _ OX v hv
  have zl:=z2.length
  have ol:=OX.length_eq
  rw[cE] at ol
  have ekk:(fm.map fun p=>Value.ref p.2).map (mC H1)=fm.map (·.1):=by
   rw[iA]
   exact FU fun p hp=>cQ (hx p (m2 p hp))
  have Rp:(out.map (mC H1)).Perm (fm.map (·.1)):=by rw[<- ekk];exact OX.map _
  refine⟨.ref a',_,(I1.laid (a:=a') (t':=OU) (fun b o e=>Fn b o (kp b o e)) (iS YK ha) (show eW X.prog X.w _ h' _ (.lst zs) from⟨by rw[sizeLine_eq];lia,out,n,z2,eo⟩)).drawn,rfl,
   q zs _ _ z1 (Rp.nodup_iff.mpr nd) (fun k=>by rw[Rp.mem_iff,m1,ek]) ?_ (I1.bp.fresh (iS YK ha))⟩
  rw[qk]
  refine pw.imp_of_mem fun {x y} mx my hle=>?_
  obtain⟨b,k,rfl,hb,kk⟩:=mem _ OX x mx
  obtain⟨c,m,rfl,EF,km⟩:=mem _ OX y my
  rw[cQ hb,cQ EF] at *
  have:=yK (L:=ks) ((Iy m km).trans (Iy k kk).symm) km
  rw[<- this]
  exact decide_eq_false (by lia)
end
end L2
namespace TS
open PySem PySem.SetTable PyProof.Rows
end TS
namespace L2
open PySem PySem.Spec PyProof.Rows
end L2
namespace L2.Q
open PySem PySem.Spec PyProof.Rows
section
variable {X:Cx}{K:PySem.W.Frag}{e:Expr}{te:WE}{p p2 pos Fm:Pos}
theorem Hc:bootBuiltins "set" = some (.type "set"):=by decide +kernel
def fZ:W1:=fun _ x Q=>match x with
 |.list xs=>∃ (ks:List (List Key)) (sh:List Bool),xs=ks.map nr/\ks.length<=1000/\(∀ k∈ks,eB k=false :: sh)/\∀ ms:List (List Key),ms.Nodup->(∀ k,k∈ms↔k∈ks)->(ms.Pairwise fun a b=>dz b a=false)->Q (.ow true) (.list (ms.map nr))
 |_=>False
theorem rD:Uh K (ik K) fZ:=by
 intro Hs H m x v As Qd Qv w rx h f
 have r1:=rx.rep w
 cases r1 with
 |list z s q =>
  obtain⟨ks,sh,rfl,hz,hs,h⟩:=h
  obtain⟨ta,ok⟩:=Fl q
  have hl:=q.length
  rw[cE] at hl
  refine⟨_,ks,false,sh,s,by lia,ta,hs,fun zs ms l tz nd mm pw Rq=>?_⟩
  have rr:=oN (K:=K) tz fun k hk=>ok k ((mm k).mp hk)
  have:ms.length<=ks.length:=TS.iy nd fun k hk=>(mm k).mp hk
  exact f.lst w (by rw[cE,sizeLine_eq];lia) rr (ie ms) (h ms nd mm pw) l Rq
 |_=>exact h.elim
theorem uW (hu:X.A.units+64<cLine) (hg:Gl X "sorted") (hm:X.mg "sorted" = none) (UA:Gl X "set") (rg:X.mg "set" = none) (he:QE X K e te) (hc:X.calm=true:=by rfl) (hK:X.K=K:=by rfl)
  (AI:starEach [e] X.env=(false,eval e X.env) :: starEach [] X.env:=by rfl)
  (hs:starEach [.Call (.Name "set" p2) [e] [] Fm] X.env=(false,eval (.Call (.Name "set" p2) [e] [] Fm) X.env) :: starEach [] X.env:=by rfl) :
  QE X K (.Call (.Name "sorted" p) [.Call (.Name "set" p2) [e] [] Fm] [] pos) (hX fZ te):=by
 subst hK
 refine PE.imp (rF hc hu hg hm UA rg he iB Hc AI hs) fun σ H Qv dk=>?_
 obtain⟨Hs,ρ,ah,Q,sr,h,fin⟩:=dk
 exact⟨Hs,ρ,ah,_,sr,h,fun v H1 aT m x As g1 r1 f1 q1=>rD aT H1 m x v As Q Qv g1.wf r1 q1 (Fin.after fin g1)⟩
end
end L2.Q
namespace L2.Q.R
open PySem PySem.Spec PyProof.Rows L2.Q
section
variable {Q:Md->L2.Q.D->Prop}{m:Md}{xs:List L2.Q.D}
theorem Gm:fZ m (.list xs) Q = ∃ (ks:List (List Key)) (sh:List Bool),xs=ks.map nr/\ks.length<=1000/\(∀ k∈ks,eB k=false :: sh)/\∀ ms:List (List Key),ms.Nodup->(∀ k,k∈ms↔k∈ks)->(ms.Pairwise fun a b=>dz b a=false)->Q (.ow true) (.list (ms.map nr)):=rfl
end
end L2.Q.R
namespace L2
open PySem PySem.Spec PyProof.Rows
section
variable {prog:Program}{w:World}{A:Around}{E:Value->Shared->Prop}{s:Shared}
theorem Cz(ru:RelV (kV a) u)(rv:RelV (kV b) v)(e:w9 a=w9 b)(q:Q (.bool (pS a b)) s):wpAny (model prog w) A (richCompare .Lt u v) Q E s:=by
 cases a with
 |inl i =>
  cases b with
  |inr x=>cases e
  |inl j =>
   obtain⟨t,rfl⟩:=ru
   obtain⟨t',rfl⟩:=rv
   exact(show wpAny _ _ (compareOp .Lt _ _) _ _ _ from lt_int q)
 |inr x =>
  cases b with
  |inl j=>cases e
  |inr y =>
   obtain⟨t,rfl⟩:=ru
   obtain⟨t',rfl⟩:=rv
   exact(show wpAny _ _ (compareOp .Lt _ _) _ _ _ from PySem.P.lt_str q)
theorem HW{P:Fin->Shared->Prop}(ha:IsTup s.heap a us.toArray)(hb:IsTup s.heap b vs.toArray)(ru:Vals (k.map kV) us)(rv:Vals (m.map kV) vs)(sh:eB k=eB m)
  (h:P (.done (.ret (.bool (dz k m)))) s):wpAny (model prog w) A (Builtin.«tuple.__lt__» ⟨[.ref a,.ref b],[]⟩) P E s:=by
 obtain⟨oa,Rr,UB,na,hda⟩:=ha
 obtain⟨ob,xi,UC,nb,hJ⟩:=hb
 show wpAny _ _ (isInstance (.ref b) (.type "tuple") >>= _) _ _ s
 refine ai (wpAny_isInstance (T := "tuple") ⟨ob,xi,UC⟩ isSubtype_tuple_tuple ?_)
 simp only[GW,gu,if_false]
 refine ai (wpAny_tupleItemsOf Rr hda ?_)
 refine ai (wpAny_tupleItemsOf xi hJ ?_)
 refine ai ?_
 refine wpAny_forIn_list _
  (fun rest r s'=>r.1=none/\s'=s/\∃ k' m' Rt g7,rest=List.zip Rt g7/\Vals (k'.map kV) Rt/\Vals (m'.map kV) g7/\eB k'=eB m'/\dz k' m'=dz k m)
  _ ?_ ?_ _ _ ⟨rfl,rfl,k,m,us,vs,by simp,ru,rv,sh,rfl⟩
 ·rintro⟨u,v⟩ rest r s' ⟨hr,rfl,k',m',Rt,g7,hz,r1,r2,Au,e'⟩
  cases k' with
  |nil =>
   rw[List.map_nil] at r1;cases r1
   simp at hz
  |cons x k' =>
   cases m' with
   |nil=>simp[eB] at Au
   |cons y m' =>
    rw[ft] at r1 r2
    cases r1 with
    |cons q1 r1 =>
     cases r2 with
     |cons q2 r2 =>
      rw[vS] at hz
      simp only[List.cons.injEq,Prod.mk.injEq] at hz
      obtain⟨⟨rfl,rfl⟩,rfl⟩:=hz
      simp only[eB,ft,List.cons.injEq] at Au
      refine ai (Cg q1 q2 Au.1 ?_)
      rw[show dz (x :: k') (y :: m')=if x=y then dz k' m' else pS x y from rfl] at e'
      by_cases hk:x=y
      ·rw[decide_eq_true hk]
       simp only[GW,gu,if_false]
       rw[if_pos hk] at e'
       exact aC ⟨rfl,rfl,k',m',_,_,rfl,r1,r2,Au.2,e'⟩
      ·rw[decide_eq_false hk]
       simp only[Bool.not_false,if_true]
       rw[if_neg hk] at e'
       refine ai (wpAny_rule ?_)
       refine ai (Cz q1 q2 Au.1 ?_)
       rw[<- e'] at h
       exact ai (aC (aC (aC h)))
 ·rintro⟨r1,r2⟩ s' ⟨hr,rfl,k',m',Rt,g7,hz,q1,q2,Au,e'⟩
  simp only at hr
  subst hr
  have l1:=ru.length
  have l2:=rv.length
  have l3:=congrArg List.length sh
  simp only[eB,cE] at l1 l2 l3
  have oC:dz k' m'=false:=by
   cases k' with
   |nil=>cases m'<;>rfl
   |cons x k' =>
    cases m' with
    |nil=>rfl
    |cons y m' =>
     rw[ft] at q1 q2
     cases q1 with
     |cons a1 b1 =>
      cases q2 with
      |cons a2 b2=>simp at hz
  refine aC ?_
  have:Builtin.Tuple.tupleCompareSizes .Lt us.toArray.size vs.toArray.size=.bool (dz k m):=by
   rw[<- e',oC]
   show Value.bool (decide (us.toArray.size<vs.toArray.size))=_
   rw[decide_eq_false (by simp only[ip];lia)]
  rw[this]
  exact h
end
section
variable {X:Cx}
def DK:R2:=fun x y H Q=>match x,y with
 |.ref a,.ref b=>∃ k m,H a=some (.tup (k.map kV))/\H b=some (.tup (m.map kV))/\eB k=eB m/\Q (.bl (dz k m)) H
 |_,_=>False
theorem Cw(hu:X.A.units+64<cLine):cS X (compareOp .Lt) DK:=by
 intro pins s σ H x y v u Q I rx ry h
 unfold DK at h
 split at h
 ·obtain⟨k,m,h1,h2,sh,q⟩:=h
  cases rx
  cases ry
  obtain⟨us,ru,ha⟩:=I.tup h1
  obtain⟨vs,rv,hb⟩:=I.tup h2
  obtain⟨oa,Rr,UB,_⟩:=id ha
  obtain⟨ob,xi,UC,_⟩:=id hb
  refine(show wpAny _ _ (richCompare .Lt _ _) _ _ _ from ?_)
  refine wpAny_richCompare_same_room (op:=.Lt) (T := "tuple") ⟨oa,Rr,UB⟩ ⟨ob,xi,UC⟩ F.slot_tuple_lt
   (wpAny_call_entry F.slot_tuple_lt ⟨oa,Rr,UB⟩ F.entry_tuple_lt (HW ha hb ru rv sh ⟨_,rfl,(fun e=>nomatch e),.bl (dz k m),H,I,rfl,q⟩) (F.args_tuple_lt_2 _ _)) (by lia)
 ·exact h.elim
end
end L2
namespace L2.Q
open PySem PySem.Spec PyProof.Rows
section
variable {K:PySem.W.Frag}
def UD:W2:=fun _ x _ y Q=>match x,y with
 |.tup xs,.tup ys=>∃ k m:List Key,xs=k.map oy/\ys=m.map oy/\eB k=eB m/\Q .sh (.bl (dz k m))
 |_,_=>False
theorem Hy:jv K DK UD:=by
 intro Hs H m x v As n y u Bs Qd Qv w rx ry h f
 have r1:=rx.rep w
 have r2:=ry.rep w
 cases r1 with
 |tup z1 s1 q1=>cases r2 with
  |tup z2 s2 q2 =>
   obtain⟨k,m,rfl,rfl,sh,h⟩:=h
   obtain⟨e1,_⟩:=rY q1
   obtain⟨e2,_⟩:=rY q2
   subst e1
   subst e2
   exact⟨k,m,s1,s2,sh,f.sh w (.bl _) h⟩
  |_=>exact h.elim
 |_=>cases r2<;>exact h.elim
end
end L2.Q
namespace L2.Q.R
open PySem PySem.Spec PyProof.Rows L2.Q
section
variable {Q:Md->L2.Q.D->Prop}{m m':Md}{xs ys:List L2.Q.D}
theorem N_:UD m (.tup xs) m' (.tup ys) Q = ∃ k l:List Key,xs=k.map oy/\ys=l.map oy/\eB k=eB l/\Q .sh (.bl (dz k l)):=rfl
end
end L2.Q.R
namespace L2.Q
open PySem PySem.Spec PyProof.Rows PySem.W
abbrev YM:List Value:=[.type "ValueError",.type "Exception",.type "BaseException",.type "object"]
structure n9(K:PySem.W.Frag)(C:Addr):Prop where
 ex:excIn K C YM "ValueError.__new__" = true
 gx:findIn K (.ref C) "__getattr__" = some none
 ga:findIn K (.ref C) "__getattribute__" = some (some (.builtin "BaseException.__getattribute__"))
 cl:findIn K (.ref C) "__class__" = some (some (.builtin "object.__class__"))
 ob:mroIn K C (.type "object")=some true
theorem n9.obj{K:PySem.W.Frag}(x:n9 K C)(X:K.In h):∃ bm N nm q bs hdct sn sub ab col dd k0 k1 k2 k3 k5 mN,
  h.get? C=some (excClassObj nm q C N bs bm hdct sn sub ab col dd k0 k1 k2 k3 k5 "ValueError.__new__")/\h.Ns N mN/\mN "__init__" = none/\OwnTail h YM bm:=by
 have q:=x.ex
 unfold excIn at q
 split at q
 ·rename_i dd cd sl ho
  split at q
  ·rename_i C' bm k0 k1 k2 k3 n k5 hm hs
   simp only[lI,beq_iff_eq,Sf] at q
   obtain⟨⟨⟨⟨⟨e1,e2⟩,YN⟩,ht⟩,bp⟩,B6⟩:=q
   cases e1;cases e2
   cases cd
   dsimp only at hm YN bp B6
   cases hm;cases YN
   have OO:sl = #[k0,k1,k2,k3,some (.builtin "ValueError.__new__"),k5]:=by
    cases sl
    dsimp only at hs
    rw[hs]
   cases OO
   exact⟨bm,_,_,_,_,_,_,_,_,_,dd,k0,k1,k2,k3,k5,_,X _ _ ho,.of_isNs (isNs_of_in X bp),nsMap_none_of_in X bp B6,tail_of_in X ht⟩
  ·cases q
 ·cases q
section
variable {prog:Program}{w:World}{A:Around}{E:Value->Shared->Prop}{h:Heap}{g:Array GenState}{d:Drawn}{t:Nat}{os:OsState}{a C:Addr}{o:Obj}{K:PySem.W.Frag}
theorem Ba{R:Result->Shared->Prop}(x:n9 K C)(X:K.In h)(hx:h.get? a=some o)(hc:o.cls=.ref C)(hq:R (.ok (.ret (.ref C))) ⟨h,g,d,t,os⟩) :
  codeAny (model prog w) A (.call (.builtin "getset_descriptor.__get__") ⟨[.builtin "object.__class__",.ref a,.ref C],[]⟩) R ⟨h,g,d,t,os⟩:=by
 obtain⟨bm,N,nm,q,bs,hdct,sn,sub,ab,col,dd,k0,k1,k2,k3,k5,mN,hC,hN,B6,T⟩:=x.obj X
 have YQ:(⟨h,g,d,t,os⟩:Shared).TypeIs (.builtin "object.__class__") "getset_descriptor" := F.typeOf_object_class
 have OY:(Value.ref C :: bm).contains (.type (".".intercalate ("object.__class__".cutAt '.').dropLast))=true:=by
  rw[F.owner_object_class,R8,T.hasType (X := "object") (b:=true) rfl];rfl
 refine codeAny_call_builtin F.slot_gs_get.plain F.entry_gs_get (F.slot_gs_get.check _ _ _ _ _ _ _ _ YQ (F.args_gs_get _ _ _) ?_)
 repeat (any_goals (first|assumption|(with_reducible refine wpAny_loadPart_at hx ?_;rw[hc])|(with_reducible refine wpAny_isSubtype_exc hC ?_;rw[OY])|wp_step))
 refine⟨Code.quiet_builtin _ (by decide +kernel),codeAny_builtin F.entry_object_class ?_⟩
 repeat (any_goals (first|assumption|(with_reducible refine wpAny_loadPart_at hx ?_;rw[hc])|wp_step))
theorem uN(x:n9 K C)(X:K.In h)(hx:h.get? a=some o)(hc:o.cls=.ref C)(hq:Q (.done (.ret (.ref C))) ⟨h,g,d,t,os⟩) :
  wpAny (model prog w) A (Builtin.«object.__getattribute__» ⟨[.ref a,.str "__class__" tk],[]⟩) Q E ⟨h,g,d,t,os⟩:=by
 have YQ:(⟨h,g,d,t,os⟩:Shared).TypeIs (.builtin "object.__class__") "getset_descriptor" := F.typeOf_object_class
 have f5:=F.typeOf_object_class
 have f6:=F.slot_gs_get.lookup
 have f7:=F.slot_gs_set.lookup
 have Lk:=looks_findIn (M:=model prog w) X x.cl
 repeat (any_goals (first|assumption|(with_reducible refine wpAny_loadPart_at hx ?_;rw[hc])|with_reducible refine Lk.at ?_|wp_step))
 refine Ba x X hx hc ?_
 repeat (any_goals (first|assumption|wp_step))
theorem Eb(x:n9 K C)(X:K.In h)(hx:h.get? a=some o)(hc:o.cls=.ref C)(hq:Q (.ref C) ⟨h,g,d,t,os⟩) :
  wpAny (model prog w) A (getAttrBy (.ref a) (.str "__class__" tk) false) Q E ⟨h,g,d,t,os⟩:=by
 have f3:=F.attr_ValueError.ga.bind (.ref a)
 have OZ:(Value.builtin "BaseException.__getattribute__" == Value.builtin "object.__getattribute__")=false:=by decide +kernel
 have YR:(onTheHeap (Value.ref C) && Value.builtin "BaseException.__getattribute__" == Value.builtin "object.__getattribute__")=false:=by rw[OZ];rfl
 have Lk:=looks_findIn (M:=model prog w) X x.ga
 have Lg:=looks_findIn (M:=model prog w) X x.gx
 repeat (any_goals (first|assumption|(with_reducible refine wpAny_loadPart_at hx ?_;rw[hc])|with_reducible refine Lk.at ?_|with_reducible refine Lg.at ?_|wp_step))
 obtain⟨bm,N,nm,q,bs,hdct,sn,sub,ab,col,dd,k0,k1,k2,k3,k5,mN,hC,hN,B6,T⟩:=x.obj X
 have hk:builtinKind "BaseException.__getattribute__" = some .slot:=by decide +kernel
 have hsplit:splitId "BaseException.__getattribute__" = some ("BaseException", "__getattribute__"):=by decide +kernel
 have OY:(Value.ref C :: bm).contains (.type "BaseException")=true:=by rw[R8,T.hasType (X := "BaseException") (b:=true) rfl];rfl
 have chk:∀ {Q':Unit->Shared->Prop} {E':Value->Shared->Prop} {A':Around},Q' () ⟨h,g,d,t,os⟩->wpAny (model prog w) A' (checkBuiltinCall "BaseException.__getattribute__" ⟨[.ref a,.str "__class__" tk],[]⟩) Q' E' ⟨h,g,d,t,os⟩:=fun {Q' E' A'} Ru=>by
  have ha:=F.args_bexc_ga (.ref a) (.str "__class__" tk)
  simp only[checkBuiltinCall,hk,hsplit]
  refine ai ?_
  unfold isInstance
  repeat (first|(with_reducible refine wpAny_loadPart_at hx ?_;rw[hc])|(with_reducible refine wpAny_isSubtype_exc hC ?_;rw[OY])|wp_step)
  exact Ru
 refine codeAny_call_builtin F.attr_ValueError.ga.plain F.entry_bexc_ga (chk (uN x X hx hc ?_))
 repeat (any_goals (first|assumption|wp_step))
theorem xW (x:n9 K C) (X:K.In h) (hx:h.get? a=some o) (hc:o.cls=.ref C) (hq:Q (some (.ref C)) ⟨h,g,d,t+1,os⟩):wpAny (model prog w) A (getAttr? (.ref a) "__class__") Q E ⟨h,g,d,t,os⟩:=by
 unfold getAttr? getAttrBy?
 repeat (any_goals (first|assumption|with_reducible apply Eb x X hx hc|wp_step))
end
def YS(a C:Addr)(h:Heap):Prop:=∃ o,h.get? a=some o/\o.cls=.ref C
theorem n9.fv'{K:PySem.W.Frag}(x:n9 K C)(X:K.In h):Looks M h (isType (.ref C)) true:=by
 obtain⟨bm,N,nm,q,bs,hdct,sn,sub,ab,col,dd,k0,k1,k2,k3,k5,mN,hC,hN,B6,T⟩:=x.obj X
 intro A' Q' E' s' k q
 unfold isType loadHead
 exact ai (wpAny_loadPart (k _ _ hC) (aC q))
theorem Ax{K:PySem.W.Frag}(x:n9 K C):KitX K (.ref a) (.ref C) (YS a C) where
 ty:=fun M h X p=>by
  obtain⟨o,h1,h2⟩:=p
  exact h2 ▸ (Looks.ld h1).andThen .now
 it:=fun M h X p=>x.fv' X
 ne:=fun h tp dd its n sl X htp=>by
  obtain⟨bm,N,nm,q,bs,hdct,sn,sub,ab,col,dd,k0,k1,k2,k3,k5,mN,hC,hN,B6,T⟩:=x.obj X
  refine Bool.eq_false_iff.mpr fun q=>?_
  have e:C=tp:=Value.ref.inj (beq_iff_eq.mp q)
  subst e
  have z:=congrArg (fun o=>o.map (·.data)) (hC.symm.trans htp)
  cases z
 ca:=fun {prog w A E Q s} X p k=>by
  obtain⟨h,g,d,t,os⟩:=s
  obtain⟨o,h1,h2⟩:=p
  exact xW x X h1 h2 k
theorem rM{K:PySem.W.Frag}{a C R:Addr}{os:OsState}(x:n9 K C)(r:n9 K R)(sub:mroIn K C (.ref R)=some true)(X:K.In h)(p:YS a C h)
  (hq:Q true ⟨h,g,d,t,os⟩):wpAny M A (excMatches (.ref a) (.ref R)) Q E ⟨h,g,d,t,os⟩:=by
 obtain⟨bm,N,nm,q,bs,hdct,sn,iL',ab,col,dd,k0,k1,k2,k3,k5,mN,hC,hN,B6,T⟩:=r.obj X
 obtain⟨oe,he,Sy⟩:=p
 have OY:(Value.ref R :: bm).contains (.type "BaseException")=true:=by rw[R8,T.hasType (X := "BaseException") (b:=true) rfl];rfl
 have f:=tc_notTuple
 have Lk:=looks_mroIn (M:=M) X sub
 unfold excMatches
 repeat (first|(with_reducible refine wpAny_loadPart_at he ?_;rw[Sy])|with_reducible refine wpAny_loadPart_at hC ?_|(with_reducible refine wpAny_isSubtype_exc hC ?_;rw[OY])|with_reducible refine Lk.at ?_|wp_step)
 exact hq
theorem FunFrames.rebase{h base B:Heap}:∀ {l:List PySem.Env},h.FunFrames base l->(∀ b∈fe l,B.get? b=none)->h.FunFrames B l
 |[],_,_=>trivial
 |env :: rest,⟨hk,⟨L,o,hf,hn,ho,hd⟩,hr⟩,hB=>⟨hk,⟨L,o,hf,hB L (by unfold fe;rw[y2,hf];exact cq),ho,hd⟩,
   FunFrames.rebase hr fun b hb=>hB b (by unfold fe;rw[y2,hf];exact ck _ hb)⟩
theorem eW.there{P:Program}(x:eW P w H h a o):∃ u,h.get? a=some u:=by
 cases o with
 |lst xs=>obtain⟨_,_,_,_,e⟩:=x;exact⟨_,e⟩
 |tup xs=>obtain⟨_,_,_,_,e,_⟩:=x;exact⟨_,e⟩
 |dK kvs=>obtain⟨_,_,_,_,o,_,_,e,_⟩:=x;exact⟨_,e⟩
 |dT kvs=>obtain⟨_,_,_,_,o,_,_,e,_⟩:=x;exact⟨_,e⟩
 |set S n=>obtain⟨o,_,_,_,e,_⟩:=x;exact⟨_,e⟩
 |ins C dx fs=>obtain⟨_,_,_,e,_⟩:=x;exact⟨_,e⟩
 |own y=>exact x
 |xd fs=>obtain⟨_,⟨_,_,_,e,_⟩,_⟩:=x;exact⟨_,e⟩
 |P7 lo hi=>obtain⟨_,_,_,e⟩:=x;exact⟨_,e⟩
 |mS ob u=>obtain⟨e,_⟩:=x;exact⟨_,e⟩
 |xt ps=>exact⟨_,(show h.get? a=some _ from x)⟩
 |met f y=>exact⟨_,(show h.get? a=some _ from x)⟩
 |ext φ=>obtain⟨_,e,_⟩:=x;exact e
def yy(B:Heap)(fs:List Addr)(H':Hp)(h₀ h:Heap):Prop:=∀ b o,h.get? b=some o->(H' b≠none\/h₀.get? b≠none)->b∉fs->B.get? b=some o
def mw(P:Program)(w:World)(mg:Str->Option Value)(rn:List Str):xC:=fun outer H s E e s' =>
 ∃ a n C a0 H' B,e=.ref a/\(n∈rn/\mg n=some (.ref C))/\s'.os=s.os/\AllBare s'.gens/\Un (fe outer) [] H H' s.heap s'.heap/\fP P w H' s'.heap /\
  Heap.FlyingW B outer a (.ref C) a0 s'.heap/\yy B (fe outer) H' s.heap s'.heap/\(∀ b∈fe outer,H' b=none)/\E (.ref C) none H'
structure fj(fs:List Addr)(H':Hp)(h₀ h h':Heap):Prop where
 keep:∀ b o,h.get? b=some o->(H' b≠none\/h₀.get? b≠none)->b∉fs->h'.get? b=some o
 slot:∀ b o,h.get? b=some o->b∈fs->∃ sl,h'.get? b=some { o with slots:=sl }
theorem fj.of{B:Heap}(c:yy B (fe l) H' h₀ h)(st:B.StaysIn h')(up:h.UpToSlots h')(ff:h.FunFrames base l):fj (fe l) H' h₀ h h' :=
 ⟨fun b o e k n=>st b o (c b o e k n),fun b o e m=>by
  obtain⟨_,o',e',d⟩:=ff.mem m
  rw[e] at e';cases e'
  exact up b o e d⟩
theorem fj.trans(a:fj fs H' h₀ h h1)(b:fj fs H' h₀ h1 h2):fj fs H' h₀ h h2 :=
 ⟨fun x o e k n=>b.keep x o (a.keep x o e k n) k n,fun x o e m=>by
  obtain⟨_,e1⟩:=a.slot x o e m
  obtain⟨sl,e2⟩:=b.slot x _ e1 m
  exact⟨sl,e2⟩⟩
theorem fj.un(m:fj fs H' h₀ h h')(u:Un fs [] H H' h₀ h):Un fs [] H H' h₀ h' where
 keep:=fun b o e n nb nx=>m.keep b o (u.keep b o e n nb nx) (.inr (by rw[e];exact fun z=>nomatch z)) nb
 slot:=fun b o e n hb nx=>by
  obtain⟨_,e1⟩:=u.slot b o e n hb nx
  obtain⟨sl,e2⟩:=m.slot b _ e1 hb
  exact⟨sl,e2⟩
 free:=u.free
 there:=fun b o e nx=>by
  obtain⟨o',e1⟩:=u.there b o e nx
  by_cases hb:b∈fs
  ·obtain⟨sl,e2⟩:=m.slot b o' e1 hb
   exact⟨_,e2⟩
  ·exact⟨o',m.keep b o' e1 (.inr (by rw[e];exact fun z=>nomatch z)) hb⟩
 iX:=u.iX
 sM:=u.sM
 ub:=u.ub
theorem fj.bp{P:Program}(m:fj fs H' h₀ h h')(f:∀ b∈fs,H' b=none)(x:fP P w H' h):fP P w H' h':=fun a o e =>
 (x a o e).fv (fun b u hb q=>by
  have hH:H' b≠none:=by
   rcases hb with z|z
   ·rw[z,e];exact fun z=>nomatch z
   ·rw[z];exact fun z=>nomatch z
  exact m.keep b u q (.inl hH) fun z=>hH (f b z)) (fun _ q=>q) fun _ _ q=>q
section
variable {X:Cx}{pins:List (Addr × Obj)}{σ:St}{H H':Hp}{s:Shared}{e:Value}
theorem yy.up{B h h':Heap}(kC:X.stack=X.env :: X.outer)(hf:X.env.frame=some X.env.locals)(hex:X.ex=[])(I:Inv X pins σ H s)(un:Un (fe X.stack) [] H H' s.heap h)(c:yy B (fe X.stack) H' s.heap h)(m:fj (fe X.stack) H' s.heap h h')(fr:∀ b∈fe X.stack,H' b=none)(bp:fP X.prog X.w H' h) :
  Un X.fs [] X.xv H' X.eu.heap h'/\yy B X.fs H' X.eu.heap h':=by
 have hs:∀ b,b∈fe X.stack↔b=X.env.locals\/b∈X.fs:=fun b=>by
  rw[kC];unfold fe;rw[y2,hf];exact dc
 have L7:∀ b o,X.eu.heap.get? b=some o->b≠X.env.locals:=fun b o e=>eT (ly (dv e) I.ok.above)
 have K0:∀ b:Addr,b∉X.ex:=fun b z=>by rw[hex] at z;exact nomatch z
 have m':=m.un un
 have th:∀ b o,X.eu.heap.get? b=some o->∃ o',s.heap.get? b=some o':=fun b o e=>I.base.there b o e (K0 b)
 refine⟨⟨fun b o e n nb nx=>?_,fun b o e n hb nx=>?_,fun b o e n nx=>?_,fun b o e nx=>?_,fun b xs e=>un.iX b xs (I.base.iX b xs e),fun b ob u e=>un.sM b ob u (I.base.sM b ob u e),fun b ps e=>?_⟩,fun b o e k nb=>?_⟩
 ·exact m'.keep b o (I.base.keep b o e n nb (K0 b)) (I.base.free b o e n (K0 b)) (fun z=>((hs b).mp z).elim (L7 b o e) nb) (by simp)
 ·obtain⟨_,e1⟩:=I.base.slot b o e n hb (K0 b)
  obtain⟨sl,e2⟩:=m'.slot b _ e1 (I.base.free b o e n (K0 b)) ((hs b).mpr (.inr hb)) (by simp)
  exact⟨sl,e2⟩
 ·obtain⟨o',e1⟩:=th b o e
  exact un.free b o' e1 (I.base.free b o e n (K0 b)) (by simp)
 ·obtain⟨o',e1⟩:=th b o e
  exact m'.there b o' e1 (by simp)
 ·obtain⟨m1,e1⟩:=I.base.ub b ps e
  obtain⟨m2,e2⟩:=un.ub b _ e1
  exact⟨m1++m2,by rw[e2,LZ]⟩
 ·have key:∀ o',h.get? b=some o'->(H' b≠none\/s.heap.get? b≠none)->b∉fe X.stack->B.get? b=some o:=fun o' e' k' n'=>by
   have:=m.keep b o' e' k' n'
   rw[e] at this;cases this
   exact c b o e' k' n'
  rcases k with k|k
  ·have nf:b∉fe X.stack:=fun z=>k (fr b z)
   cases q:H' b with
   |none=>exact absurd q k
   |some u =>
    obtain⟨o',e'⟩:=eW.there (bp b u q)
    exact key o' e' (.inl k) nf
  ·cases q:X.eu.heap.get? b with
   |none=>exact absurd q k
   |some o0 =>
    obtain⟨o1,e1⟩:=th b o0 q
    obtain⟨o2,e2⟩:=un.there b o1 e1 (by simp)
    exact key o2 e2 (.inr (by rw[e1];exact fun z=>nomatch z)) fun z=>((hs b).mp z).elim (L7 b o0 q) nb
end
section
variable {P:Program}{w:World}{K:PySem.W.Frag}{mg:Str->Option Value}{base:Heap}{N:List Str}{qual:Str}{scope:Scope}{f:Addr}{cd:Value}{A:Around}{outer:List PySem.Env}{eu:Shared}{xv:Hp}{E:XK}{rn:List Str}
theorem yD(hf:env.frame=some L)(h:b∈fe l):b∈fe (env :: l):=by
 unfold fe;rw[y2,hf];exact ck _ h
theorem Gf:Passes (mw P w mg rn) (rX (mw P w mg rn) P w K mg base N qual scope f cd A outer eu xv E) E:=by
 intro pins σ H s e s' I hx
 obtain⟨a,n,C,a0,H',B,he,hn,os,bare,un,bp,D4,cov,fr,hE⟩:=hx
 subst he
 refine wpAny_leaves_onW I.ok.frames rfl D4 fun h' YT up=>?_
 have mv:=fj.of cov YT.1 up D4.2.2.1
 obtain⟨u1,c1⟩:=yy.up (X:=rX (mw P w mg rn) P w K mg base N qual scope f cd A outer eu xv E) rfl rfl rfl I un cov mv fr bp
 exact⟨a,n,C,a0,H',B,rfl,hn,os.trans I.os,bare,u1,mv.bp fr bp,YT,c1,fun b hb=>fr b (yD rfl hb),hE⟩
def sU(X:Cx)(rn:List Str)(E:XK):Prop:=∀ (pins:List (Addr × Obj)) (σ:St) (H:Hp) (s:Shared) (h':Heap) (e:Addr) (n:Str) (C:Addr) (vs:List Value),Inv X pins σ H s->Heap.MadeExcOf s.heap h' e (.ref C) vs ->
 n∈rn->X.mg n=some (.ref C)->E (.ref C) none H->X.xe (.ref e) { s with heap:=h' }
theorem G6:sU (rX (mw P w mg rn) P w K mg base N qual scope f cd A outer eu xv E) rn E:=by
 intro pins σ H s h' e n C vs I hx hn hm hE
 have st:=I.stack
 have ff:s.heap.FunFrames (hideAll s.heap (fe (envOfC qual scope eu.heap.objs.size f cd :: outer))) (envOfC qual scope eu.heap.objs.size f cd :: outer):=FunFrames.rebase st fun b hb=>hideAll_none _ hb
 refine wpAny_leaves_madeW (h:=s.heap) I.ok.frames rfl (fun b o q=>of_hideAll _ q) ff hx fun UE t D4 tup hnt up=>?_
 have ff':h'.FunFrames (hideAll s.heap (fe (envOfC qual scope eu.heap.objs.size f cd :: outer))) (envOfC qual scope eu.heap.objs.size f cd :: outer):=ff.of_keeps fun b o q _=>⟨o,hx.keeps b o q,rfl⟩
 have bp:fP P w H h':=I.bp.kept hx.keeps
 have fr:∀ b∈fe (envOfC qual scope eu.heap.objs.size f cd :: outer),H b=none:=I.Ss
 have cov:yy (hideAll s.heap (fe (envOfC qual scope eu.heap.objs.size f cd :: outer))) (fe (envOfC qual scope eu.heap.objs.size f cd :: outer)) H s.heap h':=fun b o q k nb=>by
  have ho:∃ o1,s.heap.get? b=some o1:=by
   rcases k with k|k
   ·cases z:H b with
    |none=>exact absurd z k
    |some u=>exact eW.there (I.bp b u z)
   ·exact Option.ne_none_iff_exists'.mp k
  obtain⟨o1,e1⟩:=ho
  have e2:=hx.keeps b o1 e1
  rw[q] at e2;cases e2
  exact hideAll_get _ e1 nb
 have mv:fj (fe (envOfC qual scope eu.heap.objs.size f cd :: outer)) H s.heap h' UE:=fj.of cov D4.1 up ff'
 obtain⟨u1,c1⟩:=yy.up (X:=rX (mw P w mg rn) P w K mg base N qual scope f cd A outer eu xv E) rfl rfl rfl I (Un.kept hx.keeps) cov mv fr bp
 exact⟨e,n,C,_,H,_,rfl,⟨hn,hm⟩,I.os,I.bare,u1,mv.bp fr bp,D4,c1,fun b hb=>fr b (yD rfl hb),hE⟩
theorem Jr{X:Cx}:Passes (mw P w mg rn) X E0:=by
 intro _ _ _ _ _ _ _ hx
 obtain⟨_,_,_,_,_,_,_,_,_,_,_,_,_,_,_,h⟩:=hx
 exact h.elim
def LX(rn:List Str)(mg:Str->Option Value)(E:XK):Str->Hp->Prop:=fun n H'=>n∈rn->∀ C,mg n=some (.ref C)->E (.ref C) none H'
def eY(K:PySem.W.Frag)(rn:List Str)(mg:Str->Option Value)(sp:gE):Sp:=fun vs H Qv E=>∃ ds Qd,aI K H ds vs/\sp ds Qd /\
 (∀ v H' av m d As,aS H av->Wf av H'->RM K av H' m d v As->As.Nodup->(∀ a∈As,av a=none)->Qd m d->Qv v H') /\
 ∀ n H',aS H H'->Qd (.ow false) (.str n)->LX rn mg E n H'
theorem vg(h:eY K rn mg sp vs H Qv E)(hp:∀ ds Q,sp ds Q->t { nx:=fun _=>Q .sh .non,rt:=Q } (aU N.length ds)) :
  yb K (LX rn mg E) t { nx:=fun _ H'=>Qv .non H',rt:=Qv } (start N vs) H:=by
 obtain⟨ds,Qd,rs,hs,fin,fx⟩:=h
 have hl:=rs.length
 refine⟨H,aU N.length ds,[],{ nx:=fun _=>Qd .sh .non,rt:=Qd },⟨?_,⟨aS.refl _,fun _ _ e=>e⟩,oQ,fun a h=>nomatch h⟩,hp ds Qd hs,?_,?_,?_,?_,fx⟩
 ·unfold aU start
  rw[hl]
  exact SR.start rs
 ·exact fun aE H' av bq bP s sr q=>fin .non H' av .sh .non [] s sr.wf ⟨rfl,.non⟩ oQ (fun a h=>nomatch h) q
 ·exact fun aE H' av bq bP s sr q=>q.elim
 ·exact fun aE H' av bq bP s sr q=>q.elim
 ·exact fun v H' av m d As s w r nd own q=>fin v H' av m d As s w r nd own q
theorem UG.ok{st:Stmt}{ps:List Str}(F:gy K x qual st f fd)(S:ku N ps (b5 st))(len:∀ ds Q,sp ds Q->ds.length=ps.length)
  (Bi:∀ (cw:Value) (A:Around) (outer:List PySem.Env) (s:Shared) (H:Hp) (E:XK),i6 k (A.deeper (envOfC qual (b5 st) s.heap.objs.size f cw))->n4 (rX (mw P w mg rn) P w K mg base N qual (b5 st) f cw A outer s H E) K (LX rn mg E) (gS st) t)
  (hp:∀ ds Q,sp ds Q->t { nx:=fun _=>Q .sh .non,rt:=Q } (aU N.length ds)):gv P w K mg base (mw P w mg rn) (k+1) f fd ps (eY K rn mg sp):=by
 obtain⟨oc,od,kV,doc,pm,an,cw,ct,A9,rfl,lk,oS⟩:=F.ex
 exact W_ lk oS S (fun vs H Q E ⟨ds,Qd,rs,hs,_⟩=>by rw[<- rs.length];exact len ds Qd hs) fun A outer s H vs Q E hr zD=>⟨_,Bi cw A outer s H E hr,vg zD hp⟩
structure vx(P:Program)(w:World)(K:PySem.W.Frag)(mg:Str->Option Value)(base:Heap)(rn:List Str)(k:Nat)(x:Str)(ps:List Str)(sp:gE):Prop where
 ex:∃ (g:Addr) (fd:FuncData),mg x=some (.ref g)/\PySem.W.keepIn K (.ref g)=true/\Binds K fd ps []/\gv P w K mg base (mw P w mg rn) k g fd ps (eY K rn mg sp)
theorem gy.UH{st:Stmt}{ps:List Str}(F:gy K x qual st f fd)(hm:mg x=some (.ref f))(ok:gv P w K mg base (mw P w mg rn) k f fd ps (eY K rn mg sp))
  (h:∀ (kV doc pm:Value) (an:Option Addr) (cw ct:Value) (us:List Value),us.length=ps.length->bindArgs (PySem.W.fnOf x qual (i7 st) (gS st) (b5 st) .none kV doc pm an cw ct) ⟨us,[]⟩=pure (ps.zip us)):vx P w K mg base rn k x ps sp:=⟨f,fd,hm,F.kp,F.binds h,ok⟩
end
def YV(K:PySem.W.Frag)(mg:Str->Option Value)(n:Str):Prop:=∃ C,mg n=some (.ref C)/\n9 K C
def og(m:Md)(d:D)(Y:Str->Prop)(N:Prop):Prop:=match m,d with
 |.ow false,.str n=>Y n
 |_,_=>N
theorem vQ{K:PySem.W.Frag}(r:RM K Hs H m d v As)(h:og m d Y N):N:=by
 unfold og at h
 split at h
 ·obtain⟨r,ne⟩:=r
  cases r
  exact absurd rfl ne
 ·exact h
section
variable {X:Cx}{K:PySem.W.Frag}{rn:List Str}{E:XK}{e:Expr}{es:List Expr}{te:WE}{t:WA}{pos:Pos}
def xG(n:Str)(te:WE):WS:=fun E ρ=>te ρ fun _ _=>E.rt (.ow false) (.str n)
theorem zY (hc:X.calm=true) (ok:sU X rn E) (hn:x∈rn) (hm:X.mg x=some (.ref C)) (xc:n9 X.K C) (ha:PA X [e] ta) (hg:Gl X x) (hJ:(x == ("__debug__" : Str))=false)
  (he:starEach [e] X.env=[(false,eval e X.env)]):PS X (.Raise (some (.Call (.Name x np) [e] [] dy)) none pos) (fun D σ H=>ta σ H fun vs H1=>vs.length<=sizeLine/\E (.ref C) none H1):=by
 intro pins s σ H D I h
 obtain⟨bm,N,nm,q,bs,hdct,sn,sub,ab,col,dd,k0,k1,k2,k3,k5,mN,hC,hN,B6,T⟩:=xc.obj I.mod.P9
 refine wpAny_Raise_call_subT (C:=C) (nm:=nm) (q:=q) (N:=N) (bs:=bs) (bm:=bm) (hdct:=hdct) (sn:=sn) (sub:=sub) (ab:=ab) (col:=col) (dd:=dd) (k0:=k0) (k1:=k1) (k2:=k2) (k3:=k3) (k5:=k5)
  F.excBase_ValueError (mN:=mN) (T.hasType F.excBase_ValueError.hasBase) (I.ok.hd hc) (by rw[he];rfl) B6 (Qb I hg hm ⟨rfl,?_⟩ hJ)
 have h2:=ha dy pins s σ H _ I h
 rw[he] at h2 ⊢
 exact Calls.evalArgs_plain (cv h2 fun vs s1 ⟨xs,H1,I1,r,hl,q⟩=>⟨rfl,by rw[<- r.length];exact hl,I1.bk _ _ hC,hN.keeps I1.bk,T.keeps I1.bk,fun h' e' hx=>ok pins σ H1 s1 h' e' x C vs I1 hx hn hm q⟩)
theorem zG (hc:X.calm=true) (ok:sU X rn E) (xc:YV K X.mg x) (hn:x∈rn) (he:QE X K e te) (hg:Gl X x:=by rfl) (hJ:(x == ("__debug__" : Str))=false:=by decide) (hK:X.K=K:=by rfl)
  (hs:starEach [e] X.env=[(false,eval e X.env)]:=by rfl):QS X K (LX rn X.mg E) (.Raise (some (.Call (.Name x np) [e] [] dy)) none pos) (xG x te):=by
 subst hK
 obtain⟨C,hm,xc⟩:=xc
 refine PS.imp (zY hc ok hn hm xc (pd he sN hs) hg hJ hs) fun D σ H hx=>gO hx fun Hs ρ ah E' sr h k1 k2 k3 k4 kx=>?_
 exact⟨Hs,ρ,ah,_,sr,h,fun v H1 aT m d As g1 r1 f1 q1=>⟨(by decide:1<=sizeLine),kx x H1 (g1.sh.trans g1.wf.sub) q1 hn C hm⟩⟩
section
variable {k:Nat}{x:Str}{ps:List Str}{sp:gE}{p dy:Pos}
theorem qY (C:vx X.prog X.w X.K X.mg X.base rn k x ps sp) (hr:i6 k X.A) (hx:Passes (mw X.prog X.w X.mg rn) X E) (ha:PA X (e :: es) ta) (hg:Gl X x) (hJ:(x == ("__debug__" : Str))=false) (he:starEach (e :: es) X.env=(false,eval e X.env) :: starEach es X.env)
  (fA:(backTo pos (starEach es X.env)).any (·.1)=false):PE X (.Call (.Name x p) (e :: es) [] pos) (MB (eY X.K rn X.mg sp) [] E ta):=by
 obtain⟨g,fd,hm,hk,hb,F⟩:=C.ex
 exact W3 F hr hg hm hk hb .nil hx ha hJ he fA
theorem iT{σ:St}{H:Hp}{Qv:VK}{Hs:Hp}{ρ:Env}{ah:List Addr}{Y:Str->Prop}{Q:Md->D->Prop}(sr:dn K Hs ρ σ H ah)(h:t ρ fun ps=>sp (ps.map (·.2)) fun m d=>og m d Y (bI (m,d) (f:=fun p=>Q (xa p.1 p.2) p.2) ⟨⟩))
  (f:∀ v H' av m d As,fh Hs H av H'->RM K av H' m d v As->cU av H As->Q m d->Qv v H') (fx:∀ n H',aS Hs H'->Y n->LX rn X.mg E n H'):MB (eY K rn X.mg sp) [] E (Ud K t) σ H Qv:=by
 refine⟨Hs,ρ,ah,_,sr,h,fun vs H1 aT ps As g1 r1 f1 q1=>?_⟩
 refine⟨_,_,by rw[oP];exact r1.reps g1.wf,q1,fun v H' av m d As s w r nd own q=>?_,fun n H' s q=>fx n H' (g1.sh.trans (g1.wf.sub.trans s)) q⟩
 obtain⟨fN,r',fr⟩:=oV g1.wf s w r nd own
 exact Fin.after f g1 v H' _ (xa m d) d fN (fQ g1.wf s w) r' fr (vQ r q)
def tQ(sp:gE)(t:WA):WE:=fun ρ Q=>t ρ fun ps=>sp (ps.map (·.2)) fun m d=>og m d (fun _=>False) (bI (m,d) (f:=fun p=>Q (xa p.1 p.2) p.2) ⟨⟩)
def pH(sp:gE)(t:WA):WS:=fun E ρ=>t ρ fun ps=>sp (ps.map (·.2)) fun m d=>og m d (fun n=>E.rt (.ow false) (.str n)) (bI (m,d) (f:=fun _=>E.nx ρ) ⟨⟩)
variable (C:vx X.prog X.w X.K X.mg X.base rn k x ps sp)(hr:i6 k X.A)
include C hr
theorem BK (ha:QA X K (e :: es) t) (hK:X.K=K:=by rfl) (hg:Gl X x:=by rfl) (hJ:(x == ("__debug__" : Str))=false:=by decide) (he:starEach (e :: es) X.env=(false,eval e X.env) :: starEach es X.env:=by rfl)
  (fA:(backTo pos (starEach es X.env)).any (·.1)=false:=by rfl):QE X K (.Call (.Name x p) (e :: es) [] pos) (tQ sp t):=by
 subst hK
 exact PE.imp (qY C hr Jr ha hg hJ he fA) fun σ H Qv h=>kF h fun Hs ρ ah Q sr h f=>iT sr h f fun n H' _ z=>z.elim
variable (hx:Passes (mw X.prog X.w X.mg rn) X E)
include hx
theorem oO (ha:QA X K (e :: es) t) (hs:swapsWith (.Call (.Name x p) (e :: es) [] dy) none pos.line X.env=pure false:=by rfl) (hK:X.K=K:=by rfl) (hg:Gl X x:=by rfl) (hJ:(x == ("__debug__" : Str))=false:=by decide) (he:starEach (e :: es) X.env=(false,eval e X.env) :: starEach es X.env:=by rfl)
  (fA:(backTo dy (starEach es X.env)).any (·.1)=false:=by rfl):QS X K (LX rn X.mg E) (.Expr (.Call (.Name x p) (e :: es) [] dy) pos) (pH sp t):=by
 subst hK
 exact PS.imp (Mb (qY C hr hx ha hg hJ he fA) hs) fun D σ H hx=>gO hx fun Hs ρ ah E' sr h k1 k2 k3 k4 kx=>iT (Q:=fun _ _=>E'.nx ρ) sr h (fun v H1 aT m d As g1 r1 f1 q1=>k1 σ H1 aT ρ ah g1.sh (sr.grow g1) q1) kx
end
def UI(j:Nat)(a:Addr)(b:Bool):WE:=fun ρ Q=>ρ[j]? = some (some (.xc a))/\Q .sh (.bl b)
theorem Ja (hm:X.mg "isinstance" = none) (hp:(a,oe)∈X.pn) (ve:oe.cls=.ref C) (xc:n9 X.K C) (hk:kitOne X.K (.ref C) c=some b) (he:PE X e (DE j)) (ht:PE X e2 (tC vc)) (hvc:∀ u,RelV vc u->u=c)
  (hg:Gl X "isinstance" := by rfl) (hs:starEach (e :: [e2]) X.env=(false,eval e X.env) :: starEach [e2] X.env:=by rfl) (AI:starEach (e2 :: []) X.env=(false,eval e2 X.env) :: starEach [] X.env:=by rfl) (fA:(backTo pos (starEach [e2] X.env)).any (·.1)=false:=by rfl) :
  QE X K (.Call (.Name "isinstance" p) [e,e2] [] pos) (UI j a b):=by
 have hc:i5 X (.builtin "isinstance") (fun xs H Q=>xs=[.ref a,vc]/\Q (.bl b) H):=by
  intro pins s σ H xs us Q I r h
  obtain⟨rfl,q⟩:=h
  obtain⟨u,v,rfl,ru,rv⟩:=Vals.two r
  obtain rfl:u=Value.ref a:=ru
  obtain rfl:=hvc v rv
  obtain⟨ho,_⟩:=I.pin (a,oe) (kr _ hp)
  exact kia_one (Ax xc) I.ke ⟨oe,ho,ve⟩ hk (fun z=>nomatch z) fun tk=>⟨.bl b,H,I.tok tk,rfl,q⟩
 refine PE.imp (Qo hc hg hm iz (pd he (pd ht sN AI) hs) (by decide) (by decide) hs fA) fun σ H Qv hx=>kF hx fun Hs ρ ah Q sr h f=>?_
 obtain⟨ea,q⟩:=h
 obtain⟨v,e1,r⟩:=sr.sr.get ea
 have r:v=V.ref a:=r
 subst r
 exact⟨_,e1,rfl,Fin.sh f sr.wf (.bl _) q⟩
end
abbrev gr(X:Cx)(pn:List (Addr × Obj))(xe:Value->Shared->Prop):Cx:={ X with pn:=pn,xe:=xe }
abbrev B7(X:Cx)(pn:List (Addr × Obj))(a:Addr):Cx:={ X with A:=X.A.mark (some (.ref a)),calm:=false,pn:=pn,xe:=fun _ _=>False }
abbrev Ft(X:Cx)(H:Hp)(s:Shared)(p:Addr × Obj):Prop:=s.heap.get? p.1=some p.2/\H p.1=none/\p.1≠X.env.locals/\p.1∉X.fs/\∀ v,p.2.data≠.cell v
section
variable {X:Cx}{pins ng pn:List (Addr × Obj)}{σ:St}{H:Hp}{s:Shared}{xe:Value->Shared->Prop}{a:Addr}
theorem Inv.gr(I:Inv X pins σ H s)(h:∀ p∈pn++ng,Ft X H s p):Inv (gr X pn xe) ng σ H s :=
 ⟨⟨I.ok.mod,I.ok.kind,I.ok.glob,I.ok.blt,I.ok.above,I.ok.inj,I.ok.has,I.ok.zi,I.ok.hd,I.ok.frames,I.ok.A6,I.ok.A7,I.ok.bs,I.ok.ui,I.ok.zk,I.ok.zo,I.ok.qq,I.ok.xA⟩,I.os,I.bare,I.base,I.loc,I.cell,I.free,I.oj,h,I.bp,I.len⟩
theorem Inv.jT(I:Inv (L2.Q.gr X pn xe) ng σ H s)(h:∀ p∈X.pn++pins,p∈pn++ng):Inv X pins σ H s :=
 ⟨⟨I.ok.mod,I.ok.kind,I.ok.glob,I.ok.blt,I.ok.above,I.ok.inj,I.ok.has,I.ok.zi,I.ok.hd,I.ok.frames,I.ok.A6,I.ok.A7,I.ok.bs,I.ok.ui,I.ok.zk,I.ok.zo,I.ok.qq,I.ok.xA⟩,I.os,I.bare,I.base,I.loc,I.cell,I.free,I.oj,fun p hp=>I.pin p (h p hp),I.bp,I.len⟩
theorem Inv.B7(I:Inv (L2.Q.gr X pn xe) ng σ H s)(h:∀ p∈pn2++fA',Ft X H s p):Inv (L2.Q.B7 X pn2 a) fA' σ H s :=
 ⟨⟨I.ok.mod,I.ok.kind,I.ok.glob,I.ok.blt,I.ok.above,I.ok.inj,I.ok.has,I.ok.zi,(fun z=>nomatch z),I.ok.frames,I.ok.A6,I.ok.A7,I.ok.bs,I.ok.ui,I.ok.zk,I.ok.zo,I.ok.qq,I.ok.xA⟩,I.os,I.bare,I.base,I.loc,I.cell,I.free,I.oj,h,I.bp,I.len⟩
theorem Inv.JX(I:Inv (L2.Q.gr X pn xe) pins σ H s):Inv (L2.Q.gr X pn xe2) pins σ H s :=
 ⟨⟨I.ok.mod,I.ok.kind,I.ok.glob,I.ok.blt,I.ok.above,I.ok.inj,I.ok.has,I.ok.zi,I.ok.hd,I.ok.frames,I.ok.A6,I.ok.A7,I.ok.bs,I.ok.ui,I.ok.zk,I.ok.zo,I.ok.qq,I.ok.xA⟩,I.os,I.bare,I.base,I.loc,I.cell,I.free,I.oj,I.pin,I.bp,I.len⟩
theorem Inv.Ef(I:Inv (L2.Q.B7 X pn a) ng σ H s)(hd:X.calm=true->X.A.handled=none)(h:∀ p∈X.pn++pins,p∈pn++ng):Inv X pins σ H s :=
 ⟨⟨I.ok.mod,I.ok.kind,I.ok.glob,I.ok.blt,I.ok.above,I.ok.inj,I.ok.has,I.ok.zi,hd,I.ok.frames,I.ok.A6,I.ok.A7,I.ok.bs,I.ok.ui,I.ok.zk,I.ok.zo,I.ok.qq,I.ok.xA⟩,I.os,I.bare,I.base,I.loc,I.cell,I.free,I.oj,fun p hp=>I.pin p (h p hp),I.bp,I.len⟩
theorem SP.jT{D:Ends}(h:SP (L2.Q.gr X pn xe) ng D f s)(hp:∀ p∈X.pn++pins,p∈pn++ng):SP X pins D f s:=by
 cases f with
 |next=>obtain⟨aE,H',I,q⟩:=h;exact⟨aE,H',Inv.jT I hp,q⟩
 |brk=>obtain⟨aE,H',I,q⟩:=h;exact⟨aE,H',Inv.jT I hp,q⟩
 |cont=>obtain⟨aE,H',I,q⟩:=h;exact⟨aE,H',Inv.jT I hp,q⟩
 |ret u=>obtain⟨v,aE,H',I,r,q⟩:=h;exact⟨v,aE,H',Inv.jT I hp,r,q⟩
theorem Inv.forget(I:Inv X pins σ H s)(hn:h'.Ns X.env.locals m)(hs:Heap.SameBut X.env.locals s.heap h'):Inv X pins (List.replicate X.N.length none) H { s with heap:=h',toks:=t }:=by
 have ne:∀ b o,X.eu.heap.get? b=some o->b≠X.env.locals:=fun b o e=>eT (ly (dv e) I.ok.above)
 refine⟨I.ok,I.os,I.bare,⟨fun b o e n hb hx=>(hs.2 b (ne b o e)).trans (I.base.keep b o e n hb hx),fun b o e n hb hx=>?_,I.base.free,fun b o e hx=>?_,I.base.iX,I.base.sM,I.base.ub⟩,⟨m,hn,fun i x v e1 e2=>?_⟩,fun x c e=>?_,I.free,I.oj,fun p hp=>?_,fun b o e=>?_,R1⟩
 ·obtain⟨sl,e1⟩:=I.base.slot b o e n hb hx
  exact⟨sl,(hs.2 b (ne b o e)).trans e1⟩
 ·obtain⟨o',e1⟩:=I.base.there b o e hx
  exact⟨o',(hs.2 b (ne b o e)).trans e1⟩
 ·rw[RZ] at e2
  split at e2<;>cases e2
 ·obtain⟨v,z⟩:=I.cell x c e
  exact⟨v,z.sameBut hs (I.A8 x c e)⟩
 ·obtain⟨e,n,nl,nf,d⟩:=I.pin p hp
  exact⟨(hs.2 p.1 nl).trans e,n,nl,nf,d⟩
 ·refine(I.bp b o e).fv (fun c u hc q=>(hs.2 c ?_).trans q) (fun _ q=>q) fun _ _ q=>q
  intro z
  rcases hc with w|w
  ·rw[<- w,z,I.free] at e;cases e
  ·rw[z,I.free] at w;cases w
end
theorem SR.YW{K:PySem.W.Frag}:∀ σ:St,SR K Hs H (List.replicate σ.length none) σ []
 |[]=>.nil
 |_ :: σ=>.non (SR.YW σ)
theorem SR.exc{K:PySem.W.Frag}:∀ (σ:St) (j:Nat),SR K Hs H ((List.replicate σ.length none).set j (some (.xc a))) (σ.set j (some (.ref a))) []
 |[],_=>.nil
 |_ :: σ,0=>.xc (SR.YW σ)
 |_ :: σ,j+1=>.non (SR.exc σ j)
theorem yy.next{P:Program}{B:Heap}(c:yy B fs H' h₀ h)(m:fj fs H' h₀ h h')(bp:fP P w H' h)(th:∀ b o,h₀.get? b=some o->∃ o',h.get? b=some o'):yy B fs H' h₀ h':=fun b o e k nb=>by
 have ho:∃ o',h.get? b=some o':=by
  rcases k with k|k
  ·cases z:H' b with
   |none=>exact absurd z k
   |some u=>exact eW.there (bp b u z)
  ·obtain⟨o0,e0⟩:=Option.ne_none_iff_exists'.mp k
   exact th b o0 e0
 obtain⟨o',e'⟩:=ho
 have e2:=m.keep b o' e' k nb
 rw[e] at e2;cases e2
 exact c b o e' k nb
structure Hd(K:PySem.W.Frag)(mg:Str->Option Value)(rn:List Str)(R:Str):Prop where
 ex:∃ r,mg R=some (.ref r)/\n9 K r/\∀ n C,n∈rn->mg n=some (.ref C)->n9 K C/\mroIn K C (.ref r)=some true
end L2.Q
namespace L2.Q
open PySem PySem.Spec PyProof.Rows
end L2.Q
namespace L2.Q.R
open PySem PySem.Spec PyProof.Rows L2.Q
section
variable {E:lC}{ρ:Env}{Q:Md->L2.Q.D->Prop}{te:WE}{tar:WA}{j:Nat}{a:Addr}{b:Bool}{sp:gE}{n:Str}{d:L2.Q.D}{Y:Str->Prop}{N:Prop}
theorem Jm:xG n te E ρ=te ρ fun _ _=>E.rt (.ow false) (.str n):=rfl
theorem Jq:tQ sp tar ρ Q=tar ρ fun ps=>sp (ps.map (·.2)) fun m d=>og m d (fun _=>False) (bI (m,d) (f:=fun p=>Q (xa p.1 p.2) p.2) ⟨⟩):=rfl
theorem Jw:pH sp tar E ρ=tar ρ fun ps=>sp (ps.map (·.2)) fun m d=>og m d (fun n=>E.rt (.ow false) (.str n)) (bI (m,d) (f:=fun _=>E.nx ρ) ⟨⟩):=rfl
theorem MJ:UI j a b ρ Q=(ρ[j]? = some (some (.xc a))/\Q .sh (.bl b)):=rfl
theorem NK:og (.ow false) (.str n) Y N=Y n:=rfl
theorem Mm:og .sh d Y N=N:=rfl
theorem LC:og .bo d Y N=N:=rfl
theorem K1:og (.ow true) d Y N=N:=rfl
theorem Oq:og (.ow b) (.list xs) Y N=N:=by cases b<;>rfl
theorem NT:og (.ow b) (.tup xs) Y N=N:=by cases b<;>rfl
theorem M_:og (.ow b) (.dK xs) Y N=N:=by cases b<;>rfl
theorem MT:og (.ow b) (.dT xs) Y N=N:=by cases b<;>rfl
end
end L2.Q.R
namespace L2.Q
open PySem PySem.Spec PyProof.Rows PySem.W
theorem Ar{α:Type}{l:List α}(h:l.Nodup){i j:Nat}{x:α}(a:l[i]? = some x)(b:l[j]? = some x):i=j:=by
 obtain⟨hi,ei⟩:=ic.mp a
 obtain⟨hj,ej⟩:=ic.mp b
 exact(List.getElem_inj h).mp (ei.trans ej.symm)
section
variable {X:Cx}{pins:List (Addr × Obj)}{σ:St}{H:Hp}{s:Shared}
theorem Inv.Kd{h':Heap}{m:Str->Option Value}{t j:Nat}{en:Str}{v:Option Value}(I:Inv X pins σ H s)(hN:X.N.Nodup)(hj:X.N[j]? = some en)(lk:∀ (i:Nat) (x:Str) (v:V),X.N[i]? = some x->σ[i]? = some (some v)->L6 X.env.scope x->∃ u,RelV v u/\Look X.env s.heap m x u)
  (hn:h'.Ns X.env.locals fun x=>if x=en then v else m x) (hs:Heap.SameBut X.env.locals s.heap h'):Inv X pins (σ.set j none) H { s with heap:=h',toks:=t }:=by
 have F:=Inv.forget (t:=t) I hn hs
 refine⟨F.ok,F.os,F.bare,F.base,⟨_,hn,fun i x v' e1 e2 vs=>?_⟩,F.cell,F.free,F.oj,F.pin,F.bp,by rw[PK];exact I.len⟩
 have gX:j≠i:=fun z=>by
  subst z
  rw[List.getElem?_set] at e2
  split at e2
  ·split at e2<;>cases e2
  ·rename_i z;exact z rfl
 rw[FR gX] at e2
 obtain⟨u,r,l⟩:=lk i x v' e1 e2 vs
 refine⟨u,r,?_⟩
 rcases l with⟨a,b⟩|⟨a,c,b,d⟩
 ·refine .inl ⟨a,?_⟩
  show(if x=en then v else m x)=some u
  rw[if_neg fun z=>gX ?_]
  ·exact b
  ·subst z
   exact Ar hN hj e1
 ·exact .inr ⟨a,c,b,d.sameBut hs (I.A8 x c b)⟩
end
def C_(body:WS)(ρk:Addr->Env)(wr:Addr->Str->WS):WS:=fun E ρ =>
 body { E with nx:=fun _=>False,rt:=fun m d=>og m d (fun n=>∀ a,wr a n E (ρk a)) (E.rt m d) } ρ
theorem Bf{X:Cx}{K:PySem.W.Frag}{R:Str}{body rest:List Stmt}{wr:Addr->Str->WS}
  (xr:Hd X.K X.mg rn R) (hN:X.N.Nodup) (hj:X.N[j]? = some en) (hl:X.env.scope.names.lookup en=some .local) (hi:X.N[i]? = some y) (hy:X.env.scope.names.lookup y=some .local) (kC:X.stack=X.env :: X.outer) (hf:X.env.frame=some X.env.locals)
  (hρ:∀ a,ρk a=(List.replicate X.N.length none).set i (some (.xc a)))
  (hb:∀ pn xe E1,Passes (mw X.prog X.w X.mg rn) (gr X pn xe) E1->n4 (gr X pn xe) K (LX rn X.mg E1) body wb)
  (hk:∀ pn a oe n C,n∈rn->X.mg n=some (.ref C)->n9 X.K C->(a,oe)∈pn->oe.cls=.ref C->n4 (gr X pn X.xe) K L rest (wr a n)) (gX:i≠j:=by decide) (hg:Gl X R:=by rfl) (hJ:(R == ("__debug__" : Str))=false:=by decide)
  (hd1:(en == ("__debug__" : Str))=false:=by decide) (hd2:(en == ("__classdict__" : Str))=false:=by decide) (MX:swapsWith (.Name en p2) (some (.Name y p1)) p3.line X.env=pure false:=by rfl) :
  n4 X K L (.Try body [.ExceptHandler (some (.Name R np)) (some en) [.Assign [.Name y p1] (.Name en p2) p3] Yq] [] [] pos :: rest) (C_ wb ρk wr):=by
 intro pins s σ H D I hx
 obtain⟨Hs,ρ,ah,E,sr,h,k1,k2,k3,k4,kx⟩:=hx
 obtain⟨r,hm,xr,sub⟩:=xr.ex
 have sp0:∀ p∈X.pn++pins,p∈(X.pn++pins)++[]:=fun p hp=>by rw[oP];exact hp
 have Bi:=hb (X.pn++pins) (fun e s'=>∃ ng aE H1 s1,Inv (gr X (X.pn++pins) X.xe) ng aE H1 s1/\mw X.prog X.w X.mg rn X.stack H1 s1 (fun c _ H'=>∃ n C,c=.ref C/\n∈rn/\X.mg n=some (.ref C)/\aS Hs H'/\∀ a,wr a n E (ρk a)) e s') _
  (fun ng aE H1 s1 e s' I1 c=>⟨ng,aE,H1,s1,Inv.JX I1,c⟩)
  [] s σ H { D with nx:=fun _ _=>False } (Inv.gr I fun p hp=>I.pin p (by rw[oP] at hp;exact hp)) ⟨Hs,ρ,ah,_,sr,h,fun _ _ _ _ _ _ _ z=>z,k2,k3,fun v H' av m d As s2 w2 r2 nd own q=>k4 v H' av m d As s2 w2 r2 nd own (vQ r2 q),fun n H' s2 q hn C hC=>⟨n,C,rfl,hn,hC,s2,q⟩⟩
 refine wpAny_execs_cons (wpAny_Try_except (qf Bi (fun f s1 hs=>?_) fun e s' hx=>?_))
 ·have hs:=SP.jT hs sp0
  cases f with
  |next =>
   obtain⟨aE,H',I',q⟩:=hs
   exact q.elim
  |brk=>exact hs
  |cont=>exact hs
  |ret u=>exact hs
 ·obtain⟨ng,aE,H1,s1,I1,a,n',C,a0,H',B,rfl,Sz,os,bare,un,bp,D4,cov,fr,n,C2,eC,hn,rg,sm,hq⟩:=hx
  cases eC
  obtain⟨xc,Fh⟩:=sub n C hn rg
  obtain⟨UJ,g',d',t',S9⟩:=s'
  obtain rfl:S9=s1.os:=os
  have fE':Heap.FlyingW B (X.env :: X.outer) a (.ref C) a0 UJ:=kC ▸ D4
  have th:∀ b o,s1.heap.get? b=some o->∃ o',UJ.get? b=some o':=fun b o e=>un.there b o e (by simp)
  refine wpAny_looks_onW (kC ▸ I.ok.frames) hf fE' fun h4 held up4=>wpAny_landsW held fun h5 Rv up5=>?_
  have UK:fj (fe X.stack) H' s1.heap UJ h5:=fj.of cov Rv.1 (up4.trans up5) D4.2.2.1
  have YX:=cov.next UK bp th
  have UL:=UK.un un
  have UM:=UK.bp fr bp
  have I5:Inv (gr X (X.pn++pins) X.xe) ng aE H' ⟨h5,g',d',t',s1.os⟩:=I1.call (h':=h5) (g':=g') (d':=d') (t':=t') (ch:=[]) UL UM bare (fun b z=>absurd z (by simp))
  refine wpAny_handleBy_cons (codeAny_handlers_test ?_) (by intro q;cases q)
  refine Qb (X:=B7 X (X.pn++pins) a) (pins:=ng) (Inv.B7 I5 fun p hp=>I5.pin p hp) hg hm ?_ hJ
  refine rM xc xr Fh I5.ke Rv.there (codeAny_handlers_suite_as ?_)
  refine lands_againW Rv fun h6 Rw up6=>?_
  have ff5:h5.FunFrames B X.stack:=kC ▸ Rv.2.2.1
  have UN:fj (fe X.stack) H' s1.heap h5 h6:=fj.of YX Rw.1 up6 ff5
  have un6:=UN.un UL
  have fK':=UN.bp fr UM
  have I6:Inv (gr X (X.pn++pins) X.xe) ng aE H' ⟨h6,g',d',t',s1.os⟩:=I1.call (h':=h6) (g':=g') (d':=d') (t':=t') (ch:=[]) un6 fK' bare (fun b z=>absurd z (by simp))
  obtain⟨oe,vs,he,ve,O0,_⟩:=Rw.first
  have nf:a∉fe X.stack:=fun z=>by
   have ff6:h6.FunFrames B X.stack:=kC ▸ Rw.2.2.1
   obtain⟨_,o,e1,d1⟩:=ff6.mem z
   rw[he] at e1;cases e1
   exact d1 vs O0
  have na:H' a=none:=by
   cases z:H' a with
   |none=>rfl
   |some u =>
    have:=(YX.next UN UM fun b o e=>UL.there b o e (by simp)) a oe he (.inl (by rw[z];exact fun z=>nomatch z)) nf
    rw[Rw.2.1] at this;cases this
  have frm:∀ b,b∈fe X.stack↔b=X.env.locals\/b∈X.fs:=fun b=>by
   rw[kC];unfold fe;rw[y2,hf];exact dc
  have pa:Ft X H' ⟨h6,g',d',t',s1.os⟩ (a,oe):=⟨he,na,fun z=>nf ((frm a).mpr (.inl z)),fun z=>nf ((frm a).mpr (.inr z)),fun v z=>by rw[O0] at z;cases z⟩
  have I6h:Inv (B7 X ((a,oe) :: (X.pn++pins)) a) [] aE H' ⟨h6,g',d',t',s1.os⟩:=Inv.B7 I6 fun p hp=>by
   rw[oP] at hp
   rcases dc.mp hp with z|z
   ·rw[z];exact pa
   ·exact I6.pin p (kr _ z)
  refine Sx (X:=B7 X ((a,oe) :: (X.pn++pins)) a) (v:=.ref a) I6h hN hj (.inl hl) rfl (fun s7 I7 _=>?_) (.inr hl)
  refine qf (SG (SV (X:=B7 X ((a,oe) :: (X.pn++pins)) a) hN hi (.inl hy) (SF hj (.inl hl) hd1 hd2) MX (.inr hy)) [] s7 (aE.set j (some (.ref a))) H' { nx:=fun YY H8=>YY=(aE.set j (some (.ref a))).set i (some (.ref a))/\H8=H',rt:=fun _ _=>False } I7 ⟨.ref a,?_,rfl,rfl⟩) (fun f s8 hs=>?_) fun _ _ z=>z.elim
  ·rw[Pw (by rw[show aE.length=X.N.length from I1.len];exact(ic.mp hj).1)]
  cases f with
  |next =>
   obtain⟨YY,H8,I8,rfl,rfl⟩:=hs
   have I9:Inv (gr X ((a,oe) :: (X.pn++pins)) X.xe) [] _ H8 s8:=Inv.Ef (X:=gr X ((a,oe) :: (X.pn++pins)) X.xe) I8 I.ok.hd fun p hp=>hp
   obtain⟨m,hn8,lk⟩:=id I9.loc
   refine wpAny_nameGoes_keeps hl hn8 (by rw[I9.ok.kind];rfl) fun h9 v hn9 sb=>?_
   refine cv (hk ((a,oe) :: (X.pn++pins)) a oe n C hn rg xc cq ve [] _ _ H8 D (Inv.Kd I9 hN hj lk hn9 sb) ⟨H8,ρk a,[],E,⟨?_,⟨aS.refl _,fun _ _ e=>e⟩,oQ,fun a h=>nomatch h⟩,hq a,
    fun fz H2 aw dQ cx s2=>k1 fz H2 aw dQ cx (sm.trans s2),fun fz H2 aw dQ cx s2=>k2 fz H2 aw dQ cx (sm.trans s2),fun fz H2 aw dQ cx s2=>k3 fz H2 aw dQ cx (sm.trans s2),fun v H2 aw m d As s2=>k4 v H2 aw m d As (sm.trans s2),fun n H2 s2=>kx n H2 (sm.trans s2)⟩) fun f Xw hs=>SP.jT hs fun p hp=>kr _ (ck _ hp)
   rw[List.set_comm _ _ gX,List.set_set,hρ a,show X.N.length=(aE.set j none).length by rw[PK];exact I1.len.symm]
   exact SR.exc (aE.set j none) i
  |brk=>obtain⟨_,_,_,z⟩:=hs;exact z.elim
  |cont=>obtain⟨_,_,_,z⟩:=hs;exact z.elim
  |ret u=>obtain⟨_,_,_,_,_,z⟩:=hs;exact z.elim
end L2.Q
namespace L2.Q.R
open PySem PySem.Spec PyProof.Rows L2.Q
theorem Kl{wr:Addr->Str->WS}:C_ t ρk wr E ρ=t { E with nx:=fun _=>False,rt:=fun m d=>og m d (fun n=>∀ a,wr a n E (ρk a)) (E.rt m d) } ρ:=rfl
end L2.Q.R
namespace L2.Q
open PySem PySem.Spec PyProof.Rows PySem.W
def Rx(d:D)(f:Bool->Prop):Prop:=match d with
 |.bl c=>f c
 |_=>False
def Et(sp:gE)(t:WA)(a b:WS):WS:=fun E ρ=>t ρ fun ps=>sp (ps.map (·.2)) fun m d=>og m d (fun n=>E.rt (.ow false) (.str n)) (bI (m,d) (f:=fun p=>Rx p.2 fun c=>if c=true then b E ρ else a E ρ) ⟨⟩)
section
variable {X:Cx}{K:PySem.W.Frag}{rn:List Str}{E:XK}{e:Expr}{es:List Expr}{t:WA}{pos:Pos}{k:Nat}{x:Str}{ps:List Str}{sp:gE}{p dy np:Pos}{body orelse:List Stmt}{a b:WS}
theorem EY(C:vx X.prog X.w X.K X.mg X.base rn k x ps sp)(hr:i6 k X.A)(hx:Passes (mw X.prog X.w X.mg rn) X E)(ha:QA X K (e :: es) t)(h1:n4 X K (LX rn X.mg E) body a)(h2:n4 X K (LX rn X.mg E) orelse b)
  (hK:X.K=K:=by rfl) (hg:Gl X x:=by rfl) (hJ:(x == ("__debug__" : Str))=false:=by decide) (he:starEach (e :: es) X.env=(false,eval e X.env) :: starEach es X.env:=by rfl)
  (fA:(backTo dy (starEach es X.env)).any (·.1)=false:=by rfl):QS X K (LX rn X.mg E) (.If (.UnaryOp .Not (.Call (.Name x p) (e :: es) [] dy) np) body orelse pos) (Et sp t a b):=by
 subst hK
 refine PS.imp (Wy (Wu (Wt (qY C hr hx ha hg hJ he fA))) h1 h2) fun D σ H hx=>gO hx fun Hs ρ ah E' sr h k1 k2 k3 k4 kx=>?_
 refine iT (Q:=fun _ d=>Rx d fun c=>if c=true then b E' ρ else a E' ρ) sr h (fun v H1 aT m d As g1 r1 f1 q1=>?_) kx
 have r:=r1.rep g1.wf
 cases r with
 |bl c =>
  refine⟨c,rfl,?_⟩
  have NV:∀ aE H' av bq bP,aS aT av->dn X.K av bq aE H' bP->E'.nx bq->D.nx aE H':=fun fz H2 aw dQ cx s2=>k1 fz H2 aw dQ cx (g1.sh.trans s2)
  have NW:∀ aE H' av bq bP,aS aT av->dn X.K av bq aE H' bP->E'.bk bq->D.bk aE H':=fun fz H2 aw dQ cx s2=>k2 fz H2 aw dQ cx (g1.sh.trans s2)
  have NX:∀ aE H' av bq bP,aS aT av->dn X.K av bq aE H' bP->E'.ct bq->D.ct aE H':=fun fz H2 aw dQ cx s2=>k3 fz H2 aw dQ cx (g1.sh.trans s2)
  cases c with
  |true=>exact⟨aT,ρ,ah,E',sr.grow g1,q1,NV,NW,NX,(fun v H2 aw m d As s2=>k4 v H2 aw m d As (g1.sh.trans s2)),fun n H2 s2=>kx n H2 (g1.sh.trans s2)⟩
  |false=>exact⟨aT,ρ,ah,E',sr.grow g1,q1,NV,NW,NX,(fun v H2 aw m d As s2=>k4 v H2 aw m d As (g1.sh.trans s2)),fun n H2 s2=>kx n H2 (g1.sh.trans s2)⟩
 |_=>exact q1.elim
end
namespace R
theorem KR:Et sp tar a b E ρ=tar ρ fun ps=>sp (ps.map (·.2)) fun m d=>og m d (fun n=>E.rt (.ow false) (.str n)) (bI (m,d) (f:=fun p=>Rx p.2 fun c=>bI c (f:=fun c=>if c=true then b E ρ else a E ρ) ⟨⟩) ⟨⟩):=rfl
theorem fP':Rx (.bl c) f=f c:=rfl
end R
end L2.Q
namespace L2.Q
open PySem PySem.Spec PyProof.Rows
def O1(m:Md)(d:D)(S:D->D->Prop)(O:D->D->Prop):Prop:=match m,d with
 |.sh,.tup [a,b]=>S a b
 |.ow true,.tup [a,b]=>a.flat=false/\b.flat=false/\O a b
 |_,_=>False
def DR(i j:Nat)(te:WE):WS:=fun E ρ=>te ρ fun m d=>O1 m d (fun a b=>E.nx ((ρ.set i (some (.sh a))).set j (some (.sh b)))) fun a b=>E.nx ((ρ.set i (some (.ow true a))).set j (some (.ow true b)))
theorem CP{X:Cx}{K:PySem.W.Frag}(hc:X.calm=true)(hN:X.N.Nodup)(hi:X.N[i]? = some x)(hx:Loc X.env.scope x)(hj:X.N[j]? = some y)(hy:Loc X.env.scope y)(he:QE X K e te)(hK:X.K=K:=by rfl)
  (hf:X.fn x=true\/X.env.scope.names.lookup x=some .local:=by first|exact .inl rfl|exact .inr rfl|assumption) (hf2:X.fn y=true\/X.env.scope.names.lookup y=some .local:=by first|exact .inl rfl|exact .inr rfl|assumption)
  (hn:(assignEach [.Name x p1,.Name y p2] X.env).length=2:=by rfl) (kC:(assignEach [.Name x p1,.Name y p2] X.env).findIdx? (·.1)=none:=by rfl)
  (hs:swapsWithSole [.Tuple [.Name x p1,.Name y p2] k p3] e pos.line X.env=pure false:=by rfl) (hw:swappedStores [.Tuple [.Name x p1,.Name y p2] k p3] e X.env=pure none:=by rfl)
  (h1:(assignEach [.Tuple [.Name x p1,.Name y p2] k p3] X.env).map (·.2)=[assign (.Tuple [.Name x p1,.Name y p2] k p3) X.env]:=by rfl) (h2:(assignEach [.Name x p1,.Name y p2] X.env).map (·.2)=assign (.Name x p1) X.env :: (assignEach [.Name y p2] X.env).map (·.2):=by rfl)
  (h3:(assignEach [.Name y p2] X.env).map (·.2)=assign (.Name y p2) X.env :: (assignEach [] X.env).map (·.2):=by rfl) :
  QS X K L (.Assign [.Tuple [.Name x p1,.Name y p2] k p3] e pos) (DR i j te):=by
 subst hK
 refine PS.imp (aw' he (WB hc (SN (SK hN hi hx hf) (SN (SK hN hj hy hf2) Wz h3) h2) hn kC) hs hw h1) fun D σ H hx=>fG hx fun Hs ρ ah E sr h k1 k2 k3 k4=>?_
 refine⟨Hs,ρ,ah,_,sr,h,fun v H1 aT m d As g1 r1 f1 q1=>?_⟩
 have Ry:=sr.grow g1
 unfold O1 at q1
 split at q1
 ·rename_i a b
  obtain⟨_,r⟩:=r1
  cases r with
  |tup z e rs =>
   cases rs with
   |cons ra rs=>cases rs with
    |cons rb rs=>cases rs with
     |nil =>
      obtain⟨t1,m1,s1⟩:=Ry.DP i ra
      obtain⟨t2,m2,s2⟩:=s1.DP j rb
      exact⟨_,_,rfl,.inl (.inl (g1.wf.sub _ _ e)),rfl,_,_,rfl,_,_,rfl,rfl,k1 _ H1 aT _ t2 g1.sh s2 q1⟩
 ·rename_i a b
  obtain⟨fa,fb,q1⟩:=q1
  obtain⟨r,ne⟩:=r1
  cases r with
  |sh _ _=>exact absurd rfl ne
  |tup z e n rs =>
   cases rs with
   |@cons _ v1 _ _ A1 _ ra rs=>cases rs with
    |@cons _ v2 _ _ A2 _ rb rs=>cases rs with
     |nil =>
      obtain⟨nd,fr⟩:=f1
      rw[oP] at nd fr
      obtain⟨n1,n2,n3⟩:=kc.mp nd
      have dj:∀ c∈A1++A2,c∉ah:=fun c hc z=>(sr.sr.own c z).ne (fr c hc).2
      obtain⟨t1,a1,b1,c1⟩:=SR.wJ (ra.ne fa) ra n1 i Ry.sr Ry.sR fun c hc=>dj c (kr _ hc)
      obtain⟨t2,a2,b2,c2⟩:=SR.wJ (rb.ne fb) rb n2 j c1 a1 fun c hc z=>by
       rcases b1 c z with w|w
       ·exact dj c (fq _ hc) w
       ·exact n3 c w c hc rfl
      refine⟨_,_,rfl,.inl (.inl (g1.wf.sub _ _ e)),rfl,_,_,rfl,_,_,rfl,rfl,k1 _ H1 aT _ t2 g1.sh ⟨c2,g1.wf,a2,fun c hc=>?_⟩ q1⟩
      rcases b2 c hc with w|w
      ·rcases b1 c w with w|w
       ·exact Ry.own c w
       ·exact(fr c (kr _ w)).1
      ·exact(fr c (fq _ w)).1
 ·exact q1.elim
end L2.Q
namespace L2.Q.R
open PySem PySem.Spec PyProof.Rows L2.Q
section
variable {E:lC}{ρ:Env}{te:WE}{i j:Nat}{x y:L2.Q.D}{S O:L2.Q.D->L2.Q.D->Prop}
theorem Kv:DR i j te E ρ=te ρ fun m d=>bI (m,d) (f:=fun p=>O1 p.1 p.2 (fun a b=>E.nx ((ρ.set i (some (.sh a))).set j (some (.sh b)))) fun a b=>E.nx ((ρ.set i (some (.ow true a))).set j (some (.ow true b)))) ⟨⟩:=rfl
theorem Jv:O1 .sh (.tup [x,y]) S O=S x y:=rfl
theorem JM:O1 (.ow true) (.tup [x,y]) S O=(x.flat=false/\y.flat=false/\O x y):=rfl
end
end L2.Q.R
namespace L2
open PySem PySem.Spec PyProof.Rows Builtin Builtin.Str Builtin.Int
end L2
namespace L2.Q
open PySem PySem.Spec PyProof.Rows
section
variable {X:Cx}{K:PySem.W.Frag}{a:Expr}{ta:WE}
def UO(t:WE):WE:=fun ρ Q=>t ρ fun m d=>lY m/\Q .sh d
theorem fR'(h:QE X K a ta):QE X K a (UO ta):=by
 refine PE.imp h fun σ H Qv hx=>kF hx fun Hs ρ ah Q sr h fin=>?_
 refine⟨Hs,ρ,ah,_,sr,h,fun v H1 aT m d As g1 r1 f1 q1=>?_⟩
 obtain⟨nb,q⟩:=q1
 cases m with
 |sh=>exact fin v H1 aT .sh d As g1 r1 f1 q
 |bo=>exact nb.elim
 |ow fl =>
  obtain⟨r,ne⟩:=r1
  have hn:∀ a∈As,aT a=none:=fun a h=>(f1.2 a h).1
  have s:=h_ (H:=H1) hn
  refine fin v H1 (ti aT H1 As) .sh d [] ⟨g1.all,g1.sh.trans s,xn g1.wf r.own,fun c hc=>?_⟩ ⟨rfl,r.rep s fun c hc=>by unfold ti;rw[if_pos hc]⟩ ⟨oQ,fun _ h=>BQ h⟩ q
  unfold ti at hc
  split at hc
  ·rename_i m
   exact .inr (f1.2 c m).2
  ·exact g1.new c hc
def vE(ys:List D)(x:D):Bool:=ys.any fun z=>fF z x
def O3(neg:Bool):W2:=fun _ x _ y Q=>∃ ys,(y=.list ys\/y=.tup ys)/\b9 12 x=true/\b9 12 y=true/\Q .sh (.bl (if neg then !vE ys x else vE ys x))
def UQ(K:PySem.W.Frag)(neg:Bool):R2:=fun x y H Q=>∃ d e xs,L2.Rep K H d x/\L2.Rep K H e y/\(e=.list xs\/e=.tuple xs)/\d.canLay0=true/\PyData.canLayAll0 xs=true/\d.depth<=60/\Q (.bl (if neg then !(xs.any fun z=>PyData.eqv z d) else xs.any fun z=>PyData.eqv z d)) H
theorem yr(hu:X.A.units+64<cLine):cS X (compareOp .NotIn) (UQ X.K true):=by
 intro pins s σ H x y v u Q I rx ry h
 obtain⟨d,e,xs,h1,h2,h3,h4,h5,h6,q⟩:=h
 obtain⟨as,r1⟩:=h1.reads I rx
 obtain⟨bs,r2⟩:=h2.reads I ry
 rcases h3 with rfl|rfl
 ·exact PySem.SeqAt.notIn_list_reads r2 r1 h5 h4 (by lia) ⟨.bl _,H,I,rfl,q⟩
 ·exact PySem.SeqAt.notIn_tuple_reads r2 r1 h5 h4 (by lia) ⟨.bl _,H,I,rfl,q⟩
theorem yg(hu:X.A.units+64<cLine)(hK:X.K=K:=by rfl):cS X (compareOp .NotIn) (UQ K true):=by subst hK;exact yr hu
theorem Ec(ys:List D)(x:D):((kU ys).any fun z=>PyData.eqv z x.py)=vE ys x:=by
 induction ys with
 |nil=>rfl
 |cons y ys ih =>
  rw[kU,AY,ih]
  rfl
theorem Bw:jv K (UQ K neg) (O3 neg):=by
 intro Hs H m x v As n y u Bs Qd Qv w rx ry h f
 obtain⟨ys,hy,o1,o2,q⟩:=h
 have l1:=jn 12 x o1
 have l2:=jn 12 y o2
 refine⟨x.py,y.py,kU ys,(rx.rep w).l2 o1,(ry.rep w).l2 o2,?_,l1.1,?_,by lia,?_⟩
 ·rcases hy with rfl|rfl
  ·exact .inl rfl
  ·exact .inr rfl
 ·rcases hy with rfl|rfl
  ·exact l2.1
  ·exact l2.1
 ·rw[Ec]
  exact f.sh w (.bl _) q
def Fs(o:Option (Option Sl))(k:List D->Prop):Prop:=match o with
 |some (some (.ow true (.list xs)))=>k xs
 |_=>False
def intD(y:D)(k:Int->Prop):Prop:=match y with
 |.int i=>k i
 |_=>False
def O4(d:D):Md:=bif d.flat then .sh else .ow true
end
end L2.Q
namespace L2.Q.R
open PySem PySem.Spec PyProof.Rows L2.Q
section
variable {ρ:Env}{te:WE}{m m':Md}{x:L2.Q.D}{ys:List L2.Q.D}{Q:Md->L2.Q.D->Prop}
theorem Km:Fs (some (some (.ow true (.list ys)))) k=k ys:=rfl
theorem Mp:intD (.int i) k=k i:=rfl
theorem fS':UO te ρ Q=te ρ fun m d=>lY m/\Q .sh d:=rfl
theorem KY:O3 neg m x m' (.list ys) Q=(b9 12 x=true/\b9 12 (.list ys)=true/\Q .sh (.bl (if neg then !vE ys x else vE ys x))):=by
 apply propext
 exact⟨fun⟨zs,h,a,b,c⟩=>by rcases h with h|h<;>cases h;exact⟨a,b,c⟩,fun⟨a,b,c⟩=>⟨ys,.inl rfl,a,b,c⟩⟩
theorem Ld:O3 neg m x m' (.tup ys) Q=(b9 12 x=true/\b9 12 (.tup ys)=true/\Q .sh (.bl (if neg then !vE ys x else vE ys x))):=by
 apply propext
 exact⟨fun⟨zs,h,a,b,c⟩=>by rcases h with h|h<;>cases h;exact⟨a,b,c⟩,fun⟨a,b,c⟩=>⟨ys,.inr rfl,a,b,c⟩⟩
end
end L2.Q.R
namespace L2
open PySem PySem.Spec PyProof.Rows
end L2
namespace L2.Q
open PySem PySem.Spec PyProof.Rows
section
def YZ(x:D)(f:List (Key × D)->Prop)(g:List (List Key × D)->Prop):Prop:=match x with
 |.dK kvs=>f kvs
 |.dT kvs=>g kvs
 |_=>False
def Y0(y:D)(k:List D->Prop):Prop:=match y with
 |.tup ys=>k ys
 |_=>False
def Y1(o:Option D)(m n:Md)(z:D)(Q:Md->D->Prop):Prop:=match o with
 |some d=>Q (mn m d) d
 |none=>Q n z
def fT'(o:Option (Option Sl))(k:List (List Key × D)->Prop):Prop:=match o with
 |some (some (.ow true (.dT kvs)))=>k kvs
 |_=>False
end
end L2.Q
namespace L2
open PySem PySem.Spec PyProof.Rows
end L2
namespace L2.Q
open PySem PySem.Spec PyProof.Rows
section
variable {K:PySem.W.Frag}{a b c:Expr}
def fU'(d:D)(k:List (Key × D)->Prop):Prop:=match d with
 |.dK kvs=>k kvs
 |_=>False
theorem SR.take(i:Nat)(s:SR K Hs H ρ σ ah):ρ[i]? = some (some (.ow fl d))->ah.Nodup ->
  ∃ (v:V) (As bP:List Addr),σ[i]? = some (some v)/\bG K Hs H fl d v As/\As.Sublist ah/\bP.Sublist ah/\(∀ a∈As,a∉bP)/\SR K Hs H (ρ.set i none) σ bP:=by
 induction s generalizing i with
 |nil=>intro e;simp at e
 |non q ih =>
  intro e n
  cases i with
  |zero=>simp at e
  |succ i =>
   obtain⟨v,As,t,o,a,b,c,d,f⟩:=ih i e n
   exact⟨v,As,t,o,a,b,c,d,.non f⟩
 |sh r q ih =>
  intro e n
  cases i with
  |zero=>simp at e
  |succ i =>
   obtain⟨v,As,t,o,a,b,c,d,f⟩:=ih i e n
   exact⟨v,As,t,o,a,b,c,d,.sh r f⟩
 |xc q ih =>
  intro e n
  cases i with
  |zero=>simp at e
  |succ i =>
   obtain⟨v,As,t,o,a,b,c,d,f⟩:=ih i e n
   exact⟨v,As,t,o,a,b,c,d,.xc f⟩
 |ow ne r q ih =>
  intro e n
  obtain⟨n1,n2,n3⟩:=kc.mp n
  cases i with
  |zero =>
   simp at e
   obtain⟨rfl,rfl⟩:=e
   exact⟨_,_,_,rfl,r,LH _ _,oI _ _,fun a h m=>n3 a h a m rfl,.non q⟩
  |succ i =>
   obtain⟨v,As,t,o,a,b,c,d,f⟩:=ih i e n2
   exact⟨v,As,_,o,a,b.trans (oI _ _),c.append_left _,oK n b d,.ow ne r f⟩
 |lk ne r q ih =>
  intro e n
  obtain⟨n1,n2,n3⟩:=kc.mp n
  cases i with
  |zero=>simp at e
  |succ i =>
   obtain⟨v,As,t,o,a,b,c,d,f⟩:=ih i e n2
   exact⟨v,As,_,o,a,b.trans (oI _ _),c.append_left _,oK n b d,.lk ne r f⟩
theorem BR(h:Fs o k):∃ xs,o=some (some (.ow true (.list xs)))/\k xs:=by
 unfold Fs at h
 split at h
 ·exact⟨_,rfl,h⟩
 ·exact h.elim
theorem Dt(gX:i≠j)(sr:dn K Hs ρ σ H ah)(ei:ρ[i]? = some (some (.ow true (.list hs))))(ej:ρ[j]? = some (some (.ow true (.list xs))))
  (fl:cf xs=true) (Rn:hs.length<sizeLine) :
  ∃ a ws c vs cx,σ[i]? = some (some (.ref a))/\H a=some (.lst ws)/\ws.length<sizeLine/\σ[j]? = some (some (.ref c))/\upd H a (.lst (ws++[.ref c])) c=some (.lst vs)/\aI K Hs xs vs/\vs.length<=sizeLine /\
   dn K Hs ((ρ.set j none).set i (some (.ow true (.list (hs++[.list xs]))))) σ (upd H a (.lst (ws++[.ref c]))) cx:=by
 obtain⟨v,As,bP,e1,r,sb,st,dj,s1⟩:=SR.take j sr.sr ej sr.sR
 have ei':(ρ.set j none)[i]? = some (some (.ow true (.list hs))):=by rw[FR (Ne.symm gX)];exact ei
 obtain⟨u,Ai,_,e2,ne,ri,si,g⟩:=SR.put i s1 ei' (st.nodup sr.sR)
 cases r with
 |sh hf _=>exact absurd (hf rfl) (by simp[D.flat])
 |@list c vs _ B hz ec rs =>
  cases ri with
  |sh _ _=>exact absurd rfl ne
  |@list a ws _ A hw ea ra =>
   have Y2:c≠a:=fun z=>dj c cq (si.subset (z ▸ cq))
   have nd1:=si.nodup (st.nodup sr.sR)
   obtain⟨na,nA⟩:=kA.mp nd1
   have ndj:=sb.nodup sr.sR
   have dA:∀ x∈c :: B,x∉a :: A:=fun x hx m=>dj x hx (si.subset m)
   have nB:∀ x∈c :: B,x≠a:=fun x hx z=>dA x hx (z ▸ cq)
   have hl:=ra.length
   have r3:bG K Hs (upd H a (.lst (ws++[.ref c]))) true (.list (hs++[.list xs])) (.ref a) (a :: (A++((c :: B)++[]))):=by
    refine .list (by rw[qh,<- hl];exact Rn) kK ((ra.fv (H':=upd H a (.lst (ws++[.ref c]))) (aS.refl _) fun b hb=>fE fun z=>na (by subst z;exact hb)).append (.cons (.list hz ((fE Y2).trans ec) (rs.fv (aS.refl _) fun b hb=>fE (nB b (ck _ hb)))) .nil))
   obtain⟨cx,n2,i2,s2⟩:=g Hs _ true _ _ (aS.refl _) r3 (by simp) (kA.mpr ⟨fun m=>(dP.mp m).elim na fun m=>nB a (by simpa using m) rfl,kc.mpr ⟨nA,by simpa using ndj,fun x hx y hy e=>dA y (by simpa using hy) (e ▸ ck _ hx)⟩⟩)
    (fun b hb m=>by
     rcases dc.mp hb with rfl|hb
     ·exact cq
     ·rcases dP.mp hb with hb|hb
      ·exact ck _ hb
      ·exact absurd m (dj b (by simpa using hb)))
    (fun b _ nb=>fE fun z=>nb (z ▸ cq))
   have Ha:Hs a=none:=sr.own a (st.subset (si.subset cq))
   refine⟨a,ws,c,vs,cx,e2,ea,by lia,e1,(fE Y2).trans ec,(rs.reps sr.wf.sub fun _ _=>rfl).gF sr.wf.iX fl,hz,s2,wH sr.wf Ha (fun _ z=>nomatch z),n2,fun b hb=>?_⟩
   rcases i2 b hb with m|m
   ·exact sr.own b (st.subset m)
   ·rcases dc.mp m with rfl|m
    ·exact Ha
    ·rcases dP.mp m with m|m
     ·exact sr.own b (st.subset (si.subset (ck _ m)))
     ·exact sr.own b (sb.subset (by simpa using m))
end
end L2.Q
namespace L2.Q.R
open PySem PySem.Spec PyProof.Rows L2.Q
section
variable {ys:List L2.Q.D}{Q:Md->L2.Q.D->Prop}{k:Nat}
theorem Np{kvs:List (Key × L2.Q.D)}{k:List (Key × L2.Q.D)->Prop}:fU' (.dK kvs) k=k kvs:=rfl
theorem M6:YZ (.dK kvs) f g=f kvs:=rfl
theorem Nm:YZ (.dT kvs) f g=g kvs:=rfl
theorem Nf{k:List L2.Q.D->Prop}:Y0 (.tup ys) k=k ys:=rfl
theorem Mz{kvs:List (List Key × L2.Q.D)}{k:List (List Key × L2.Q.D)->Prop}:fT' (some (some (.ow true (.dT kvs)))) k=k kvs:=rfl
end
end L2.Q.R
namespace L2
open PySem PySem.Spec PyProof.Rows
section
variable {X:Cx}
def Rz(K:PySem.W.Frag):List V->Hp->VK->Prop:=fun xs H Q=>match xs with
 |[.ref a]=>∃ bs:List Bool,eJ K H a (bs.map V.bl)/\Q (.bl (bs.any id)) H
 |_=>False
theorem xF (hc:X.calm=true):i5 X (.builtin "any") (Rz X.K):=by
 intro pins s σ H xs us Q I r h
 unfold Rz at h
 split at h
 ·rename_i a
  obtain⟨bs,e,q⟩:=h
  obtain⟨u,rfl,ru⟩:=Vals.one r
  cases ru
  obtain⟨its,rv,pl,hz⟩:=I.list e
  have hl:s.heap.IsList a its.toArray:=pl.isList
  obtain⟨o,ho,Qa,n,EL⟩:=id hl
  have hlen:=rv.length
  rw[cE] at hlen
  refine call_any_walk (wpAny_pyIter_list hl ?_)
  have kf:a≠s.heap.objs.size:=eT (dv ho)
  have Ro:X.A.in1.handled=none:=I.ok.hd hc
  refine⟨s.heap.objs.size,_,_,_,_,_,fun i=>bs.getD i false,rfl,Walks.list Ro s.heap.objs.size a kf its.toArray,⟨⟨_,i3 _ rfl,rfl,rfl⟩,⟨_,eS _ ho,Qa,n,EL⟩⟩,?_,fun h' tk hk=>?_⟩
  ·intro i v s' Q' E' hv hq
   have D3:its[i]? = some v:=by simpa using (show its.toArray[i]? = some v from hv)
   have hi:i<bs.length:=by
    have:=(ic.mp D3).1
    lia
   obtain⟨w',e1,r1⟩:=rv.get (i:=i) (x:=V.bl bs[i]) (by simp[hi])
   rw[D3] at e1
   cases e1
   cases (show v=Value.bool bs[i] from r1)
   have hq:Q' (bs.getD i false) s':=hq
   rw[show bs.getD i false=bs[i] by simp[List.getD,hi]] at hq
   exact wpAny_truthy_bool hq
  ·have e3:((List.range its.toArray.size).any fun i=>bs.getD i false)=bs.any id:=by
    rw[ip,<- hlen]
    apply wa.mpr
    simp only[Dp,mI,id]
    constructor
    ·rintro⟨i,hi,h⟩
     exact⟨bs[i],Dx hi,by simpa[List.getD,hi] using h⟩
    ·rintro⟨b,hb,h⟩
     obtain⟨i,hi,rfl⟩:=R5.mp hb
     exact⟨i,hi,by simpa[List.getD,hi] using h⟩
   rw[e3]
   refine⟨.bl (bs.any id),H,?_,rfl,q⟩
   exact I.kept (t':=tk) fun b o e=>hk b o (by simp;exact eT (dv e)) (eS _ e)
 ·exact h.elim
end
end L2
namespace L2.Q
open PySem PySem.Spec PyProof.Rows
section
variable {X:Cx}{K:PySem.W.Frag}{L:Str->Hp->Prop}{e e2 e3:Expr}{p:WP}{te:WE}{apos dy pos:Pos}
theorem Y3 (hc:X.calm=true:=by rfl) (hK:X.K=K:=by rfl):i5 X (.builtin "any") (Rz K):=by subst hK;exact xF hc
theorem BV:bootBuiltins "any" = some (.builtin "any"):=by decide +kernel
def RA:W1:=fun _ x Q=>match x with
 |.list xs=>∃ bs:List Bool,xs=bs.map D.bl/\Q .sh (.bl (bs.any (fun b=>b)))
 |_=>False
theorem Ca:AH K (Rz K) RA:=by
 intro Hs H m x v As Qd Qv w rx h f
 have r1:=rx.rep w
 cases r1 with
 |list z s q =>
  obtain⟨bs,rfl,h⟩:=h
  cases GD q
  exact⟨bs,s,f.sh w (.bl _) h⟩
 |_=>exact h.elim
theorem xJ:bootBuiltins "int" = some (.type "int"):=by decide +kernel
def RC:W1:=fun _ x Q=>match x with
 |.int i=>Q .sh (.int i)
 |.bl b=>Q .sh (.int (if b then 1 else 0))
 |_=>False
theorem Ib:AH K (fun xs H Q=>(∃ i,xs=[.int i]/\Q (.int i) H)\/∃ k,xs=[.bl k]/\Q (.int (if k then 1 else 0)) H) RC:=by
 intro Hs H m x v As Qd Qv w rx h f
 have r1:=rx.rep w
 cases r1 with
 |int i=>exact .inl ⟨i,rfl,f.sh w (.int _) h⟩
 |bl b=>exact .inr ⟨b,rfl,f.sh w (.int _) h⟩
 |_=>exact h.elim
theorem Place.short(pl:Place K aT H1 σ fl (.list xs) v up)(e:v=.ref a)(h:H1 a=some (.lst vs)):vs.length<=sizeLine:=by
 subst e
 rcases pl.ex with⟨fN,r,ne,_⟩
 cases r with
 |sh _ _=>exact absurd rfl ne
 |list hz e3 _=>rw[h] at e3;cases e3;exact hz
def UR(p:WP)(te:WE):WS:=fun E ρ=>p ρ fun fl d up=>match d with
 |.list xs=>te ρ fun m y=>m=.ow true/\match y with
  |.list ys=>cf ys=true/\xs.length+ys.length<=sizeLine/\E.nx (up fl (.list (xs++ys)))
  |_=>False
 |_=>False
theorem Hj (ho:QP X K e p) (he:QE X K e2 te) (hK:X.K=K:=by rfl) (hs:swapsWith (.Call (.Attribute e "extend" apos) [e2] [] dy) none pos.line X.env=pure false:=by rfl)
  (xE:attributeBase e "extend" X.env (eval e X.env)=eval e X.env:=by rfl)
  (uk:((backTo dy (starEach [e2] X.env)).all (fun x=>!x.1) && (backToKw dy (keywordEach [] X.env)).all (fun x=>x.1.isSome)
   && decide ([e2].length+([]:List Keyword).length+(if ([]:List Keyword).isEmpty then 0 else 1)<30))=true:=by rfl)
  (hline:(apos.endLine == dy.line)=true:=by rfl) (tq:starEach (e2 :: []) X.env=(false,eval e2 X.env) :: starEach [] X.env:=by rfl) (xI:(backTo dy (starEach [] X.env)).any (·.1)=false:=by rfl) :
  QS X K L (.Expr (.Call (.Attribute e "extend" apos) [e2] [] dy) pos) (UR p te):=by
 subst hK
 refine PS.imp (Mb (Ic PySem.F.plainAttrs_list PySem.F.slot_list_extend PySem.F.type_list_extend ci' ho (pd he sN tq) xE uk hline tq xI) hs) fun D σ H hx=>fG hx fun Hs ρ ah E sr h k1 k2 k3 k4=>?_
 refine⟨Hs,ρ,ah,_,sr,h,fun v H1 aT fl d up g1 p1 q1=>?_⟩
 cases d with
 |list xs =>
  obtain⟨a1,vs1,e1,s1⟩:=p1.Yn g1.wf
  refine⟨by subst e1;exact .inl ⟨rfl,_,s1⟩,aT,ρ,ah,_,sr.grow g1,q1,fun y H2 aw m x As g2 r2 f2 q2=>?_⟩
  obtain⟨rfl,q2⟩:=q2
  obtain⟨a,vs,A,ea,e2,Y4,rs,nd,hn,k⟩:=p1.put g2
  obtain⟨r,ne⟩:=r2
  cases r with
  |sh _ _=>exact absurd rfl ne
  |list hz e3 Rj =>
   obtain⟨fy,hl,q2⟩:=q2
   obtain⟨nA,O5⟩:=kA.mp nd
   have l1:=rs.length
   have l2:=Rj.length
   refine⟨a,_,vs,_,ea,rfl,e2,e3,by lia,?_⟩
   obtain⟨cx,g0⟩:=k fl (xs++_) (vs++_) (A++[]) id (rs.append (aI.owned ((Rj.reps g2.wf.sub fun _ _=>rfl).gF g2.wf.iX fy) fy)) (by rw[qh];lia) (by simpa using O5) (by simpa using nA) (fun x hx=>.inl (by simpa using hx))
   exact k1 _ _ aw _ cx (g1.sh.trans g2.sh) g0 q2
  |_=>exact q2.elim
 |_=>exact q1.elim
end
end L2.Q
namespace L2.Q.R
open PySem PySem.Spec PyProof.Rows L2.Q
section
variable {ρ:Env}{E:lC}{te:WE}{m:Md}{Q:Md->L2.Q.D->Prop}{p:WP}{xs ys:List L2.Q.D}{k:List L2.Q.D->Prop}
def O6(d:L2.Q.D)(k:List L2.Q.D->Prop):Prop:=match d with
 |.list xs=>k xs
 |_=>False
theorem Nk:O6 (.list xs) k=k xs:=rfl
theorem Ox:UR p te E ρ=p ρ fun fl d up=>bI d (f:=fun d=>O6 d fun xs=>te ρ fun m y=>m=.ow true/\bI y (f:=fun y=>O6 y fun ys=>cf ys=true/\xs.length+ys.length<=sizeLine/\E.nx (up fl (.list (xs++ys)))) ⟨⟩) ⟨⟩:=rfl
theorem Mv:Y1 (some d) m n z Q=Q (mn m d) d:=rfl
theorem Ks:Y1 none m n z Q=Q n z:=rfl
theorem Lp:RC m (.int i) Q=Q .sh (.int i):=rfl
theorem KJ:RC m (.bl b) Q=Q .sh (.int (if b then 1 else 0)):=rfl
theorem Od:RA m (.list xs) Q = ∃ bs:List Bool,xs=bs.map L2.Q.D.bl/\Q .sh (.bl (bs.any (fun b=>b))):=rfl
end
end L2.Q.R
namespace PySem.SeqAt
open AutoSeq1 (wpAny_loadPart')
open MeetsSeq MeetsSeq2 MeetsSeq3 SeqRoads2
def ny(A:Around)(s:Shared)(u v:Value)(b:Bool):Prop:=∀ (prog:Program) (w:World) (Q:Value->Shared->Prop) (E:Value->Shared->Prop),Q (.bool b) s->wpAny (model prog w) A (richCompare .Lt u v) Q E s
def tF(e f:Nat->Bool)(m n:Nat):Nat->Nat->Bool
 |0,_=>decide (m<n)
 |k+1,i=>if e i then tF e f m n k (i+1) else f i
theorem wR(l b:Addr)(items da:Array Value)(n n2:Nat)(dd sf:Option Addr)(sl sj:Array (Option Value))(e f:Nat->Bool)(k:Nat) :
  ∀ i:Nat,min items.size da.size-i=k->i<=min items.size da.size->Meets (Builtin.«list.__eq__.loop» ⟨[.ref l,.ref b,rawInt i,rawInt 0],[]⟩)
   (fun A R s=>s.heap.get? l=some { cls:=.type "list",dict:=dd,data:=.seq items n,slots:=sl }/\s.heap.get? b=some { cls:=.type "list",dict:=sf,data:=.seq da n2,slots:=sj } /\
    (∀ j (h1:j<items.size) (h2:j<da.size),EqAt A.in1 s items[j] da[j] (e j))/\(∀ j (h1:j<items.size) (h2:j<da.size),e j=false->ny A.in1 s items[j] da[j] (f j)) /\
    R (.ok (.ret (.bool (tF e f items.size da.size k i)))) s):=by
 induction k with
 |zero =>
  intro i hk hle prog w A R s h
  obtain⟨hp,g,d,tk,os⟩:=s;obtain⟨hl,hb,he,hf,h⟩:=h
  wp_walk using wpAny_loadPart' hl,wpAny_loadPart' hb
  rcases (show items.size<=i\/da.size<=i by lia) with z|z
  ·have kE:items[((i:Nat):Int).toNat]? = none:=by simp;lia
   rw[kE]
   wp_walk using wpAny_loadPart' hl,wpAny_loadPart' hb
   exact h
  ·have iE:da[((i:Nat):Int).toNat]? = none:=by simp;lia
   rw[iE]
   cases items[((i:Nat):Int).toNat]?<;>wp_walk using wpAny_loadPart' hl,wpAny_loadPart' hb<;>exact h
 |succ k ih =>
  intro i hk hle prog w A R s h
  obtain⟨hp,g,d,tk,os⟩:=s;obtain⟨hl,hb,he,hf,h⟩:=h
  wp_walk using wpAny_loadPart' hl,wpAny_loadPart' hb
  have dr:i<items.size:=by lia
  have UT:i<da.size:=by lia
  have kE:items[((i:Nat):Int).toNat]? = some items[i]:=by simp[dr]
  have iE:da[((i:Nat):Int).toNat]? = some da[i]:=by simp[UT]
  have hc:((i:Int)+1)=((i+1:Nat):Int):=by push_cast;rfl
  rw[kE,iE]
  refine ai (he i dr UT prog w _ _ ?_)
  cases Fu:e i with
  |true =>
   rw[tF,Fu,if_pos rfl] at h
   wp_walk
   rw[hc]
   exact⟨plainId_quiet plain_eq_loop _,codeAny_builtin entry_eq_loop (by
    rw[Around.under_plainId plain_eq_loop _]
    exact ih (i+1) (by lia) (by lia) prog w A R _ ⟨hl,hb,he,hf,h⟩)⟩
  |false =>
   rw[tF,Fu,if_neg g9] at h
   wp_walk using wpAny_loadPart' hl,wpAny_loadPart' hb
   rw[kE,iE]
   refine ai (hf i dr UT Fu prog w _ _ ?_)
   wp_walk
   exact h
theorem wA(l b:Addr)(items da:Array Value)(n n2:Nat)(dd sf:Option Addr)(sl sj:Array (Option Value))(e f:Nat->Bool) :
  Meets (Builtin.«list.__lt__» ⟨[.ref l,.ref b],[]⟩)
   (fun A R s=>s.heap.get? l=some { cls:=.type "list",dict:=dd,data:=.seq items n,slots:=sl }/\s.heap.get? b=some { cls:=.type "list",dict:=sf,data:=.seq da n2,slots:=sj } /\
    (∀ j (h1:j<items.size) (h2:j<da.size),EqAt A.in1 s items[j] da[j] (e j))/\(∀ j (h1:j<items.size) (h2:j<da.size),e j=false->ny A.in1 s items[j] da[j] (f j)) /\
    R (.ok (.ret (.bool (tF e f items.size da.size (min items.size da.size) 0)))) s):=by
 intro prog w A R s h
 obtain⟨hp,g,d,tk,os⟩:=s;obtain⟨hl,hb,he,hf,h⟩:=h
 have f3:=AutoSeq1.sub_list_list
 wp_walk using wpAny_loadPart' hl,wpAny_loadPart' hb
 exact⟨plainId_quiet plain_eq_loop _,codeAny_builtin entry_eq_loop (by
  rw[Around.under_plainId plain_eq_loop _]
  exact wR l b items da n n2 dd sf sl sj e f _ 0 (Nat.sub_zero _) (eI _) prog w A R _ ⟨hl,hb,he,hf,h⟩)⟩
theorem vK(l b:Addr)(items da:Array Value)(n n2:Nat)(dd sf:Option Addr)(sl sj:Array (Option Value))(e f:Nat->Bool) :
  Meets (Builtin.«tuple.__lt__» ⟨[.ref l,.ref b],[]⟩)
   (fun A R s=>s.heap.get? l=some { cls:=.type "tuple",dict:=dd,data:=.seq items n,slots:=sl }/\s.heap.get? b=some { cls:=.type "tuple",dict:=sf,data:=.seq da n2,slots:=sj } /\
    (∀ j (h1:j<items.size) (h2:j<da.size),EqAt A.in1 s items[j] da[j] (e j))/\(∀ j (h1:j<items.size) (h2:j<da.size),e j=false->ny A.in1 s items[j] da[j] (f j)) /\
    R (.ok (.ret (.bool (tF e f items.size da.size (min items.size da.size) 0)))) s) :=
 .of_wp fun prog w A R s h=>by
  obtain⟨hp,g,d,tk,os⟩:=s;obtain⟨hl,hb,he,hf,h⟩:=h
  have f2:=AutoSeq1.sub_tuple_tuple
  have hZ:(items.toList.zip da.toList).length=min items.size da.size:=by simp
  wp_walk using wpAny_loadPart' hl,wpAny_loadPart' hb,wpAny_forIn_list _ (fun rest b s'=>b.1=none/\s'=⟨hp,g,d,tk,os⟩/\∃ i,rest=(items.toList.zip da.toList).drop i/\i<=min items.size da.size /\
   R (.ok (.ret (.bool (tF e f items.size da.size (min items.size da.size-i) i)))) ⟨hp,g,d,tk,os⟩) _
  case turn =>
   rintro⟨y,x⟩ rest b s' ⟨Fu,rfl,i,hz,hi,hR⟩
   have dr:i<(items.toList.zip da.toList).length:=by
    rcases GU i (items.toList.zip da.toList).length with h'|h'
    ·exact h'
    ·rw[R0 h'] at hz;cases hz
   have hm:i<min items.size da.size:=hZ ▸ dr
   have h1:i<items.size:=ly hm (Nat.min_le_left _ _)
   have h2:i<da.size:=ly hm (Nat.min_le_right _ _)
   rw[xk dr] at hz
   injection hz with Y5 fY'
   have hy:y=items[i]:=by have:=congrArg Prod.fst Y5;simpa using this
   have hx:x=da[i]:=by have:=congrArg Prod.snd Y5;simpa using this
   subst hy hx
   rw[show min items.size da.size-i=(min items.size da.size-(i+1))+1 by lia,tF] at hR
   refine ai (he i h1 h2 prog w _ _ ?_)
   cases hy:e i with
   |true =>
    rw[hy,if_pos rfl] at hR
    wp_walk
    exact⟨rfl,rfl,i+1,fY',hm,hR⟩
   |false =>
    rw[hy,if_neg g9] at hR
    simp only[Bool.not_false,if_true]
    refine ai (wpAny_rule ?_)
    refine ai (hf i h1 h2 hy prog w _ _ ?_)
    wp_walk
    exact⟨_,rfl,hR⟩
  case fin =>
   rintro⟨b1,b2⟩ s' ⟨Fu,rfl,i,hz,hi,hR⟩
   simp only at Fu
   subst Fu
   have pz:min items.size da.size<=i:=by
    rcases GU i (items.toList.zip da.toList).length with h'|h'
    ·rw[xk h'] at hz;cases hz
    ·exact hZ ▸ h'
   rw[show min items.size da.size-i=0 by lia,tF] at hR
   wp_walk
   exact⟨_,rfl,by simpa[Builtin.Tuple.tupleCompareSizes] using hR⟩
  case h =>
   exact⟨rfl,rfl,0,rfl,eI _,h⟩
section
variable {A:Around}{s:Shared}
theorem ny.tuples(hl:s.heap.IsTuple l items)(hb:s.heap.IsTuple b da)(hu:A.units<cLine)
  (he:∀ j (h1:j<items.size) (h2:j<da.size),EqAt A.in1 s items[j] da[j] (e j)) (hf:∀ j (h1:j<items.size) (h2:j<da.size),e j=false->ny A.in1 s items[j] da[j] (f j)) :
  ny A s (.ref l) (.ref b) (tF e f items.size da.size (min items.size da.size) 0):=fun prog w Q E h=>by
 obtain⟨⟨cls,dd,data,sl⟩,ho,hc,n,hd⟩:=id hl
 obtain⟨⟨Ta,sf,data2,sj⟩,qB,xD,n2,hd2⟩:=id hb
 simp only at hc hd xD hd2
 subst hc hd xD hd2
 exact richCompare_meets_room (op:=.Lt) ⟨_,ho,rfl⟩ ⟨_,qB,rfl⟩ F.slot_tuple_lt F.entry_tuple_lt (F.args_tuple_lt_2 _ _) (vK l b items da n n2 dd sf sl sj e f)
  ⟨ho,qB,he,hf,show Value.bool _≠Value.notImplemented/\Q (.bool _) s from⟨(fun x=>nomatch x),h⟩⟩ hu
theorem ny.lists(hl:s.heap.IsList l items)(hb:s.heap.IsList b da)(hu:A.units<cLine)
  (he:∀ j (h1:j<items.size) (h2:j<da.size),EqAt A.in1 s items[j] da[j] (e j)) (hf:∀ j (h1:j<items.size) (h2:j<da.size),e j=false->ny A.in1 s items[j] da[j] (f j)) :
  ny A s (.ref l) (.ref b) (tF e f items.size da.size (min items.size da.size) 0):=fun prog w Q E h=>by
 obtain⟨⟨cls,dd,data,sl⟩,ho,hc,n,hd⟩:=id hl
 obtain⟨⟨Ta,sf,data2,sj⟩,qB,xD,n2,hd2⟩:=id hb
 simp only at hc hd xD hd2
 subst hc hd xD hd2
 exact richCompare_meets_room (op:=.Lt) ⟨_,ho,rfl⟩ ⟨_,qB,rfl⟩ F.slot_list_lt F.entry_list_lt (F.args_list_lt_2 _ _) (wA l b items da n n2 dd sf sl sj e f)
  ⟨ho,qB,he,hf,show Value.bool _≠Value.notImplemented/\Q (.bool _) s from⟨(fun x=>nomatch x),h⟩⟩ hu
theorem ny.int(a:Int)(t:Tok)(b:Int)(u:Tok):ny A s (.int a t) (.int b u) (decide (a<b)):=fun prog w Q E h=>(show wpAny _ _ (compareOp .Lt _ _) _ _ _ from PyProof.Rows.lt_int h)
theorem ny.str(a:Str)(t:Tok)(b:Str)(u:Tok):ny A s (.str a t) (.str b u) (decide (a.cps.toList<b.cps.toList)):=fun prog w Q E h=>(show wpAny _ _ (compareOp .Lt _ _) _ _ _ from PySem.P.lt_str h)
end
def nE(lt:PyData->PyData->Bool):List PyData->List PyData->Bool
 |[],ys=>!ys.isEmpty
 |_ :: _,[]=>false
 |x :: xs,y :: ys=>if PyData.eqv x y then nE lt xs ys else lt x y
def cc:Nat->PyData->PyData->Bool
 |_,.int i,.int j=>decide (i<j)
 |_,.str x,.str y=>decide (x.cps.toList<y.cps.toList)
 |n+1,.list xs,.list ys=>nE (cc n) xs ys
 |n+1,.tuple xs,.tuple ys=>nE (cc n) xs ys
 |_,_,_=>false
def oD:Nat->PyData->PyData->Prop
 |_,.int _,.int _=>True
 |_,.str _,.str _=>True
 |n+1,.list xs,.list ys=>∀ (j:Nat) (x y:PyData),xs[j]? = some x->ys[j]? = some y->PyData.eqv x y=false->oD n x y
 |n+1,.tuple xs,.tuple ys=>∀ (j:Nat) (x y:PyData),xs[j]? = some x->ys[j]? = some y->PyData.eqv x y=false->oD n x y
 |_,_,_=>False
def at2(g:PyData->PyData->Bool)(xs ys:List PyData)(j:Nat):Bool:=match xs[j]?,ys[j]? with
 |some x,some y=>g x y
 |_,_=>false
theorem mX(hx:xs[j]? = some x)(hy:ys[j]? = some y):at2 g xs ys j=g x y:=by
 unfold at2
 rw[hx,hy]
theorem Bx(lt:PyData->PyData->Bool)(xs ys:List PyData)(k:Nat):∀ i,min xs.length ys.length-i=k->i<=min xs.length ys.length->tF (at2 PyData.eqv xs ys) (at2 lt xs ys) xs.length ys.length k i=nE lt (xs.drop i) (ys.drop i):=by
 induction k with
 |zero =>
  intro i hk hi
  rw[tF]
  rcases GU xs.length ys.length with z|z
  ·rw[decide_eq_true z,R0 (show xs.length<=i by lia),xk (show i<ys.length by lia)]
   rfl
  ·rw[decide_eq_false (by lia),R0 (show ys.length<=i by lia)]
   cases xs.drop i<;>rfl
 |succ k ih =>
  intro i hk hi
  have h1:i<xs.length:=by lia
  have h2:i<ys.length:=by lia
  rw[tF,mX (mE h1) (mE h2),mX (mE h1) (mE h2),ih (i+1) (by lia) (by lia),
   xk h1,xk h2,nE]
theorem dD:∀ {vs:List Value} {as:List Addr},ReadsAll h vs xs as->∀ (j:Nat) (v:Value),vs[j]? = some v->∃ x bs,xs[j]? = some x/\Reads h v x bs:=by
 induction xs with
 |nil =>
  intro vs as r j v hv
  cases r
  simp at hv
 |cons x xs ih =>
  intro vs as r j v hv
  cases r with
  |cons r rs =>
   cases j with
   |zero =>
    simp at hv
    subst hv
    exact⟨x,_,rfl,r⟩
   |succ j=>exact ih rs j v (by simpa using hv)
theorem jt{xs:List PyData}(h:PyData.canLayAll0 xs=true){j:Nat}{x:PyData}(hx:xs[j]? = some x):x.canLay0=true:=by
 induction xs generalizing j with
 |nil=>simp at hx
 |cons y xs ih =>
  have h:y.canLay0=true/\PyData.canLayAll0 xs=true:=by simpa[PyData.canLayAll0] using h
  cases j with
  |zero=>simp at hx;subst hx;exact h.1
  |succ j=>exact ih h.2 (by simpa using hx)
theorem o_{xs:List PyData}{j:Nat}{x:PyData}(hx:xs[j]? = some x):x.depth<=PyData.depthAll xs:=by
 induction xs generalizing j with
 |nil=>simp at hx
 |cons y xs ih =>
  simp only[PyData.depthAll]
  cases j with
  |zero=>simp at hx;subst hx;lia
  |succ j=>have:=ih (j:=j) (by simpa using hx);lia
theorem zJ(n:Nat):∀ (d e:PyData) (A:Around) (s:Shared) (a b:Value) (as bs:List Addr),Reads s.heap a d as->Reads s.heap b e bs->d.canLay0=true->e.canLay0=true->oD n d e->d.depth<=20->A.units+n+30<cLine->ny A s a b (cc n d e):=by
 induction n with
 |zero =>
  intro d e A s a b as bs ra rb _ _ c _ _
  cases ra<;>cases rb<;>first|(rw[cc];exact ny.int _ _ _ _)|(rw[cc];exact ny.str _ _ _ _)|exact absurd c (by simp[oD])
 |succ n ih =>
  intro d e A s a b as bs ra rb la lb c dd hu
  cases ra with
  |int i t=>cases rb<;>first|(rw[cc];exact ny.int _ _ _ _)|exact absurd c (by simp[oD])
  |str x t=>cases rb<;>first|(rw[cc];exact ny.str _ _ _ _)|exact absurd c (by simp[oD])
  |@list l o vs m xs UU h1 h2 h3 h4 =>
   cases rb with
   |@list l' o' g7 m' ys Y6 k1 k2 k3 k4 =>
    have n1:vs.size=xs.length:=by simpa using ReadsAll.length _ _ _ h4
    have n2:g7.size=ys.length:=by simpa using ReadsAll.length _ _ _ k4
    have O7:∀ j (h1:j<vs.size),∃ x cs,xs[j]? = some x/\Reads s.heap vs[j] x cs:=fun j hj=>dD h4 j vs[j] (by simp[hj])
    have O8:∀ j (h1:j<g7.size),∃ x cs,ys[j]? = some x/\Reads s.heap g7[j] x cs:=fun j hj=>dD k4 j g7[j] (by simp[hj])
    have dx:PyData.depthAll xs<20:=by simp only[PyData.depth] at dd;lia
    have:=ny.lists (A:=A) (s:=s) (e:=at2 PyData.eqv xs ys) (f:=at2 (cc n) xs ys) ⟨_,h1,h2,_,h3⟩ ⟨_,k1,k2,_,k3⟩ (by lia) (fun j j1 j2=>by
     obtain⟨x,cs,ex,rx⟩:=O7 j j1
     obtain⟨y,UW,ey,ry⟩:=O8 j j2
     rw[mX ex ey]
     have:=o_ ex
     exact eqAt_reads x y A.in1 s _ _ _ _ rx ry (jt la ex) (jt lb ey) (by show A.units+1+_<cLine;lia)) (fun j j1 j2 ne=>by
     obtain⟨x,cs,ex,rx⟩:=O7 j j1
     obtain⟨y,UW,ey,ry⟩:=O8 j j2
     rw[mX ex ey] at ne ⊢
     have:=o_ ex
     exact ih x y A.in1 s _ _ _ _ rx ry (jt la ex) (jt lb ey) (c j x y ex ey ne) (by lia) (by show A.units+1+n+30<cLine;lia))
    rw[n1,n2,Bx (cc n) xs ys _ 0 (Nat.sub_zero _) (eI _)] at this
    exact this
   |_=>exact absurd c (by simp[oD])
  |@tuple l o vs m xs UU h1 h2 h3 h4 =>
   cases rb with
   |@tuple l' o' g7 m' ys Y6 k1 k2 k3 k4 =>
    have n1:vs.size=xs.length:=by simpa using ReadsAll.length _ _ _ h4
    have n2:g7.size=ys.length:=by simpa using ReadsAll.length _ _ _ k4
    have O7:∀ j (h1:j<vs.size),∃ x cs,xs[j]? = some x/\Reads s.heap vs[j] x cs:=fun j hj=>dD h4 j vs[j] (by simp[hj])
    have O8:∀ j (h1:j<g7.size),∃ x cs,ys[j]? = some x/\Reads s.heap g7[j] x cs:=fun j hj=>dD k4 j g7[j] (by simp[hj])
    have dx:PyData.depthAll xs<20:=by simp only[PyData.depth] at dd;lia
    have:=ny.tuples (A:=A) (s:=s) (e:=at2 PyData.eqv xs ys) (f:=at2 (cc n) xs ys) ⟨_,h1,h2,_,h3⟩ ⟨_,k1,k2,_,k3⟩ (by lia) (fun j j1 j2=>by
     obtain⟨x,cs,ex,rx⟩:=O7 j j1
     obtain⟨y,UW,ey,ry⟩:=O8 j j2
     rw[mX ex ey]
     have:=o_ ex
     exact eqAt_reads x y A.in1 s _ _ _ _ rx ry (jt la ex) (jt lb ey) (by show A.units+1+_<cLine;lia)) (fun j j1 j2 ne=>by
     obtain⟨x,cs,ex,rx⟩:=O7 j j1
     obtain⟨y,UW,ey,ry⟩:=O8 j j2
     rw[mX ex ey] at ne ⊢
     have:=o_ ex
     exact ih x y A.in1 s _ _ _ _ rx ry (jt la ex) (jt lb ey) (c j x y ex ey ne) (by lia) (by show A.units+1+n+30<cLine;lia))
    rw[n1,n2,Bx (cc n) xs ys _ 0 (Nat.sub_zero _) (eI _)] at this
    exact this
   |_=>exact absurd c (by simp[oD])
  |_=>cases rb<;>exact absurd c (by simp[oD])
end PySem.SeqAt
namespace L2
open PySem PySem.Spec PyProof.Rows PySem.SeqAt
structure iN(lt:PyData->PyData->Bool)(S:PyData->Prop):Prop where
 qa:∀ x,S x->lt x x=false
 tr:∀ x y z,S x->S y->S z->lt x y=true->lt y z=true->lt x z=true
 ah:∀ x y,S x->S y->lt x y=false->lt y x=false->x=y
 eqv:∀ x y,S x->S y->(PyData.eqv x y=true↔x=y)
theorem iN.int(n:Nat):iN (cc n) fun x=>∃ i,x=.int i where
 qa:=by rintro x ⟨i,rfl⟩;rw[cc];simp
 tr:=by rintro x y z ⟨i,rfl⟩ ⟨j,rfl⟩ ⟨k,rfl⟩;rw[cc,cc,cc];simp only[decide_eq_true_eq];lia
 ah:=by rintro x y ⟨i,rfl⟩ ⟨j,rfl⟩;rw[cc,cc];simp only[decide_eq_false_iff_not,PyData.int.injEq];lia
 eqv:=by rintro x y ⟨i,rfl⟩ ⟨j,rfl⟩;simp[PyData.eqv]
theorem iN.str(n:Nat):iN (cc n) fun x=>∃ s,x=.str s where
 qa:=by rintro x ⟨i,rfl⟩;rw[cc];exact wZ i
 tr:=by rintro x y z ⟨i,rfl⟩ ⟨j,rfl⟩ ⟨k,rfl⟩;rw[cc,cc,cc];exact fun h g=>Ci (y:=j) h g
 ah:=by rintro x y ⟨i,rfl⟩ ⟨j,rfl⟩;rw[cc,cc];exact fun h g=>by rw[xY (x:=i) (y:=j) h g]
 eqv:=by rintro x y ⟨i,rfl⟩ ⟨j,rfl⟩;simp[PyData.eqv]
section
variable {lt:PyData->PyData->Bool}{S:PyData->Prop}
theorem Bl(T:iN lt S)(xs:List PyData)(h:∀ x∈xs,S x):nE lt xs xs=false:=by
 induction xs with
 |nil=>rfl
 |cons x xs ih =>
  rw[nE,if_pos ((T.eqv x x (h x cq) (h x cq)).mpr rfl)]
  exact ih fun y hy=>h y (ck _ hy)
open Classical in
theorem dG(T:iN lt S)(hx:S x)(hy:S y):nE lt (x :: xs) (y :: ys)=if x=y then nE lt xs ys else lt x y:=by
 rw[nE]
 by_cases e:x=y
 ·rw[if_pos e,if_pos ((T.eqv x y hx hy).mpr e)]
 ·rw[if_neg e,if_neg fun z=>e ((T.eqv x y hx hy).mp z)]
theorem zz(T:iN lt S)(xs:List PyData):∀ ys:List PyData,(∀ x∈xs,S x)->(∀ y∈ys,S y)->nE lt xs ys=false->nE lt ys xs=false->xs=ys:=by
 induction xs with
 |nil =>
  intro ys _ _ h _
  cases ys with
  |nil=>rfl
  |cons y ys=>cases h
 |cons x xs ih =>
  intro ys hx hy h1 h2
  cases ys with
  |nil=>cases h2
  |cons y ys =>
   have sx:=hx x cq
   have sy:=hy y cq
   rw[dG T sx sy] at h1
   rw[dG T sy sx] at h2
   by_cases e:x=y
   ·subst e
    rw[if_pos rfl] at h1 h2
    rw[ih ys (fun z hz=>hx z (ck _ hz)) (fun z hz=>hy z (ck _ hz)) h1 h2]
   ·rw[if_neg e] at h1
    rw[if_neg fun z=>e z.symm] at h2
    exact absurd (T.ah x y sx sy h1 h2) e
theorem Eg(T:iN lt S)(xs:List PyData):∀ ys zs:List PyData,(∀ x∈xs,S x)->(∀ y∈ys,S y)->(∀ z∈zs,S z)->nE lt xs ys=true->nE lt ys zs=true->nE lt xs zs=true:=by
 induction xs with
 |nil =>
  intro ys zs _ _ _ h1 h2
  cases zs with
  |cons z zs=>rfl
  |nil =>
   cases ys with
   |nil=>cases h1
   |cons y ys=>cases h2
 |cons x xs ih =>
  intro ys zs hx hy hz h1 h2
  cases ys with
  |nil=>cases h1
  |cons y ys =>
   cases zs with
   |nil=>cases h2
   |cons z zs =>
    have sx:=hx x cq
    have sy:=hy y cq
    have sz:=hz z cq
    rw[dG T sx sy] at h1
    rw[dG T sy sz] at h2
    rw[dG T sx sz]
    have tl:=ih ys zs (fun z hz=>hx z (ck _ hz)) (fun z hz=>hy z (ck _ hz)) fun w hw=>hz w (ck _ hw)
    by_cases e1:x=y
    ·subst e1
     rw[if_pos rfl] at h1
     by_cases e2:x=z
     ·subst e2
      rw[if_pos rfl] at h2 ⊢
      exact tl h1 h2
     ·rw[if_neg e2] at h2 ⊢
      exact h2
    ·rw[if_neg e1] at h1
     by_cases e2:y=z
     ·subst e2
      rw[if_neg e1]
      exact h1
     ·rw[if_neg e2] at h2
      have t:=T.tr x y z sx sy sz h1 h2
      by_cases e3:x=z
      ·subst e3
       rw[T.qa x sx] at t
       cases t
      ·rw[if_neg e3];exact t
theorem vD(T:iN lt S)(xs:List PyData):∀ ys:List PyData,(∀ x∈xs,S x)->(∀ y∈ys,S y)->(PyData.eqvAll xs ys=true↔xs=ys):=by
 induction xs with
 |nil=>intro ys _ _;cases ys<;>simp[PyData.eqvAll]
 |cons x xs ih =>
  intro ys hx hy
  cases ys with
  |nil=>simp[PyData.eqvAll]
  |cons y ys =>
   have h1:=T.eqv x y (hx x cq) (hy y cq)
   have h2:=ih ys (fun z hz=>hx z (ck _ hz)) fun z hz=>hy z (ck _ hz)
   simp only[PyData.eqvAll,lI,List.cons.injEq]
   exact and_congr h1 h2
end
theorem iN.list{S:PyData->Prop}(T:iN (cc n) S):iN (cc (n+1)) fun x=>∃ xs,x=.list xs/\∀ y∈xs,S y where
 qa:=by rintro x ⟨xs,rfl,h⟩;rw[cc];exact Bl T xs h
 tr:=by rintro x y z ⟨xs,rfl,h⟩ ⟨ys,rfl,h'⟩ ⟨zs,rfl,UE⟩;rw[cc,cc,cc];exact Eg T xs ys zs h h' UE
 ah:=by
  rintro x y ⟨xs,rfl,h⟩ ⟨ys,rfl,h'⟩
  rw[cc,cc]
  exact fun h1 h2=>by rw[zz T xs ys h h' h1 h2]
 eqv:=by
  rintro x y ⟨xs,rfl,h⟩ ⟨ys,rfl,h'⟩
  rw[PyData.list.injEq]
  exact vD T xs ys h h'
open Classical in
theorem eE{S U:PyData->Prop}(T:iN (cc n) S)(T2:iN (cc n) U)(ha:S a)(hb:U b)(hc:S c)(hd:U d):nE (cc n) [a,b] [c,d]=if a=c then cc n b d else cc n a c:=by
 rw[dG T ha hc,dG T2 hb hd]
 by_cases e:b=d
 ·subst e
  rw[if_pos rfl,show nE (cc n) [] []=false from rfl,T2.qa b hb]
 ·rw[if_neg e]
theorem iN.pair{S U:PyData->Prop}(T:iN (cc n) S)(T2:iN (cc n) U):iN (cc (n+1)) fun x=>∃ a b,x=.tuple [a,b]/\S a/\U b where
 qa:=by rintro x ⟨a,b,rfl,ha,hb⟩;rw[cc,eE T T2 ha hb ha hb,if_pos rfl];exact T2.qa b hb
 tr:=by
  rintro x y z ⟨a,b,rfl,ha,hb⟩ ⟨c,d,rfl,hc,hd⟩ ⟨e,f,rfl,he,hf⟩
  rw[cc,cc,cc,eE T T2 ha hb hc hd,eE T T2 hc hd he hf,eE T T2 ha hb he hf]
  intro h1 h2
  by_cases e1:a=c
  ·subst e1
   rw[if_pos rfl] at h1
   by_cases e2:a=e
   ·subst e2
    rw[if_pos rfl] at h2 ⊢
    exact T2.tr b d f hb hd hf h1 h2
   ·rw[if_neg e2] at h2 ⊢
    exact h2
  ·rw[if_neg e1] at h1
   by_cases e2:c=e
   ·subst e2
    rw[if_neg e1];exact h1
   ·rw[if_neg e2] at h2
    have t:=T.tr a c e ha hc he h1 h2
    by_cases e3:a=e
    ·subst e3
     rw[T.qa a ha] at t;cases t
    ·rw[if_neg e3];exact t
 ah:=by
  rintro x y ⟨a,b,rfl,ha,hb⟩ ⟨c,d,rfl,hc,hd⟩
  rw[cc,cc,eE T T2 ha hb hc hd,eE T T2 hc hd ha hb]
  intro h1 h2
  by_cases e:a=c
  ·subst e
   rw[if_pos rfl] at h1 h2
   rw[T2.ah b d hb hd h1 h2]
  ·rw[if_neg e] at h1
   rw[if_neg fun z=>e z.symm] at h2
   exact absurd (T.ah a c ha hc h1 h2) e
 eqv:=by
  rintro x y ⟨a,b,rfl,ha,hb⟩ ⟨c,d,rfl,hc,hd⟩
  have h1:=T.eqv a c ha hc
  have h2:=T2.eqv b d hb hd
  simp only[PyData.eqv,PyData.eqvAll,lI,PZ,PyData.tuple.injEq,List.cons.injEq,and_true]
  exact and_congr h1 h2
section
variable {prog:Program}{w:World}{A:Around}{E:Value->Shared->Prop}{s:Shared}{Q:Bool->Shared->Prop}
theorem zf(xs:List PyData):∀ (ys:List PyData) (us vs:List Value) (as bs:List Addr) (i:Nat),ReadsAll s.heap us xs as->ReadsAll s.heap vs ys bs->PyData.canLayAll0 xs=true->PyData.canLayAll0 ys=true->PyData.depthAll xs<=20 ->
  (∀ (j:Nat) (x y:PyData),xs[j]? = some x->ys[j]? = some y->PyData.eqv x y=false->oD n x y)->(i=0->∀ x y,xs[0]? = some x->ys[0]? = some y->(∃ k,x=.int k)/\∃ k,y=.int k)->xs.length=ys.length->A.units+n+30<cLine->Q (nE (cc n) xs ys) s ->
  PySem.W.KatLex prog w A true false Q (us.zip vs) i s:=by
 induction xs with
 |nil =>
  intro ys us vs as bs i ra rb _ _ _ _ _ hl _ q
  cases ys with
  |cons y ys=>cases hl
  |nil =>
   cases ra
   exact PySem.W.kat_nil q
 |cons x xs ih =>
  intro ys us vs as bs i ra rb la lb dp c hi hl hu q
  cases ys with
  |nil=>cases hl
  |cons y ys =>
   cases ra with
   |cons r rs =>
    cases rb with
    |cons r' UX =>
     have UY:x.canLay0=true/\PyData.canLayAll0 xs=true:=by simpa[PyData.canLayAll0] using la
     have UZ:y.canLay0=true/\PyData.canLayAll0 ys=true:=by simpa[PyData.canLayAll0] using lb
     have Y7:x.depth<=20/\PyData.depthAll xs<=20:=by simp only[PyData.depthAll] at dp;lia
     rw[vS]
     rw[nE] at q
     refine PySem.W.kat_cons (eqAt_reads x y A s _ _ _ _ r r' UY.1 UZ.1 (by lia) prog w _ _ (PySem.W.kat_go (fun h=>PySem.W.kat_yes ?_) (fun h=>PySem.W.kat_no ?_)))
     ·rw[if_pos h] at q
      exact ih ys _ _ _ _ (i+1) rs UX UY.2 UZ.2 Y7.2 (fun j=>c (j+1)) (fun z=>by lia) (by simpa using hl) hu q
     ·rw[if_neg (by rw[h];exact g9)] at q
      by_cases h0:i=0
      ·obtain⟨⟨a,rfl⟩,⟨b,rfl⟩⟩:=hi h0 x y rfl rfl
       subst h0
       cases r
       cases r'
       rw[cc] at q
       exact oneLt_int q
      ·rw[show(true && i == 0)=false by simp[h0]]
       exact PySem.W.kat_one _ _ (zJ n x y A s _ _ _ _ r r' UY.1 UZ.1 (c 0 x y rfl rfl h) Y7.1 (by lia) prog w _ _ q)
structure FC(n:Nat)(S:PyData->Prop):Prop where
 ah:iN (cc (n+1)) S
 tup:∀ x,S x->∃ i xs,x=.tuple (.int i :: xs)/\x.canLay0=true/\x.depth<=20
 len:∀ xs ys,S (.tuple xs)->S (.tuple ys)->xs.length=ys.length
 cm:∀ x y,S x->S y->oD (n+1) x y
open Classical in
def jR(h:Heap)(v:Value):PyData:=if z:∃ d as,Reads h v d as/\d.canLay0=true then z.choose else .none
theorem gm(r:Reads h v d as)(l:d.canLay0=true):jR h v=d:=by
 have z:∃ d as,Reads h v d as/\d.canLay0=true:=⟨d,as,r,l⟩
 unfold jR
 rw[dif_pos z]
 obtain⟨bs,r2,l2⟩:=z.choose_spec
 exact Reads.unique _ _ _ _ _ l2 r2 r
def FD(n:Nat)(L:List PyData)(d:PyData):Int:=(L.countP fun e=>cc n e d:Nat)
theorem Cr{S:PyData->Prop}(T:iN (cc n) S)(hL:∀ d∈L,S d)(ha:a∈L)(hb:S b):decide (FD n L a<FD n L b)=cc n a b:=by
 have sa:=hL a ha
 unfold FD
 cases h:cc n a b with
 |true =>
  have:=oA (fun j=>cc n j a) (fun j=>cc n j b) a (T.qa a sa) h L ha fun x hx z=>T.tr x a b (hL x hx) sa hb z h
  exact decide_eq_true (by lia)
 |false =>
  refine decide_eq_false ?_
  cases g:cc n b a with
  |false =>
   rw[T.ah a b sa hb h g]
   lia
  |true =>
   have:=count_le (fun j=>cc n j b) (fun j=>cc n j a) L fun x hx z=>T.tr x b a (hL x hx) hb sa z g
   lia
theorem Aw{S:PyData->Prop}(K:FC n S)(kp:∀ b o,h0.get? b=some o->s.heap.get? b=some o)(hL:∀ d∈L,S d)(hu:A.units+n+31<cLine) :
  x3.lT prog w A s (tuples' true) (fun v=>FD (n+1) L (jR h0 v)) (fun v=>∃ d as,d∈L/\Reads h0 v d as):=by
 rintro x y ⟨d,as,md,rd⟩ ⟨e,bs,me,re⟩ Q E q
 have sd:=hL d md
 have se:=hL e me
 obtain⟨i,xs,rfl,ld,dd⟩:=K.tup d sd
 obtain⟨j,ys,rfl,le,de⟩:=K.tup e se
 replace q:Q (decide (FD (n+1) L (jR h0 x)<FD (n+1) L (jR h0 y))) s:=q
 rw[gm rd ld,gm re le,Cr K.ah hL md se,cc] at q
 have rd':=PyProof.Rows.Reads.keeps kp rd
 have re':=PyProof.Rows.Reads.keeps kp re
 have cm:=K.cm _ _ sd se
 have hl:=K.len _ _ sd se
 cases rd' with
 |@tuple a o us m _ UU h1 h2 h3 h4 =>
  cases re' with
  |@tuple b o' vs m' _ Y6 k1 k2 k3 k4 =>
   have n1:us.size=(PyData.int i :: xs).length:=by simpa using ReadsAll.length _ _ _ h4
   have n2:vs.size=(PyData.int j :: ys).length:=by simpa using ReadsAll.length _ _ _ k4
   refine PySem.W.kat_lt h1 h3 k1 k3 ?_
   rw[show decide (us.size<vs.size)=false from decide_eq_false (by lia)]
   exact zf (n:=n) _ _ _ _ _ _ 0 h4 k4 ld le (by simp only[PyData.depth] at dd;lia) cm (fun _ x y hx hy=>by cases hx;cases hy;exact⟨⟨_,rfl⟩,_,rfl⟩) hl (by lia) q
end
section
variable {X:Cx}{pins:List (Addr × Obj)}{σ:St}{H:Hp}{s:Shared}
theorem x_(I:Inv X pins σ H s):∀ {ds:List PyData} {ys:List V} {vs:List Value},aI X.K H ds ys->Vals ys vs->∀ v∈vs,∃ d y as,d∈ds/\Rep X.K H d y/\RelV y v/\Reads s.heap v d as
 |_,_,_,.nil,.nil,v,hv=>nomatch hv
 |_,_,_,.cons r rs,.cons q qs,v,hv=>by
  rcases dc.mp hv with rfl|hv
  ·obtain⟨as,z⟩:=r.reads I q
   exact⟨_,_,as,cq,r,q,z⟩
  ·obtain⟨d,y,as,a,b,c,z⟩:=x_ I rs qs v hv
   exact⟨d,y,as,ck _ a,b,c,z⟩
theorem uC{S:PyData->Prop}(K:FC n S):∀ (vs:List Value),(∀ v∈vs,∃ d as,S d/\Reads h0 v d as)->∃ fs:List Value,PySem.W.KatTups h0 vs fs/\fs.length=vs.length/\∀ f∈fs,∃ i t,f=Value.int i t
 |[],_=>⟨[],.nil,rfl,fun f hf=>nomatch hf⟩
 |v :: vs,h=>by
  obtain⟨fs,f1,f2,f3⟩:=uC K vs fun u hu=>h u (ck _ hu)
  obtain⟨d,as,sd,r⟩:=h v cq
  obtain⟨i,xs,rfl,_,_⟩:=K.tup d sd
  cases r with
  |@tuple a o us m _ UU h1 h2 h3 h4 =>
   obtain⟨us⟩:=us
   cases h4 with
   |cons r rs =>
    cases r with
    |int _ t =>
     exact⟨_ :: fs,.cons h1 h2 h3 rfl f1,by simp[f2],fun f hf=>by
      rcases dc.mp hf with rfl|hf
      ·exact⟨_,_,rfl⟩
      ·exact f3 f hf⟩
def FE:Value->V
 |.ref a=>.ref a
 |_=>.non
theorem wy{S:PyData->Prop}(K:FC n S)(sd:S d)(q:RelV y v)(r:Reads h0 v d as):FE v=y:=by
 obtain⟨i,xs,rfl,_,_⟩:=K.tup d sd
 cases r with
 |tuple h1 h2 h3 h4 =>
  cases y with
  |ref b=>cases (show Value.ref _=Value.ref b from q);rfl
  |_=>simp[RelV] at q
theorem uB{S:PyData->Prop}(K:FC n S)(I:Inv X pins σ H s):∀ {ds:List PyData} {ys:List V} {vs:List Value},aI X.K H ds ys->Vals ys vs->(∀ d∈ds,S d)->vs.map (fun v=>(jR s.heap v,FE v))=ds.zip ys
 |_,_,_,.nil,.nil,_=>rfl
 |_,_,_,.cons r rs,.cons q qs,h=>by
  obtain⟨as,z⟩:=r.reads I q
  have sd:=h _ cq
  obtain⟨_,_,_,l,_⟩:=K.tup _ sd
  rw[ft,gm z l,wy K sd q z,uB K I rs qs fun d hd=>h d (ck _ hd),vS]
def nq(K:PySem.W.Frag)(n:Nat)(S:PyData->Prop):List V->Hp->VK->Prop:=fun xs H Q=>match xs with
 |[.ref p]=>∃ ys ds,eJ K H p ys/\aI K H ds ys/\(∀ d∈ds,S d)/\∀ (ps:List (PyData × V)) l,ps.Perm (ds.zip ys)->(ps.Pairwise fun a b=>cc (n+1) b.1 a.1=false)->H l=none->Q (.ref l) (upd H l (.lst (ps.map (·.2))))
 |_=>False
theorem uV {S:PyData->Prop} (K:FC n S) (hu:X.A.units+n+40<cLine):i5 X (.builtin "sorted") (nq X.K n S):=by
 intro pins s σ H xs us Q I r h
 unfold nq at h
 split at h
 ·rename_i p
  obtain⟨ys,ds,hl,hr,hS,q⟩:=h
  obtain⟨u,rfl,ru⟩:=Vals.one r
  cases ru
  obtain⟨vs,rv,pl,hz⟩:=I.list hl
  have lay:∀ d∈ds,d.canLay0=true:=fun d hd=>by obtain⟨_,_,_,l,_⟩:=K.tup d (hS d hd);exact l
  have mem:=x_ I hr rv
  have hlen:=rv.length
  refine x3.yx (κ:=tuples' true) (r:=fun v=>FD (n+1) ds (jR s.heap v)) (P:=fun v=>∃ d as,d∈ds/\Reads s.heap v d as) pl.isList (by lia) (fun v hv=>?_) (fun h2 A' E' s' kp Q' q'=>?_) (fun h2 s' kp=>Aw K kp hS (by show X.A.units+1+1+n+31<cLine;lia)) fun h' out m pm pw kp eo=>?_
  ·obtain⟨d,y,as,a,b,c,z⟩:=mem v hv
   exact⟨d,as,a,z⟩
  ·obtain⟨fs,f1,f2,f3⟩:=uC (h0:=s'.heap) K vs fun v hv=>by
    obtain⟨d,y,as,a,b,c,z⟩:=mem v hv
    exact⟨d,as,hS d a,PyProof.Rows.Reads.keeps kp z⟩
   refine PySem.W.kat_kind (T:=.type "int") f1 (by lia) (fun f hf=>?_) (by decide) q'
   obtain⟨i,t,rfl⟩:=f3 f hf
   exact .now
  ·have back:∀ v∈out,∃ d y as,d∈ds/\Rep X.K H d y/\RelV y v/\Reads s.heap v d as:=fun v hv=>mem v (pm.mem_iff.mp hv)
   have rel:∀ l:List Value,(∀ v∈l,v∈out)->Vals (l.map FE) l:=by
    intro l
    induction l with
    |nil=>exact fun _=>.nil
    |cons v l ih =>
     intro hm
     obtain⟨d,y,as,a,b,c,z⟩:=back v (hm v cq)
     exact .cons (by rw[wy K (hS d a) c z];exact c) (ih fun u hu=>hm u (ck _ hu))
   have z2:=rel out fun _ h=>h
   have ol:=pm.length_eq
   have e2:(out.map fun v=>(jR s.heap v,FE v)).map (·.2)=out.map FE:=by rw[iA];rfl
   have q':=q (out.map fun v=>(jR s.heap v,FE v)) (s.heap.objs.size+1) (by rw[<- uB K I hr rv hS];exact pm.map _) ?_ (I.bp.fresh (Nat.le_succ _))
   ·rw[e2] at q'
    exact⟨.ref (s.heap.objs.size+1),_,I.laid (a:=s.heap.objs.size+1) (t':=s.toks) kp (Nat.le_succ _) (show eW X.prog X.w _ h' _ (.lst (out.map FE)) from⟨by rw[cE];lia,out,m,z2,eo⟩),rfl,q'⟩
   rw[qk]
   refine pw.imp_of_mem fun {x y} mx my hle=>?_
   obtain⟨d,_,as,md,_,_,rd⟩:=back x mx
   obtain⟨e,_,bs,me,_,_,re⟩:=back y my
   rw[gm rd (lay d md),gm re (lay e me)] at *
   have:=Cr K.ah hS me (hS d md)
   rw[<- this]
   exact decide_eq_false (by lia)
 ·exact h.elim
end
end L2
namespace L2.Q
open PySem PySem.Spec PyProof.Rows PySem.SeqAt
section
variable {X:Cx}{K:PySem.W.Frag}{Hs H:Hp}
theorem je(xs:List D):kU xs=xs.map D.py:=by
 induction xs with
 |nil=>rfl
 |cons x xs ih=>rw[kU,ih];rfl
theorem zE:∀ {vs:List V},aI K H xs vs->∀ p∈xs.zip vs,Rep K H p.1 p.2:=by
 induction xs with
 |nil=>intro vs r p hp;simp at hp
 |cons x xs ih =>
  intro vs r p hp
  obtain⟨u,us,rfl,r1,rs⟩:=r.c
  rw[vS] at hp
  rcases dc.mp hp with rfl|hp
  ·exact r1
  ·exact ih rs p hp
theorem vd(l:List (D × V))(h:∀ p∈l,Rep K H p.1 p.2):aI K H (l.map (·.1)) (l.map (·.2)):=by
 induction l with
 |nil=>exact .nil
 |cons p l ih=>exact .cons (h p cq) (ih fun q hq=>h q (ck _ hq))
def BX(n:Nat)(S:PyData->Prop):W1:=fun m x Q=>match x with
 |.list xs=>m=.sh/\(∀ d∈xs,b9 12 d=true/\S d.py)/\∀ ms:List D,ms.Perm xs->(ms.Pairwise fun a b=>cc (n+1) b.py a.py=false)->Q (.ow false) (.list ms)
 |_=>False
theorem yV{S:PyData->Prop}:AH K (nq K n S) (BX n S):=by
 intro Hs H m x v As Qd Qv w rx h f
 have r1:=rx.rep w
 cases r1 with
 |@list _ _ RD z s q =>
  obtain⟨rfl,hS,h⟩:=h
  obtain⟨_,rx⟩:=rx
  cases rx with
  |@list _ g7 _ z' s' q' =>
   have hl:=q'.length
   have ez:(kU RD).zip g7=(RD.zip g7).map fun p=>(p.1.py,p.2):=by
    rw[je,List.zip_map_left]
    rfl
   refine⟨_,kU RD,aS.seq w.sub s',Rep.Ue.2 (q'.same w.sub) 12 fun d hd=>(hS d hd).1,fun d hd=>?_,fun ps l hp hw hn=>?_⟩
   ·rw[je] at hd
    obtain⟨e,he,rfl⟩:=df.mp hd
    exact(hS e he).2
   ·obtain⟨m',rfl,pm⟩:=TS.ji hp ez
    have p1:(m'.map (·.1)).Perm RD:=by
     have:=pm.map (·.1)
     rwa[LN (GO hl)] at this
    have rr:=vd (K:=K) (H:=Hs) m' fun p hp=>zE q' p (pm.mem_iff.mp hp)
    rw[show(m'.map fun p=>(p.1.py,p.2)).map (·.2)=m'.map (·.2) by rw[iA];rfl]
    refine f.NH w (by rw[p1.length_eq];lia) rr (h _ p1 ?_) l hn
    rw[qk] at hw ⊢
    exact hw
 |_=>exact h.elim
theorem G_ {S:PyData->Prop} (KS:FC n S) (hu:X.A.units+n+40<cLine) (hK:X.K=K:=by rfl):i5 X (.builtin "sorted") (nq K n S):=by subst hK;exact uV KS hu
end
end L2.Q
namespace L2
open PySem PySem.Spec PyProof.Rows PySem.SeqAt
section
variable {X:Cx}
def DX(K:PySem.W.Frag):V->List V->Hp->VK->Prop:=fun x xs H Q=>∃ l ys ds y d,∃ j:Nat,x=.ref l/\xs=[y]/\eJ K H l ys/\aI K H ds ys/\Rep K H d y/\(∀ e∈ds,e.canLay0=true/\e.depth<=20)/\d.canLay0=true /\
 (∃ e,ds[j]? = some e/\PyData.eqv e d=true)/\(∀ (m:Nat) e,m<j->ds[m]? = some e->PyData.eqv e d=false)/\Q (.int j) H
theorem Be (hu:X.A.units+64<cLine):Qs X "list.index" (DX X.K):=by
 intro pins s σ H x vs v us Q I rx rv h
 obtain⟨l,ys,ds,y,d,j,rfl,rfl,hl,hr,hd,hS,ld,⟨e,ej,eq⟩,DL,q⟩:=h
 cases rx
 obtain⟨u,rfl,ru⟩:=Vals.one rv
 obtain⟨its,RG,pl,hz⟩:=I.list hl
 obtain⟨as,rd⟩:=hd.reads I ru
 obtain⟨bs,ra⟩:=aI.reads I hr RG
 have len:its.length=ds.length:=ReadsAll.length _ _ _ ra
 have at':∀ (m:Nat) (v:Value),its[m]? = some v->∃ e cs,ds[m]? = some e/\Reads s.heap v e cs/\jR s.heap v=e:=fun m v hv=>by
  obtain⟨e,cs,h1,h2⟩:=dD ra m v hv
  exact⟨e,cs,h1,h2,gm h2 (hS e (kH h1)).1⟩
 have jl:j<ds.length:=(ic.mp ej).1
 have Y8:j<its.toArray.size:=by rw[ip];lia
 have zs:sizeLine<2 ^ 62:=by rw[sizeLine_eq];decide
 have hlen:=RG.length
 obtain⟨⟨cls,dd,data,sl⟩,ho,hc,n,O0⟩:=id pl.isList
 simp only at hc O0
 subst hc O0
 refine call_meets F.slot_list_index ⟨_,ho,rfl⟩ F.entry_list_index (F.args_list_index_2 _ _) (list_indexAt l its.toArray n dd sl u (fun v=>PyData.eqv (jR s.heap v) d) j Y8 (by lia) ?_ fun m hm h'=>?_) ⟨ho,fun v hv=>?_,⟨.int j,H,I.tok _,⟨_,rfl⟩,q⟩⟩
 ·obtain⟨e',cs,h1,_,h3⟩:=at' j its.toArray[j] (by simp at Y8 ⊢)
  rw[h3]
  rw[ej] at h1
  cases h1
  exact eq
 ·obtain⟨e',cs,h1,_,h3⟩:=at' m its.toArray[m] (by simp at hm ⊢)
  rw[h3]
  exact DL m e' h' h1
 ·obtain⟨m,hm⟩:=LM.mp (show v∈its by simpa using hv)
  obtain⟨e',cs,h1,h2,h3⟩:=at' m v hm
  rw[h3]
  have:=hS e' (kH h1)
  exact eqAt_reads e' d X.A.in1 s _ _ _ _ h2 rd this.1 ld (by show X.A.units+1+_<cLine;lia)
def n6:List V->Hp->VK->Prop:=fun xs H Q=>match xs with
 |[.ref p]=>∃ kvs b0 sh,Rd H p (.dT kvs)/\(∀ k∈kvs.map (·.1),eB k=b0 :: sh) /\
   ∀ zs ms l,cR H zs ms->ms.Perm (kvs.map (·.1))->(ms.Pairwise fun a b=>dz b a=false)->H l=none->Q (.ref l) (upd H l (.lst zs))
 |_=>False
theorem rA (hc:X.calm=true):i5 X (.builtin "sorted") n6:=by
 intro pins s σ H xs us Q I r h
 unfold n6 at h
 split at h
 ·rename_i p
  obtain⟨kvs,b0,sh,e,hs,q⟩:=h
  obtain⟨u,rfl,ru⟩:=Vals.one r
  cases ru
  obtain⟨z,y,ps,rel,o,es,ep,h1,h2,h3,h4,h5⟩:=(show eW X.prog X.w H s.heap p (.dT kvs) from I.rd e)
  obtain⟨ta,va⟩:=xU (prog:=X.prog) (w:=X.w) rel
  have hlen:es.size=kvs.length:=by
   have:=congrArg List.length h4
   rw[AZ,cE] at this
   rw[this];exact rel.length.symm
  have fA:ps.length=kvs.length:=rel.length.symm
  refine x3.u_ (κ:=tuples' true) (R:=fun vs=>Vals (ps.map fun q=>V.ref q.2.1) vs) (r:=fun v=>IX (kvs.map (·.1)) (mC H v)) (P:=fun v=>∃ b k,v=.ref b/\H b=some (.tup (k.map kV))/\eB k=b0 :: sh/\k∈kvs.map (·.1)) (fun A' E' Q' hA hQ=>?_) (fun vs rv=>?_) (fun vs rv v hv=>?_)
   (fun vs rv h2 A' E' s' kp Q' q'=>?_) (fun s' kp=>tZ I kp) fun vs h' a out n tk rv pm pw kp ha eo=>?_
  ·refine x3.rW (yQ (es:=es) (ep:=ep) y) (hA.trans (I.ok.hd hc)) ⟨o,h1,h2,h3⟩ (by lia) fun h' tk acc kp hz BG=>hQ _ h' tk ?_ kp hz
   have hv:acc.toList=(ps.map (entryOfKey (tupleKind (mP X.prog X.w)))).map (·.key):=by
    apply CH
    intro i
    by_cases hi:i<es.size
    ·have iE:i<acc.size:=by rw[BG.1];exact hi
     obtain⟨en,e1,e2⟩:=BG.2 i acc[i] (by simp[iE])
     rw[<- h4,kQ,mM,mM,e1]
     simp[iE,e2]
    ·rw[<- h4,kQ,mM,mM,DC (by rw[BG.1];lia),DC (by lia)]
     rfl
   rw[hv];exact va
  ·have:=rv.length
   rw[cE] at this
   lia
  ·obtain⟨_,mem⟩:=ta.keys rv
   obtain⟨b,k,e1,e2,e3⟩:=mem v hv
   exact⟨b,k,e1,e2,hs k e3,e3⟩
  ·obtain⟨fs,f1,f2,f3⟩:=kat_tups I kp ta rv hs
   cases b0 with
   |true =>
    refine PySem.W.kat_kind (T:=.type "int") f1 (by lia) (fun f hf=>?_) (by decide) q'
    obtain⟨i,t,rfl⟩:=(f3 f hf).1 rfl
    exact .now
   |false =>
    refine PySem.W.kat_kind (T:=.type "str") f1 (by lia) (fun f hf=>?_) (by decide) q'
    obtain⟨i,t,rfl⟩:=(f3 f hf).2 rfl
    exact .now
  ·obtain⟨ek,mem⟩:=ta.keys rv
   obtain⟨zs,z1,z2⟩:=cR.of (H:=H) (ks:=kvs.map (·.1)) out fun v hv=>mem v (pm.mem_iff.mp hv)
   have zl:=z2.length
   have ol:=pm.length_eq
   have vl:=rv.length
   rw[cE] at vl
   have Rp:(out.map (mC H)).Perm (kvs.map (·.1)):=by rw[<- ek];exact pm.map _
   refine⟨.ref a,_,I.laid (a:=a) (t':=tk) kp ha (show eW X.prog X.w _ h' _ (.lst zs) from⟨by lia,out,n,z2,eo⟩),rfl,q zs _ _ z1 Rp ?_ (I.bp.fresh ha)⟩
   rw[qk]
   refine pw.imp_of_mem fun {x y} mx my hle=>?_
   obtain⟨b,k,rfl,hb,kk⟩:=mem x (pm.mem_iff.mp mx)
   obtain⟨c,m,rfl,hc,km⟩:=mem y (pm.mem_iff.mp my)
   rw[cQ hb,cQ hc] at *
   have:=yK (L:=kvs.map (·.1)) ((hs m km).trans (hs k kk).symm) km
   rw[<- this]
   exact decide_eq_false (by lia)
 ·exact h.elim
end
end L2
namespace L2.Q
open PySem PySem.Spec PyProof.Rows PySem.SeqAt
section
variable {X:Cx}{K:PySem.W.Frag}
def pA:W1:=fun _ x Q=>match x with
 |.dT kvs=>∃ b0 sh,(∀ p∈kvs,eB p.1=b0 :: sh)/\∀ ms:List (List Key),ms.Perm (kvs.map (·.1))->(ms.Pairwise fun a b=>dz b a=false)->Q (.ow true) (.list (ms.map nr))
 |_=>False
theorem qd:AH K n6 pA:=by
 intro Hs H m x v As Qd Qv w rx h f
 have r1:=rx.rep w
 cases r1 with
 |@dT a vs kvs kk e q =>
  obtain⟨b0,sh,hs,h⟩:=h
  have hlen:=q.length
  rw[cE] at hlen
  have ez:((kvs.map (·.1)).zip vs).map (·.1)=kvs.map (·.1):=LN (by rw[cE];exact GO hlen)
  refine⟨_,b0,sh,e,fun k hk=>?_,fun zs ms l tz pm pw hl=>?_⟩
  ·rw[ez] at hk
   obtain⟨p,hp,rfl⟩:=df.mp hk
   exact hs p hp
  ·rw[ez] at pm
   refine f.lst w (by rw[cE,pm.length_eq,cE];exact kk.1) (oN (K:=K) tz fun k hk=>?_) (ie ms) (h ms pm pw) l hl
   obtain⟨p,hp,rfl⟩:=df.mp (pm.mem_iff.mp hk)
   exact kk.2 p hp
 |_=>exact h.elim
theorem vP (hc:X.calm=true:=by rfl):i5 X (.builtin "sorted") n6:=rA hc
end
end L2.Q
namespace L2.Q.R
open PySem PySem.Spec PyProof.Rows L2.Q PySem.SeqAt
section
variable {Q:Md->L2.Q.D->Prop}{m:Md}
theorem IV:pA m (.dT kvs) Q = ∃ b0 sh,(∀ p∈kvs,eB p.1=b0 :: sh)/\∀ ms:List (List Key),ms.Perm (kvs.map (·.1))->(ms.Pairwise fun a b=>dz b a=false)->Q (.ow true) (.list (ms.map nr)):=rfl
end
end L2.Q.R
namespace L2
open PySem PySem.Spec PyProof.Rows PySem.SeqAt
section
variable {X:Cx}
def Fo(K:PySem.W.Frag):R2:=fun x y H Q=>∃ l xs n,x=.ref l/\y=.int n/\eJ K H l xs/\0<=n/\n<=1000/\xs.length<=1000/\∀ p,H p=none->Q (.ref p) (upd H p (.lst (List.replicate n.toNat xs).flatten))
theorem Bc(h:Vals xs vs)(k:Nat):Vals (List.replicate k xs).flatten (List.replicate k vs).flatten:=by
 induction k with
 |zero=>exact .nil
 |succ k ih=>rw[y3,y3,AU,AU];exact h.append ih
theorem ur(xs:List α)(k:Nat):(List.replicate k xs).flatten.length=xs.length*k:=by
 induction k with
 |zero=>rfl
 |succ k ih=>rw[y3,AU,qh,ih,Nat.mul_succ];lia
theorem Ey:cS X (binaryOp .Mult) (Fo X.K):=by
 intro pins s σ H x y v u Q I rx ry h
 obtain⟨l,xs,n,rfl,rfl,hH,h0,h1,h2,q⟩:=h
 cases rx
 obtain⟨t,rfl⟩:=ry
 obtain⟨its,r,pl,z⟩:=I.list hH
 have hl:=r.length
 obtain⟨⟨cls,dd,data,sl⟩,ho,hc,k,hd⟩:=id pl.isList
 simp only at hc hd
 subst hc hd
 have hm:its.toArray.size*n.toNat<=1000*1000:=Nat.mul_le_mul (by rw[ip];lia) (by lia)
 have hsz:=sizeLine_eq
 refine wpAny_binaryOp_repeat_ref (T := "list") (U := "int") (by decide) ⟨_,ho,rfl⟩ (fun s'=>typeIs_int s' n t) noFill_list_mul PySem.F.fills_int_mul PySem.F.slot_int_rmul repeat_list PySem.F.slot_int_index.lookup
  (call_meets PySem.F.slot_int_rmul (typeIs_int s n t) PySem.F.entry_int_rmul (PySem.F.args_int_rmul_2 _ _) (lm_int_rmul_list_any n t l its.toArray k dd sl)
   ⟨ho,rfl,⟨_,ho,rfl⟩,call_meets PySem.F.slot_list_mul ⟨_,ho,rfl⟩ PySem.F.entry_list_mul (PySem.F.args_list_mul_2 _ _)
    (lm_list_mul_any l its.toArray k dd sl n t (by simp[Builtin.List.listFitsIndex];lia) (by lia) (by simp only[Builtin.List.listTooLong,decide_eq_true_eq];lia))
    ⟨ho,?_⟩⟩)
 rw[listMul_foldl_if]
 exact⟨.ref _,_,I.Tj (t':=s.toks) (Bc r _) (by
  rw[ur]
  have:xs.length*n.toNat<=1000*1000:=Nat.mul_le_mul h2 (by lia)
  lia),rfl,q _ I.fresh⟩
end
theorem iN.sub{S U:PyData->Prop}(T:iN lt S)(h:∀ x,U x->S x):iN lt U :=
 ⟨fun x a=>T.qa x (h x a),fun x y z a b c=>T.tr x y z (h x a) (h y b) (h z c),fun x y a b=>T.ah x y (h x a) (h y b),fun x y a b=>T.eqv x y (h x a) (h y b)⟩
def lZ(p:Str × Int):PyData:=.tuple [.str p.1,.int p.2]
def tI(x:PyData):Prop:=∃ (i:Int) (ps:List (Str × Int)),x=.tuple [.int i,.list (ps.map lZ)]/\∀ p∈ps,PyData.strOk p.1=true
theorem Fj(p q:Str × Int):oD 1 (lZ p) (lZ q):=by
 unfold lZ
 rw[oD]
 intro j x y hx hy _
 match j with
 |0=>cases hx;cases hy;rw[oD];trivial
 |1=>cases hx;cases hy;rw[oD];trivial
 |j+2=>simp at hx
theorem FW(ps:List (Str × Int))(h:∀ p∈ps,PyData.strOk p.1=true):PyData.canLayAll0 (ps.map lZ)=true/\PyData.depthAll (ps.map lZ)<=2:=by
 induction ps with
 |nil=>exact⟨rfl,by simp[PyData.depthAll]⟩
 |cons p ps ih =>
  have ih:=ih fun q hq=>h q (ck _ hq)
  have hp:=h p cq
  rw[ft]
  constructor
  ·simp only[PyData.canLayAll0,lI]
   refine⟨?_,ih.1⟩
   simp[lZ,PyData.canLay0,PyData.canLayAll0,hp]
  ·have h2:=ih.2
   simp only[PyData.depthAll]
   have:(lZ p).depth<=2:=by simp[lZ,PyData.depth,PyData.depthAll]
   lia
theorem RH:FC 2 tI where
 ah:=((iN.pair (iN.int 2) (iN.list (iN.pair (iN.str 0) (iN.int 0)))).sub) fun x ⟨i,ps,e,_⟩=>⟨_,_,e,⟨i,rfl⟩,_,rfl,fun y hy=>by
  obtain⟨p,_,rfl⟩:=df.mp hy
  exact⟨_,_,rfl,⟨_,rfl⟩,_,rfl⟩⟩
 tup:=by
  rintro x ⟨i,ps,rfl,h⟩
  have:=FW ps h
  refine⟨i,_,rfl,?_,?_⟩
  ·simp[PyData.canLay0,PyData.canLayAll0,this.1]
  ·simp only[PyData.depth,PyData.depthAll];lia
 len:=by
  rintro xs ys ⟨i,ps,e,_⟩ ⟨j,qs,e2,_⟩
  cases e;cases e2;rfl
 cm:=by
  rintro x y ⟨i,ps,rfl,_⟩ ⟨j,qs,rfl,_⟩
  rw[oD]
  intro k x y hx hy _
  match k with
  |0=>cases hx;cases hy;rw[oD];trivial
  |1 =>
   cases hx;cases hy
   rw[oD]
   intro k x y hx hy _
   obtain⟨p,_,rfl⟩:=df.mp (kH hx)
   obtain⟨q,_,rfl⟩:=df.mp (kH hy)
   exact Fj p q
  |k+2=>simp at hx
end L2
namespace L2.Q
open PySem PySem.Spec PyProof.Rows PySem.SeqAt
section
variable {X:Cx}{K:PySem.W.Frag}{a b:Expr}{ta tb:WE}{pos:Pos}
def Bh:W2:=fun _ x _ y Q=>match x with
 |.list xs=>match y with
  |.int n=>(0<=n/\n<=1000/\xs.length<=1000)/\cf xs=true/\Q (.ow true) (.list (List.replicate n.toNat xs).flatten)
  |_=>False
 |_=>False
theorem zB(h:aI K H xs vs)(k:Nat):aI K H (List.replicate k xs).flatten (List.replicate k vs).flatten:=by
 induction k with
 |zero=>exact .nil
 |succ k ih=>rw[y3,y3,AU,AU];exact h.append ih
theorem wU(h:cf xs=true)(k:Nat):cf (List.replicate k xs).flatten=true:=by
 induction k with
 |zero=>rfl
 |succ k ih=>rw[y3,AU,fU,h,ih];rfl
theorem DG:jv K (Fo K) Bh:=by
 intro Hs H m x v As n y u Bs Qd Qv w rx ry h f
 have r1:=rx.rep w
 have r2:=ry.rep w
 cases r1 with
 |list z s q=>cases r2 with
  |int n =>
   obtain⟨⟨h0,h1,h2⟩,fl,h⟩:=h
   have hl:=q.length
   refine⟨_,_,_,rfl,rfl,s,h0,h1,by lia,?_⟩
   refine f.lst w ?_ (zB q _) (wU fl _) h
   rw[ur,sizeLine_eq]
   have:List.length _*n.toNat<=1000*1000:=Nat.mul_le_mul h2 (by lia)
   exact iS this (by decide)
  |_=>exact h.elim
 |_=>exact h.elim
theorem JS(hK:X.K=K:=by rfl):cS X (binaryOp .Mult) (Fo K):=by subst hK;exact Ey
theorem HQ(ha:QE X K a ta)(hb:QE X K b tb)(hK:X.K=K:=by rfl):QE X K (.BinOp a .Mult b pos) (ax Bh ta tb):=E2 (JS hK) DG ha hb
def uh(to te:WE):WE:=fun ρ Q=>to ρ fun _ x=>match x with
 |.list xs=>te ρ fun _ y=>b9 12 (.list xs)=true/\b9 12 y=true/\∃ j:Nat,(∃ z,xs[j]? = some z/\fF z y=true)/\(∀ (i:Nat) z,i<j->xs[i]? = some z->fF z y=false)/\Q .sh (.int j)
 |_=>False
theorem Dl(hu:X.A.units+64<cLine)(ho:QE X K o to)(he:QE X K e te)(hK:X.K=K:=by rfl)
  (xE:attributeBase o "index" X.env (eval o X.env)=eval o X.env:=by rfl)
  (uk:((backTo dy (starEach [e] X.env)).all (fun x=>!x.1) && (backToKw dy (keywordEach [] X.env)).all (fun x=>x.1.isSome)
   && decide ([e].length+([]:List Keyword).length+(if ([]:List Keyword).isEmpty then 0 else 1)<30))=true:=by rfl)
  (hline:(apos.endLine == dy.line)=true:=by rfl) (tq:starEach (e :: []) X.env=(false,eval e X.env) :: starEach [] X.env:=by rfl) (xI:(backTo dy (starEach [] X.env)).any (·.1)=false:=by rfl) :
  QE X K (.Call (.Attribute o "index" apos) [e] [] dy) (uh to te):=by
 subst hK
 refine PE.imp (Ic PySem.F.plainAttrs_list PySem.F.slot_list_index PySem.F.type_list_index (Be hu) ho (pd he sN tq) xE uk hline tq xI) fun σ H Qv hx=>kF hx fun Hs ρ ah Q sr h f=>?_
 refine⟨Hs,ρ,ah,_,sr,h,fun v H1 aT m x As g1 r1 f1 q1=>?_⟩
 have r:=r1.rep g1.wf
 cases r with
 |list hz s rs =>
  refine⟨.inl ⟨rfl,_,s⟩,aT,ρ,ah,_,sr.grow g1,q1,fun y H2 aw m2 x2 gi g2 r2 f2 q2=>?_⟩
  obtain⟨o1,o2,j,⟨z,ez,eq⟩,DL,q⟩:=q2
  have rr:=(r1.grow g2).rep g2.wf
  cases rr with
  |list YL s' UX =>
   have l2:=jn 12 _ o2
   have Y9:∀ d∈_,b9 11 d=true:=FV.mp (show List.all _ (b9 11)=true from o1)
   refine⟨_,_,_,_,_,j,rfl,rfl,s',Rep.Ue.2 UX 11 Y9,(r2.rep g2.wf).l2 o2,fun e he=>?_,l2.1,⟨z.py,?_,eq⟩,fun m e hm he=>?_,Fin.sh (Fin.after f (g1.trans g2)) g2.wf (.int _) q⟩
   ·rw[je] at he
    obtain⟨d,hd,rfl⟩:=df.mp he
    have:=jn 11 d (Y9 d hd)
    exact⟨this.1,by lia⟩
   ·rw[je,kQ,ez];rfl
   ·rw[je,kQ] at he
    obtain⟨d,hd,rfl⟩:=L4.mp he
    exact DL m d hm hd
 |_=>exact q1.elim
abbrev yO:W1:=BX 2 tI
theorem G5 (hu:X.A.units+64<cLine) (hK:X.K=K:=by rfl):i5 X (.builtin "sorted") (nq K 2 tI):=G_ RH (by lia) hK
theorem Al:AH K (nq K 2 tI) yO:=yV
end
end L2.Q
namespace L2.Q.R
open PySem PySem.Spec PyProof.Rows L2.Q PySem.SeqAt
section
variable {Q:Md->L2.Q.D->Prop}{m m':Md}{x y:L2.Q.D}{xs:List L2.Q.D}{OG te:WE}{ρ:Env}{a:Int}
theorem Lr:Bh m (.list xs) m' (.int a) Q=((0<=a/\a<=1000/\xs.length<=1000)/\cf xs=true/\Q (.ow true) (.list (List.replicate a.toNat xs).flatten)):=rfl
theorem Jc:uh OG te ρ Q=OG ρ fun _ x=>bI x (f:=fun x=>vw x fun xs=>te ρ fun _ y=>b9 12 (.list xs)=true/\b9 12 y=true/\∃ j:Nat,(∃ z,xs[j]? = some z/\fF z y=true)/\(∀ (i:Nat) z,i<j->xs[i]? = some z->fF z y=false)/\Q .sh (.int j)) ⟨⟩:=by unfold uh bI vw;rfl
theorem Ji:yO m (.list xs) Q=(m=.sh/\(∀ d∈xs,b9 12 d=true/\tI d.py)/\∀ ms:List L2.Q.D,ms.Perm xs->(ms.Pairwise fun a b=>PySem.SeqAt.cc 3 b.py a.py=false)->Q (.ow false) (.list ms)):=rfl
end
end L2.Q.R
namespace L2
open PySem PySem.Spec PyProof.Rows
end L2
namespace L2.Q
open PySem PySem.Spec PyProof.Rows
section
variable {X:Cx}{K:PySem.W.Frag}{a b c e:Expr}{ta tb te:WE}{pos p2:Pos}
def RJ(ta tb:WE):WE:=fun ρ Q=>ta ρ fun m x=>m=.ow true/\match x with
 |.list xs=>tb ρ fun _ y=>intD y fun k=>∃ d,L2.eM xs k=some d/\Q (O4 d) d
 |_=>False
theorem Jd(ha:QE X K a ta)(hb:QE X K b tb)(hs:Qr b:=by exact fun _ _=>rfl)(hK:X.K=K:=by rfl):QE X K (.Subscript a b pos) (RJ ta tb):=by
 refine PE.imp (Te (kIx hK) ha hb hs) fun σ H Qv hx=>kF hx fun Hs ρ ah Q sr h f=>?_
 refine⟨Hs,ρ,ah,_,sr,h,fun v H1 aT m x As g1 r1 f1 q1=>?_⟩
 obtain⟨rfl,q1⟩:=q1
 obtain⟨r1,ne⟩:=r1
 cases r1 with
 |sh _ r=>exact absurd rfl ne
 |@list a vs xs As z e rs =>
  refine⟨aT,ρ,ah,_,sr.grow g1,q1,fun u H2 aw m2 y Bs g2 r2 f2 q2=>?_⟩
  have ry:=r2.rep g2.wf
  cases ry with
  |int k =>
   obtain⟨d,e3,q⟩:=q2
   obtain⟨j,ej,ed⟩:=GJ e3
   have nd:As.Nodup:=(kA.mp f1.1).2
   obtain⟨w,B,ew,om,sB,_⟩:=rs.at ed nd
   have r3:=om.grow g2.sh g2.all
   refine .inl ⟨vs,w,.inl (.inl (g2.all _ _ e)),ym (by rw[<- rs.length];exact ej) ew,?_⟩
   cases hf:d.flat with
   |true =>
    rw[O4,hf] at q
    exact f w H2 aw .sh d [] (g1.trans g2) ⟨rfl,(r3.rep g2.wf.sub fun _ _=>rfl).gF g2.wf.iX hf⟩ ⟨oQ,fun _ h=>BQ h⟩ q
   |false =>
    rw[O4,hf] at q
    refine f w H2 aw (.ow true) d B (g1.trans g2) ⟨r3,r3.ne hf⟩ ⟨sB.nodup nd,fun c hc=>?_⟩ q
    have:=f1.2 c (ck _ (sB.subset hc))
    exact⟨g2.pE this.1 (om.own c hc).ne,this.2⟩
  |_=>exact q2.elim
 |_=>exact q1.elim
theorem SR.view(G:Hp)(s:aS Hs H)(r:SR K Hs H ρ σ ah):SR K H G (ρ.map (Option.map N3)) σ []:=by
 induction r with
 |nil=>exact .nil
 |non _ ih=>exact .non ih
 |sh r _ ih=>exact .sh (r.same s) ih
 |xc _ ih=>exact .xc ih
 |ow _ r _ ih=>exact .sh (r.rep s fun _ _=>rfl) ih
 |lk _ r _ ih=>exact .sh (r.rep s fun _ _=>rfl) ih
def RK(i j:Nat)(hs xs:List D)(ρ:Env):Env:=(ρ.set j none).set i (some (.ow true (.list (hs++[.list xs]))))
def U0(i j:Nat)(hs xs:List D)(ρ:Env):Env:=((RK i j hs xs ρ).map (Option.map N3)).set j (some (.sh (.list xs)))
def gb'(o:Option Sl)(k:Sl->Prop):Prop:=match o with
 |some s=>k s
 |none=>False
def yf(i j:Nat)(te:WE):WS:=fun E ρ=>Fs ρ[i]? fun hs=>Fs ρ[j]? fun xs=>cf xs=true/\hs.length<sizeLine /\
 te (U0 i j hs xs ρ) fun m d=>gb' (asg (xa m d) d) fun sl=>E.nx ((RK i j hs xs ρ).set j (some sl))
theorem Ag(hN:X.N.Nodup)(hj0:X.N[j]? = some x)(hx:Loc X.env.scope x)(hi:PE X a (DE i))(hj:PE X b (DE j))(he:QE X K e te)(kf:i≠j:=by decide)(hK:X.K=K:=by rfl)
  (s1:swapsWith (.Call (.Attribute a "append" p1) [b] [] p2) none pos.line X.env=pure false:=by rfl) (b1:attributeBase a "append" X.env (eval a X.env)=eval a X.env:=by rfl)
  (f1:((backTo p2 (starEach [b] X.env)).all (fun x=>!x.1) && (backToKw p2 (keywordEach [] X.env)).all (fun x=>x.1.isSome) && decide ([b].length+([]:List Keyword).length+(if ([]:List Keyword).isEmpty then 0 else 1)<30))=true:=by rfl)
  (l1:(p1.endLine == p2.line)=true:=by rfl) (t1:starEach (b :: []) X.env=(false,eval b X.env) :: starEach [] X.env:=by rfl) (q1:(backTo p2 (starEach [] X.env)).any (·.1)=false:=by rfl)
  (hs:swapsWith e (some (.Name x p3)) pos'.line X.env=pure false:=by rfl) (hf:X.fn x=true\/X.env.scope.names.lookup x=some .local:=by first|exact .inl rfl|exact .inr rfl|assumption) :
  n4 X K L [.Expr (.Call (.Attribute a "append" p1) [b] [] p2) pos,.Assign [.Name x p3] e pos'] (yf i j te):=by
 subst hK
 refine nh.imp (Ww (Mb (Ic PySem.F.plainAttrs_list PySem.F.slot_list_append PySem.F.type_list_append Tn hi (pd hj sN t1) b1 f1 l1 t1 q1) s1)
  (SG (SV hN hj0 hx he hs hf))) fun D σ H hx=>fG hx fun Hs ρ ah E sr h k1 k2 k3 k4=>?_
 obtain⟨hs,ei,h⟩:=BR h
 obtain⟨xs,ej,fl,Rn,h⟩:=BR h
 obtain⟨a,ws,c,vs,cx,u1,u2,u3,u4,u5,u6,u7,g0⟩:=Dt kf sr ei ej fl Rn
 refine⟨_,u1,.inl ⟨rfl,_,.inl (.inl u2)⟩,_,u4,a,ws,_,rfl,rfl,u2,u3,?_⟩
 have rc:Rep X.K (upd H a (.lst (ws++[.ref c]))) (.list xs) (.ref c):=.list u7 (.inl (.inl u5)) (u6.same g0.wf.sub)
 have v0:=SR.view (upd H a (.lst (ws++[.ref c]))) g0.wf.sub g0.sr
 obtain⟨t,st,v1⟩:=v0.xZ rc j
 have e0:σ.set j (some (.ref c))=σ:=by
  apply CH
  intro m
  by_cases hm:j=m
  ·subst hm;rw[Pw (by have:=(ic.mp u4).1;exact this),u4]
  ·rw[FR hm]
 rw[e0] at v1
 have et:t=[]:=List.eq_nil_of_subset_nil st.subset
 subst et
 refine⟨upd H a (.lst (ws++[.ref c])),_,[],_,⟨v1,⟨aS.refl _,fun _ _ z=>z⟩,oQ,fun _ h=>BQ h⟩,h,fun v H1 aT m d As g1 r1 f1 q1=>?_⟩
 obtain⟨fN,r',fr⟩:=oV g0.wf g1.sh g1.wf r1 f1.1 fun a ha=>(f1.2 a ha).1
 have gb:=fQ g0.wf g1.sh g1.wf
 cases ea:asg (xa m d) d with
 |none=>rw[ea] at q1;exact q1.elim
 |some sl =>
  rw[ea] at q1
  obtain⟨bP,s'⟩:=(g0.grow gb).set j r' fr.1 (fun a ha=>⟨(fr.2 a ha).1,fun m=>(g0.sr.own a m).ne (fr.2 a ha).2⟩) ea
  exact k1 _ H1 _ _ bP gb.sh s' q1
end
end L2.Q
namespace L2.Q.R
open PySem PySem.Spec PyProof.Rows L2.Q
section
variable {Q:Md->L2.Q.D->Prop}{m:Md}{x y:L2.Q.D}{xs:List L2.Q.D}{ta tb te:WE}{ρ:L2.Q.Env}{E:lC}{i j:Nat}
theorem Oc:RJ ta tb ρ Q=ta ρ fun m x=>m=.ow true/\bI x (f:=fun x=>vw x fun xs=>tb ρ fun _ y=>bI y (f:=fun y=>intD y fun k=>∃ d,L2.eM xs k=some d/\bI d (f:=fun d=>Q (O4 d) d) ⟨⟩) ⟨⟩) ⟨⟩:=by unfold RJ bI vw;rfl
theorem Ka:yf i j te E ρ=bI ρ[i]? (f:=fun o=>Fs o fun hs=>bI ρ[j]? (f:=fun o=>Fs o fun xs=>cf xs=true/\hs.length<sizeLine /\
 te (U0 i j hs xs ρ) fun m d=>bI (asg (xa m d) d) (f:=fun o=>put o fun sl=>E.nx ((RK i j hs xs ρ).set j (some sl))) ⟨⟩) ⟨⟩) ⟨⟩:=rfl
end
end L2.Q.R
namespace L2
open PySem PySem.Spec PyProof.Rows
section
variable {prog:Program}{w:World}{A:Around}{E:Value->Shared->Prop}{s:Shared}
theorem iM(f:α->β)(l:List α):∀ k:Nat,(l.map f).eraseIdx k=(l.eraseIdx k).map f:=by
 induction l with
 |nil=>intro k;rfl
 |cons x l ih =>
  intro k
  cases k with
  |zero=>rfl
  |succ k=>rw[ft,FP,FP,ft,ih]
theorem wD{κ:Type}[DecidableEq κ]{kd:HeapKind prog w κ}{d b:Addr}{xs:List (κ × Addr × Value)}{k:κ}{p0:Addr × Value}{Q:Option DictEntry->Shared->Prop}(hu:kd.room A)(hk:kd.is s.heap k b)(hm:s.heap.DictOfH kd d xs)(hz:xs.length<=sizeLine)(h0:atKey xs k=some p0)
  (h:∀ j p h',xs[j]? = some (k,p)->h'.DictOfH kd d (xs.eraseIdx j)->Heap.SameBut d s.heap h'->Q (some (entryOfKey kd (k,p))) { s with heap:=h',toks:=s.toks+kd.draws k }):wpAny (model prog w) A (Builtin.Dict.takeOut d (.ref b)) Q E s:=by
 obtain⟨o,es,ep,ho,hc,hd,he,xh,hn⟩:=hm
 unfold Builtin.Dict.takeOut
 refine wpAny_holding ?_
 refine ai (kd.pyHash hu hk (ai (wpAny_dictFind_heap (s:={ s with toks:=s.toks+kd.draws k }) hu hk ho hd he xh hn (fun no=>?_) fun j p hj=>?_)))
 ·rw[atKey_none_of_get no] at h0;cases h0
 ·refine ai (wpAny_dictEntries (s:={ s with toks:=s.toks+kd.draws k }) ho hd ?_)
  rw[entry_at he j,hj]
  have RL:j<es.size:=by rw[size_of_entries he];exact(ic.mp hj).1
  refine ai (wpAny_updateDictKeys (hz:=by have e:=size_of_entries he;lia) (hf:=by simp[Array.eraseIdxIfInBounds,RL];lia) (s:={ s with toks:=s.toks+kd.draws k }) ho hd (aC (h j p _ hj ?_ (Heap.SameBut.update ..))))
  refine⟨_,_,ep+1,GA _ ho (Obj.isFreed_of_dict (Obj.data_mapDictKeys hd _)),hc.mapDictKeys _,Obj.data_mapDictKeys hd _,?_,fun x hx=>?_,?_⟩
  ·show(es.eraseIdxIfInBounds j).toList=_
   rw[Array.eraseIdxIfInBounds,dif_pos RL,Array.toList_eraseIdx,he,iM]
  ·exact kd.keeps (xh x (List.mem_of_mem_eraseIdx hx)) ho hd (Heap.SameBut.update ..)
  ·exact(List.Sublist.map _ (List.eraseIdx_sublist ..)).nodup hn
theorem vV{κ:Type}[DecidableEq κ](kd:HeapKind prog w κ)(d b:Addr) :
  MeetsIn prog w (Builtin.«dict.pop» ⟨[.ref d,.ref b],[]⟩) (fun A R s=>kd.room A.in1/\∃ k xs p0,kd.is s.heap k b/\s.heap.DictOfH kd d xs/\xs.length<=sizeLine/\atKey xs k=some p0 /\
   ∀ j p h',xs[j]? = some (k,p)->h'.DictOfH kd d (xs.eraseIdx j)->Heap.SameBut d s.heap h'->R (.ok (.ret p.2)) { s with heap:=h',toks:=s.toks+kd.draws k }) :=
 .of_wp fun A R s dk=>by
  obtain⟨hu,k,xs,p0,hk,hm,hz,h0,h⟩:=dk
  obtain⟨o,es,ep,ho,hc,hd,he,xh,hn⟩:=id hm
  unfold Builtin.«dict.pop» Builtin.Dict.keyAndDefault
  refine ai (ai (wpAny_notOrdered_dict hm.typeIs ?_))
  refine(show wpAny _ _ (pure (d,Value.ref b,none)) _ _ s from aC ?_)
  dsimp only
  rw[if_neg (show ¬ ((keyPart (.ref b)).isSome=true) from g9)]
  refine ai (wpAny_dictEntries ho hd (ai (aC ?_)))
  have ne:es.isEmpty=false:=by
   cases e:es.isEmpty with
   |false=>rfl
   |true =>
    have:es.size=0:=by simpa[Array.isEmpty] using e
    rw[size_of_entries he] at this
    have:xs=[]:=List.eq_nil_of_length_eq_zero this
    subst this
    cases h0
  rw[ne]
  simp only[gu,if_false]
  refine ai (wD hu hk hm hz h0 fun j p h' hj Sq gV=>?_)
  simp only[Option.isNone_some,gu,if_false]
  exact ai (wpAny_letGo (aC ⟨_,rfl,h j p h' hj Sq gV⟩))
end
theorem KT.at(r:KT H kvs xs):∀ {j:Nat},xs[j]? = some (k,p)->∃ v,kvs[j]? = some (k,v)/\RelV v p.2:=by
 induction r with
 |nil=>intro j h;simp at h
 |@cons a q ps qs h t ih =>
  intro j hj
  cases j with
  |zero =>
   simp only[List.getElem?_cons_zero,Option.some.injEq] at hj
   subst hj
   obtain⟨k',v⟩:=a
   obtain⟨h1,_,h2⟩:=h
   simp only at h1
   subst h1
   exact⟨v,rfl,h2⟩
  |succ j=>exact ih (by simpa using hj)
theorem KT.erase(r:KT H kvs xs):∀ j:Nat,KT H (kvs.eraseIdx j) (xs.eraseIdx j):=by
 induction r with
 |nil=>intro j;exact .nil
 |@cons a q ps qs h t ih =>
  intro j
  cases j with
  |zero=>exact t
  |succ j=>exact .cons h (ih j)
section
variable {X:Cx}
theorem Dc (hu:X.A.units+1<cLine):Qs X "dict.pop" (fun x xs H Q=>∃ a b kvs k,x=.ref a/\xs=[.ref b]/\H a=some (.dT kvs)/\H b=some (.tup (k.map kV))/\k∈kvs.map (·.1)/\∀ j v,kvs[j]? = some (k,v)->Q v (upd H a (.dT (kvs.eraseIdx j)))):=by
 intro pins s σ H x vs v us Q I rx rv h
 obtain⟨a,b,kvs,k,rfl,rfl,e,eb,ay,q⟩:=h
 cases (show v=Value.ref a from rx)
 obtain⟨u,rfl,ru⟩:=Vals.one rv
 cases (show u=Value.ref b from ru)
 obtain⟨z,hd,xs,rel,dd⟩:=Xm I.bp e
 have hz:xs.length<=sizeLine:=by rw[<- Paired.length rel];exact z
 have vl:=rel.val k
 have hv:∃ p0,atKey xs k=some p0:=by
  cases ea:atKey xs k with
  |some p=>exact⟨p,rfl⟩
  |none =>
   rw[ea] at vl
   cases ev:oo kvs k with
   |some v'=>rw[ev] at vl;exact(vl:False).elim
   |none =>
    have:(kvs.any fun kv=>decide (kv.1=k))=true:=by
     obtain⟨p,hp,e⟩:=df.mp ay
     exact Dp.mpr ⟨p,hp,decide_eq_true e⟩
    rw[To,ev] at this
    cases this
 obtain⟨p0,h0⟩:=hv
 refine call_meetsIn PySem.F.slot_dict_pop dd.typeIs PySem.F.entry_dict_pop (PySem.F.args_dict_pop_2 _ _) (vV (tupleKind (mP X.prog X.w)) a b) ⟨tupleKind_room_in1 hu,k,xs,p0,MQ I.bp eb,dd,hz,h0,fun j p h' hj Iq hs=>?_⟩
 obtain⟨v,hkj,RG⟩:=rel.at hj
 obtain⟨qo,es,ep,hq,g2,g3,g4,_,g5⟩:=Iq
 have ob:eW X.prog X.w (upd H a (.dT (kvs.eraseIdx j))) h' a (.dT (kvs.eraseIdx j)):=by
  refine⟨?_,hd,_,(rel.erase j).keeps fun c ys ec=>?_,qo,es,ep,hq,g2,g3,g4,g5⟩
  ·rw[PC];split<;>lia
  ·rw[fE (Wh ec e fun z=>nomatch z)]
   exact ec
 exact⟨v,_,Tr I (by rw[e];exact True.intro) hs ⟨qo,hq⟩ ob,RG,q j v hkj⟩
end
end L2
namespace L2.Q
open PySem PySem.Spec PyProof.Rows
section
variable {X:Cx}{K:PySem.W.Frag}{L:Str->Hp->Prop}{e e2:Expr}{p:WP}{Uq:WE}{apos dy pos:Pos}
def Dm(p:WP)(tk:WE):WS:=fun E ρ=>p ρ fun fl d up=>match d with
 |.dT kvs=>tk ρ fun _ y=>match y with
  |.tup ys=>∃ ks,fJ ys=some ks/\ks∈kvs.map (·.1)/\∀ j d,kvs[j]? = some (ks,d)->E.nx (up fl (.dT (kvs.eraseIdx j)))
  |_=>False
 |_=>False
theorem mQ:∀ (l:List α) (m:List β) (j:Nat),(l.zip m).eraseIdx j=(l.eraseIdx j).zip (m.eraseIdx j)
 |[],m,j=>by simp
 |x :: l,[],j=>by simp
 |x :: l,y :: m,0=>rfl
 |x :: l,y :: m,j+1=>by
  rw[vS,FP,FP,FP,vS,mQ l m j]
theorem El(hu:X.A.units+1<cLine)(ho:QP X K e p)(he:QE X K e2 Uq)(hK:X.K=K:=by rfl)
  (xE:attributeBase e "pop" X.env (eval e X.env)=eval e X.env:=by rfl)
  (uk:((backTo dy (starEach [e2] X.env)).all (fun x=>!x.1) && (backToKw dy (keywordEach [] X.env)).all (fun x=>x.1.isSome)
   && decide ([e2].length+([]:List Keyword).length+(if ([]:List Keyword).isEmpty then 0 else 1)<30))=true:=by rfl)
  (hline:(apos.endLine == dy.line)=true:=by rfl) (tq:starEach (e2 :: []) X.env=(false,eval e2 X.env) :: starEach [] X.env:=by rfl) (xI:(backTo dy (starEach [] X.env)).any (·.1)=false:=by rfl)
  (hs:swapsWith (.Call (.Attribute e "pop" apos) [e2] [] dy) none pos.line X.env=pure false:=by rfl) :
  QS X K L (.Expr (.Call (.Attribute e "pop" apos) [e2] [] dy) pos) (Dm p Uq):=by
 subst hK
 refine PS.imp (Mb (Ic PySem.F.plainAttrs_dict PySem.F.slot_dict_pop PySem.F.type_dict_pop (Dc hu) ho (pd he sN tq) xE uk hline tq xI) hs) fun D σ H hx=>fG hx fun Hs ρ ah E sr h k1 k2 k3 k4=>?_
 refine⟨Hs,ρ,ah,_,sr,h,fun v H1 aT fl d up g1 p1 q1=>?_⟩
 cases d with
 |dT kvs =>
  obtain⟨fN,r,ne,nd,own,k⟩:=p1.ex
  have lv:∀ x∈fN,aT x=none/\H1 x≠none:=fun x hx=>⟨own x hx,(r.own x hx).ne⟩
  cases r with
  |sh hf _=>exact absurd rfl ne
  |@dT a vs _ A kk ea rs =>
   refine⟨.inr (.inr (.inl ⟨rfl,.inr ⟨_,ea⟩⟩)),aT,ρ,ah,_,sr.grow g1,q1,fun w H2 aw m y Bs g2 r2 f2 q2=>?_⟩
   have ry:=r2.rep g2.wf
   cases ry with
   |tup t2 ey p2 =>
    obtain⟨ks,hk,ay,q⟩:=q2
    obtain⟨b,eb,e3⟩:=Rep.nr (.tup t2 ey p2) hk
    cases eb
    have hl:kvs.length=vs.length:=by have:=rs.length;rwa[cE] at this
    have ez:((kvs.map (·.1)).zip vs).map (·.1)=kvs.map (·.1):=LN (by rw[cE];exact GO hl)
    refine⟨a,_,_,ks,rfl,rfl,g2.all _ _ ea,e3,by rw[ez];exact ay,fun j v hj=>?_⟩
    have hjk:∃ d,kvs[j]? = some (ks,d):=by
     have h1:(kvs.map (·.1))[j]? = some ks:=by rw[<- ez,kQ,hj];rfl
     rw[kQ] at h1
     obtain⟨q',Ru,e'⟩:=L4.mp h1
     obtain⟨a',d'⟩:=q'
     simp only at e'
     subst e'
     exact⟨d',Ru⟩
    obtain⟨d,hd⟩:=hjk
    obtain⟨nA,O5⟩:=kA.mp nd
    obtain⟨B,sb,rb⟩:=(rs.grow g2.sh g2.all).erase j
    have rr:bG X.K aw (upd H2 a (.dT (((kvs.map (·.1)).zip vs).eraseIdx j))) fl (.dT (kvs.eraseIdx j)) (.ref a) (a :: B):=by
     refine .dT (vs:=vs.eraseIdx j) ⟨by have:=kk.1;rw[PC];split<;>lia,fun p hp=>kk.2 p (List.mem_of_mem_eraseIdx hp)⟩ ?_ ?_
     ·rw[kK,mQ,iM]
     ·rw[<- iM]
      exact rb.fv (aS.refl _) fun c hc=>fE fun z=>nA (by subst z;exact sb.subset hc)
    obtain⟨cx,g0⟩:=k.node (fl2:=fl) (d2:=.dT (kvs.eraseIdx j)) (C:=B) g2 lv (fun _ z=>by cases z) id rr (sb.nodup O5) (fun z=>nA (sb.subset z)) fun x hx=>.inl (sb.subset hx)
    exact k1 _ _ aw _ cx (g1.sh.trans g2.sh) g0 (q j d hd)
   |_=>exact q2.elim
 |_=>exact q1.elim
end
end L2.Q
namespace L2.Q.R
open PySem PySem.Spec PyProof.Rows L2.Q
abbrev Kt':=List (List Key × L2.Q.D)
section
variable {E:lC}{ρ:Env}{p:WP}{tk:WE}
def Y_(d:L2.Q.D)(k:Kt'->Prop):Prop:=match d with
 |.dT kvs=>k kvs
 |_=>False
theorem Nv:Y_ (.dT kvs) k=k kvs:=rfl
theorem K5:Dm p tk E ρ=p ρ fun fl d up=>bI d (f:=fun d=>Y_ d fun kvs=>tk ρ fun _ y=>bI y (f:=fun y=>Y0 y fun ys=>∃ ks,fJ ys=some ks/\ks∈kvs.map (·.1)/\∀ j d,kvs[j]? = some (ks,d)->E.nx (up fl (.dT (kvs.eraseIdx j)))) ⟨⟩) ⟨⟩:=rfl
end
end L2.Q.R
namespace L2
open PySem PySem.Spec PyProof.Rows
section
variable {X:Cx}{o i value:Expr}{pos pos':Pos}{td ty tv:TE}
def JB(td ty tv:TE):TS:=fun D σ H=>tv σ H fun v H1=>td σ H1 fun x H2=>ty σ H2 fun y H3=>∃ a xs,∃ j:Int,x=.ref a/\y=.int j/\H3 a=some (.lst xs)/\0<=j/\j<xs.length/\D.nx σ (upd H3 a (.lst (xs.set j.toNat v)))
theorem zK(r:RelV v u)(h:Vals xs us)(k:Nat):Vals (xs.set k v) (us.set k u):=by
 induction h generalizing k with
 |nil=>exact .nil
 |cons a _ ih =>
  cases k with
  |zero=>exact .cons r ‹_›
  |succ k=>exact .cons a (ih k)
theorem CJ(ho:PE X o td)(hi:PE X i ty)(hv:PE X value tv)(hs:swapsWith value (some (.Subscript o i pos')) pos.line X.env=pure false) :
  PS X (.Assign [.Subscript o i pos'] value pos) (JB td ty tv):=by
 intro pins s σ H D I h
 refine wpAny_Assign_Subscript (cv (hv pins s σ H _ I h) fun r s1 cK=>L2.hG cK fun v H1 I1 rv q1=>cv (ho pins s1 σ H1 _ I1 q1) fun u s2 cK=>L2.hG cK fun x H2 I2 rx q2=>cv (hi pins s2 σ H2 _ I2 q2) fun iv s3 dk=>?_) hs
 obtain⟨y,H3,I3,ry,a,xs,j,ex,ey,g,h0,h1,q3⟩:=dk
 subst ex ey
 obtain rfl:u=Value.ref a:=rx
 obtain⟨t,rfl⟩:=ry
 obtain⟨z,its,n,r',hl,e⟩:=I3.Qw g
 have OO:sizeLine<2 ^ 62:=by rw[sizeLine_eq];decide
 refine PySem.W.ki_setAt (n:=n) e h0 (by lia) (by rw[ip];lia) ?_
 exact⟨σ,_,I3.Ti (its':=its.set j.toNat r) (t':=s3.toks) g e (by simp) (zK rv r' _) (by simpa using z),q3⟩
end
end L2
namespace L2.Q
open PySem PySem.Spec PyProof.Rows
section
variable {X:Cx}{K:PySem.W.Frag}{L:Str->Hp->Prop}{a b c e2:Expr}{p:WP}{tk tv:WE}{pos pos':Pos}
theorem aD.put(r:bG K Hs H fl d v [])(k:Nat)(q:aD K Hs H fl ds vs As):∃ Bs,Bs.Sublist As/\aD K Hs H fl (ds.set k d) (vs.set k v) Bs:=by
 induction k generalizing ds vs As with
 |zero =>
  cases ds with
  |nil=>obtain⟨rfl,rfl⟩:=q.n0;exact⟨[],List.Sublist.refl _,q⟩
  |cons x ds =>
   obtain⟨u,us,A,B,rfl,rfl,_,q2⟩:=q.c
   exact⟨[]++B,oI _ _,aD.cons r q2⟩
 |succ k ih =>
  cases ds with
  |nil=>obtain⟨rfl,rfl⟩:=q.n0;exact⟨[],List.Sublist.refl _,q⟩
  |cons x ds =>
   obtain⟨u,us,A,B,rfl,rfl,r1,q2⟩:=q.c
   obtain⟨Bs,sb,q3⟩:=ih q2
   exact⟨A++Bs,List.Sublist.append (List.Sublist.refl _) sb,aD.cons r1 q3⟩
def Ga(p:WP)(tk tv:WE):WS:=fun E ρ=>tv ρ fun _ x=>p ρ fun fl d up=>tk ρ fun _ j=>x.flat=true/\R.O6 d fun xs=>intD j fun j=>0<=j/\j<xs.length/\E.nx (up fl (.list (xs.set j.toNat x)))
theorem De(ho:QP X K a p)(hi:QE X K b tk)(hv:QE X K c tv)(hs:swapsWith c (some (.Subscript a b pos')) pos.line X.env=pure false:=by rfl) :
  QS X K L (.Assign [.Subscript a b pos'] c pos) (Ga p tk tv):=by
 refine PS.imp (CJ ho hi hv hs) fun D σ H hx=>fG hx fun Hs ρ ah E sr h k1 k2 k3 k4=>?_
 refine⟨Hs,ρ,ah,_,sr,h,fun v H1 aT m1 x As1 g1 r1 f1 q1=>⟨aT,ρ,ah,_,sr.grow g1,q1,fun u H2 aw fl d up g2 p2 q2=>⟨aw,ρ,ah,_,(sr.grow g1).grow g2,q2,fun y H3 fR m3 yd IY g3 r3 f3 q3=>?_⟩⟩⟩
 obtain⟨hx,q3⟩:=q3
 have rx:Rep K fR x v:=((r1.grow g2).grow g3).flat g3.wf hx
 have ry:=r3.rep g3.wf
 cases d with
 |list xs =>
  cases ry with
  |int j =>
   obtain⟨h0,h1,q3⟩:=q3
   obtain⟨a,vs,A,ea,e2,Y4,rs,nd,hn,k⟩:=p2.put g3
   obtain⟨nA,O5⟩:=kA.mp nd
   have hl:=rs.length
   have hz0:=p2.short ea Y4
   obtain⟨B,sb,rb⟩:=aD.put (bG.sh (fun _=>hx) rx) j.toNat rs
   refine⟨a,vs,j,ea,rfl,e2,h0,by lia,?_⟩
   obtain⟨cx,g0⟩:=k fl _ _ B id rb (by rw[PK];lia) (sb.nodup O5) (fun z=>nA (sb.subset z)) (fun x hx=>.inl (sb.subset hx))
   exact k1 _ _ fR _ cx ((g1.sh.trans g2.sh).trans g3.sh) g0 q3
  |_=>exact q3.elim
 |_=>exact q3.elim
end
end L2.Q
namespace L2.Q.R
open PySem PySem.Spec PyProof.Rows L2.Q
section
variable {tk tv:WE}{ρ:L2.Q.Env}{E:lC}{p:WP}
theorem Ma:Ga p tk tv E ρ=tv ρ fun _ x=>p ρ fun fl d up=>tk ρ fun _ j=>x.flat=true/\bI d (f:=fun d=>O6 d fun xs=>bI j (f:=fun j=>intD j fun j=>0<=j/\j<xs.length/\E.nx (up fl (.list (xs.set j.toNat x)))) ⟨⟩) ⟨⟩:=rfl
end
end L2.Q.R
namespace L2.Q
open PySem PySem.Spec PyProof.Rows
namespace R
theorem KC:AF m (.bl i) m' (.bl j) Q=Q .sh (.bl (!decide (i=j))):=rfl
end R
end L2.Q
local macro_rules | `(tactic| walk_at "q") => do
 let nm (s:String):Lean.Ident:=Lean.mkIdent ((s.splitOn ".").foldl Lean.Name.mkStr .anonymous)
 let ds ← ("Lx OD Mw KZ JF Lj Oi Om JQ Iw Lh Ku La Kf Lb Lf Oz Mu Lw Lz Kl KR fP' Ox Nk Mv Ks Lp KJ Od Np M6 Nm Nf Mz Ob M7 K9 Ly Oh Oj Li IK Nu LR wB_ N7 Nr er' Ng Mx Jo Ju wC_ eu' ev' JL Ms Nh NB Ot Mr Jx JR J9 Jk J0 Js JZ J_ JK Ml K6 KN Mi Kq Kz Kr Kh Ov Oe Nt Ls Mt NP Nj N5 KQ Gm Lr Jc IV Ji Oc Ka Ma K5 Nv N_ KC Mj M8 MN Ny Ou Oo Nx Nb MP Ol Nq N6 L_ K3 Kw Mq K7 N8 J5 J4 J7 ew' Ln K8 NZ M9 Og K_ Je JP ex' Iu Oa Jb Nz MK Ko Ni Jj KH LK JN Iz I_ IW gN_ gT_ Lq NQ KD Kg K4 J3 Jp Kc MF Mh Kp Jm Jq Jw MJ NK Mm LC K1 Oq NT M_ MT Kv Jv JM Km Mp fS' KY Ld".splitOn " ").toArray.mapM fun s=>`(Lean.Parser.Tactic.simpLemma| ↓$(nm ("L2.Q.R." ++ s)):ident)
 let us ← ("L2.Q.RK L2.Q.U0 L2.Q.ek' L2.Q.O4 L2.Q.Dy L2.Q.Gk L2.Q.AG L2.Q.JY L2.Q.E5 L2.Q.xa L2.Q.jC L2.Q.N4 L2.Q.N0 L2.Q.N3 L2.Q.mU L2.Q.CW L2.Q.asg L2.Q.mn L2.Q.aU L2.Q.D.flat L2.Q.cf L2.Q.D.Q_ L2.Q.D.ty L2.Q.dS' L2.Q.D.key1 L2.Q.fJ L2.Q.Hv L2.Q.Mf List.length_map List.map_cons List.map_nil List.length_cons List.length_nil List.replicate_succ List.replicate_zero List.cons_append List.nil_append List.append_nil List.getElem?_cons_zero List.getElem?_cons_succ List.getElem?_nil List.set_cons_zero List.set_cons_succ List.all_cons List.all_nil Option.some.injEq Option.join_some Option.map_some Option.map_none Nat.reduceAdd Nat.reduceSub true_and and_true Bool.and_true Bool.true_and Bool.and_false Bool.false_and Bool.not_true Bool.not_false Bool.false_eq_true if_true if_false decide_true decide_false reduceIte cond_true cond_false PySem.sizeLine_eq L2.Q.el' L2.Q.em' L2.Q.en' L2.Q.dJ L2.Q.Ik L2.Q.empty_app Nat.zero_add exists_eq_left' Int.reduceLT Int.reduceLE Int.reducePow Int.reduceNeg Int.reduceToNat Int.reduceAdd Int.reduceMul Int.reduceSub Nat.reduceLeDiff Nat.reduceLT false_or or_false and_self L2.Ow".splitOn " ").toArray.mapM fun s=>`(Lean.Parser.Tactic.simpLemma| $(nm s):ident)
 let as:Lean.TSyntaxArray [`Lean.Parser.Tactic.simpStar,`Lean.Parser.Tactic.simpErase,`Lean.Parser.Tactic.simpLemma]:=(ds++us).map fun x=>⟨x.raw⟩
 `(tactic| simp -dsimp only [$as,*])
namespace L2.Q.U4
open PySem PySem.Spec PyProof.Rows
def isLet(c:Nat):Bool:=decide (97<=c/\c<=122)
abbrev abc:Str := "abcdefghijklmnopqrstuvwxyz"
theorem zF:sg abc=(List.range 26).map (97 + ·):=by decide +kernel
theorem yL{i:Int}(h0:0<=i)(h1:i<26):∃ c,eM (sg abc) i=some c/\isLet c=true:=by
 refine⟨97+i.toNat,?_,?_⟩
 ·have:eM (sg abc) ((i.toNat:Nat):Int)=some (97+i.toNat):=EJ (by
   rw[zF]
   have:i.toNat<26:=by lia
   simp[this])
  rwa[tT h0] at this
 ·simp[isLet];lia
theorem qW(x:Int):∃ c,eM (sg abc) (x % 26)=some c/\isLet c=true:=yL (Int.emod_nonneg _ (by decide)) (Sj _ (by decide))
def lets(x:Str):Prop:=∀ c∈sg x,isLet c=true
def Open(x:Str):Prop:=1<=x.length/\x.length<=6/\lets x
def O9 (x:Str):Prop:=x = "*"\/Open x
theorem zL{x y:Str}(hx:lets x)(hy:lets y):lets (x++y):=fun c hc=>by
 rw[tM] at hc
 exact(dP.mp hc).elim (hx c) (hy c)
theorem zX{c:Nat}(h:isLet c=true):lets ⟨#[c]⟩:=fun d hd=>by
 have:d=c:=by simpa[sg] using hd
 rw[this];exact h
theorem iY(c:Nat):(⟨#[c]⟩:Str).length=1:=rfl
theorem O9.ok{x:Str}(h:O9 x):PyData.strOk x=true:=by
 rw[Dq]
 rcases h with rfl|h
 ·have:sg "*" = [42]:=by decide +kernel
  intro c hc
  rw[this] at hc
  have:c=42:=by simpa using hc
  lia
 ·intro c hc
  have:=h.2.2 c hc
  simp[isLet] at this
  lia
abbrev bS:=Int × Str × Int
def iO(s:bS):List Key:=[.inl s.1,.inr s.2.1,.inl s.2.2]
def fi(s:bS):D:=.tup [.int s.1,.str s.2.1,.int s.2.2]
def mD(many:Int)(steps:List bS):D:=.tup [.int many,.list (steps.map fi)]
theorem qG:∀ (l:List bS),cf (l.map fi)=true
 |[]=>rfl
 |x :: l=>by simp[cf,qG l,fi,D.flat]
def D5(many:Int)(s:bS):Prop:=0<=s.1/\s.1<many/\O9 s.2.1/\0<=s.2.2/\s.2.2<many
theorem Hq{many:Int}{s:bS}(n:Nat)(h:D5 many s):b9 (n+1) (fi s)=true:=by
 have:=h.2.2.1.ok
 simp[b9,fi,this]
theorem Fw{many:Int}{l:List bS}(n:Nat)(h:∀ s∈l,D5 many s):b9 (n+2) (.list (l.map fi))=true:=by
 simp only[b9,PL,FV]
 intro s hs
 exact Hq n (h s hs)
theorem Za{many:Int}{l:List bS}(n:Nat)(h:∀ s∈l,D5 many s):b9 (n+3) (mD many l)=true:=by
 have h2:=Fw n h
 show(b9 (n+2) (.int many) && (b9 (n+2) (.list (l.map fi)) && true))=true
 rw[h2]
 rfl
theorem yj:∀ (l:List bS),pT (l.map fi)=true
 |[]=>rfl
 |x :: l=>by simp[pT,yj l,fi,D.nb]
theorem gg'(many:Int)(l:List bS):(mD many l).nb=true:=by simp[mD,D.nb,pT,yj]
theorem eq_self{x:D}(h:x.nb=true):fF x x=true:=(kY x x h h).mpr rfl
def cc(s t:bS):Bool:=dz (iO s) (iO t)
theorem sI{P:bS->Prop}:∀ {ks:List (List Key)},(∀ k∈ks,∃ s,k=iO s/\P s)->∃ l:List bS,ks=l.map iO/\∀ s∈l,P s
 |[],_=>⟨[],rfl,fun s h=>nomatch h⟩
 |k :: ks,h=>by
  obtain⟨s,rfl,p⟩:=h k cq
  obtain⟨l,rfl,q⟩:=sI fun k hk=>h k (ck _ hk)
  refine⟨s :: l,rfl,fun t ht=>?_⟩
  rcases dc.mp ht with rfl|ht
  ·exact p
  ·exact q t ht
abbrev Kn:=List (List Key × D)
def tJ(P:bS->Prop)(kvs:Kn):Prop:=(∀ p∈kvs,∃ s,p.1=iO s/\P s)/\(kvs.map (·.1)).Nodup
theorem xO{κ β:Type}[DecidableEq κ](kvs:List (κ × β))(k:κ)(v:β):(kX kvs k v).map (·.1)=if k∈kvs.map (·.1) then kvs.map (·.1) else kvs.map (·.1)++[k]:=by
 unfold kX
 by_cases h:k∈kvs.map (·.1)
 ·have:(kvs.any fun kv=>decide (kv.1=k))=true:=by
   obtain⟨p,hp,e⟩:=df.mp h
   exact Dp.mpr ⟨p,hp,decide_eq_true e⟩
  rw[if_pos this,if_pos h,iA]
  apply FU
  intro p _
  show(if p.1=k then (p.1,v) else p).1=p.1
  split<;>rfl
 ·have:¬ (kvs.any fun kv=>decide (kv.1=k))=true:=by
   intro z
   obtain⟨p,hp,e⟩:=Dp.mp z
   exact h (df.mpr ⟨p,hp,of_decide_eq_true e⟩)
  rw[if_neg this,if_neg h,y6]
  rfl
theorem tJ.put{P:bS->Prop}{kvs:Kn}{s:bS}{d:D}(h:tJ P kvs)(hs:P s):tJ P (kX kvs (iO s) d):=by
 refine⟨fun p hp=>?_,?_⟩
 ·rcases nZ hp with e|e
  ·exact⟨s,e,hs⟩
  ·obtain⟨q,hq,e⟩:=df.mp e
   rw[<- e]
   exact h.1 q hq
 ·rw[xO]
  split
  ·exact h.2
  ·rename_i hn
   exact kc.mpr ⟨h.2,by simp,fun a ha b hb e=>by
    have:b=iO s:=by simpa using hb
    subst this;subst e;exact hn ha⟩
theorem tJ.nil{P:bS->Prop}:tJ P []:=⟨(fun p hp=>nomatch hp),oQ⟩
theorem tJ.sorted{P:bS->Prop}{kvs:Kn}(h:tJ P kvs){Q:Md->D->Prop}(k:∀ steps:List bS,(steps.map iO).Perm (kvs.map (·.1))->(∀ s∈steps,P s)->steps.Pairwise (fun a b=>cc a b=true)->steps.length=kvs.length->Q (.ow true) (.list (steps.map fi))) :
  Hv (.ow true) (.list (kvs.map fun kv=>.tup (kv.1.map oy))) Q:=by
 refine⟨kvs.map (·.1),[false,true],by rw[iA];rfl,fun k hk=>?_,fun ms pm pw=>?_⟩
 ·obtain⟨p,hp,rfl⟩:=df.mp hk
  obtain⟨s,e,_⟩:=h.1 p hp
  rw[e];rfl
 ·obtain⟨l,rfl,hl⟩:=sI (P:=P) (ks:=ms) fun k hk=>by
   obtain⟨p,hp,e⟩:=df.mp (pm.mem_iff.mp hk)
   rw[<- e]
   exact h.1 p hp
  have e:(l.map iO).map nr=l.map fi:=by rw[iA];rfl
  rw[e]
  refine k l pm hl ?_ (by have:=pm.length_eq;simpa using this)
  have nd:(l.map iO).Nodup:=pm.nodup_iff.mpr h.2
  rw[qk] at pw
  have AK:l.Pairwise fun a b=>iO a≠iO b:=by
   rw[List.Nodup,qk] at nd
   exact nd
  refine(pw.and AK).imp fun {a b} ⟨h1,h2⟩=>?_
  unfold cc
  cases h3:dz (iO a) (iO b) with
  |true=>rfl
  |false=>exact absurd (lL (a:=iO a) (b:=iO b) rfl h3 h1) h2
theorem lA:∀ (l:List Str),cf (l.map D.str)=true
 |[]=>rfl
 |x :: l=>by simp[cf,lA l,D.flat]
theorem qC:∀ (l:List Int),cf (l.map D.int)=true
 |[]=>rfl
 |x :: l=>by simp[cf,qC l,D.flat]
theorem Bg(l:List Str)(x:Str):l.map D.str++[D.str x]=(l++[x]).map D.str:=by simp
theorem bO{n i:Nat}{lo:Int}{x:D}(h:(mj lo n)[i]? = some x):i<n/\x=.int (lo+(i:Nat)):=by
 unfold mj at h
 rw[kQ] at h
 by_cases hi:i<n
 ·rw[List.getElem?_range hi] at h
  exact⟨hi,(Option.some.inj h).symm⟩
 ·rw[tP (by simpa using hi)] at h
  cases h
theorem bM(lo:Int)(n:Nat):(mj lo n).length=n:=by simp[mj]
theorem v_{names:List Str}{i:Int}(h0:0<=i)(h1:i<names.length):∃ n,n∈names/\eM (names.map D.str) i=some (.str n):=by
 have hn:i.toNat<names.length:=by lia
 refine⟨names[i.toNat],Dx hn,?_⟩
 have:=EJ (xs:=names.map D.str) (j:=i.toNat) (v:=.str names[i.toNat]) (by simp[hn])
 rwa[tT h0] at this
theorem zP{n d:Nat}{k:Int}(h0:0<=k)(h1:k<=n):HT.bE n d (some k)=k.toNat:=by
 simp only[HT.bE]
 rw[if_neg (by lia)]
 lia
theorem iJ{α:Type}[DecidableEq α]:∀ {l m:List α},l.Nodup->(∀ x∈l,x∈m)->l.length<=m.length
 |[],_,_,_=>eI _
 |x :: l,m,nd,h=>by
  obtain⟨hx,nd⟩:=kA.mp nd
  have hm:=h x cq
  have:=iJ (l:=l) (m:=m.erase x) nd fun y hy=>(List.mem_erase_of_ne (fun e=>by subst e;exact hx hy)).mpr (h y (ck _ hy))
  rw[List.length_erase_of_mem hm] at this
  have:=Py hm
  simp only[sD]
  lia
def iI(n:Nat):List Int:=(List.range n).map fun i=>((i:Nat):Int)
theorem uH(n:Nat):(iI n).length=n:=by simp[iI]
theorem uY{n:Nat}{x:Int}:x∈iI n↔0<=x/\x<n:=by
 unfold iI
 rw[df]
 constructor
 ·rintro⟨i,hi,rfl⟩
  have:=mI.mp hi
  lia
 ·intro ⟨h0,h1⟩
  exact⟨x.toNat,mI.mpr (by lia),by lia⟩
def fw(many:Int)(steps:List bS):Prop:=∀ s∈steps,D5 many s
theorem yJ{κ β:Type}[DecidableEq κ]{kvs:List (κ × β)}{k:κ}:(kvs.any fun kv=>decide (kv.1=k))=true↔k∈kvs.map (·.1):=by
 rw[Dp,df]
 exact⟨fun⟨p,hp,e⟩=>⟨p,hp,of_decide_eq_true e⟩,fun⟨p,hp,e⟩=>⟨p,hp,decide_eq_true e⟩⟩
theorem xg{κ β:Type}[DecidableEq κ]:∀ {kvs:List (κ × β)} {k:κ},(kg kvs k).isSome=true↔k∈kvs.map (·.1)
 |[],k=>by simp[kg]
 |p :: kvs,k=>by
  have ih:=xg (kvs:=kvs) (k:=k)
  rw[ft,dc]
  by_cases h:p.1=k
  ·subst h;simp[kg]
  ·have:kg (p :: kvs) k=kg kvs k:=by simp[kg,h]
   rw[this,ih]
   exact⟨.inr,fun z=>z.elim (fun e=>absurd e.symm h) id⟩
theorem Br{steps:List bS}{i:Nat}{x:D}(h:(steps.map fi)[i]? = some x):∃ p d r,x=.tup [.int p,.str d,.int r]/\(p,d,r)∈steps/\steps.take (i+1)=steps.take i++[(p,d,r)]:=by
 rw[kQ] at h
 cases e:steps[i]? with
 |none=>rw[e] at h;cases h
 |some s =>
  rw[e] at h
  cases h
  obtain⟨p,d,r⟩:=s
  exact⟨p,d,r,rfl,kH e,by rw[CL,e];rfl⟩
theorem gZ{l:List Int}{i:Int}(h0:0<=i)(h1:i<l.length):∃ c,c∈l/\eM (l.map D.int) i=some (.int c):=by
 have hn:i.toNat<l.length:=by lia
 refine⟨l[i.toNat],Dx hn,?_⟩
 have:=EJ (xs:=l.map D.int) (j:=i.toNat) (v:=.int l[i.toNat]) (by simp[hn])
 rwa[tT h0] at this
theorem wu(x:Int){m:Int}(h:0<m):0<=x % m/\x % m<m:=⟨Int.emod_nonneg _ (by lia),Sj _ h⟩
theorem bB{a b:Int}(h0:-1000<=b)(h1:b<=10000000000):zC a b:=.inr ⟨by lia,by lia⟩
theorem iV{a b:Int}(h0:-1000<=a)(h1:a<=10000000000):zC a b:=.inl ⟨by lia,by lia⟩
theorem ju:∀ l:List Nat,sg (Str.join "" (l.map fun c=>(⟨#[c]⟩:Str)))=l
 |[]=>by decide +kernel
 |[c]=>rfl
 |c :: d :: l=>by
  have ih:=ju (d :: l)
  show sg ((⟨#[c]⟩:Str) ++ "" ++ Str.join "" ((d :: l).map fun c=>(⟨#[c]⟩:Str)))=_
  rw[tM,tM,ih,show sg ("" : Str)=[] by decide +kernel]
  rfl
theorem tV:∀ l:List Nat,(l.map fun _=>1).sum=l.length
 |[]=>rfl
 |x :: l=>by simp[tV l];lia
theorem mW:∀ (l:List Str),jC (l.map D.str)=some l
 |[]=>rfl
 |x :: l=>by simp[jC,mW l]
def sA(n:Nat)(out:List D):Prop:=∃ cs:List Nat,out=cs.map (fun c=>D.str ⟨#[c]⟩)/\cs.length=n/\∀ c∈cs,isLet c=true
theorem sA.nil:sA 0 []:=⟨[],rfl,rfl,fun c hc=>nomatch hc⟩
theorem sA.push{n:Nat}{out:List D}{c:Nat}(h:sA n out)(hc:isLet c=true):sA (n+1) (out++[.str ⟨#[c]⟩]):=by
 obtain⟨cs,rfl,hl,ha⟩:=h
 refine⟨cs++[c],by simp,by simp[hl],fun d hd=>?_⟩
 rcases dP.mp hd with hd|hd
 ·exact ha d hd
 ·rw[kP.mp hd];exact hc
theorem sA.join{n:Nat}{out:List D}(h:sA n out)(hn:n<=100) :
  ∃ zs,jC out=some zs/\(zs.map (·.length)).sum+zs.length*(Str.ofString "").length<=16777216/\(Str.join "" zs).length=n/\lets (Str.join "" zs):=by
 obtain⟨cs,rfl,hl,ha⟩:=h
 refine⟨cs.map fun c=>⟨#[c]⟩,?_,?_,?_⟩
 ·rw[<- mW,iA];rfl
 ·rw[show(Str.ofString "").length=0 by decide,iA,Nat.mul_zero,GP]
  show(cs.map fun _=>1).sum<=_
  rw[tV];lia
 ·have hw:=ju cs
  generalize Str.join "" (cs.map fun c=>(⟨#[c]⟩:Str))=word at hw ⊢
  refine⟨?_,fun c hc=>ha c (by rwa[hw] at hc)⟩
  have:(sg word).length=n:=by rw[hw,hl]
  rw[<- this];unfold sg Str.length;simp
theorem Ak(l:List Str)(lo hi:Option Int):ox (l.map D.str) lo hi=(ox l lo hi).map D.str:=by
 unfold ox
 rw[cE,List.map_take,List.map_drop]
theorem Gq{α:Type}{l:List α}{a b:Int}(h0:0<=a)(h1:a<b)(h2:a<l.length):1<=(ox l (some a) (some b)).length/\(ox l (some a) (some b)).length<=l.length/\∀ x∈ox l (some a) (some b),x∈l:=by
 have e:HT.bE l.length 0 (some a)=a.toNat:=zP h0 (by lia)
 have e2:a.toNat<HT.bE l.length l.length (some b):=by
  simp only[HT.bE]
  rw[if_neg (by lia)]
  lia
 unfold ox
 rw[e,mG,CM]
 exact⟨by lia,by lia,fun x hx=>R4 (PB hx)⟩
theorem tJ.FQ{P:bS->Prop}{kvs:Kn}(h:tJ P kvs){R:List (List Key)->Prop}(k:∀ steps:List bS,(steps.map iO).Perm (kvs.map (·.1))->(∀ s∈steps,P s)->steps.Pairwise (fun a b=>cc a b=true)->steps.length=kvs.length->R (steps.map iO)) :
  ∃ b0 sh,(∀ p∈kvs,eB p.1=b0 :: sh)/\∀ ms:List (List Key),ms.Perm (kvs.map (·.1))->(ms.Pairwise fun a b=>dz b a=false)->R ms:=by
 refine⟨true,[false,true],fun p hp=>?_,fun ms pm pw=>?_⟩
 ·obtain⟨s,e,_⟩:=h.1 p hp
  rw[e];rfl
 ·obtain⟨l,rfl,hl⟩:=sI (P:=P) (ks:=ms) fun k hk=>by
   obtain⟨p,hp,e⟩:=df.mp (pm.mem_iff.mp hk)
   rw[<- e]
   exact h.1 p hp
  refine k l pm hl ?_ (by have:=pm.length_eq;simpa using this)
  have nd:(l.map iO).Nodup:=pm.nodup_iff.mpr h.2
  rw[qk] at pw
  have AK:l.Pairwise fun a b=>iO a≠iO b:=by
   rw[List.Nodup,qk] at nd
   exact nd
  refine(pw.and AK).imp fun {a b} ⟨h1,h2⟩=>?_
  unfold cc
  cases h3:dz (iO a) (iO b) with
  |true=>rfl
  |false=>exact absurd (lL (a:=iO a) (b:=iO b) rfl h3 h1) h2
theorem uZ(l:List bS):(l.map iO).map nr=l.map fi:=by rw[iA];rfl
theorem xQ{one states j copies:Int}(h0:0<=one)(h1:one<states)(hj:0<=j)(K2:j<copies):0<=one+states*j/\one+states*j<copies*states:=by
 have a:=Int.mul_le_mul_of_nonneg_left (show j+1<=copies by lia) (show 0<=states by lia)
 rw[Int.mul_add,Int.mul_one,Int.mul_comm states copies] at a
 have b:=P6 (show 0<=states by lia) hj
 lia
abbrev Pr:=Str × Int
abbrev Ky:=Int × List Pr
def qc(p:Pr):List Key:=[.inr p.1,.inl p.2]
def jS(p:Pr):D:=.tup [.str p.1,.int p.2]
def gp(k:Ky):D:=.tup [.int k.1,.list (k.2.map jS)]
def AO(r:List Int):D:=.list (r.map .int)
def rL(a b:Ky):Bool:=PySem.SeqAt.cc 3 (gp a).py (gp b).py
def sC(k:Ky):Prop:=∀ p∈k.2,PyData.strOk p.1=true
theorem Dz(k:Ky):(gp k).py=.tuple [.int k.1,.list (k.2.map L2.lZ)]:=by
 show PyData.tuple [.int k.1,.list (kU (k.2.map jS))]=_
 rw[je,iA]
 rfl
theorem sC.tI{k:Ky}(h:sC k):L2.tI (gp k).py:=⟨k.1,k.2,Dz k,h⟩
theorem kZ(a:Ky)(h:sC a):rL a a=false:=L2.RH.ah.qa _ h.tI
theorem Bp{a b c:Ky}(ha:sC a)(hb:sC b)(hc:sC c):rL a b=true->rL b c=true->rL a c=true:=L2.RH.ah.tr _ _ _ ha.tI hb.tI hc.tI
theorem Dd{p q:Pr}(h:jS p=jS q):p=q:=by
 obtain⟨a,b⟩:=p
 obtain⟨c,d⟩:=q
 simp[jS] at h
 rw[h.1,h.2]
theorem Fb{p q:Pr}(h:qc p=qc q):p=q:=by
 obtain⟨a,b⟩:=p
 obtain⟨c,d⟩:=q
 simp[qc] at h
 rw[h.1,h.2]
theorem map_inj{α β:Type}{f:α->β}(hf:∀ a b,f a=f b->a=b):∀ {l m:List α},l.map f=m.map f->l=m
 |[],[],_=>rfl
 |[],_ :: _,h=>by simp at h
 |_ :: _,[],h=>by simp at h
 |x :: l,y :: m,h=>by
  simp only[ft,List.cons.injEq] at h
  rw[hf _ _ h.1,map_inj hf h.2]
theorem yc{a b:Ky}(h:gp a=gp b):a=b:=by
 simp only[gp,D.tup.injEq,List.cons.injEq,D.int.injEq,D.list.injEq] at h
 exact Prod.ext h.1 (map_inj (fun _ _=>Dd) h.2.1)
theorem Cu:∀ l:List Pr,pT (l.map jS)=true
 |[]=>rfl
 |x :: l=>by simp[pT,Cu l,jS,D.nb]
theorem Ie(k:Ky):(gp k).nb=true:=by simp[gp,D.nb,pT,Cu]
theorem uX(a b:Ky):fF (gp a) (gp b)=decide (a=b):=by
 rw[wa,kY _ _ (Ie a) (Ie b),decide_eq_true_iff]
 exact⟨yc,fun e=>by rw[e]⟩
theorem FZ{a b:Ky}(ha:sC a)(hb:sC b)(h1:rL a b=false)(h2:rL b a=false):a=b:=by
 have e:=L2.RH.ah.ah _ _ ha.tI hb.tI h1 h2
 have:fF (gp a) (gp b)=fF (gp a) (gp a):=by unfold fF;rw[e]
 rw[uX,uX] at this
 simpa using this
theorem Dh{a b:Ky}(h:a.1<b.1):rL a b=true:=by
 unfold rL
 rw[Dz,Dz,PySem.SeqAt.cc,PySem.SeqAt.nE]
 have:PyData.eqv (.int a.1) (.int b.1)=false:=by
  have:a.1≠b.1:=by lia
  simpa[PyData.eqv] using this
 rw[this,if_neg g9,PySem.SeqAt.cc]
 exact decide_eq_true h
theorem Ao{k:Ky}(h:sC k)(n:Nat):b9 (n+3) (gp k)=true:=by
 have:∀ p∈k.2.map jS,b9 (n+1) p=true:=fun d hd=>by
  obtain⟨p,hp,rfl⟩:=df.mp hd
  simp[jS,b9,h p hp]
 simp only[gp,b9,AX,List.all_nil,PZ,Bool.true_and,FV]
 exact this
theorem Cq{l:List Ky}(h:∀ k∈l,sC k)(n:Nat):b9 (n+4) (.list (l.map gp))=true:=by
 simp only[b9,PL,FV]
 exact fun k hk=>Ao (h k hk) n
theorem Ii(l:List Ky)(k:Ky):vE (l.map gp) (gp k)=decide (k∈l):=by
 unfold vE
 rw[List.any_map,wa,Dp,decide_eq_true_iff]
 constructor
 ·rintro⟨j,hj,e⟩
  have e:fF (gp j) (gp k)=true:=e
  rw[uX,decide_eq_true_iff] at e
  rwa[<- e]
 ·exact fun hk=>⟨k,hk,by show fF (gp k) (gp k)=true;rw[uX];exact decide_eq_true rfl⟩
theorem sZ:∀ l:List Int,pT (l.map D.int)=true
 |[]=>rfl
 |x :: l=>by simp[pT,sZ l,D.nb]
theorem Jt(a b:List Int):fF (.list (a.map .int)) (.list (b.map .int))=decide (a=b):=by
 rw[wa,kY _ _ (by simp[D.nb,sZ]) (by simp[D.nb,sZ]),decide_eq_true_iff]
 refine⟨fun h=>map_inj (f:=D.int) (fun _ _=>D.int.inj) (D.list.inj h),fun e=>by rw[e]⟩
theorem wF(l:List Int)(n:Nat):b9 (n+1) (.list (l.map .int))=true:=by
 simp[b9,PL]
theorem U5{α β:Type}{f:β->α}{P:β->Prop}:∀ {ks:List α},(∀ k∈ks,∃ s,k=f s/\P s)->∃ l:List β,ks=l.map f/\∀ s∈l,P s
 |[],_=>⟨[],rfl,fun s h=>nomatch h⟩
 |k :: ks,h=>by
  obtain⟨s,rfl,p⟩:=h k cq
  obtain⟨l,rfl,q⟩:=U5 fun k hk=>h k (ck _ hk)
  refine⟨s :: l,rfl,fun t ht=>?_⟩
  rcases dc.mp ht with rfl|ht
  ·exact p
  ·exact q t ht
theorem ig{α:Type}{lt:α->α->Prop}:∀ {l m:List α},(∀ a∈l,∀ b∈l,lt a b->lt b a->False)->l.Pairwise lt->m.Pairwise lt->(∀ x,x∈l↔x∈m)->l=m
 |[],[],_,_,_,_=>rfl
 |[],y :: m,_,_,_,h=>absurd ((h y).mpr cq) (by simp)
 |x :: l,[],_,_,_,h=>absurd ((h x).mp cq) (by simp)
 |x :: l,y :: m,as,hl,hm,h=>by
  obtain⟨a1,a2⟩:=List.pairwise_cons.mp hl
  obtain⟨b1,b2⟩:=List.pairwise_cons.mp hm
  have e:x=y:=by
   rcases dc.mp ((h x).mp cq) with e|e
   ·exact e
   ·rcases dc.mp ((h y).mpr cq) with e'|e'
    ·exact e'.symm
    ·exact(as x cq y (ck _ e') (a1 y e') (b1 x e)).elim
  subst e
  have qa:¬ lt x x:=fun z=>as x cq x cq z z
  rw[ig (fun a ha b hb=>as a (ck _ ha) b (ck _ hb)) a2 b2 fun z=>⟨fun hz=>by
   rcases dc.mp ((h z).mp (ck _ hz)) with e|e
   ·subst e;exact absurd (a1 z hz) qa
   ·exact e,fun hz=>by
   rcases dc.mp ((h z).mpr (ck _ hz)) with e|e
   ·subst e;exact absurd (b1 z hz) qa
   ·exact e⟩]
def rk(bX:List Int)(s:Int):Int:=bX.getD s.toNat 0
structure D6(steps:List bS)(bX:List Int)(s:Int)(k:Ky):Prop where
 fst:k.1=rk bX s
 up:k.2.Pairwise fun a b=>dz (qc a) (qc b)=true
 mem:∀ p,p∈k.2↔∃ t∈steps,t.1=s/\p=(t.2.1,rk bX t.2.2)
theorem D6.uniq{steps:List bS}{bX:List Int}{s:Int}{k j:Ky}(a:D6 steps bX s k)(b:D6 steps bX s j):k=j:=by
 have h2:k.2=j.2:=ig (fun x _ y _ h1 h2=>by have:=qI h1 h2;rw[oW] at this;cases this) a.up b.up fun p=>(a.mem p).trans (b.mem p).symm
 exact Prod.ext (a.fst.trans b.fst.symm) h2
theorem D6.ok{many:Int}{steps:List bS}{bX:List Int}{s:Int}{k:Ky}(a:D6 steps bX s k)(h:fw many steps):sC k:=fun p hp=>by
 obtain⟨t,ht,_,rfl⟩:=(a.mem p).mp hp
 exact(h t ht).2.2.1.ok
structure rS(many:Int)(steps:List bS)(bX r:List Int)(ky:Int->Ky)(diff:List Ky):Prop where
 len:r.length=many.toNat
 key:∀ s,0<=s->s<many->D6 steps bX s (ky s)
 up:diff.Pairwise fun a b=>rL a b=true
 mem:∀ k,k∈diff↔∃ s,(0<=s/\s<many)/\k=ky s
 pos:∀ s,0<=s->s<many->0<=rk r s/\diff[(rk r s).toNat]? = some (ky s)
def RB(many:Int)(steps:List bS)(bX r:List Int):Prop:=∃ ky diff,rS many steps bX r ky diff
section
variable {many:Int}{steps:List bS}{bX r r2:List Int}{ky Zb:Int->Ky}{diff Zc:List Ky}
theorem rS.ok(h:rS many steps bX r ky diff)(ay:fw many steps){k:Ky}(hk:k∈diff):sC k:=by
 obtain⟨s,hs,rfl⟩:=(h.mem k).mp hk
 exact(h.key s hs.1 hs.2).ok ay
theorem rS.as(h:rS many steps bX r ky diff)(ay:fw many steps):∀ a∈diff,∀ b∈diff,rL a b=true->rL b a=true->False:=fun a ha b hb h1 h2=>by
 have:=Bp (h.ok ay ha) (h.ok ay hb) (h.ok ay ha) h1 h2
 rw[kZ a (h.ok ay ha)] at this
 cases this
theorem G9{l m:List Int}(hl:l.length=many.toNat)(hm:m.length=many.toNat)(h:∀ s,0<=s->s<many->rk l s=rk m s):l=m:=by
 apply List.ext_getElem (by lia)
 intro i h1 h2
 have:=h (i:Nat) (by lia) (by lia)
 unfold rk at this
 simpa[List.getD,h1,h2] using this
theorem rS.inj(h:rS many steps bX r ky diff)(ay:fw many steps){i j:Nat}{k:Ky}(hi:diff[i]? = some k)(hj:diff[j]? = some k):i=j:=by
 obtain⟨kE,iE⟩:=ic.mp hi
 obtain⟨IG,K2⟩:=ic.mp hj
 have hk:k∈diff:=kH hi
 have qa:=kZ k (h.ok ay hk)
 have pw:=AR.mp h.up
 rcases Nat.lt_trichotomy i j with e|e|e
 ·have:=pw i j kE IG e
  rw[iE,K2,qa] at this;cases this
 ·exact e
 ·have:=pw j i IG kE e
  rw[iE,K2,qa] at this;cases this
theorem rS.same(h:rS many steps bX r ky diff)(h2:rS many steps bX r2 Zb Zc)(ay:fw many steps):r=r2:=by
 have ek:∀ s,0<=s->s<many->ky s=Zb s:=fun s a b=>(h.key s a b).uniq (h2.key s a b)
 have ed:diff=Zc:=ig (h.as ay) h.up h2.up fun k=>by
  rw[h.mem,h2.mem]
  exact⟨fun⟨s,a,e⟩=>⟨s,a,e.trans (ek s a.1 a.2)⟩,fun⟨s,a,e⟩=>⟨s,a,e.trans (ek s a.1 a.2).symm⟩⟩
 subst ed
 refine G9 h.len h2.len fun s a b=>?_
 have p1:=h.pos s a b
 have p2:=h2.pos s a b
 rw[<- ek s a b] at p2
 have:=h.inj ay p1.2 p2.2
 lia
theorem RB.uniq(h:RB many steps bX r)(h2:RB many steps bX r2)(ay:fw many steps):r=r2:=by
 obtain⟨_,_,h⟩:=h
 obtain⟨_,_,h2⟩:=h2
 exact h.same h2 ay
theorem rS.wX(h:rS many steps bX r ky diff){s t:Int}(hs:0<=s/\s<many)(ht:0<=t/\t<many)(e:rk r s=rk r t):ky s=ky t:=by
 have p1:=(h.pos s hs.1 hs.2).2
 have p2:=(h.pos t ht.1 ht.2).2
 rw[e,p2] at p1
 exact(Option.some.inj p1).symm
theorem rS.lt(h:rS many steps bX r ky diff)(ay:fw many steps){s t:Int}(hs:0<=s/\s<many)(ht:0<=t/\t<many):rk r s<rk r t↔rL (ky s) (ky t)=true:=by
 have p1:=h.pos s hs.1 hs.2
 have p2:=h.pos t ht.1 ht.2
 have k1:=h.ok ay (kH p1.2)
 have k2:=h.ok ay (kH p2.2)
 obtain⟨a1,a2⟩:=ic.mp p1.2
 obtain⟨b1,b2⟩:=ic.mp p2.2
 have pw:=AR.mp h.up
 constructor
 ·intro l
  have:=pw _ _ a1 b1 (by lia)
  rwa[a2,b2] at this
 ·intro l
  by_cases z:rk r t<rk r s
  ·have:=pw _ _ b1 a1 (by lia)
   rw[a2,b2] at this
   have:=Bp k1 k2 k1 l this
   rw[kZ _ k1] at this;cases this
  ·by_cases z2:rk r s=rk r t
   ·have:=h.wX hs ht z2
    rw[this,kZ _ k2] at l;cases l
   ·lia
theorem RB.mono(h:RB many steps bX r)(ay:fw many steps){s t:Int}(hs:0<=s/\s<many)(ht:0<=t/\t<many)(l:rk bX s<rk bX t):rk r s<rk r t:=by
 obtain⟨ky,diff,h⟩:=h
 refine(h.lt ay hs ht).mpr (Dh ?_)
 rw[(h.key s hs.1 hs.2).fst,(h.key t ht.1 ht.2).fst]
 exact l
theorem RB.gh'(h:RB many steps bX r){s t:Int}(hs:0<=s/\s<many)(ht:0<=t/\t<many)(e:rk r s=rk r t):rk bX s=rk bX t:=by
 obtain⟨ky,diff,h⟩:=h
 have:=h.wX hs ht e
 rw[<- (h.key s hs.1 hs.2).fst,<- (h.key t ht.1 ht.2).fst,this]
theorem RB.Zd(h:RB many steps bX r)(ay:fw many steps){t:bS}(ht:t∈steps){s:Int}(hs:0<=s/\s<many)(e:rk r t.1=rk r s):∃ u∈steps,u.1=s/\u.2.1=t.2.1/\rk bX u.2.2=rk bX t.2.2:=by
 obtain⟨ky,diff,h⟩:=h
 have hk:=h.wX ⟨(ay t ht).1,(ay t ht).2.1⟩ hs e
 have hm:=((h.key t.1 (ay t ht).1 (ay t ht).2.1).mem (t.2.1,rk bX t.2.2)).mpr ⟨t,ht,rfl,rfl⟩
 rw[hk] at hm
 obtain⟨u,hu,e1,e2⟩:=((h.key s hs.1 hs.2).mem _).mp hm
 exact⟨u,hu,e1,(Prod.mk.inj e2).1.symm,(Prod.mk.inj e2).2.symm⟩
def uM(many:Int)(r:List Int):Prop:=r.length=many.toNat/\(∀ s,0<=s->s<many->0<=rk r s/\rk r s<many)/\∀ s,0<=s->s<many->0<rk r s->∃ t,(0<=t/\t<many)/\rk r t=rk r s-1
theorem rS.short(h:rS many steps bX r ky diff)(ay:fw many steps):diff.length<=many.toNat:=by
 have nd:diff.Nodup:=by
  rw[Pt]
  have:=AR.mp h.up
  rw[AR]
  intro i j hi hj gX e
  have z:=this i j hi hj gX
  rw[e,kZ _ (h.ok ay (Dx hj))] at z
  cases z
 have:=iJ (m:=(iI many.toNat).map ky) nd fun k hk=>by
  obtain⟨s,hs,rfl⟩:=(h.mem k).mp hk
  exact df.mpr ⟨s,uY.mpr (by lia),rfl⟩
 rwa[cE,uH] at this
theorem RB.Bb(h:RB many steps bX r)(ay:fw many steps):uM many r:=by
 obtain⟨ky,diff,h⟩:=h
 have sh:=h.short ay
 refine⟨h.len,fun s a b=>?_,fun s a b c=>?_⟩
 ·have p:=h.pos s a b
  have:=(ic.mp p.2).1
  lia
 ·have p:=h.pos s a b
  have l:=(ic.mp p.2).1
  have l2:(rk r s-1).toNat<diff.length:=by lia
  obtain⟨t,ht,e⟩:=(h.mem _).mp (Dx l2)
  have p2:=h.pos t ht.1 ht.2
  have:=h.inj ay p2.2 (ic.mpr ⟨l2,e⟩)
  exact⟨t,ht,by lia⟩
theorem RB.grows(h:RB many steps bX r)(ay:fw many steps)(d:uM many bX):∀ (n:Nat) (s:Int),0<=s->s<many->rk bX s=n->rk bX s<=rk r s
 |0,s,a,b,e=>by rw[e];exact((h.Bb ay).2.1 s a b).1
 |n+1,s,a,b,e=>by
  obtain⟨t,ht,et⟩:=d.2.2 s a b (by lia)
  have:=RB.grows h ay d n t ht.1 ht.2 (by lia)
  have:=h.mono ay ht ⟨a,b⟩ (by lia)
  lia
theorem RB.le(h:RB many steps bX r)(ay:fw many steps)(d:uM many bX){s:Int}(a:0<=s)(b:s<many):rk bX s<=rk r s :=
 h.grows ay d (rk bX s).toNat s a b (by have:=(d.2.1 s a b).1;lia)
end
theorem By:∀ {l m:List Int},l.length=m.length->(∀ (i:Nat) (h1:i<l.length) (h2:i<m.length),l[i]<=m[i])->l.sum<=m.sum/\(l≠m->l.sum<m.sum)
 |[],[],_,_=>⟨by simp,fun h=>absurd rfl h⟩
 |[],y :: m,h,_=>by simp at h
 |x :: l,[],h,_=>by simp at h
 |x :: l,y :: m,h,hl=>by
  have ih:=By (l:=l) (m:=m) (by simpa using h) fun i h1 h2=>by
   have:=hl (i+1) (by simp;lia) (by simp;lia)
   simpa using this
  have h0:x<=y:=by have:=hl 0 (by simp) (by simp);simpa using this
  simp only[List.sum_cons]
  refine⟨by have:=ih.1;lia,fun ne=>?_⟩
  by_cases e:x=y
  ·subst e
   have:l≠m:=fun z=>ne (by rw[z])
   have:=ih.2 this
   lia
  ·have:=ih.1
   lia
theorem sum_bound{l:List Int}{b:Int}(h:∀ x∈l,x<=b)(hb:0<=b):l.sum<=l.length*b:=by
 induction l with
 |nil=>simp
 |cons x l ih =>
  have:=ih fun y hy=>h y (ck _ hy)
  have:=h x cq
  simp only[List.sum_cons,sD]
  have e:((l.length+1:Nat):Int)*b=l.length*b+b:=by rw[Int.natCast_add,Int.add_mul];simp
  lia
theorem Ex{r:List Int}{i:Nat}(h:i<r.length):r[i]=rk r i:=by simp[rk,List.getD,h]
theorem RB.sum{many:Int}{steps:List bS}{bX r:List Int}(h:RB many steps bX r)(ay:fw many steps)(d:uM many bX)(hm:0<=many)(ne:r≠bX):bX.sum<r.sum/\r.sum<=many*many:=by
 have d2:=h.Bb ay
 have hl:=d.1
 have uS:=d2.1
 refine⟨(By (by lia) fun i h1 h2=>?_).2 fun e=>ne e.symm,?_⟩
 ·rw[Ex h1,Ex h2]
  exact h.le ay d (by lia) (by lia)
 ·have:=sum_bound (l:=r) (b:=many) (fun x hx=>by
   obtain⟨i,hi,rfl⟩:=R5.mp hx
   rw[Ex hi]
   have:=(d2.2.1 i (by lia) (by lia)).2
   lia) hm
  rwa[uS,tT hm] at this
def Chain(many:Int)(steps:List bS):List Int->List (List Int)->Prop
 |cur,[]=>RB many steps cur cur
 |cur,lh :: rest=>RB many steps cur lh/\lh≠cur/\Chain many steps lh rest
theorem Chain.uniq{many:Int}{steps:List bS}(ay:fw many steps):∀ {cur:List Int} {a b:List (List Int)},Chain many steps cur a->Chain many steps cur b->a=b
 |_,[],[],_,_=>rfl
 |_,[],y :: b,h,g=>absurd (g.1.uniq h ay) g.2.1
 |_,x :: a,[],h,g=>absurd (h.1.uniq g ay) h.2.1
 |_,x :: a,y :: b,h,g=>by
  have:=h.1.uniq g.1 ay
  subst this
  rw[Chain.uniq ay h.2.2 g.2.2]
def iZ(cur:List Int)(rest:List (List Int)):List Int:=(cur :: rest).getLast (by simp)
theorem uU(cur lh:List Int)(rest:List (List Int)):iZ cur (lh :: rest)=iZ lh rest:=by simp[iZ]
theorem Chain.last{many:Int}{steps:List bS}:∀ {cur:List Int} {rest:List (List Int)},Chain many steps cur rest->RB many steps (iZ cur rest) (iZ cur rest)
 |_,[],h=>h
 |cur,lh :: rest,h=>by rw[uU];exact h.2.2.last
def zeros(many:Int):List Int:=List.replicate many.toNat 0
theorem jL(many s:Int):rk (zeros many) s=0:=by
 unfold rk zeros
 by_cases h:s.toNat<many.toNat
 ·simp[List.getD,h]
 ·rw[List.getD,tP (by simpa using h)];rfl
theorem su{many:Int}(h:1<=many):uM many (zeros many) :=
 ⟨by simp[zeros],fun s _ _=>by rw[jL];lia,fun s _ _ z=>by rw[jL] at z;lia⟩
def Kinds(many:Int)(steps:List bS)(k:List Int):Prop:=∃ rest,Chain many steps (zeros many) rest/\k=iZ (zeros many) rest
theorem Kinds.uniq{many:Int}{steps:List bS}(ay:fw many steps){k l:List Int}(h:Kinds many steps k)(g:Kinds many steps l):k=l:=by
 obtain⟨a,ha,rfl⟩:=h
 obtain⟨b,hb,rfl⟩:=g
 rw[ha.uniq ay hb]
theorem zO{ps:List Pr}(hl:ps.length<=1000){m:Md}{Q:Md->D->Prop}(k:∀ l:List Pr,l.Pairwise (fun a b=>dz (qc a) (qc b)=true)->(∀ p,p∈l↔p∈ps)->Q (.ow true) (.list (l.map jS))) :
  fZ m (.list (ps.map jS)) Q:=by
 refine⟨ps.map qc,[true],by rw[iA];rfl,by rw[cE];exact hl,fun k hk=>?_,fun ms nd mm pw=>?_⟩
 ·obtain⟨p,_,rfl⟩:=df.mp hk
  rfl
 ·obtain⟨l,rfl,hp⟩:=U5 (f:=qc) (P:=fun p=>p∈ps) (ks:=ms) fun k hk=>by
   obtain⟨p,hp,e⟩:=df.mp ((mm k).mp hk)
   exact⟨p,e.symm,hp⟩
  have e:(l.map qc).map nr=l.map jS:=by rw[iA];rfl
  rw[e]
  refine k l ?_ fun p=>⟨hp p,fun js=>?_⟩
  ·rw[qk] at pw
   have AK:l.Pairwise fun a b=>qc a≠qc b:=by
    rw[List.Nodup,qk] at nd
    exact nd
   refine(pw.and AK).imp fun {a b} ⟨h1,h2⟩=>?_
   cases h3:dz (qc a) (qc b) with
   |true=>rfl
   |false=>exact absurd (lL (a:=qc a) (b:=qc b) rfl h3 h1) h2
  ·obtain⟨q,hq,e⟩:=df.mp ((mm (qc p)).mpr (df.mpr ⟨p,js,rfl⟩))
   rw[<- Fb e]
   exact hq
def kM(steps:List bS)(s:Int):List Pr:=(steps.filter fun t=>decide (t.1=s)).map (·.2)
def nI(many:Int)(steps:List bS):List D:=(iI many.toNat).map fun s=>.list ((kM steps s).map jS)
def kN(many:Int)(steps:List bS):D:=.list (nI many steps)
theorem Cp(many:Int):((mj 0 many.toNat).filter fun _=>true).map (fun _=>D.list [])=nI many []:=by
 unfold nI mj iI
 rw[List.filter_eq_self.mpr fun _ _=>rfl,iA,iA]
 rfl
theorem Bd{many s:Int}(steps:List bS)(h0:0<=s)(h1:s<many):(nI many steps)[s.toNat]? = some (.list ((kM steps s).map jS)):=by
 have:s.toNat<many.toNat:=by lia
 simp[nI,iI,this,tT h0]
theorem lg(many:Int)(steps:List bS):(nI many steps).length=many.toNat:=by simp[nI,iI]
theorem uG{n:Nat}{i:Int}(h0:0<=i)(h1:i<n):lP n i=some i.toNat:=by unfold lP;rw[if_pos h0,if_pos h1]
theorem A_(steps:List bS)(p:Int)(d:Str)(r s:Int):kM (steps++[(p,d,r)]) s=if p=s then kM steps s++[(d,r)] else kM steps s:=by
 unfold kM
 by_cases h:p=s
 ·simp[h]
 ·simp[h]
theorem Bo{many p:Int}(steps:List bS)(d:Str)(r:Int)(h0:0<=p)(h1:p<many):(nI many steps).set p.toNat (.list ((kM steps p).map jS++[.tup [.str d,.int r]]))=nI many (steps++[(p,d,r)]):=by
 apply CH
 intro i
 by_cases hi:i<many.toNat
 ·have e:∀ st,(nI many st)[i]? = some (.list ((kM st (i:Nat)).map jS)):=fun st=>by
   have:=Bd (many:=many) (s:=(i:Nat)) st (by lia) (by lia)
   simpa using this
  rw[e,A_]
  by_cases hp:p=(i:Nat)
  ·subst hp
   rw[if_pos rfl]
   simp[lg,hi,jS]
  ·rw[if_neg hp,FR (by lia),e]
 ·rw[tP (by rw[PK,lg];lia),tP (by rw[lg];lia)]
theorem xH{many s:Int}(steps:List bS)(h0:0<=s)(h1:s<many):eM (nI many steps) s=some (.list ((kM steps s).map jS)) :=
 ym (uG h0 (by rw[lg];lia)) (Bd steps h0 h1)
theorem uP{many s:Int}{r:List Int}(hl:r.length=many.toNat)(h0:0<=s)(h1:s<many):eM (r.map D.int) s=some (.int (rk r s)):=by
 have h:s.toNat<r.length:=by lia
 refine ym (uG h0 (by rw[cE];lia)) ?_
 simp[rk,List.getD,h]
theorem qZ{steps:List bS}{s:Int}{p:Pr}(h:p∈kM steps s):∃ t∈steps,t.1=s/\t.2=p:=by
 obtain⟨t,ht,e⟩:=df.mp h
 obtain⟨ht,hs⟩:=vT.mp ht
 exact⟨t,ht,of_decide_eq_true hs,e⟩
theorem vL{steps:List bS}{t:bS}(h:t∈steps):t.2∈kM steps t.1:=df.mpr ⟨t,vT.mpr ⟨h,decide_eq_true rfl⟩,rfl⟩
theorem rP(steps:List bS)(s:Int):(kM steps s).length<=steps.length:=by
 unfold kM
 rw[cE]
 exact List.length_filter_le _ _
theorem wL(many:Int):(List.replicate many.toNat [D.int 0]).flatten=(zeros many).map D.int:=by
 unfold zeros
 generalize many.toNat=n
 induction n with
 |zero=>rfl
 |succ n ih=>rw[y3,AU,ih,y3];rfl
theorem RB.len{many:Int}{steps:List bS}{bX r:List Int}(h:RB many steps bX r):r.length=many.toNat:=by
 obtain⟨ky,diff,h⟩:=h
 exact h.len
abbrev P2:=Int × Int
def iP(p:P2):List Key:=[.inl p.1,.inl p.2]
def cy(p:P2):D:=.tup [.int p.1,.int p.2]
theorem yq{p q:P2}(h:iP p=iP q):p=q:=by
 obtain⟨a,b⟩:=p
 obtain⟨c,d⟩:=q
 simp only[iP,List.cons.injEq,Sum.inl.injEq,and_true] at h
 rw[h.1,h.2]
theorem rZ:∀ (l:List P2),cf (l.map cy)=true
 |[]=>rfl
 |x :: l=>by simp[cf,rZ l,cy,D.flat]
theorem xR(l:List P2)(n:Nat):b9 (n+2) (.list (l.map cy))=true:=by
 simp only[b9,PL,FV]
 intro x _
 cases n<;>rfl
theorem Ht:∀ (l:List P2),pT (l.map cy)=true
 |[]=>rfl
 |x :: l=>by simp[pT,Ht l,cy,D.nb]
theorem Ke(l:List P2):fF (.list (l.map cy)) (.list (l.map cy))=true:=eq_self (show D.nb (.list (l.map cy))=true from Ht l)
theorem zc{l:List P2}{i:Nat}{x:D}(h:(l.map cy)[i]? = some x):∃ p q,x=.tup [.int p,.int q]/\(p,q)∈l/\l.take (i+1)=l.take i++[(p,q)]:=by
 rw[kQ] at h
 cases e:l[i]? with
 |none=>rw[e] at h;cases h
 |some s =>
  rw[e] at h
  cases h
  exact⟨s.1,s.2,rfl,kH e,by rw[CL,e];rfl⟩
def fT(many:Int)(p:P2):Prop:=(0<=p.1/\p.1<many)/\0<=p.2/\p.2<many
def gI(ks:List P2):Kn:=ks.map fun p=>(iP p,.bl true)
theorem fW(ks:List P2):(gI ks).map (·.1)=ks.map iP:=by simp[gI,iA,Function.comp_def]
theorem jQ(ks:List P2):(gI ks).length=ks.length:=by simp[gI]
theorem nO{ks:List P2}{x:P2}:iP x∈ks.map iP↔x∈ks:=by
 rw[df]
 exact⟨fun⟨y,hy,e⟩=>yq e ▸ hy,fun h=>⟨x,h,rfl⟩⟩
def B8(ks:List P2)(x:P2):List P2:=if x∈ks then ks else ks++[x]
theorem uv(ks:List P2)(x:P2):kX (gI ks) (iP x) (.bl true)=gI (B8 ks x):=by
 unfold kX B8
 by_cases h:x∈ks
 ·rw[if_pos (yJ.mpr (by rw[fW];exact nO.mpr h)),if_pos h]
  unfold gI
  rw[iA]
  apply FU
  intro p _
  show(if iP p=iP x then (iP p,D.bl true) else (iP p,D.bl true))=_
  split<;>rfl
 ·rw[if_neg fun z=>h (nO.mp (by rw[<- fW];exact yJ.mp z)),if_neg h]
  simp[gI]
theorem ou(ks:List P2)(x:P2):(kg (gI ks) (iP x)).isSome=decide (x∈ks):=by
 rw[wa,xg,fW,nO,decide_eq_true_eq]
theorem zM{ks:List P2}{x y:P2}:y∈B8 ks x↔y∈ks\/y=x:=by
 unfold B8
 split
 ·rename_i h
  exact⟨.inl,fun z=>z.elim id fun e=>e ▸ h⟩
 ·simp
theorem vG{ks:List P2}{x:P2}(h:ks.Nodup):(B8 ks x).Nodup:=by
 unfold B8
 split
 ·exact h
 ·rename_i n
  exact kc.mpr ⟨h,by simp,fun a ha b hb e=>n (by rw[<- kP.mp hb,<- e];exact ha)⟩
theorem zr(ks:List P2)(x:P2):(B8 ks x).length<=ks.length+1:=by
 unfold B8
 split<;>simp
structure B9(ps ks:List P2):Prop where
 nd:ks.Nodup
 mem:∀ x,x∈ks↔x∈ps
 len:ks.length<=ps.length
theorem B9.nil:B9 [] []:=⟨oQ,fun _=>Iff.rfl,by simp⟩
theorem B9.put{ps ks:List P2}(h:B9 ps ks)(x:P2):B9 (ps++[x]) (B8 ks x):=⟨vG h.nd,fun y=>by rw[zM,dP,kP,h.mem],by
 have:=zr ks x
 have:=h.len
 rw[qh,List.length_singleton]
 lia⟩
def U6(l:List bS)(ps:List P2)(p q:Int):Prop:=∀ d e,(p,d,e)∈l->∃ o,(q,d,o)∈l/\(e,o)∈ps
def Ze(l:List bS)(ps:List P2)(p q:Int):Prop:=∀ d o,(q,d,o)∈l->∃ e,(p,d,e)∈l/\(e,o)∈ps
def nK(l:List bS)(ps:List P2)(p:P2):Prop:=U6 l ps p.1 p.2/\Ze l ps p.1 p.2
theorem nK.congr{l:List bS}{ps qs:List P2}(h:∀ x,x∈ps↔x∈qs){p:P2}:nK l ps p↔nK l qs p:=by
 unfold nK U6 Ze
 simp only[h]
theorem HB(ks:List P2):(gI ks).map (fun kv=>nr kv.1)=ks.map cy:=by unfold gI;rw[iA];rfl
theorem Io{l:List Pr}{i:Nat}{x:D}(h:(l.map jS)[i]? = some x):∃ d e,x=.tup [.str d,.int e]/\(d,e)∈l/\l.take (i+1)=l.take i++[(d,e)]:=by
 rw[kQ] at h
 cases e:l[i]? with
 |none=>rw[e] at h;cases h
 |some s =>
  rw[e] at h
  cases h
  exact⟨s.1,s.2,rfl,kH e,by rw[CL,e];rfl⟩
theorem iU{steps:List bS}{s:Int}{d:Str}{e:Int}:(d,e)∈kM steps s↔(s,d,e)∈steps:=by
 constructor
 ·intro h
  obtain⟨t,ht,e1,e2⟩:=qZ h
  obtain⟨a,b,c⟩:=t
  cases e1
  cases e2
  exact ht
 ·exact fun h=>vL h
theorem tO{α:Type}{l:List α}{i:Nat}{x:α}{P:α->Prop}(tk:l.take (i+1)=l.take i++[x])(h:∀ y∈l.take i,P y)(hx:P x):∀ y∈l.take (i+1),P y:=fun y hy=>by
 rw[tk] at hy
 rcases dP.mp hy with hy|hy
 ·exact h y hy
 ·rw[kP.mp hy];exact hx
def oJ(l:List bS)(ks:List P2)(p:P2):Bool:=@decide (nK l ks p) (Classical.propDecidable _)
theorem qR{l:List bS}{ks:List P2}{p:P2}:oJ l ks p=true↔nK l ks p:=@decide_eq_true_iff _ (Classical.propDecidable _)
def Zf(f:P2->Bool)(x:D):Bool:=match x with
 |.tup [.int a,.int b]=>f (a,b)
 |_=>false
theorem za(ks:List P2)(f:P2->Bool):((ks.map cy).filter (Zf f)).map (fun x=>x)=(ks.filter f).map cy:=by
 rw[List.filter_map,iA]
 rfl
theorem wO(l:List P2):fF (.list (l.map cy)) (.list [])=decide (l=[]):=by
 cases l<;>rfl
def U7(k:List Key):P2:=match k with
 |[.inl a,.inl b]=>(a,b)
 |_=>(0,0)
theorem Fx{ks:List P2}{R:List (List Key)->Prop}(k:∀ out:List P2,out.Perm ks->R (out.map iP)) :
  ∃ b0 sh,(∀ p∈gI ks,eB p.1=b0 :: sh)/\∀ ms:List (List Key),ms.Perm ((gI ks).map (·.1))->(ms.Pairwise fun a b=>dz b a=false)->R ms:=by
 refine⟨true,[true],fun p hp=>?_,fun ms pm _=>?_⟩
 ·obtain⟨s,_,rfl⟩:=df.mp hp
  rfl
 ·rw[fW] at pm
  have e:(ms.map U7).map iP=ms:=by
   rw[iA]
   refine(FU fun x hx=>?_).trans (List.map_id ms)
   obtain⟨p,_,rfl⟩:=df.mp (pm.mem_iff.mp hx)
   rfl
  rw[<- e]
  refine k _ ?_
  have e2:(ks.map iP).map U7=ks:=by
   rw[iA]
   exact(FU fun x _=>rfl).trans (List.map_id ks)
  rw[<- e2]
  exact pm.map U7
theorem z9(l:List P2):(l.map iP).map nr=l.map cy:=by rw[iA];rfl
theorem m8:∀ (ks:List P2) (j:Nat),(gI ks).eraseIdx j=gI (ks.eraseIdx j)
 |[],_=>rfl
 |_ :: _,0=>rfl
 |k :: ks,j+1=>congrArg ((iP k,D.bl true) :: ·) (m8 ks j)
theorem B_:∀ (ks:List P2) (j:Nat) (g:P2),ks.Nodup->ks[j]? = some g->∀ x,x∈ks.eraseIdx j↔x∈ks/\x≠g
 |[],j,g,_,h,x=>by simp at h
 |k :: ks,0,g,nd,h,x=>by
  cases h
  have n:=(kA.mp nd).1
  rw[List.eraseIdx_cons_zero,dc]
  exact⟨fun a=>⟨.inr a,fun e=>n (by rw[<- e];exact a)⟩,fun a=>a.1.elim (fun e=>absurd e a.2) id⟩
 |k :: ks,j+1,g,nd,h,x=>by
  have n:=kA.mp nd
  have h:ks[j]? = some g:=h
  have hg:=kH h
  rw[FP,dc,dc,B_ ks j g n.2 h x]
  exact⟨fun a=>a.elim (fun e=>⟨.inl e,fun z=>n.1 (by rw[<- e,z];exact hg)⟩) fun a=>⟨.inr a.1,a.2⟩,fun a=>a.1.elim .inl fun b=>.inr ⟨b,a.2⟩⟩
theorem nK.mono{l:List bS}{ps qs:List P2}(h:∀ x∈ps,x∈qs){p:P2}(b:nK l ps p):nK l qs p:=by
 refine⟨fun d e he=>?_,fun d o ho=>?_⟩
 ·obtain⟨o,a,m⟩:=b.1 d e he
  exact⟨o,a,h _ m⟩
 ·obtain⟨e,a,m⟩:=b.2 d o ho
  exact⟨e,a,h _ m⟩
theorem fT.app{many:Int}{a b:List P2}(ha:∀ p∈a,fT many p)(hb:∀ p∈b,fT many p):∀ p∈a++b,fT many p:=fun p hp=>(dP.mp hp).elim (ha p) (hb p)
theorem Cv{x y many:Int}(x0:0<=x)(x1:x<many)(y0:0<=y)(y1:y<many):(x*many+y) / many=x/\(x*many+y) % many=y/\0<=x*many+y/\x*many+y<many*many:=by
 have a:=P6 x0 (show 0<=many by lia)
 have b:=Int.mul_le_mul_of_nonneg_right (show x+1<=many by lia) (show 0<=many by lia)
 rw[Int.add_mul,Int.one_mul] at b
 refine⟨?_,?_,by lia,by lia⟩
 ·rw[Int.add_comm,Int.add_mul_ediv_right _ _ (by lia),Int.ediv_eq_zero_of_lt y0 y1,Int.zero_add]
 ·rw[Int.add_comm,Int.add_mul_emod_self_right,Int.emod_eq_of_lt y0 y1]
theorem Af{many:Int}{n:Nat}{ps:List P2}(hn:(n:Int)=many*many)(h:∀ i:Nat,i<n->(((i:Int) / many,(i:Int) % many):P2)∈ps){x:P2}(hx:fT many x):x∈ps:=by
 have d:=Cv hx.1.1 hx.1.2 hx.2.1 hx.2.2
 have:=h (x.1*many+x.2).toNat (by lia)
 rw[tT d.2.2.1,d.1,d.2.1] at this
 exact this
structure O_(l:List bS)(ps out:List P2):Prop where
 sub:∀ p∈out,p∈ps
 both:∀ p∈out,nK l out p
 max:∀ T:List P2,(∀ p∈T,p∈ps)->(∀ p∈T,nK l T p)->∀ p∈T,p∈out
 len:out.length<=ps.length
theorem O_.diag{many:Int}{l:List bS}{ps out:List P2}(h:O_ l ps out)(ay:fw many l)(m1:1<=many)(all:∀ x,fT many x->x∈ps):((0,0):P2)∈out:=by
 have hm:∀ k:Int,0<=k->k<many->((k,k):P2)∈(List.range many.toNat).map fun i:Nat=>((((i:Nat):Int),((i:Nat):Int)):P2):=fun k a b=>df.mpr ⟨k.toNat,mI.mpr (by lia),by rw[tT a]⟩
 refine h.max _ (fun p hp=>?_) (fun p hp=>?_) _ (hm 0 (by lia) (by lia))
 ·obtain⟨i,hi,rfl⟩:=df.mp hp
  have:=mI.mp hi
  exact all _ ⟨⟨by lia,by lia⟩,by lia,by lia⟩
 ·obtain⟨i,hi,rfl⟩:=df.mp hp
  exact⟨fun d e he=>⟨e,he,hm e (ay _ he).2.2.2.1 (ay _ he).2.2.2.2⟩,fun d o ho=>⟨o,ho,hm o (ay _ ho).2.2.2.1 (ay _ ho).2.2.2.2⟩⟩
theorem RB.iff{many:Int}{steps:List bS}{bX r:List Int}(h:RB many steps bX r)(ay:fw many steps){s t:Int}(hs:0<=s/\s<many)(ht:0<=t/\t<many) :
  rk r s=rk r t↔rk bX s=rk bX t/\(∀ d e,(s,d,e)∈steps->∃ o,(t,d,o)∈steps/\rk bX e=rk bX o)/\∀ d o,(t,d,o)∈steps->∃ e,(s,d,e)∈steps/\rk bX e=rk bX o:=by
 constructor
 ·intro e
  refine⟨h.gh' hs ht e,fun d x hx=>?_,fun d o ho=>?_⟩
  ·obtain⟨⟨a,b,c⟩,hu,e1,e2,e3⟩:=h.Zd ay hx ht e
   cases e1
   cases e2
   exact⟨c,hu,e3.symm⟩
  ·obtain⟨⟨a,b,c⟩,hu,e1,e2,e3⟩:=h.Zd ay ho hs e.symm
   cases e1
   cases e2
   exact⟨c,hu,e3⟩
 ·rintro⟨e0,f,b⟩
  obtain⟨ky,diff,h⟩:=h
  have ks:=h.key s hs.1 hs.2
  have kt:=h.key t ht.1 ht.2
  have e:ky s=ky t:=by
   refine Prod.ext (by rw[ks.fst,kt.fst,e0]) (ig (fun x _ y _ h1 h2=>by have:=qI h1 h2;rw[oW] at this;cases this) ks.up kt.up fun p=>?_)
   rw[ks.mem,kt.mem]
   constructor
   ·rintro⟨⟨a,d,e⟩,hu,rfl,rfl⟩
    obtain⟨o,ho,m⟩:=f d e hu
    exact⟨_,ho,rfl,by show(d,rk bX e)=(d,rk bX o);rw[m]⟩
   ·rintro⟨⟨a,d,o⟩,hu,rfl,rfl⟩
    obtain⟨e,he,m⟩:=b d o hu
    exact⟨_,he,rfl,by show(d,rk bX o)=(d,rk bX e);rw[m]⟩
  have p1:=h.pos s hs.1 hs.2
  have p2:=h.pos t ht.1 ht.2
  rw[<- e] at p2
  have:=h.inj ay p1.2 p2.2
  lia
structure Rds(many:Int)(steps:List bS)(rest:List (List Int))(f:Nat->List Int):Prop where
 zero:f 0=zeros many
 lh:∀ k,RB many steps (f k) (f (k+1))
 at':∀ k,k<=rest.length->(zeros many :: rest)[k]? = some (f k)
 fv:∀ k,rest.length<=k->f k=f rest.length
theorem Chain.sq{many:Int}{steps:List bS}:∀ {cur:List Int} {rest:List (List Int)},Chain many steps cur rest->∃ f:Nat->List Int,f 0=cur/\(∀ k,RB many steps (f k) (f (k+1)))/\(∀ k,k<=rest.length->(cur :: rest)[k]? = some (f k))/\∀ k,rest.length<=k->f k=f rest.length
 |cur,[],h=>⟨fun _=>cur,rfl,fun _=>h,fun k hk=>by
   have:k=0:=Nat.le_zero.mp hk
   subst this
   rfl,fun _ _=>rfl⟩
 |cur,lh :: rest,h=>by
  obtain⟨f,f0,fn,fa,fs⟩:=h.2.2.sq
  refine⟨fun k=>Nat.casesOn k cur f,rfl,fun k=>?_,fun k hk=>?_,fun k hk=>?_⟩
  ·cases k with
   |zero=>show RB many steps cur (f 0);rw[f0];exact h.1
   |succ k=>exact fn k
  ·cases k with
   |zero=>rfl
   |succ k=>exact fa k (Nat.le_of_succ_le_succ hk)
  ·cases k with
   |zero=>exact absurd hk (by simp)
   |succ k=>exact fs k (Nat.le_of_succ_le_succ hk)
theorem Chain.rds{many:Int}{steps:List bS}{rest:List (List Int)}(h:Chain many steps (zeros many) rest):∃ f,Rds many steps rest f:=by
 obtain⟨f,a,b,c,d⟩:=h.sq
 exact⟨f,a,b,c,d⟩
def Cb(a b:P2):Prop:=a.1<b.1\/(a.1=b.1/\a.2<b.2)
theorem G8{a b:P2}(h1:Cb a b)(h2:Cb b a):False:=by
 unfold Cb at h1 h2
 lia
structure FG(many:Int)(k:List Int)(ps:List P2):Prop where
 up:ps.Pairwise Cb
 mem:∀ x,x∈ps↔fT many x/\rk k x.1=rk k x.2
theorem FG.uniq{many:Int}{k:List Int}{ps qs:List P2}(a:FG many k ps)(b:FG many k qs):ps=qs:=ig (fun _ _ _ _ h1 h2=>G8 h1 h2) a.up b.up fun x=>(a.mem x).trans (b.mem x).symm
theorem RB.xt{many:Int}{l:List bS}{k:List Int}{ps:List P2}(h:RB many l k k)(ay:fw many l)(hm:∀ x,x∈ps↔fT many x/\rk k x.1=rk k x.2):∀ x∈ps,nK l ps x:=fun x hx=>by
 have Pa:=(hm x).mp hx
 have a:=(h.iff ay Pa.1.1 Pa.1.2).mp Pa.2
 refine⟨fun d e he=>?_,fun d o ho=>?_⟩
 ·obtain⟨o,ho,m⟩:=a.2.1 d e he
  exact⟨o,ho,(hm _).mpr ⟨⟨⟨(ay _ he).2.2.2.1,(ay _ he).2.2.2.2⟩,(ay _ ho).2.2.2.1,(ay _ ho).2.2.2.2⟩,m⟩⟩
 ·obtain⟨e,he,m⟩:=a.2.2 d o ho
  exact⟨e,he,(hm _).mpr ⟨⟨⟨(ay _ he).2.2.2.1,(ay _ he).2.2.2.2⟩,(ay _ ho).2.2.2.1,(ay _ ho).2.2.2.2⟩,m⟩⟩
theorem Aq(cur:List Int)(rest:List (List Int)):(cur :: rest)[rest.length]? = some (iZ cur rest):=by
 unfold iZ
 rw[List.getLast_eq_getElem]
 simp
theorem Kinds.rb{many:Int}{l:List bS}{k:List Int}(h:Kinds many l k):RB many l k k:=by
 obtain⟨rest,hc,rfl⟩:=h
 exact hc.last
theorem Kinds.same{many:Int}{l:List bS}{k:List Int}{ps:List P2}(h:Kinds many l k)(ay:fw many l)(hi:∀ x∈ps,fT many x)(hb:∀ x∈ps,nK l ps x):∀ x∈ps,rk k x.1=rk k x.2:=by
 obtain⟨rest,hc,rfl⟩:=h
 obtain⟨f,hf⟩:=hc.rds
 have go:∀ i,∀ x∈ps,rk (f i) x.1=rk (f i) x.2:=fun i=>by
  induction i with
  |zero=>intro x _;rw[hf.zero,jL,jL]
  |succ i ih =>
   intro x hx
   have b:=hb x hx
   refine((hf.lh i).iff ay (hi x hx).1 (hi x hx).2).mpr ⟨ih x hx,fun d e he=>?_,fun d o ho=>?_⟩
   ·obtain⟨o,ho,m⟩:=b.1 d e he
    exact⟨o,ho,ih _ m⟩
   ·obtain⟨e,he,m⟩:=b.2 d o ho
    exact⟨e,he,ih _ m⟩
 have e:=hf.at' rest.length (bT _)
 rw[Aq] at e
 rw[Option.some.inj e]
 exact go _
theorem O_.kinds{many:Int}{l:List bS}{ps best:List P2}{k:List Int}(h:O_ l ps best)(ay:fw many l)(yA:∀ x,x∈ps↔fT many x)(hk:Kinds many l k)(x:P2):x∈best↔fT many x/\rk k x.1=rk k x.2:=by
 constructor
 ·intro hx
  exact⟨(yA x).mp (h.sub x hx),hk.same ay (fun y hy=>(yA y).mp (h.sub y hy)) h.both x hx⟩
 ·intro hx
  have hm:∀ y,y∈ps.filter (fun y=>decide (rk k y.1=rk k y.2))↔fT many y/\rk k y.1=rk k y.2:=fun y=>by
   rw[vT,yA,decide_eq_true_iff]
  exact h.max _ (fun y hy=>(vT.mp hy).1) (hk.rb.xt ay hm) x ((hm x).mpr hx)
def eZ:WS :=
 (ki (rj (wB (m7 NM Jn (wC (.int 0)) (ae 1) (ax eL (ae 0) (wC (.int 0))))))
 (xG "NoState" (wC (.str "the machine has no such state")))
 cT)
def aQ:gE:=fun ds Q=>∃ (many:Int) (l:List bS) (s:Int),ds=[mD many l,.int s]/\((0<=s/\s<many)->Q .sh .non)/\(¬ (0<=s/\s<many)->Q (.ow false) (.str "NoState"))
theorem kI (ds Q) (h:aQ ds Q):ds.length=["m", "state"].length:=by obtain⟨_,_,_,rfl,_⟩:=h;rfl
theorem pF:∀ ds Q,aQ ds Q->eZ { nx:=fun _=>Q .sh .non,rt:=Q } (aU 2 ds):=by
 rintro ds Q ⟨many,l,s,rfl,h1,h2⟩
 unfold eZ mD
 walk_at "q"
 refine R.D (fun a=>?_) fun a=>?_
 ·walk_at "q"
  by_cases b:s<many
  ·refine R.F (by simp[b]) ?_
   walk_at "q"
   exact h1 ⟨a,b⟩
  ·refine R.T (by simp[b]) ?_
   walk_at "q"
   exact h2 fun z=>b z.2
 ·walk_at "q"
  exact h2 fun z=>a z.1
def i_:WS :=
 (b4 (dE 1 (eN (bY (ax eL (ae 0) (wC (.int 0)))) (gN 0) tj (tf b6) 1 []))
 (b4 (fS 0 (mr (dN (ax eL (ae 0) (wC (.int 1)))) (gT 3 (bV (gN 2) (bV (gN 3) (bV (gN 4) jz))))
 (fS 4 (fS 3 (B4 (Oy (rp 1) (ae 2)) (nv (ak (ae 3) (ak (ae 4) b6))))))))
 (rO 1)))
def cO:gE:=fun ds Q=>∃ (many:Int) (steps:List bS),ds=[mD many steps]/\(0<=many/\many<=1000)/\fw many steps/\steps.length<=1000/\Q (.ow true) (kN many steps)
theorem qH (ds Q) (h:cO ds Q):ds.length=["m"].length:=by obtain⟨_,_,rfl,_⟩:=h;rfl
theorem uO:∀ ds Q,cO ds Q->i_ { nx:=fun _=>Q .sh .non,rt:=Q } (aU 5 ds):=by
 rintro ds Q ⟨many,steps,rfl,hm,ay,hl,h⟩
 unfold i_ mD
 walk_at "q"
 refine⟨by lia,by lia,?_⟩
 refine cZ (fun _=>true) (fun _=>.list []) (fun ρ=>∃ o,ρ=[o]) _ _ _ ⟨_,rfl⟩ ?_ ?_
 ·rintro x hx ρ ⟨o,rfl⟩ N1 N2 n1 n2
  walk_at "q"
  exact⟨.inr rfl,n2 _ ⟨_,rfl⟩ rfl⟩
 rw[Cp]
 refine bz _ (fun i ρ=>∃ o2 o3 o4,ρ=[some (.sh (.tup [.int many,.list (steps.map fi)])),some (.ow true (.list (nI many (steps.take i)))),o2,o3,o4]) ⟨none,none,none,by simp⟩ ?_ ?_
 ·rintro i x ρ hx ⟨o2,o3,o4,rfl⟩ N hN
  obtain⟨p,d,r,rfl,hs,ht⟩:=Br hx
  have ok:=ay _ hs
  walk_at "q"
  refine⟨p.toNat,.list ((kM (steps.take i) p).map jS),uG ok.1 (by rw[lg];have:=ok.2.1;lia),Bd _ ok.1 ok.2.1,rfl,?_⟩
  walk_at "q"
  refine⟨?_,?_⟩
  ·have:=rP (steps.take i) p
   have:(steps.take i).length<=steps.length:=by rw[mG];lia
   lia
  ·refine hN _ ⟨some (.sh (.int p)),some (.sh (.str d)),some (.sh (.int r)),?_⟩
   rw[Bo _ _ _ ok.1 ok.2.1,<- ht]
 ·rintro ρ ⟨o2,o3,o4,rfl⟩
  walk_at "q"
  rw[AV]
  exact h
def oX:WS :=
 (iq (nv (ak (ax eL (ae 1) (ae 2)) (ak (hX fZ (eN (jo (ax eL (ae 0) (ae 2))) (gT 2 (bV (gN 0) (bV (gN 1) jz))) tj (nv (ak (ae 0) (ak (ax eL (ae 2) (ae 1)) b6))) 2 [1])) b6))))
def eF:gE:=fun ds Q=>∃ (many:Int) (steps:List bS) (bX:List Int) (s:Int),ds=[kN many steps,.list (bX.map .int),.int s]/\(0<=s/\s<many)/\bX.length=many.toNat/\fw many steps/\steps.length<=1000/\∀ k,D6 steps bX s k->Q (.ow true) (gp k)
theorem uK (ds Q) (h:eF ds Q):ds.length=["exits", "ranks", "state"].length:=by obtain⟨_,_,_,_,rfl,_⟩:=h;rfl
theorem zZ:∀ ds Q,eF ds Q->oX { nx:=fun _=>Q .sh .non,rt:=Q } (aU 3 ds):=by
 rintro ds Q ⟨many,steps,bX,s,rfl,hs,hr,ay,hl,h⟩
 unfold oX kN
 walk_at "q"
 refine⟨_,uP hr hs.1 hs.2,?_⟩
 walk_at "q"
 refine⟨_,xH steps hs.1 hs.2,?_⟩
 walk_at "q"
 refine cZ (fun _=>true) (fun d=>match d with
  |.tup [.str x,.int e]=>.tup [.str x,.int (rk bX e)]
  |d=>d) (fun ρ=>∃ o0 o1,ρ=[o0,o1,some (.sh (.list (bX.map .int)))]) _ _ _ ⟨_,_,rfl⟩ ?_ ?_
 ·rintro x hx ρ ⟨o0,o1,rfl⟩ N1 N2 n1 n2
  obtain⟨p,hp,rfl⟩:=df.mp hx
  obtain⟨t,ht,e1,e2⟩:=qZ hp
  obtain⟨x,e⟩:=p
  have ok:=ay t ht
  obtain⟨t1,t2,t3⟩:=t
  cases e2
  unfold jS
  walk_at "q"
  refine⟨_,uP hr ok.2.2.2.1 ok.2.2.2.2,?_⟩
  walk_at "q"
  exact⟨.inl rfl,n2 _ ⟨_,_,rfl⟩ rfl⟩
 have e1:((kM steps s).map jS |>.filter fun _=>true).map (fun d=>match d with
   |.tup [.str x,.int e]=>.tup [.str x,.int (rk bX e)]
   |d=>d)=((kM steps s).map fun p=>(p.1,rk bX p.2)).map jS:=by
  rw[List.filter_eq_self.mpr fun _ _=>rfl,iA,iA]
  rfl
 rw[e1]
 refine zO (ps:=(kM steps s).map fun p=>(p.1,rk bX p.2)) (m:=.ow true) (Q:=fun _ d=>Q (.ow true) (.tup [.int (rk bX s),d])) (by rw[cE];exact iS (rP steps s) hl) fun l up mem=>?_
 refine h (rk bX s,l) ⟨rfl,up,fun p=>(mem p).trans ⟨fun hp=>?_,fun hp=>?_⟩⟩
 ·obtain⟨q,hq,rfl⟩:=df.mp hp
  obtain⟨t,ht,e1,rfl⟩:=qZ hq
  exact⟨t,ht,e1,rfl⟩
 ·obtain⟨t,ht,rfl,rfl⟩:=hp
  exact df.mpr ⟨t.2,vL ht,rfl⟩
def d_:WS :=
 (b4 (ki (wB (ax Jn (ae 1) (hX w_ (ae 0))))
 (iq (ax eL (ae 0) (ae 1)))
 cT)
 (iq (wC (.int 0))))
def aH:gE:=fun ds Q=>∃ (ns:List Int) (k:Int),ds=[.list (ns.map .int),.int k]/\0<=k/\Q .sh (.int (ns.getD k.toNat 0))
theorem jy (ds Q) (h:aH ds Q):ds.length=["_law_script", "_law_k"].length:=by obtain⟨_,_,rfl,_⟩:=h;rfl
theorem mL:∀ ds Q,aH ds Q->d_ { nx:=fun _=>Q .sh .non,rt:=Q } (aU 2 ds):=by
 rintro ds Q ⟨ns,k,rfl,hk,h⟩
 unfold d_
 walk_at "q"
 refine R.D (fun hl=>?_) fun hl=>?_
 ·walk_at "q"
  have hn:k.toNat<ns.length:=by lia
  refine⟨.int ns[k.toNat],?_,?_⟩
  ·have:=EJ (xs:=ns.map D.int) (j:=k.toNat) (v:=.int ns[k.toNat]) (by simp[hn])
   rwa[tT hk] at this
  ·show Q .sh _;simpa[List.getD,hn] using h
 ·walk_at "q"
  have:ns.getD k.toNat 0=0:=by
   have:ns.length<=k.toNat:=by lia
   simp[List.getD,tP this]
  rwa[this] at h
def fX:WS :=
 (b4 (dE 3 (ax eL (tf (ak (wC (.int 1000003)) (ak (wC (.int 998244353)) (ak (wC (.int 104729)) (ak (wC (.int 2147483647)) (ak (wC (.int 15485863)) (ak (wC (.int 32452843)) b6))))))) (ae 1)))
 (iq (ax vt (ax B1 (ax vt (ax ov (ae 0) (ax eL (tf (ak (wC (.int 48271)) (ak (wC (.int 69621)) (ak (wC (.int 16807)) (ak (wC (.int 40692)) (ak (wC (.int 39373)) (ak (wC (.int 22571)) b6))))))) (ae 1))) (ae 3)) (wC (.int 11))) (ae 2))))
def az:gE:=fun ds Q=>∃ c w m:Int,ds=[.int c,.int w,.int m]/\(0<=w/\w<6)/\0<m/\∀ r,0<=r->r<m->Q .sh (.int r)
theorem mH (ds Q) (h:az ds Q):ds.length=["_law_cell", "_law_way", "_law_many"].length:=by obtain⟨_,_,_,rfl,_⟩:=h;rfl
theorem pX:∀ ds Q,az ds Q->fX { nx:=fun _=>Q .sh .non,rt:=Q } (aU 4 ds):=by
 rintro ds Q ⟨c,w,m,rfl,hw,hm,h⟩
 unfold fX
 walk_at "q"
 obtain⟨p,hp,ep⟩:=gZ (l:=[1000003,998244353,104729,2147483647,15485863,32452843]) hw.1 hw.2
 obtain⟨q,hq,eq⟩:=gZ (l:=[48271,69621,16807,40692,39373,22571]) hw.1 hw.2
 have js:=(by decide:∀ p∈([1000003,998244353,104729,2147483647,15485863,32452843]:List Int),0<p) p hp
 have Ru:=(by decide:∀ p∈([48271,69621,16807,40692,39373,22571]:List Int),0<p/\p<100000) q hq
 refine⟨.int p,ep,?_⟩
 walk_at "q"
 refine⟨.int q,eq,?_⟩
 walk_at "q"
 have:=wu (c*q % p / 11) hm
 exact⟨bB (by lia) (by lia),js,hm,h _ this.1 this.2⟩
def gU:WS :=
 (b4 (dE 2 (eN (bY (ae 0)) (gN 0) tj (tf b6) 1 []))
 (b4 (fS 1 (mr (dN (ae 1)) (gT 3 (bV (gN 3) (bV (gN 4) (bV (gN 5) jz))))
 (fS 5 (fS 4 (B4 (Oy (rp 2) (ae 3)) (nv (ak (ae 4) (ak (ae 5) b6))))))))
 (rO 2)))
def cC:gE:=fun ds Q=>∃ (many:Int) (steps:List bS),ds=[.int many,.list (steps.map fi)]/\(0<=many/\many<=1000)/\fw many steps/\steps.length<=10000/\Q (.ow true) (kN many steps)
theorem oh (ds Q) (h:cC ds Q):ds.length=["_law_many", "_law_steps"].length:=by obtain⟨_,_,rfl,_⟩:=h;rfl
theorem sJ:∀ ds Q,cC ds Q->gU { nx:=fun _=>Q .sh .non,rt:=Q } (aU 6 ds):=by
 rintro ds Q ⟨many,steps,rfl,hm,ay,hl,h⟩
 unfold gU
 walk_at "q"
 refine⟨by lia,by lia,?_⟩
 refine cZ (fun _=>true) (fun _=>.list []) (fun ρ=>∃ o,ρ=[o]) _ _ _ ⟨_,rfl⟩ ?_ ?_
 ·rintro x hx ρ ⟨o,rfl⟩ N1 N2 n1 n2
  walk_at "q"
  exact⟨.inr rfl,n2 _ ⟨_,rfl⟩ rfl⟩
 rw[Cp]
 refine bz _ (fun i ρ=>∃ o2 o3 o4,ρ=[some (.sh (.int many)),some (.sh (.list (steps.map fi))),some (.ow true (.list (nI many (steps.take i)))),o2,o3,o4]) ⟨none,none,none,by simp⟩ ?_ ?_
 ·rintro i x ρ hx ⟨o2,o3,o4,rfl⟩ N hN
  obtain⟨p,d,r,rfl,hs,ht⟩:=Br hx
  have ok:=ay _ hs
  walk_at "q"
  refine⟨p.toNat,.list ((kM (steps.take i) p).map jS),uG ok.1 (by rw[lg];have:=ok.2.1;lia),Bd _ ok.1 ok.2.1,rfl,?_⟩
  walk_at "q"
  refine⟨?_,?_⟩
  ·have:=rP (steps.take i) p
   have:(steps.take i).length<=steps.length:=by rw[mG];lia
   lia
  ·refine hN _ ⟨some (.sh (.int p)),some (.sh (.str d)),some (.sh (.int r)),?_⟩
   rw[Bo _ _ _ ok.1 ok.2.1,<- ht]
 ·rintro ρ ⟨o2,o3,o4,rfl⟩
  walk_at "q"
  rw[AV]
  exact h
def cW:WS :=
 (b4 (fS 0 (mr (dN (ax eL (ae 0) (ae 1))) (gT 2 (bV (gN 4) (bV (gN 5) jz)))
 (ki (rj (wB (hX RA (eN (jo (ax eL (ae 0) (ae 2))) (gT 2 (bV (gN 0) (bV (gN 1) jz))) (wB (ax kL (ae 0) (ae 2))) (ax (B3 false) (nv (ak (ae 4) (ak (ae 1) b6))) (ae 3)) 2 [4,3,5]))))
 (iq (wC (.bl false)))
 cT)))
 (b4 (fS 0 (mr (dN (ax eL (ae 0) (ae 2))) (gT 2 (bV (gN 4) (bV (gN 6) jz)))
 (ki (rj (wB (hX RA (eN (jo (ax eL (ae 0) (ae 1))) (gT 2 (bV (gN 0) (bV (gN 1) jz))) (wB (ax kL (ae 0) (ae 2))) (ax (B3 false) (nv (ak (ae 1) (ak (ae 3) b6))) (ae 4)) 2 [4,6,3]))))
 (iq (wC (.bl false)))
 cT)))
 (iq (wC (.bl true)))))
def aJ:gE:=fun ds Q=>∃ (many:Int) (l:List bS) (ks:List P2) (p:P2),ds=[kN many l,.int p.1,.int p.2,.dT (gI ks)]/\fT many p/\∀ b,(b=true↔nK l ks p)->Q .sh (.bl b)
theorem iG (ds Q) (h:aJ ds Q):ds.length=["_law_rows_here", "_law_one", "_law_other", "_law_pairs"].length:=by obtain⟨_,_,_,_,rfl,_⟩:=h;rfl
def U8(d:Str)(x:D):Bool:=match x with
 |.tup [.str n,_]=>decide (n=d)
 |_=>false
def U9(f:Int->Bool)(x:D):D:=match x with
 |.tup [_,.int o]=>.bl (f o)
 |_=>.non
theorem yN{l:List bS}{s:Int}{d:Str}{f:Int->Bool}:∃ bs:List Bool,(((kM l s).map jS).filter (U8 d)).map (U9 f)=bs.map D.bl/\(bs.any (fun b=>b)=true↔∃ o,(s,d,o)∈l/\f o=true):=by
 refine⟨((kM l s).filter fun t=>decide (t.1=d)).map fun t=>f t.2,?_,?_⟩
 ·rw[List.filter_map,iA,iA]
  rfl
 ·rw[List.any_map,Dp]
  constructor
  ·rintro⟨⟨n,o⟩,ho,z⟩
   obtain⟨ho,e⟩:=vT.mp ho
   have e:n=d:=of_decide_eq_true e
   exact⟨o,iU.mp (e ▸ ho),z⟩
  ·rintro⟨o,ho,z⟩
   exact⟨(d,o),vT.mpr ⟨iU.mpr ho,decide_eq_true rfl⟩,z⟩
theorem jG:∀ ds Q,aJ ds Q->cW { nx:=fun _=>Q .sh .non,rt:=Q } (aU 7 ds):=by
 rintro ds Q ⟨many,l,ks,⟨p,q⟩,rfl,hp,h⟩
 unfold cW
 walk_at "q"
 refine⟨_,xH l hp.1.1 hp.1.2,?_⟩
 walk_at "q"
 refine bz _ (fun j ρ=>∃ (o4 o5:Option Sl),(∀ t∈(kM l p).take j,∃ o,(q,t.1,o)∈l/\(t.2,o)∈ks)/\ρ=[some (.sh (kN many l)),some (.sh (.int p)),some (.sh (.int q)),some (.sh (.dT (gI ks))),o4,o5,none]) ⟨_,_,(fun p hp=>by simp at hp),rfl⟩ ?_ ?_
 ·rintro j x ρ hx ⟨o4,o5,hj,rfl⟩ N hN
  obtain⟨d,e,rfl,rg,Rl⟩:=Io hx
  walk_at "q"
  refine⟨_,xH l hp.2.1 hp.2.2,?_⟩
  walk_at "q"
  refine cZ (U8 d) (U9 fun o=>decide ((e,o)∈ks)) (fun ρ=>∃ o0 o1,ρ=[o0,o1,some (.sh (.str d)),some (.sh (.dT (gI ks))),some (.sh (.int e))]) _ _ _ ⟨_,_,rfl⟩ ?_ ?_
  ·rintro x hx ρ ⟨o0,o1,rfl⟩ N1 N2 n1 n2
   obtain⟨⟨n,o⟩,hc,rfl⟩:=df.mp hx
   rw[show jS (n,o)=.tup [.str n,.int o] from rfl] at *
   walk_at "q"
   by_cases en:n=d
   ·rw[if_pos (by simp[en])]
    have e1:=ou ks (e,o)
    unfold iP at e1
    rw[e1]
    exact⟨.inl rfl,n2 _ ⟨_,_,rfl⟩ (decide_eq_true en)⟩
   ·rw[if_neg (by simp[en])]
    exact n1 _ ⟨_,_,rfl⟩ (decide_eq_false en)
  obtain⟨bs,e1,e2⟩:=yN (l:=l) (s:=q) (d:=d) (f:=fun o=>decide ((e,o)∈ks))
  refine⟨bs,e1,?_⟩
  refine R.B (fun hb=>?_) fun hb=>?_
  ·walk_at "q"
   refine h false ⟨(fun z=>by cases z),fun z=>?_⟩
   obtain⟨o,ho,m⟩:=z.1 d e (iU.mp rg)
   rw[e2.mpr ⟨o,ho,decide_eq_true m⟩] at hb
   cases hb
  ·walk_at "q"
   have hb:bs.any (fun b=>b)=true:=by simpa using hb
   obtain⟨o,ho,m⟩:=e2.mp hb
   exact hN _ ⟨_,_,tO Rl hj ⟨o,ho,of_decide_eq_true m⟩,rfl⟩
 rintro ρ ⟨o4,o5,hj,rfl⟩
 rw[cE,AV] at hj
 have hf:U6 l ks p q:=fun d e he=>hj (d,e) (iU.mpr he)
 walk_at "q"
 refine⟨_,xH l hp.2.1 hp.2.2,?_⟩
 walk_at "q"
 refine bz _ (fun j ρ=>∃ (o4 o6:Option Sl),(∀ t∈(kM l q).take j,∃ e,(p,t.1,e)∈l/\(e,t.2)∈ks)/\ρ=[some (.sh (kN many l)),some (.sh (.int p)),some (.sh (.int q)),some (.sh (.dT (gI ks))),o4,o5,o6]) ⟨_,_,(fun p hp=>by simp at hp),rfl⟩ ?_ ?_
 ·rintro j x ρ hx ⟨o4,o6,hj,rfl⟩ N hN
  obtain⟨d,o,rfl,rg,Rl⟩:=Io hx
  walk_at "q"
  refine⟨_,xH l hp.1.1 hp.1.2,?_⟩
  walk_at "q"
  refine cZ (U8 d) (U9 fun e=>decide ((e,o)∈ks)) (fun ρ=>∃ o0 o1,ρ=[o0,o1,some (.sh (.str d)),some (.sh (.int o)),some (.sh (.dT (gI ks)))]) _ _ _ ⟨_,_,rfl⟩ ?_ ?_
  ·rintro x hx ρ ⟨o0,o1,rfl⟩ N1 N2 n1 n2
   obtain⟨⟨n,e⟩,hc,rfl⟩:=df.mp hx
   rw[show jS (n,e)=.tup [.str n,.int e] from rfl] at *
   walk_at "q"
   by_cases en:n=d
   ·rw[if_pos (by simp[en])]
    have e1:=ou ks (e,o)
    unfold iP at e1
    rw[e1]
    exact⟨.inl rfl,n2 _ ⟨_,_,rfl⟩ (decide_eq_true en)⟩
   ·rw[if_neg (by simp[en])]
    exact n1 _ ⟨_,_,rfl⟩ (decide_eq_false en)
  obtain⟨bs,e1,e2⟩:=yN (l:=l) (s:=p) (d:=d) (f:=fun e=>decide ((e,o)∈ks))
  refine⟨bs,e1,?_⟩
  refine R.B (fun hb=>?_) fun hb=>?_
  ·walk_at "q"
   refine h false ⟨(fun z=>by cases z),fun z=>?_⟩
   obtain⟨e,he,m⟩:=z.2 d o (iU.mp rg)
   rw[e2.mpr ⟨e,he,decide_eq_true m⟩] at hb
   cases hb
  ·walk_at "q"
   have hb:bs.any (fun b=>b)=true:=by simpa using hb
   obtain⟨e,he,m⟩:=e2.mp hb
   exact hN _ ⟨_,_,tO Rl hj ⟨e,he,of_decide_eq_true m⟩,rfl⟩
 ·rintro ρ ⟨o4,o6,hj,rfl⟩
  rw[cE,AV] at hj
  walk_at "q"
  exact h true ⟨fun _=>⟨hf,fun d o ho=>hj (d,o) (iU.mpr ho)⟩,fun _=>rfl⟩
def gM:WS :=
 (b4 (ki (D2 (rj (wB (hX (Kb "tuple") (ae 0)))) (wB (ax AF (hX w_ (ae 0)) (wC (.int 2)))))
 (iq (wC (.bl false)))
 cT)
 (b4 (fS 0 (mr (y_ (ae 0)) (gN 2)
 (ki (D2 (rj (wB (hX (Kb "int") (ae 2)))) (D2 (wB (hX (Kb "bool") (ae 2))) (rj (wB (m7 NM Jn (wC (.int 0)) (ae 2) (ae 1))))))
 (iq (wC (.bl false)))
 cT)))
 (iq (wC (.bl true)))))
def cz:gE:=fun ds Q=>∃ (x:P2) (many:Int),ds=[cy x,.int many]/\fT many x/\Q .sh (.bl true)
theorem oG (ds Q) (h:cz ds Q):ds.length=["_law_found", "_law_many"].length:=by obtain⟨_,_,rfl,_⟩:=h;rfl
theorem rR:∀ ds Q,cz ds Q->gM { nx:=fun _=>Q .sh .non,rt:=Q } (aU 3 ds):=by
 rintro ds Q ⟨x,many,rfl,hx,h⟩
 unfold gM cy
 walk_at "q"
 refine R.F (by decide) ?_
 walk_at "q"
 refine R.F (by decide) ?_
 walk_at "q"
 refine bz _ (fun i ρ=>∃ (o:Option Sl),ρ=[some (.sh (.tup [.int x.1,.int x.2])),some (.sh (.int many)),o]) ⟨_,rfl⟩ ?_ ?_
 ·rintro i y ρ hy ⟨o,rfl⟩ N hN
  obtain⟨c,rfl,hc⟩:∃ c:Int,y=.int c/\0<=c/\c<many:=by
   have:=kH hy
   simp only[dc,CY,or_false] at this
   rcases this with e|e
   ·exact⟨_,e,hx.1⟩
   ·exact⟨_,e,hx.2⟩
  walk_at "q"
  refine R.F (by decide) ?_
  walk_at "q"
  refine R.F (by decide) ?_
  walk_at "q"
  refine R.T (decide_eq_true hc.1) ?_
  walk_at "q"
  refine R.F (by simp[hc.2]) ?_
  walk_at "q"
  exact hN _ ⟨_,rfl⟩
 ·rintro ρ ⟨o,rfl⟩
  walk_at "q"
  exact h
def dY:WS :=
 (b4 (dE 2 (eN (bY (hX w_ (ae 1))) (gN 0) tj (aZ eF (ak (ae 1) (ak (ae 2) (ak (ae 0) b6)))) 1 [0,1]))
 (b4 (dE 3 (tf b6))
 (b4 (fS 2 (mr (dN (hX yO (ae 2))) (gN 4)
 (ki (wB (ax (O3 true) (ae 4) (ae 3)))
 (fS 4 (B4 (rp 3) (ae 4)))
 cT)))
 (iq (eN (jo (ae 2)) (gN 0) tj (uh (ae 1) (ae 0)) 1 [3])))))
def aV:gE:=fun ds Q=>∃ (many:Int) (steps:List bS) (bX:List Int),ds=[kN many steps,.list (bX.map .int)]/\(0<=many/\many<=1000)/\bX.length=many.toNat/\fw many steps/\steps.length<=1000/\∀ r,RB many steps bX r->Q (.ow true) (.list (r.map .int))
theorem jE (ds Q) (h:aV ds Q):ds.length=["exits", "ranks"].length:=by obtain⟨_,_,_,rfl,_⟩:=h;rfl
theorem mF:∀ ds Q,aV ds Q->dY { nx:=fun _=>Q .sh .non,rt:=Q } (aU 5 ds):=by
 rintro ds Q ⟨many,steps,bX,rfl,hm,hr,ay,hl,h⟩
 unfold dY kN
 walk_at "q"
 refine⟨by lia,by lia,?_⟩
 refine b7 (fun n out=>∃ l:List Ky,out=l.map gp/\l.length=n/\∀ (i:Nat) k,l[i]? = some k->D6 steps bX i k) (fun ρ=>∃ o,ρ=[o,some (.sh (.list (nI many steps))),some (.sh (.list (bX.map .int)))]) _ 0 [] _ _ ⟨_,rfl⟩ ⟨[],rfl,rfl,fun i k hk=>by simp at hk⟩ ?_ ?_
 ·rintro j y hy ρ ⟨o,rfl⟩ out ⟨l,rfl,U_,hk⟩ N1 N2 nS
  have hj:=(bO hy).1
  obtain⟨_,rfl⟩:=bO hy
  walk_at "q"
  refine⟨many,steps,bX,0+(j:Nat),rfl,by lia,hr,ay,hl,fun k vk=>?_⟩
  walk_at "q"
  refine⟨.inr rfl,nS _ _ ⟨_,rfl⟩ ⟨l++[k],by simp,by simp[U_],fun i k' ja=>?_⟩⟩
  rcases GU i l.length with hi|hi
  ·rw[Ee hi] at ja
   exact hk i k' ja
  ·rw[yT hi] at ja
   have sP:i-l.length=0:=by
    rcases Nat.eq_zero_or_pos (i-l.length) with z|z
    ·exact z
    ·rw[tP (by simp;lia)] at ja;cases ja
   rw[sP] at ja
   cases ja
   have:((i:Nat):Int)=0+(j:Nat):=by lia
   rw[this]
   exact vk
 rintro out ⟨l,e,U_,hk⟩
 simp only[AW] at e
 subst e
 rw[bM,sL] at U_
 have FH:∀ k∈l,sC k:=fun k oC=>by
  obtain⟨i,hi⟩:=LM.mp oC
  exact(hk i k hi).ok ay
 refine⟨fun d hd=>?_,fun ms pm pw=>?_⟩
 ·obtain⟨k,oC,rfl⟩:=df.mp hd
  exact⟨Ao (FH k oC) 9,(FH k oC).tI⟩
 obtain⟨l2,rfl,uS⟩:=U5 (f:=gp) (P:=fun k=>k∈l) (ks:=ms) fun d hd=>by
  obtain⟨k,oC,e⟩:=df.mp (pm.mem_iff.mp hd)
  exact⟨k,e.symm,oC⟩
 have back:∀ k∈l,k∈l2:=fun k oC=>by
  obtain⟨j,hj,e⟩:=df.mp (pm.mem_iff.mpr (df.mpr ⟨k,oC,rfl⟩))
  rw[<- yc e];exact hj
 have iP':l2.length=l.length:=by have:=pm.length_eq;simpa using this
 rw[qk] at pw
 have pw:l2.Pairwise fun a b=>rL b a=false:=pw
 refine bz _ (fun i ρ=>∃ (diff:List Ky) (fl:Bool) (o4:Option Sl),diff.Pairwise (fun a b=>rL a b=true)/\(∀ k,k∈diff↔k∈l2.take i)/\diff.length<=i/\ρ=[some (.sh (.list (nI many steps))),some (.sh (.list (bX.map .int))),some (.sh (.list (l.map gp))),some (.ow fl (.list (diff.map gp))),o4]) ⟨[],true,none,.nil,by simp,by simp,rfl⟩ ?_ ?_
 ·rintro i x ρ hx ⟨diff,fl,o4,up,mem,dl,rfl⟩ N hN
  obtain⟨hi,Pa⟩:=ic.mp hx
  have kz:i<l2.length:=by simpa using hi
  have hxe:x=gp l2[i]:=by rw[<- Pa];simp
  subst hxe
  have oC:l2[i]∈l:=uS _ (Dx kz)
  have tk:l2.take (i+1)=l2.take i++[l2[i]]:=by rw[CL,mE kz];rfl
  have RN:∀ k∈diff,sC k:=fun k Pb=>FH k (uS k (PB ((mem k).mp Pb)))
  generalize ek:l2[i]=k at *
  walk_at "q"
  refine⟨Ao (FH k oC) 9,Cq RN 8,?_⟩
  rw[Ii]
  by_cases hd:k∈diff
  ·refine R.F (by simp[hd]) ?_
   walk_at "q"
   refine hN _ ⟨diff,fl,_,up,fun k'=>?_,by lia,rfl⟩
   rw[mem,tk,dP,kP]
   exact⟨.inl,fun z=>z.elim id fun e=>by rw[e];exact(mem k).mp hd⟩
  ·refine R.T (by simp[hd]) ?_
   walk_at "q"
   refine⟨by lia,?_⟩
   refine hN _ ⟨diff++[k],fl && (gp k).flat,some (.sh (gp k)),?_,fun k'=>?_,by simp;lia,by simp⟩
   ·refine FT.mpr ⟨up,by simp,fun a ha b hb=>?_⟩
    rw[kP.mp hb]
    cases h3:rL a k with
    |true=>rfl
    |false =>
     have h4:rL k a=false:=by
      obtain⟨j,hj⟩:=LM.mp ((mem a).mp ha)
      obtain⟨IG,K2⟩:=ic.mp hj
      have Ux:j<i:=by rw[mG] at IG;lia
      have:=AR.mp pw j i (by lia) kz Ux
      rw[ek] at this
      rw[List.getElem_take] at K2
      rwa[K2] at this
     exact absurd (FZ (RN a ha) (FH k oC) h3 h4) fun e=>hd (by rw[<- e];exact ha)
   ·rw[dP,kP,mem,tk,dP,kP]
 ·rintro ρ ⟨diff,fl,o4,up,mem,dl,rfl⟩
  rw[cE,AV] at mem
  have md:∀ k,k∈diff↔k∈l:=fun k=>(mem k).trans ⟨uS k,back k⟩
  have RN:∀ k∈diff,sC k:=fun k Pb=>FH k ((md k).mp Pb)
  walk_at "q"
  refine b7 (fun n out=>∃ r:List Int,out=r.map .int/\r.length=n/\∀ (i:Nat) x,r[i]? = some x->0<=x/\diff[x.toNat]? = l[i]?) (fun ρ=>∃ o,ρ=[o,some (.sh (.list (diff.map gp)))]) _ 0 [] _ _ ⟨_,rfl⟩ ⟨[],rfl,rfl,fun i k hk=>by simp at hk⟩ ?_ ?_
  ·rintro j y hy ρ ⟨o,rfl⟩ out ⟨r,rfl,Va,EV⟩ N1 N2 nS
   obtain⟨hj,hy'⟩:=ic.mp hy
   have oq:j<l.length:=by simpa using hj
   have hye:y=gp l[j]:=by rw[<- hy'];simp
   subst hye
   have oC:l[j]∈l:=Dx oq
   have hlj:l[j]? = some l[j]:=mE oq
   generalize l[j]=k at *
   have Pb:=(md k).mpr oC
   have w4:=List.idxOf_lt_length_of_mem Pb
   walk_at "q"
   refine⟨Cq RN 8,Ao (FH k oC) 9,diff.idxOf k,⟨gp k,?_,by rw[uX];exact decide_eq_true rfl⟩,fun i z hi hz=>?_,.inl rfl,nS _ _ ⟨_,rfl⟩ ⟨r++[((diff.idxOf k:Nat):Int)],by simp,by simp[Va],fun i x hx=>?_⟩⟩
   ·rw[kQ,mE w4,List.getElem_idxOf w4];rfl
   ·rw[kQ,mE (by lia)] at hz
    cases hz
    rw[uX]
    refine decide_eq_false fun e=>?_
    have:=List.not_of_lt_findIdx (p:=(· == k)) (xs:=diff) hi
    rw[show diff[i]=k from e] at this
    simp at this
   ·rcases GU i r.length with hi|hi
    ·rw[Ee hi] at hx
     exact EV i x hx
    ·rw[yT hi] at hx
     have sP:i-r.length=0:=by
      rcases Nat.eq_zero_or_pos (i-r.length) with z|z
      ·exact z
      ·rw[tP (by simp;lia)] at hx;cases hx
     rw[sP] at hx
     cases hx
     have:i=j:=by lia
     subst this
     refine⟨by lia,?_⟩
     rw[hlj,G0,mE w4,List.getElem_idxOf w4]
  rintro out ⟨r,e,Va,EV⟩
  simp only[AW] at e
  subst e
  rw[cE,sL] at Va
  refine h r ⟨fun s=>l.getD s.toNat (0,[]),diff,by lia,fun s a b=>?_,up,fun k=>?_,fun s a b=>?_⟩
  ·have hs:s.toNat<l.length:=by lia
   have:=hk s.toNat l[s.toNat] (mE hs)
   rw[tT a] at this
   simpa[List.getD,hs] using this
  ·rw[md]
   constructor
   ·intro oC
    obtain⟨i,hi,rfl⟩:=R5.mp oC
    exact⟨(i:Nat),by lia,by simp[List.getD,hi]⟩
   ·rintro⟨s,hs,rfl⟩
    have hs:s.toNat<l.length:=by lia
    simp[List.getD,hs]
  ·have hs:s.toNat<r.length:=by lia
   have gV:s.toNat<l.length:=by lia
   have:=EV s.toNat r[s.toNat] (mE hs)
   simpa[rk,List.getD,hs,gV] using this
def fC:WS :=
 (b4 (mr (bY (wC (.int 6))) (gN 7)
 (b4 (dE 8 (lK (wC (.str "")) (eN (bY (ae 2)) (gN 0) tj (ax eL (ae 4) (ax vt (ax fo (ax eL (ae 2) (ae 0)) (ax ov (ae 3) (hX RC (ax kL (ae 0) (ae 1))))) (wC (.int 26)))) 1 [3,4,7,1])))
 (b4 (ki (wB (ax kL (ae 5) (wC (.int 1))))
 (dE 8 (lK (wC (.str "")) (eN (bY (ax fo (ae 7) (wC (.int 1)))) (gN 0) tj (ax eL (ae 2) (ax eL (ae 1) (ae 0))) 1 [4,1])))
 cT)
 (b4 (ki (wB (ax kL (ae 5) (wC (.int 2))))
 (b4 (dE 9 (eN (bY (aZ az (ak (ax fo (ae 0) (ae 7)) (ak (wC (.int 4)) (ak (wC (.int 6)) b6))))) (gN 0) tj (ax eL (ae 2) (ax eL (ae 1) (ae 0))) 1 [4,1]))
 (dE 8 (ax fo (ax eL (ae 1) (ax vt (ax fo (ax eL (ae 4) (wC (.int 0))) (ax ov (wC (.int 11)) (ae 7))) (wC (.int 26)))) (lK (wC (.str "")) (ae 9)))))
 cT)
 (b4 (ki (wB (ax kL (ae 5) (wC (.int 3))))
 (dE 8 (lK (wC (.str "")) (eN (bY (wC (.int 6))) (gN 0) tj (ax eL (ae 3) (ax vt (ax fo (ax eL (ae 1) (wC (.int 0))) (ax vt (ax fo (ae 0) (ae 2)) (wC (.int 6)))) (wC (.int 26)))) 1 [4,7,1])))
 cT)
 (fS 8 (B4 (rp 6) (ae 8))))))))
 (b4 (dE 10 (aZ az (ak (ae 0) (ak (wC (.int 4)) (ak (wC (.int 2)) b6)))))
 (iq (Um (ax fo (tf (ak (wC (.str "*")) b6)) (ae 6)) (wg (ae 10)) (wg (ax fo (ax fo (ae 10) (wC (.int 1))) (aZ az (ak (ae 0) (ak (wC (.int 5)) (ak (wC (.int 7)) b6))))))))))
def g8:WS :=
 (b4 (dE 1 (wC (.str "abcdefghijklmnopqrstuvwxyz")))
 (b4 (dE 2 (ax fo (wC (.int 1)) (aZ az (ak (ae 0) (ak (wC (.int 0)) (ak (wC (.int 6)) b6))))))
 (b4 (dE 3 (aZ az (ak (ae 0) (ak (wC (.int 1)) (ak (ae 2) b6)))))
 (b4 (dE 4 (eN (bY (wC (.int 6))) (gN 0) tj (aZ az (ak (ax fo (ax ov (ae 1) (ax fo (ae 0) (wC (.int 1)))) (ae 0)) (ak (wC (.int 2)) (ak (wC (.int 26)) b6)))) 1 [0]))
 (b4 (dE 5 (aZ az (ak (ae 0) (ak (wC (.int 3)) (ak (wC (.int 4)) b6)))))
 (b4 (dE 6 (tf b6))
 fC))))))
def cD:gE:=fun ds Q=>∃ c:Int,ds=[.int c]/\∀ names:List Str,1<=names.length->names.length<=7->(∀ n∈names,O9 n)->Q (.ow true) (.list (names.map .str))
theorem oF (ds Q) (h:cD ds Q):ds.length=["_law_cell"].length:=by obtain⟨_,rfl,_⟩:=h;rfl
theorem nR(Q:Md->D->Prop)(c size at' kind:Int)(base:List Int)(hs:1<=size/\size<=6)(hk:0<=kind/\kind<4)(hb:base.length=6)(zS:∀ b∈base,0<=b/\b<26)
  (h:∀ names:List Str,1<=names.length->names.length<=7->(∀ n∈names,O9 n)->Q (.ow true) (.list (names.map .str))) :
  fC { nx:=fun _=>Q .sh .non,rt:=Q } [some (.sh (.int c)),some (.sh (.str abc)),some (.sh (.int size)),some (.sh (.int at')),some (.ow true (.list (base.map .int))),some (.sh (.int kind)),some (.ow true (.list [])),none,none,none,none]:=by
 unfold fC
 walk_at "q"
 refine bz _ (fun i ρ=>∃ (words:List Str) (o7 o8 o9:Option Sl),words.length=i/\(∀ n∈words,Open n)/\ρ=[some (.sh (.int c)),some (.sh (.str abc)),some (.sh (.int size)),some (.sh (.int at')),some (.ow true (.list (base.map .int))),some (.sh (.int kind)),some (.ow true (.list (words.map .str))),o7,o8,o9,none]) ⟨[],_,_,_,rfl,(fun n hn=>nomatch hn),rfl⟩ ?_ ?_
 ·rintro i x ρ hx ⟨words,o7,o8,o9,hl,ho,rfl⟩ N hN
  obtain⟨hi,rfl⟩:=bO hx
  have hi:i<6:=hi
  have push:∀ (w:Str) (Zg:Option Sl),Open w->N [some (.sh (.int c)),some (.sh (.str abc)),some (.sh (.int size)),some (.sh (.int at')),some (.ow true (.list (base.map .int))),some (.sh (.int kind)),some (.ow true (.list (words.map .str++[.str w]))),some (.sh (.int (0+(i:Nat)))),some (.sh (.str w)),Zg,none]:=fun w Zg hw=>by
   rw[Bg]
   refine hN _ ⟨words++[w],_,_,_,by simp[hl],fun n hn=>?_,rfl⟩
   rcases dP.mp hn with hn|hn
   ·exact ho n hn
   ·rw[kP.mp hn];exact hw
  walk_at "q"
  refine⟨by lia,by lia,?_⟩
  refine b7 (fun n out=>sA n out) (fun ρ=>∃ o,ρ=[o,some (.sh (.int at')),some (.sh (.list (base.map .int))),some (.sh (.int (0+(i:Nat)))),some (.sh (.str abc))]) _ 0 [] _ _ ⟨_,rfl⟩ sA.nil ?_ ?_
  ·rintro j y hy ρ ⟨o,rfl⟩ out ho N1 N2 nS
   obtain⟨hj,rfl⟩:=bO hy
   walk_at "q"
   obtain⟨b,_,eb⟩:=gZ (l:=base) (i:=0+(j:Nat)) (by lia) (by lia)
   refine⟨.int b,eb,?_⟩
   walk_at "q"
   refine⟨iV (by lia) (by lia),?_⟩
   obtain⟨ch,ec,lc⟩:=qW (b+(0+(i:Nat))*(if decide (0+(j:Int)=at')=true then 1 else 0))
   refine⟨ch,ec,.inl rfl,nS _ _ ⟨_,rfl⟩ ?_⟩
   rw[sL] at ho ⊢
   exact ho.push lc
  intro out mh
  rw[bM] at mh
  simp only[sL,AW] at mh
  obtain⟨zs,ez,zl,wl0,we0⟩:=mh.join (by lia)
  refine⟨zs,ez,zl,?_⟩
  generalize Str.join _ zs=w0 at *
  have hw0:Open w0:=⟨by lia,by lia,we0⟩
  clear ez zl
  rcases (show kind=0\/kind=1\/kind=2\/kind=3 by lia) with rfl|rfl|rfl|rfl
  ·refine R.F (by decide) ?_
   walk_at "q"
   refine R.F (by decide) ?_
   walk_at "q"
   refine R.F (by decide) ?_
   walk_at "q"
   exact⟨by lia,push w0 _ hw0⟩
  ·refine R.T (by decide) ?_
   walk_at "q"
   refine⟨by lia,by lia,?_⟩
   refine b7 (fun n out=>sA n out) (fun ρ=>∃ o,ρ=[o,some (.sh (.list (base.map .int))),some (.sh (.str abc))]) _ 0 [] _ _ ⟨_,rfl⟩ sA.nil ?_ ?_
   ·rintro j y hy ρ ⟨o,rfl⟩ out ho N1 N2 nS
    obtain⟨hj,rfl⟩:=bO hy
    walk_at "q"
    obtain⟨b,mb,eb⟩:=gZ (l:=base) (i:=0+(j:Nat)) (by lia) (by lia)
    refine⟨.int b,eb,?_⟩
    walk_at "q"
    obtain⟨ch,ec,lc⟩:=yL (zS b mb).1 (zS b mb).2
    refine⟨ch,ec,.inl rfl,nS _ _ ⟨_,rfl⟩ ?_⟩
    rw[sL] at ho ⊢
    exact ho.push lc
   intro out mh
   rw[bM] at mh
   simp only[sL,AW] at mh
   obtain⟨zs,ez,zl,RP,Pg⟩:=mh.join (by lia)
   refine⟨zs,ez,zl,?_⟩
   generalize Str.join _ zs=w1 at *
   refine R.F (by decide) ?_
   walk_at "q"
   refine R.F (by decide) ?_
   walk_at "q"
   exact⟨by lia,push w1 _ ⟨by lia,by lia,Pg⟩⟩
  ·refine R.F (by decide) ?_
   walk_at "q"
   refine⟨_,4,6,rfl,by decide,by decide,fun r r0 r1=>?_⟩
   walk_at "q"
   refine⟨by lia,by lia,?_⟩
   refine b7 (fun n out=>sA n out) (fun ρ=>∃ o,ρ=[o,some (.sh (.list (base.map .int))),some (.sh (.str abc))]) _ 0 [] _ _ ⟨_,rfl⟩ sA.nil ?_ ?_
   ·rintro j y hy ρ ⟨o,rfl⟩ out ho N1 N2 nS
    obtain⟨hj,rfl⟩:=bO hy
    walk_at "q"
    obtain⟨b,mb,eb⟩:=gZ (l:=base) (i:=0+(j:Nat)) (by lia) (by lia)
    refine⟨.int b,eb,?_⟩
    walk_at "q"
    obtain⟨ch,ec,lc⟩:=yL (zS b mb).1 (zS b mb).2
    refine⟨ch,ec,.inl rfl,nS _ _ ⟨_,rfl⟩ ?_⟩
    rw[sL] at ho ⊢
    exact ho.push lc
   intro out mh
   rw[bM] at mh
   simp only[sL,AW] at mh
   obtain⟨b0,mb0,eb0⟩:=gZ (l:=base) (i:=0) (by lia) (by lia)
   refine⟨.int b0,eb0,?_⟩
   walk_at "q"
   obtain⟨ch,ec,lc⟩:=qW (b0+11*(0+(i:Nat)))
   refine⟨iV (by lia) (by lia),ch,ec,?_⟩
   obtain⟨zs,ez,zl,RP,Pg⟩:=mh.join (by lia)
   refine⟨zs,ez,zl,?_⟩
   generalize Str.join _ zs=w1 at *
   refine⟨by rw[iY];lia,?_⟩
   refine R.F (by decide) ?_
   walk_at "q"
   exact⟨by lia,push _ _ ⟨by rw[dJ,iY];lia,by rw[dJ,iY];lia,zL (zX lc) Pg⟩⟩
  ·refine R.F (by decide) ?_
   walk_at "q"
   refine R.F (by decide) ?_
   walk_at "q"
   refine b7 (fun n out=>sA n out) (fun ρ=>∃ o,ρ=[o,some (.sh (.list (base.map .int))),some (.sh (.int (0+(i:Nat)))),some (.sh (.str abc))]) _ 0 [] _ _ ⟨_,rfl⟩ sA.nil ?_ ?_
   ·rintro j y hy ρ ⟨o,rfl⟩ out ho N1 N2 nS
    obtain⟨hj,rfl⟩:=bO hy
    walk_at "q"
    obtain⟨b,mb,eb⟩:=gZ (l:=base) (i:=0) (by lia) (by lia)
    refine⟨.int b,eb,?_⟩
    walk_at "q"
    obtain⟨ch,ec,lc⟩:=qW (b+(0+(j:Int)+(0+(i:Nat))) % 6)
    refine⟨ch,ec,.inl rfl,nS _ _ ⟨_,rfl⟩ ?_⟩
    rw[sL] at ho ⊢
    exact ho.push lc
   intro out mh
   rw[bM] at mh
   simp only[sL,AW] at mh
   obtain⟨zs,ez,zl,RP,Pg⟩:=mh.join (by decide)
   refine⟨zs,ez,zl,?_⟩
   generalize Str.join _ zs=w1 at *
   exact⟨by lia,push w1 _ ⟨by rw[RP];decide,by rw[RP];decide,Pg⟩⟩
 ·rintro ρ ⟨words,o7,o8,o9,hl,ho,rfl⟩
  rw[bM] at hl
  walk_at "q"
  refine⟨c,4,2,rfl,by decide,by decide,fun f f0 f1=>?_⟩
  walk_at "q"
  refine⟨by lia,.inl ⟨lA words,?_⟩⟩
  refine⟨c,5,7,rfl,by decide,by decide,fun r r0 r1=>?_⟩
  walk_at "q"
  refine .inl ⟨lA words,?_⟩
  have e:(D.str "*" :: words.map D.str)=(("*" : Str) :: words).map D.str:=rfl
  rw[e,Ak]
  have hc:=Gq (l:=("*" : Str) :: words) (a:=f) (b:=f+1+r) f0 (by lia) (by simp;lia)
  refine h _ hc.1 (iS hc.2.1 (by simp;lia)) fun n hn=>?_
  rcases dc.mp (hc.2.2 n hn) with rfl|hn
  ·exact .inl rfl
  ·exact .inr (ho n hn)
theorem rG:∀ ds Q,cD ds Q->g8 { nx:=fun _=>Q .sh .non,rt:=Q } (aU 11 ds):=by
 rintro ds Q ⟨c,rfl,h⟩
 unfold g8
 walk_at "q"
 refine⟨c,0,6,rfl,by decide,by decide,fun s s0 s1=>?_⟩
 walk_at "q"
 refine⟨c,1,1+s,rfl,by decide,by lia,fun at' a0 a1=>?_⟩
 walk_at "q"
 refine b7 (fun n out=>∃ bs:List Int,out=bs.map .int/\bs.length=n/\∀ b∈bs,0<=b/\b<26) (fun ρ=>∃ o,ρ=[o,some (.sh (.int c))]) _ 0 [] _ _ ⟨_,rfl⟩ ⟨[],rfl,rfl,fun b hb=>nomatch hb⟩ ?_ ?_
 ·rintro j y hy ρ ⟨o,rfl⟩ out ⟨bs,rfl,hl,zS⟩ N1 N2 nS
  have hj:=(bO hy).1
  obtain⟨hj,rfl⟩:=bO hy
  walk_at "q"
  refine⟨bB (by lia) (by lia),_,2,26,rfl,by decide,by decide,fun r r0 r1=>?_⟩
  walk_at "q"
  refine⟨.inl rfl,nS _ _ ⟨_,rfl⟩ ⟨bs++[r],by simp,by simp[hl],fun b hb=>?_⟩⟩
  rcases dP.mp hb with hb|hb
  ·exact zS b hb
  ·rw[kP.mp hb];exact⟨r0,r1⟩
 rintro out ⟨base,e,hb,zS⟩
 simp only[AW] at e
 subst e
 rw[bM] at hb
 refine⟨c,3,4,rfl,by decide,by decide,fun kind k0 k1=>?_⟩
 walk_at "q"
 exact nR Q c _ at' kind base (by lia) ⟨k0,k1⟩ (by simpa using hb) zS h
def gQ:WS :=
 (b4 (dE 4 (aZ aH (ak (ae 0) (ak (ax fo (wC (.int 3)) (ax vt (ax fo (ax ov (wC (.int 7)) (ae 1)) (ax ov (wC (.int 11)) (ae 2))) (wC (.int 60)))) b6))))
 (iq (aZ az (ak (ax fo (ax fo (ae 4) (ax ov (aZ aH (ak (ae 0) (ak (wC (.int 2)) b6))) (ax fo (ae 1) (wC (.int 2))))) (ax ov (ax fo (ae 1) (wC (.int 1))) (ax fo (ax fo (ae 1) (wC (.int 5))) (ae 2)))) (ak (ae 2) (ak (ae 3) b6))))))
def aF:gE:=fun ds Q=>∃ (ns:List Int) (k w m:Int),ds=[.list (ns.map .int),.int k,.int w,.int m]/\(0<=k/\k<=1000)/\(0<=w/\w<6)/\0<m/\∀ r,0<=r->r<m->Q .sh (.int r)
theorem pB (ds Q) (h:aF ds Q):ds.length=["_law_script", "_law_k", "_law_way", "_law_many"].length:=by obtain⟨_,_,_,_,rfl,_⟩:=h;rfl
theorem sX:∀ ds Q,aF ds Q->gQ { nx:=fun _=>Q .sh .non,rt:=Q } (aU 5 ds):=by
 rintro ds Q ⟨ns,k,w,m,rfl,hk,hw,hm,h⟩
 unfold gQ
 walk_at "q"
 have a:=wu (7*k+11*w) (show(0:Int)<60 by decide)
 refine⟨bB (by lia) (by lia),bB (by lia) (by lia),ns,_,rfl,by lia,?_⟩
 generalize ns.getD _ 0=c1
 walk_at "q"
 refine⟨ns,2,rfl,by decide,?_⟩
 generalize ns.getD _ 0=c2
 walk_at "q"
 refine⟨bB (by lia) (by lia),bB (by lia) (by lia),_,w,m,rfl,hw,hm,fun r r0 r1=>?_⟩
 walk_at "q"
 exact h r r0 r1
def fc:WS :=
 (b4 (dE 2 qe)
 (b4 (fS 1 (mr (dN (ae 1)) (gN 3)
 (rJ (rp 2) (ae 3) (wC (.bl true)))))
 (yC (wB (wC (.bl true)))
 (b4 (dE 4 (eN (jo (hX rN (ae 2))) (gN 0) (rj (wB (aZ aJ (ak (ae 2) (ak (ax eL (ae 0) (wC (.int 0))) (ak (ax eL (ae 0) (wC (.int 1))) (ak (ae 1) b6))))))) (ae 0) 1 [2,0]))
 (b4 (ki (wB (ax kL (ae 4) (tf b6)))
 (iq (hX pA (ae 2)))
 cT)
 (fS 4 (mr (dN (ae 4)) (gN 3)
 (fS 3 (Dm (rp 2) (ae 3))))))))))
def bJ:gE:=fun ds Q=>∃ (many:Int) (l:List bS) (ps:List P2),ds=[kN many l,.list (ps.map cy)]/\ps.length<=10000/\(∀ p∈ps,fT many p)/\∀ out,O_ l ps out->Q (.ow true) (.list (out.map cy))
theorem kh (ds Q) (h:bJ ds Q):ds.length=["_law_rows_here", "_law_some"].length:=by obtain⟨_,_,_,rfl,_⟩:=h;rfl
theorem n8:∀ ds Q,bJ ds Q->fc { nx:=fun _=>Q .sh .non,rt:=Q } (aU 5 ds):=by
 rintro ds Q ⟨many,l,ps,rfl,yA,hr,h⟩
 unfold fc
 walk_at "q"
 refine bz _ (fun i ρ=>∃ (ks:List P2) (o3:Option Sl),B9 (ps.take i) ks/\ρ=[some (.sh (kN many l)),some (.sh (.list (ps.map cy))),some (.ow true (.dT (gI ks))),o3,none]) ⟨[],_,B9.nil,rfl⟩ ?_ ?_
 ·rintro i x ρ hx ⟨ks,o3,hd,rfl⟩ N hN
  obtain⟨p,q,rfl,hm,tk⟩:=zc hx
  have kG:=hd.len
  rw[mG] at kG
  walk_at "q"
  refine⟨by rw[jQ];lia,?_⟩
  have e:=uv ks (p,q)
  unfold iP at e
  rw[e]
  exact hN _ ⟨_,_,by rw[tk];exact hd.put (p,q),rfl⟩
 rintro ρ ⟨ks0,o3,hd,rfl⟩
 rw[cE,AV] at hd
 walk_at "q"
 refine⟨fun ρ=>∃ (ks:List P2) (o3 o4:Option Sl),(ks.Nodup/\(∀ p∈ks,p∈ps)/\(∀ T:List P2,(∀ p∈T,p∈ps)->(∀ p∈T,nK l T p)->∀ p∈T,p∈ks)/\ks.length<=ps.length)/\ρ=[some (.sh (kN many l)),some (.sh (.list (ps.map cy))),some (.ow true (.dT (gI ks))),o3,o4],
  fun ρ=>match ρ with
   |[_,_,some (.ow _ (.dT l)),_,_]=>l.length
   |_=>0,⟨ks0,_,_,⟨hd.nd,fun p hp=>(hd.mem p).mp hp,fun T a _ p hp=>(hd.mem _).mpr (a p hp),hd.len⟩,rfl⟩,?_⟩
 rintro ρ ⟨ks,o3,o4,⟨Zh,Fh,Vb,hlen⟩,rfl⟩
 walk_at "q"
 rw[show List.map (fun kv:List Key × D=>D.tup (kv.1.map oy)) (gI ks)=ks.map cy from HB ks]
 refine cZ (Zf fun p=>!oJ l ks p) (fun x=>x) (fun ρ=>∃ o,ρ=[o,some (.sh (.dT (gI ks))),some (.sh (kN many l))]) _ _ _ ⟨_,rfl⟩ ?_ ?_
 ·rintro x hx ρ ⟨o,rfl⟩ N1 N2 n1 n2
  obtain⟨c,hc,rfl⟩:=df.mp hx
  rw[show cy c=.tup [.int c.1,.int c.2] from rfl] at *
  walk_at "q"
  refine⟨many,l,ks,c,rfl,hr c (Fh c hc),fun b hb=>?_⟩
  walk_at "q"
  have eb:b=oJ l ks c:=by rw[wa,qR];exact hb
  subst eb
  cases e:oJ l ks c with
  |true=>exact n1 _ ⟨_,rfl⟩ (by show(!oJ l ks c)=false;rw[e];rfl)
  |false=>exact⟨.inl rfl,n2 _ ⟨_,rfl⟩ (by show(!oJ l ks c)=true;rw[e];rfl)⟩
 rw[za]
 have hg:∀ x,x∈ks.filter (fun p=>!oJ l ks p)↔x∈ks/\¬ nK l ks x:=fun x=>by
  rw[vT,<- qR (l:=l) (ks:=ks) (p:=x)]
  simp
 have Zi:(ks.filter fun p=>!oJ l ks p).Nodup:=Zh.sublist List.filter_sublist
 generalize ks.filter (fun p=>!oJ l ks p)=gone at hg Zi ⊢
 refine⟨xR _ 10,rfl,?_⟩
 rw[wO]
 by_cases ge:gone=[]
 ·refine R.T (decide_eq_true ge) ?_
  walk_at "q"
  have hb:∀ p∈ks,nK l ks p:=fun p hp=>Classical.byContradiction fun z=>by
   have:=(hg p).mpr ⟨hp,z⟩
   rw[ge] at this
   cases this
  refine Fx fun out pm=>?_
  rw[z9]
  exact h out ⟨fun p hp=>Fh p (pm.mem_iff.mp hp),fun p hp=>(nK.congr fun x=>pm.mem_iff).mpr (hb p (pm.mem_iff.mp hp)),fun T a b p hp=>pm.mem_iff.mpr (Vb T a b p hp),by rw[pm.length_eq];exact hlen⟩
 ·refine R.F (decide_eq_false ge) ?_
  walk_at "q"
  refine bz _ (fun i ρ=>∃ (fm:List P2) (o3:Option Sl),fm.Nodup/\(∀ x,x∈fm↔x∈ks/\x∉gone.take i)/\fm.length+i=ks.length/\ρ=[some (.sh (kN many l)),some (.sh (.list (ps.map cy))),some (.ow true (.dT (gI fm))),o3,some (.sh (.list (gone.map cy)))]) ⟨ks,_,Zh,(fun x=>by simp),rfl,rfl⟩ ?_ ?_
  ·rintro i x ρ hx ⟨fm,o3,AK,hm,Rq,rfl⟩ N hN
   obtain⟨p,q,rfl,hgm,tk⟩:=zc hx
   walk_at "q"
   have hn:(p,q)∉gone.take i:=fun z=>by
    have:(gone.take (i+1)).Nodup:=Zi.sublist (List.take_sublist _ _)
    rw[tk,kc] at this
    exact this.2.2 _ z _ (kP.mpr rfl) rfl
   refine⟨by rw[fW];exact nO.mpr ((hm _).mpr ⟨((hg _).mp hgm).1,hn⟩),fun j d hj=>?_⟩
   have oq:fm[j]? = some (p,q):=by
    unfold gI at hj
    rw[kQ] at hj
    obtain⟨y,hy,e⟩:=L4.mp hj
    rw[hy,yq (q:=(p,q)) (Prod.mk.inj e).1]
   rw[m8]
   have RL:=(ic.mp oq).1
   refine hN _ ⟨_,_,AK.sublist (List.eraseIdx_sublist _ _),fun x=>?_,by rw[List.length_eraseIdx_of_lt RL];lia,rfl⟩
   rw[B_ fm j _ AK oq,hm,tk,dP,kP,not_or,and_assoc]
  ·rintro ρ ⟨fm,o3,AK,hm,Rq,rfl⟩
   rw[cE] at hm Rq
   rw[AV] at hm
   have gl:0<gone.length:=List.length_pos_iff.mpr ge
   refine⟨⟨fm,_,_,⟨AK,fun p hp=>Fh p ((hm p).mp hp).1,fun T a b p hp=>(hm _).mpr ⟨Vb T a b p hp,fun y=>((hg _).mp y).2 ((b p hp).mono (Vb T a b))⟩,by lia⟩,rfl⟩,?_⟩
   show(gI fm).length<(gI ks).length
   rw[jQ,jQ]
   lia
def gJ:WS :=
 (b4 (ki (rj (wB (hX (Kb "list") (ae 1))))
 (iq (wC (.bl false)))
 cT)
 (b4 (dE 4 qe)
 (b4 (dE 5 (wC .non))
 (b4 (fS 1 (mr (dN (ae 1)) (gN 6)
 (b4 (ki (D2 (rj (wB (aZ cz (ak (ae 6) (ak (hX w_ (ae 0)) b6))))) (Q7 (wB (ax Ab (ae 5) (wC .non))) (rj (wB (ax UD (ae 5) (ae 6))))))
 (iq (wC (.bl false)))
 cT)
 (b4 (rJ (rp 4) (ae 6) (wC (.bl true)))
 (fS 6 (dE 5 (ae 6)))))))
 (b4 (fS 1 (mr (dN (ae 1)) (gT 2 (bV (gN 7) (bV (gN 8) jz)))
 (ki (rj (wB (aZ aJ (ak (ae 0) (ak (ae 7) (ak (ae 8) (ak (ae 4) b6)))))))
 (iq (wC (.bl false)))
 cT)))
 (fS 3 (fS 2 (iq (ax (B3 false) (nv (ak (ae 2) (ak (ae 3) b6))) (ae 4))))))))))
def cj:gE:=fun ds Q=>∃ (many:Int) (l:List bS) (ps:List P2) (x:P2),ds=[kN many l,.list (ps.map cy),.int x.1,.int x.2]/\0<=many/\ps.length<=10000/\ps.Pairwise Cb/\(∀ y∈ps,fT many y)/\(∀ y∈ps,nK l ps y)/\x∈ps/\Q .sh (.bl true)
theorem oZ (ds Q) (h:cj ds Q):ds.length=["_law_rows_here", "_law_told", "_law_p", "_law_q"].length:=by obtain⟨_,_,_,_,rfl,_⟩:=h;rfl
theorem Hk{a b:P2}(h:Cb a b):dz (iP a) (iP b)=true:=by
 obtain⟨a1,a2⟩:=a
 obtain⟨b1,b2⟩:=b
 have h:a1<b1\/(a1=b1/\a2<b2):=h
 by_cases e:a1=b1
 ·have h2:a2<b2:=by lia
  have ne:a2≠b2:=by lia
  simp[iP,dz,pS,e,ne,h2]
 ·have h2:a1<b1:=by lia
  simp[iP,dz,pS,e,h2]
theorem rT:∀ ds Q,cj ds Q->gJ { nx:=fun _=>Q .sh .non,rt:=Q } (aU 9 ds):=by
 rintro ds Q ⟨many,l,ps,x,rfl,hm,hl,up,hi,hb,hx,h⟩
 have el:(((nI many l).length:Nat):Int)=many:=by rw[lg];lia
 unfold gJ kN
 walk_at "q"
 refine R.F (by decide) ?_
 walk_at "q"
 refine bz _ (fun i ρ=>∃ (ks:List P2) (o6:Option Sl) (dl:D),(B9 (ps.take i) ks/\((i=0/\dl=.non)\/∃ y:P2,ps[i-1]? = some y/\0<i/\dl=.tup [.int y.1,.int y.2]))/\ρ=[some (.sh (.list (nI many l))),some (.sh (.list (ps.map cy))),some (.sh (.int x.1)),some (.sh (.int x.2)),some (.ow true (.dT (gI ks))),some (.sh dl),o6,none,none]) ⟨[],_,_,⟨B9.nil,.inl ⟨rfl,rfl⟩⟩,rfl⟩ ?_ ?_
 ·rintro i y ρ hy ⟨ks,o6,dl,⟨hd,Vc⟩,rfl⟩ N hN
  rw[kQ] at hy
  obtain⟨y,Ph,rfl⟩:=L4.mp hy
  have tk:ps.take (i+1)=ps.take i++[y]:=by rw[CL,Ph];rfl
  have kG:=hd.len
  rw[mG] at kG
  have fin:gI ks=gI ks->(gI ks).length<16777216/\N [some (.sh (.list (nI many l))),some (.sh (.list (ps.map cy))),some (.sh (.int x.1)),some (.sh (.int x.2)),some (.ow true (.dT (kX (gI ks) [.inl y.1,.inl y.2] (.bl true)))),some (.sh (.tup [.int y.1,.int y.2])),some (.sh (.tup [.int y.1,.int y.2])),none,none]:=fun _=>by
   refine⟨by rw[jQ];lia,?_⟩
   have e:=uv ks y
   unfold iP at e
   rw[e]
   exact hN _ ⟨_,_,_,⟨by rw[tk];exact hd.put y,.inr ⟨y,Ph,by lia,rfl⟩⟩,rfl⟩
  rw[show cy y=.tup [.int y.1,.int y.2] from rfl]
  rcases Vc with⟨rfl,rfl⟩|⟨z,hz,sP,rfl⟩
  ·walk_at "q"
   rw[el]
   refine⟨y,many,rfl,hi y (kH Ph),?_⟩
   walk_at "q"
   exact fin rfl
  ·walk_at "q"
   rw[el]
   refine⟨y,many,rfl,hi y (kH Ph),?_⟩
   walk_at "q"
   refine⟨iP z,iP y,rfl,rfl,rfl,?_⟩
   have hzy:Cb z y:=by
    obtain⟨a1,a2⟩:=ic.mp hz
    obtain⟨b1,b2⟩:=ic.mp Ph
    have:=AR.mp up (i-1) i a1 b1 (by lia)
    rwa[a2,b2] at this
   rw[Hk hzy]
   walk_at "q"
   exact fin rfl
 rintro ρ ⟨ks,o6,dl,⟨hd,_⟩,rfl⟩
 rw[cE,AV] at hd
 walk_at "q"
 refine bz _ (fun i ρ=>∃ (o7 o8:Option Sl),ρ=[some (.sh (.list (nI many l))),some (.sh (.list (ps.map cy))),some (.sh (.int x.1)),some (.sh (.int x.2)),some (.ow true (.dT (gI ks))),some (.sh dl),o6,o7,o8]) ⟨_,_,rfl⟩ ?_ ?_
 ·rintro i y ρ hy ⟨o7,o8,rfl⟩ N hN
  obtain⟨p,q,rfl,RQ,tk⟩:=zc hy
  walk_at "q"
  refine⟨many,l,ks,(p,q),rfl,hi _ RQ,fun b hb2=>?_⟩
  have eb:b=true:=hb2.mpr ((nK.congr hd.mem).mpr (hb _ RQ))
  subst eb
  walk_at "q"
  exact hN _ ⟨_,_,rfl⟩
 ·rintro ρ ⟨o7,o8,rfl⟩
  walk_at "q"
  have e1:=ou ks x
  unfold iP at e1
  rw[e1,decide_eq_true ((hd.mem x).mpr hx)]
  exact h
def gY:WS :=
 (b4 (dE 1 (aZ cO (ak (ae 0) b6)))
 (b4 (dE 2 (tf (ak (ax Bh (tf (ak (wC (.int 0)) b6)) (ax eL (ae 0) (wC (.int 0)))) b6)))
 (b4 (dE 3 (aZ aV (ak (ae 1) (ak (ax eL (ae 2) (wC (.int 0))) b6))))
 (b4 (yC (wB (ax AF (ae 3) (ax eL (ae 2) (hX JJ (wC (.int 1))))))
 (yf 2 3 (aZ aV (ak (ae 1) (ak (ae 3) b6)))))
 (rO 2)))))
def Zj(rs:List (List Int)):D:=.list (rs.map AO)
def cB:gE:=fun ds Q=>∃ (many:Int) (steps:List bS),ds=[mD many steps]/\(1<=many/\many<=100)/\fw many steps/\steps.length<=1000/\∀ rest,Chain many steps (zeros many) rest->rest.length<=10000->Q (.ow true) (Zj (zeros many :: rest))
theorem nY (ds Q) (h:cB ds Q):ds.length=["m"].length:=by obtain⟨_,_,rfl,_⟩:=h;rfl
theorem xx(cur:List Int)(pre:List (List Int)):eM ((cur :: pre).map AO) (-1)=some (AO (iZ cur pre)):=by
 have e:(cur :: pre).map AO=((cur :: pre).dropLast.map AO)++[AO (iZ cur pre)]:=by
  conv=>lhs;rw[<- List.dropLast_concat_getLast (show cur :: pre≠[] by simp)]
  rw[y6]
  rfl
 rw[e]
 exact bP' _ _
theorem vA(cur lh:List Int)(pre:List (List Int)):iZ cur (pre++[lh])=lh:=by
 unfold iZ
 rw[List.getLast_cons (by simp),List.getLast_concat]
theorem sV:∀ ds Q,cB ds Q->gY { nx:=fun _=>Q .sh .non,rt:=Q } (aU 4 ds):=by
 rintro ds Q ⟨many,steps,rfl,hm,ay,hl,h⟩
 unfold gY
 have RQ:many*many<=10000:=by
  have:=Int.mul_le_mul hm.2 hm.2 (by lia) (by lia)
  lia
 have e0:aU 4 [mD many steps]=[some (.sh (mD many steps)),none,none,none]:=rfl
 rw[e0]
 walk_at "q"
 refine⟨many,steps,rfl,by lia,ay,hl,?_⟩
 unfold kN
 walk_at "q"
 unfold mD
 walk_at "q"
 refine⟨by lia,?_⟩
 rw[wL]
 refine⟨many,steps,zeros many,rfl,by lia,by simp[zeros],ay,hl,fun r hr=>?_⟩
 walk_at "q"
 refine⟨fun ρ=>∃ (pre:List (List Int)) (cur lh:List Int),uM many cur/\RB many steps cur lh/\(∀ rest,Chain many steps cur rest->Chain many steps (zeros many) (pre++rest))/\iZ (zeros many) pre=cur/\(pre.length:Int)<=cur.sum/\cur.sum<=many*many /\
   ρ=[some (.sh (.tup [.int many,.list (steps.map fi)])),some (.ow true (.list (nI many steps))),some (.ow true (.list ((zeros many :: pre).map AO))),some (.ow true (.list (lh.map .int)))],
  fun ρ=>match ρ with
   |[_,_,some (.ow _ (.list rs)),_]=>20000-rs.length
   |_=>0,⟨[],zeros many,r,su hm.1,hr,fun rest hc=>hc,rfl,?_,?_,rfl⟩,?_⟩
 ·simp[zeros]
 ·have:0<=many*many:=P6 (by lia) (by lia)
  simp[zeros];lia
 rintro ρ ⟨pre,cur,lh,hd,hb,hc,Vc,hp,hs,rfl⟩
 walk_at "q"
 refine⟨_,xx _ _,?_⟩
 rw[Vc]
 unfold AO
 walk_at "q"
 refine⟨wF _ _,wF _ _,?_⟩
 rw[Jt]
 by_cases e:lh=cur
 ·rw[if_neg (by simp[e])]
  rw[e] at hb
  have:=hc [] hb
  rw[oP] at this
  exact h pre this (by lia)
 ·rw[if_pos (by simp[e])]
  have gw':=hb.sum ay hd (by lia) e
  refine⟨qC _,by lia,?_⟩
  refine⟨many,steps,lh,rfl,by lia,(hb.Bb ay).1,ay,hl,fun r2 T_=>?_⟩
  walk_at "q"
  refine⟨⟨pre++[lh],lh,r2,hb.Bb ay,T_,fun rest wm=>?_,vA _ _ _,by simp;lia,gw'.2,by simp[AO]⟩,?_⟩
  ·have:=hc (lh :: rest) ⟨hb,e,wm⟩
   simpa using this
  ·simp
   lia
def b_:WS :=
 (b4 (dE 7 (aZ cD (ak (aZ aH (ak (ae 0) (ak (wC (.int 1)) b6))) b6)))
 (b4 (dE 8 qe)
 (b4 (mr (bY (ax Ea (ae 6) (ax B1 (ae 1) (ax ov (ae 3) (ae 3))))) (gN 9)
 (b4 (dE 10 (aZ aF (ak (ae 0) (ak (ae 9) (ak (wC (.int 0)) (ak (ae 4) b6))))))
 (b4 (dE 11 (aZ aF (ak (ae 0) (ak (ae 9) (ak (wC (.int 1)) (ak (ae 4) b6))))))
 (b4 (dE 12 (ax eL (ae 7) (aZ aF (ak (ae 0) (ak (ae 9) (ak (wC (.int 2)) (ak (hX w_ (ae 7)) b6)))))))
 (b4 (dE 13 (aZ aF (ak (ae 0) (ak (ae 9) (ak (wC (.int 3)) (ak (wC (.int 3)) b6))))))
 (mr (bY (ae 3)) (gN 14)
 (mr (bY (ae 3)) (gN 15)
 (ki (D2 (wB (ax kL (ae 13) (wC (.int 2)))) (wB (ax kL (ae 15) (ax vt (ax fo (ae 13) (ae 14)) (ae 3)))))
 (rJ (rp 8) (nv (ak (ax fo (ae 10) (ax ov (ae 4) (ae 14))) (ak (ae 12) (ak (ax fo (ae 11) (ax ov (ae 4) (ae 15))) b6)))) (wC (.bl true)))
 cT))))))))
 (b4 (mr (bY (ax Q8 (ax ov (ae 3) (ae 4)) (wC (.int 1)))) (gN 9)
 (ki (Q7 (wB (ax kL (aZ az (ak (ae 2) (ak (wC (.int 4)) (ak (wC (.int 3)) b6)))) (wC (.int 1)))) (wB (ax Uk (ax vt (ax fo (ae 9) (wC (.int 1))) (ae 4)) (wC (.int 0)))))
 (rJ (rp 8) (nv (ak (ae 9) (ak (ax eL (ae 7) (wC (.int 0))) (ak (ax fo (ae 9) (wC (.int 1))) b6)))) (wC (.bl true)))
 cT))
 (iq (nv (ak (ax ov (ae 3) (ae 4)) (ak (hX pA (ae 8)) b6))))))))
def b8:WS :=
 (b4 (dE 6 (aZ az (ak (ae 2) (ak (wC (.int 3)) (ak (ax ov (wC (.int 3)) (ae 4)) b6)))))
 (b4 (ki (wB (ax kL (ae 5) (wC (.int 2))))
 (fS 1 (dE 6 (ae 1)))
 cT)
 b_))
def dX:WS :=
 (b4 (dE 2 (aZ aH (ak (ae 0) (ak (wC (.int 0)) b6))))
 (b4 (dE 3 (ax fo (wC (.int 1)) (ax B1 (aZ az (ak (ae 2) (ak (wC (.int 0)) (ak (wC (.int 3)) b6)))) (wC (.int 2)))))
 (b4 (dE 4 (ax fo (wC (.int 1)) (aZ az (ak (ae 2) (ak (wC (.int 1)) (ak (wC (.int 8)) b6))))))
 (b4 (dE 5 (aZ az (ak (ae 2) (ak (wC (.int 2)) (ak (wC (.int 8)) b6)))))
 (b4 (ki (wB (ax kL (ae 5) (wC (.int 1))))
 (dE 4 (ax B1 (wC (.int 20)) (ae 3)))
 cT)
 (b4 (ki (wB (ax kL (ae 5) (wC (.int 3))))
 (dE 4 (ax fo (wC (.int 1)) (aZ az (ak (ae 2) (ak (wC (.int 5)) (ak (ax B1 (wC (.int 20)) (ae 3)) b6))))))
 cT)
 b8))))))
def bj:gE:=fun ds Q=>∃ (ns:List Int) (most:Int),ds=[.list (ns.map .int),.int most]/\(1<=most/\most<=100)/\∀ (many:Int) (steps:List bS),1<=many->many<=20->fw many steps->steps.length<=500->steps.Pairwise (fun a b=>cc a b=true)->Q (.ow true) (mD many steps)
theorem jA (ds Q) (h:bj ds Q):ds.length=["_law_script", "_law_most"].length:=by obtain⟨_,_,rfl,_⟩:=h;rfl
theorem fD{Q:Md->D->Prop}{ns:List Int}{most shape copies states size many:Int}(hc:copies=1\/copies=2)(hs:1<=states)(pe:copies*states<=20)(RQ:0<=many/\many<=1000)(FI:1<=most/\most<=100)
  (h:∀ (many:Int) (steps:List bS),1<=many->many<=20->fw many steps->steps.length<=500->steps.Pairwise (fun a b=>cc a b=true)->Q (.ow true) (mD many steps)) :
  b_ { nx:=fun _=>Q .sh .non,rt:=Q } [some (.sh (.list (ns.map .int))),some (.sh (.int most)),some (.sh (.int shape)),some (.sh (.int copies)),some (.sh (.int states)),some (.sh (.int size)),some (.sh (.int many)),none,none,none,none,none,none,none,none,none]:=by
 have kC:states<=20:=by rcases hc with rfl|rfl<;>lia
 unfold b_
 walk_at "q"
 refine⟨ns,1,rfl,by decide,?_⟩
 generalize ns.getD _ 0=c1
 walk_at "q"
 refine⟨c1,rfl,fun names n1 n7 hd=>?_⟩
 walk_at "q"
 have HK:copies*copies=1\/copies*copies=4:=by rcases hc with rfl|rfl<;>decide
 refine⟨bB (by lia) (by lia),by lia,?_⟩
 have gx':∃ r:Int,(if most / (copies*copies)<many then most / (copies*copies) else many)=r/\0<=r/\r<=100:=by
  refine⟨_,rfl,?_⟩
  have:0<=most / (copies*copies)/\most / (copies*copies)<=100:=by rcases HK with e|e<;>rw[e]<;>lia
  split<;>lia
 obtain⟨r,er,r0,r1⟩:=gx'
 rw[er]
 refine⟨by lia,by lia,?_⟩
 refine bz _ (fun i ρ=>∃ (kvs:Kn) (o9 mz mB Ct Pj CB vF:Option Sl),tJ (D5 (copies*states)) kvs/\kvs.length<=4*i/\ρ=[some (.sh (.list (ns.map .int))),some (.sh (.int most)),some (.sh (.int shape)),some (.sh (.int copies)),some (.sh (.int states)),some (.sh (.int size)),some (.sh (.int many)),some (.ow true (.list (names.map .str))),some (.ow true (.dT kvs)),o9,mz,mB,Ct,Pj,CB,vF]) ⟨[],_,_,_,_,_,_,_,tJ.nil,bT _,rfl⟩ ?_ ?_
 ·rintro i x ρ hx ⟨kvs,o9,mz,mB,Ct,Pj,CB,vF,hk,kG,rfl⟩ N hN
  obtain⟨hi,rfl⟩:=bO hx
  walk_at "q"
  refine⟨ns,_,0,states,rfl,by lia,by decide,by lia,fun one a0 a1=>?_⟩
  walk_at "q"
  refine⟨ns,_,1,states,rfl,by lia,by decide,by lia,fun two b0 b1=>?_⟩
  walk_at "q"
  refine⟨ns,_,2,(names.length:Nat),rfl,by lia,by decide,by lia,fun w w0 w1=>?_⟩
  obtain⟨n,hn,en⟩:=v_ (names:=names) w0 w1
  walk_at "q"
  refine⟨_,en,?_⟩
  walk_at "q"
  refine⟨ns,_,3,3,rfl,by lia,by decide,by decide,fun way y0 y1=>?_⟩
  walk_at "q"
  refine⟨by lia,by lia,?_⟩
  refine bz _ (fun j ρ=>∃ (kvs:Kn) (CB vF:Option Sl),tJ (D5 (copies*states)) kvs/\kvs.length<=4*i+2*j/\ρ=[some (.sh (.list (ns.map .int))),some (.sh (.int most)),some (.sh (.int shape)),some (.sh (.int copies)),some (.sh (.int states)),some (.sh (.int size)),some (.sh (.int many)),some (.ow true (.list (names.map .str))),some (.ow true (.dT kvs)),some (.sh (.int (0+(i:Nat)))),some (.sh (.int one)),some (.sh (.int two)),some (.sh (.str n)),some (.sh (.int way)),CB,vF]) ⟨kvs,_,_,hk,by lia,rfl⟩ ?_ ?_
  ·clear hk kG
   rintro j x ρ hx ⟨kvs,CB,vF,hk,kG,rfl⟩ N hN
   obtain⟨hj,rfl⟩:=bO hx
   walk_at "q"
   refine⟨by lia,by lia,?_⟩
   refine bz _ (fun l ρ=>∃ (kvs:Kn) (vF:Option Sl),tJ (D5 (copies*states)) kvs/\kvs.length<=4*i+2*j+l/\ρ=[some (.sh (.list (ns.map .int))),some (.sh (.int most)),some (.sh (.int shape)),some (.sh (.int copies)),some (.sh (.int states)),some (.sh (.int size)),some (.sh (.int many)),some (.ow true (.list (names.map .str))),some (.ow true (.dT kvs)),some (.sh (.int (0+(i:Nat)))),some (.sh (.int one)),some (.sh (.int two)),some (.sh (.str n)),some (.sh (.int way)),some (.sh (.int (0+(j:Nat)))),vF]) ⟨kvs,_,hk,by lia,rfl⟩ ?_ ?_
   ·clear hk kG
    rintro l x ρ hx ⟨kvs,vF,hk,kG,rfl⟩ N hN
    obtain⟨hl,rfl⟩:=bO hx
    have go:zC states (0+(j:Nat))/\zC states (0+(l:Nat))/\kvs.length<16777216/\N [some (.sh (.list (ns.map .int))),some (.sh (.int most)),some (.sh (.int shape)),some (.sh (.int copies)),some (.sh (.int states)),some (.sh (.int size)),some (.sh (.int many)),some (.ow true (.list (names.map .str))),some (.ow true (.dT (kX kvs (iO (one+states*(0+(j:Nat)),n,two+states*(0+(l:Nat)))) (.bl true)))),some (.sh (.int (0+(i:Nat)))),some (.sh (.int one)),some (.sh (.int two)),some (.sh (.str n)),some (.sh (.int way)),some (.sh (.int (0+(j:Nat)))),some (.sh (.int (0+(l:Nat))))]:=by
     have c1:=xQ (one:=one) (states:=states) (j:=0+(j:Nat)) (copies:=copies) a0 a1 (by lia) (by lia)
     have c2:=xQ (one:=two) (states:=states) (j:=0+(l:Nat)) (copies:=copies) b0 b1 (by lia) (by lia)
     refine⟨bB (by lia) (by lia),bB (by lia) (by lia),by lia,?_⟩
     have:=jO kvs (iO (one+states*(0+(j:Nat)),n,two+states*(0+(l:Nat)))) (D.bl true)
     exact hN _ ⟨_,_,hk.put (s:=(one+states*(0+(j:Nat)),n,two+states*(0+(l:Nat)))) ⟨c1.1,c1.2,hd n hn,c2.1,c2.2⟩,by omega,rfl⟩
    walk_at "q"
    refine R.D (fun e=>?_) fun e=>?_
    ·walk_at "q"
     exact go
    ·walk_at "q"
     refine⟨by lia,R.D (fun e=>?_) fun e=>?_⟩
     ·walk_at "q"
      exact go
     ·walk_at "q"
      exact hN _ ⟨kvs,_,hk,by lia,rfl⟩
   ·clear hk kG
    rintro ρ ⟨kvs,vF,hk,kG,rfl⟩
    rw[bM] at kG
    exact hN _ ⟨kvs,_,_,hk,by lia,rfl⟩
  ·clear hk kG
   rintro ρ ⟨kvs,CB,vF,hk,kG,rfl⟩
   rw[bM] at kG
   exact hN _ ⟨kvs,_,_,_,_,_,_,_,hk,by lia,rfl⟩
 ·rintro ρ ⟨kvs,o9,mz,mB,Ct,Pj,CB,vF,hk,kG,rfl⟩
  rw[bM] at kG
  walk_at "q"
  have iS':1<=copies*states:=by rcases hc with rfl|rfl<;>lia
  refine⟨bB (by lia) (by lia),by lia,by lia,?_⟩
  refine bz _ (fun i ρ=>∃ (kvs:Kn) (o9:Option Sl),tJ (D5 (copies*states)) kvs/\kvs.length<=400+i/\ρ=[some (.sh (.list (ns.map .int))),some (.sh (.int most)),some (.sh (.int shape)),some (.sh (.int copies)),some (.sh (.int states)),some (.sh (.int size)),some (.sh (.int many)),some (.ow true (.list (names.map .str))),some (.ow true (.dT kvs)),o9,mz,mB,Ct,Pj,CB,vF]) ⟨kvs,_,hk,by lia,rfl⟩ ?_ ?_
  ·clear hk kG
   rintro i x ρ hx ⟨kvs,o9,hk,kG,rfl⟩ N hN
   obtain⟨hi,rfl⟩:=bO hx
   walk_at "q"
   refine⟨_,4,3,rfl,by decide,by decide,fun q q0 q1=>?_⟩
   walk_at "q"
   refine R.D (fun e=>?_) fun e=>?_
   ·walk_at "q"
    refine⟨by lia,R.D (fun e2=>?_) fun e2=>?_⟩
    ·obtain⟨n,hn,en⟩:=v_ (names:=names) (i:=0) (by decide) (by lia)
     walk_at "q"
     refine⟨_,en,?_⟩
     walk_at "q"
     refine⟨by lia,?_⟩
     have:=jO kvs (iO (0+(i:Nat),n,0+(i:Nat)+1)) (D.bl true)
     exact hN _ ⟨_,_,hk.put (s:=(0+(i:Nat),n,0+(i:Nat)+1)) ⟨(by lia : (0:Int)<=0+(i:Nat)),(by lia : 0+((i:Nat):Int)<copies*states),hd n hn,(by lia : (0:Int)<=0+(i:Nat)+1),(by lia : 0+((i:Nat):Int)+1<copies*states)⟩,by lia,rfl⟩
    ·walk_at "q"
     exact hN _ ⟨kvs,_,hk,by lia,rfl⟩
   ·walk_at "q"
    exact hN _ ⟨kvs,_,hk,by lia,rfl⟩
  ·clear hk kG
   rintro ρ ⟨kvs,o9,hk,kG,rfl⟩
   rw[bM] at kG
   walk_at "q"
   refine⟨bB (by lia) (by lia),?_⟩
   refine hk.FQ fun steps pm hP pw hlen=>?_
   rw[uZ]
   exact h _ steps (by rcases hc with rfl|rfl<;>lia) pe hP (by lia) pw
theorem cV{Q:Md->D->Prop}{ns:List Int}{most shape copies states size:Int}(hc:copies=1\/copies=2)(hs:1<=states)(pe:copies*states<=20)(FI:1<=most/\most<=100)
  (h:∀ (many:Int) (steps:List bS),1<=many->many<=20->fw many steps->steps.length<=500->steps.Pairwise (fun a b=>cc a b=true)->Q (.ow true) (mD many steps)) :
  b8 { nx:=fun _=>Q .sh .non,rt:=Q } [some (.sh (.list (ns.map .int))),some (.sh (.int most)),some (.sh (.int shape)),some (.sh (.int copies)),some (.sh (.int states)),some (.sh (.int size)),none,none,none,none,none,none,none,none,none,none]:=by
 have kC:states<=20:=by rcases hc with rfl|rfl<;>lia
 obtain⟨w8,e8⟩:∃ w8,w8=b_:=⟨_,rfl⟩
 unfold b8
 rw[<- e8]
 walk_at "q"
 refine⟨iV (by lia) (by lia),_,3,_,rfl,by decide,by lia,fun many m0 m1=>?_⟩
 walk_at "q"
 refine R.D (fun e=>?_) fun e=>?_
 ·walk_at "q"
  rw[e8]
  exact fD hc hs pe ⟨by lia,by lia⟩ FI h
 ·walk_at "q"
  rw[e8]
  exact fD hc hs pe ⟨by lia,by lia⟩ FI h
theorem lW:∀ ds Q,bj ds Q->dX { nx:=fun _=>Q .sh .non,rt:=Q } (aU 16 ds):=by
 rintro ds Q ⟨ns,most,rfl,FI,h⟩
 obtain⟨w6,e6⟩:∃ w6,w6=b8:=⟨_,rfl⟩
 unfold dX
 rw[<- e6]
 walk_at "q"
 refine⟨ns,0,rfl,by decide,?_⟩
 generalize ns.getD _ 0=shape
 walk_at "q"
 refine⟨shape,0,3,rfl,by decide,by decide,fun c c0 c1=>?_⟩
 walk_at "q"
 refine⟨shape,1,8,rfl,by decide,by decide,fun st s0 s1=>?_⟩
 walk_at "q"
 refine⟨shape,2,8,rfl,by decide,by decide,fun size z0 z1=>?_⟩
 walk_at "q"
 have hc:1+c / 2=1\/1+c / 2=2:=by lia
 generalize 1+c / 2=copies at hc ⊢
 refine R.D (fun e=>?_) fun e=>?_
 ·walk_at "q"
  refine⟨by lia,?_⟩
  refine R.F (by simp;lia) ?_
  walk_at "q"
  rw[e6]
  exact cV hc (by rcases hc with rfl|rfl<;>lia) (by rcases hc with rfl|rfl<;>lia) FI h
 ·walk_at "q"
  refine R.D (fun e=>?_) fun e=>?_
  ·walk_at "q"
   refine⟨by lia,?_⟩
   refine⟨shape,5,_,rfl,by decide,by rcases hc with rfl|rfl<;>lia,fun q q0 q1=>?_⟩
   walk_at "q"
   rw[e6]
   exact cV hc (by lia) (by rcases hc with rfl|rfl<;>lia) FI h
  ·walk_at "q"
   rw[e6]
   exact cV hc (by lia) (by rcases hc with rfl|rfl<;>lia) FI h
def iQ:WS :=
 (iq (RJ (aZ cB (ak (ae 0) b6)) (hX JJ (wC (.int 1)))))
def bf:gE:=fun ds Q=>∃ (many:Int) (steps:List bS),ds=[mD many steps]/\(1<=many/\many<=100)/\fw many steps/\steps.length<=1000/\∀ k,Kinds many steps k->Q (.ow true) (.list (k.map .int))
theorem qJ (ds Q) (h:bf ds Q):ds.length=["m"].length:=by obtain⟨_,_,rfl,_⟩:=h;rfl
theorem vq:∀ ds Q,bf ds Q->iQ { nx:=fun _=>Q .sh .non,rt:=Q } (aU 1 ds):=by
 rintro ds Q ⟨many,steps,rfl,hm,ay,hl,h⟩
 unfold iQ
 rw[show aU 1 [mD many steps]=[some (.sh (mD many steps))] from rfl]
 walk_at "q"
 refine⟨many,steps,rfl,hm,ay,hl,fun rest hc hr=>?_⟩
 unfold Zj
 walk_at "q"
 refine⟨_,xx _ _,?_⟩
 unfold AO
 walk_at "q"
 exact h _ ⟨rest,hc,rfl⟩
def sO:WS :=
 (b4 (pH aQ (ak (ae 0) (ak (ae 1) b6)))
 (b4 (pH aQ (ak (ae 0) (ak (ae 2) b6)))
 (b4 (dE 3 (aZ bf (ak (ae 0) b6)))
 (iq (ax kL (ax eL (ae 3) (ae 1)) (ax eL (ae 3) (ae 2)))))))
def fu:gE:=fun ds Q=>∃ (many:Int) (l:List bS) (p q:Int),ds=[mD many l,.int p,.int q]/\(1<=many/\many<=100)/\fw many l/\l.length<=1000/\(fT many (p,q)->∀ k,Kinds many l k->Q .sh (.bl (decide (rk k p=rk k q))))/\(¬ fT many (p,q)->Q (.ow false) (.str "NoState"))
theorem yH (ds Q) (h:fu ds Q):ds.length=["m", "p", "q"].length:=by obtain⟨_,_,_,_,rfl,_⟩:=h;rfl
theorem Ej:∀ ds Q,fu ds Q->sO { nx:=fun _=>Q .sh .non,rt:=Q } (aU 4 ds):=by
 rintro ds Q ⟨many,l,p,q,rfl,hm,ay,hl,h1,h2⟩
 unfold sO
 rw[show aU 4 [mD many l,.int p,.int q]=[some (.sh (mD many l)),some (.sh (.int p)),some (.sh (.int q)),none] from rfl]
 walk_at "q"
 refine⟨many,l,p,rfl,fun a=>?_,fun a=>?_⟩
 ·walk_at "q"
  refine⟨many,l,q,rfl,fun b=>?_,fun b=>?_⟩
  ·walk_at "q"
   refine⟨many,l,rfl,hm,ay,hl,fun k hk=>?_⟩
   walk_at "q"
   refine⟨_,uP hk.rb.len a.1 a.2,?_⟩
   walk_at "q"
   refine⟨_,uP hk.rb.len b.1 b.2,?_⟩
   walk_at "q"
   exact h1 ⟨a,b⟩ k hk
  ·walk_at "q"
   exact h2 fun z=>b z.2
 ·walk_at "q"
  exact h2 fun z=>a z.1
def iW:WS :=
 (b4 (Et fu (ak (ae 0) (ak (ae 1) (ak (ae 2) b6)))
 (iq (wC .non))
 cT)
 (b4 (dE 3 (aZ bf (ak (ae 0) b6)))
 (b4 (dE 4 (tf b6))
 (b4 (mr (bY (ax eL (ae 0) (wC (.int 0)))) (gN 5)
 (fS 5 (UR (rp 4) (eN (bY (ax eL (ae 0) (wC (.int 0)))) (gN 0) (wB (ax kL (ax eL (ae 2) (ae 1)) (ax eL (ae 2) (ae 0)))) (nv (ak (ae 1) (ak (ae 0) b6))) 1 [5,3]))))
 (rO 4)))))
def bA:gE:=fun ds Q=>∃ (many:Int) (l:List bS) (p q:Int),ds=[mD many l,.int p,.int q]/\(1<=many/\many<=100)/\fw many l/\l.length<=1000/\(fT many (p,q)->∀ k,Kinds many l k->(rk k p≠rk k q->Q .sh .non)/\(rk k p=rk k q->∀ ps,FG many k ps->ps.length<=10000->Q (.ow true) (.list (ps.map cy))))/\(¬ fT many (p,q)->Q (.ow false) (.str "NoState"))
theorem qQ (ds Q) (h:bA ds Q):ds.length=["m", "p", "q"].length:=by obtain⟨_,_,_,_,rfl,_⟩:=h;rfl
def Zk(k:List Int)(a:Int)(x:D):Bool:=match x with
 |.int b=>decide (rk k a=rk k b)
 |_=>false
def Zm(a:Int)(x:D):D:=.tup [.int a,x]
theorem HR(k:List Int)(a:Int)(n:Nat):∃ os:List P2,((mj 0 n).filter (Zk k a)).map (Zm a)=os.map cy/\os.Pairwise Cb/\(∀ x,x∈os↔x.1=a/\(0<=x.2/\x.2<n)/\rk k a=rk k x.2)/\os.length<=n:=by
 refine⟨((List.range n).filter fun i:Nat=>decide (rk k a=rk k (0+(i:Nat)))).map fun i:Nat=>((a,0+((i:Nat):Int)):P2),?_,?_,fun x=>?_,?_⟩
 ·unfold mj
  rw[List.filter_map,iA,iA]
  rfl
 ·rw[qk]
  refine(List.pairwise_lt_range.filter _).imp fun {i j} h=>.inr ⟨rfl,?_⟩
  show(0:Int)+(i:Nat)<0+(j:Nat)
  lia
 ·rw[df]
  constructor
  ·rintro⟨i,hi,rfl⟩
   obtain⟨h1,h2⟩:=vT.mp hi
   have h1:=mI.mp h1
   exact⟨rfl,⟨(by lia : (0:Int)<=0+(i:Nat)),(by lia : (0:Int)+(i:Nat)<n)⟩,of_decide_eq_true h2⟩
  ·rintro⟨h1,h2,h3⟩
   obtain⟨c,d⟩:=x
   have h1:c=a:=h1
   have h2:0<=d/\d<n:=h2
   subst h1
   refine⟨d.toNat,vT.mpr ⟨mI.mpr (by lia),decide_eq_true ?_⟩,?_⟩
   ·rw[tT h2.1,Int.zero_add]
    exact h3
   ·rw[tT h2.1,Int.zero_add]
 ·rw[cE]
  exact iS (List.length_filter_le _ _) (by rw[PD];exact bT _)
theorem vz:∀ ds Q,bA ds Q->iW { nx:=fun _=>Q .sh .non,rt:=Q } (aU 6 ds):=by
 rintro ds Q ⟨many,l,p,q,rfl,hm,ay,hl,h1,h2⟩
 unfold iW
 rw[show aU 6 [mD many l,.int p,.int q]=[some (.sh (mD many l)),some (.sh (.int p)),some (.sh (.int q)),none,none,none] from rfl]
 walk_at "q"
 refine⟨many,l,p,q,rfl,hm,ay,hl,fun hx k hk=>?_,fun hx=>?_⟩
 ·walk_at "q"
  by_cases e:rk k p=rk k q
  ·refine R.T (decide_eq_true e) ?_
   walk_at "q"
   refine⟨many,l,rfl,hm,ay,hl,fun k2 vk=>?_⟩
   rw[vk.uniq ay hk]
   unfold mD
   walk_at "q"
   refine⟨by lia,by lia,?_⟩
   refine bz _ (fun i ρ=>∃ (ps:List P2) (o5:Option Sl),(ps.Pairwise Cb/\(∀ x,x∈ps↔(fT many x/\rk k x.1=rk k x.2)/\x.1<i)/\ps.length<=100*i)/\ρ=[some (.sh (.tup [.int many,.list (l.map fi)])),some (.sh (.int p)),some (.sh (.int q)),some (.ow true (.list (k.map .int))),some (.ow true (.list (ps.map cy))),o5]) ⟨[],_,⟨.nil,fun x=>⟨fun z=>(nomatch z),fun z=>absurd z.2 (by have:=z.1.1.1.1;lia)⟩,bT _⟩,rfl⟩ ?_ ?_
   ·rintro i x ρ OZ ⟨ps,o5,⟨up,mem,pl⟩,rfl⟩ N hN
    obtain⟨hi,rfl⟩:=bO OZ
    walk_at "q"
    refine⟨by lia,by lia,?_⟩
    refine cZ (Zk k (0+(i:Nat))) (Zm (0+(i:Nat))) (fun ρ=>∃ o,ρ=[o,some (.sh (.int (0+(i:Nat)))),some (.sh (.list (k.map .int)))]) _ _ _ ⟨_,rfl⟩ ?_ ?_
    ·rintro y hy ρ ⟨o,rfl⟩ N1 N2 n1 n2
     obtain⟨j,hj,rfl⟩:=df.mp hy
     have hj:=mI.mp hj
     walk_at "q"
     refine⟨_,uP hk.rb.len (by lia) (by lia),?_⟩
     walk_at "q"
     refine⟨_,uP hk.rb.len (by lia) (by lia),?_⟩
     walk_at "q"
     by_cases en:rk k (0+(i:Nat))=rk k (0+(j:Nat))
     ·rw[if_pos (decide_eq_true en)]
      exact⟨.inl rfl,n2 _ ⟨_,rfl⟩ (decide_eq_true en)⟩
     ·rw[if_neg (by rw[decide_eq_true_iff];exact en)]
      exact n1 _ ⟨_,rfl⟩ (decide_eq_false en)
    obtain⟨os,eo,oup,Zn,ol⟩:=HR k (0+(i:Nat)) many.toNat
    rw[eo]
    refine⟨rZ _,by simp;lia,hN _ ⟨ps++os,_,⟨?_,fun x=>?_,by rw[qh];lia⟩,by rw[y6]⟩⟩
    ·refine FT.mpr ⟨up,oup,fun a ha b hb=>.inl ?_⟩
     have h3:=((mem a).mp ha).2
     have h4:=((Zn b).mp hb).1
     lia
    ·rw[dP,mem,Zn]
     constructor
     ·rintro(⟨z,y⟩|⟨z1,z2,z3⟩)
      ·exact⟨z,by lia⟩
      ·exact⟨⟨⟨by lia,by lia⟩,by rw[z1];exact z3⟩,by lia⟩
     ·rintro⟨⟨z,y⟩,w⟩
      by_cases c:x.1<i
      ·exact .inl ⟨⟨z,y⟩,c⟩
      ·have c:x.1=0+(i:Nat):=by lia
       have z2:=z.2
       exact .inr ⟨c,by lia,by rw[<- c];exact y⟩
   ·rintro ρ ⟨ps,o5,⟨up,mem,pl⟩,rfl⟩
    rw[bM] at mem pl
    walk_at "q"
    exact(h1 hx k hk).2 e ps ⟨up,fun x=>(mem x).trans ⟨fun z=>z.1,fun z=>⟨z,by have:=z.1.1.2;lia⟩⟩⟩ (by lia)
  ·refine R.F (decide_eq_false e) ?_
   walk_at "q"
   exact(h1 hx k hk).1 e
 ·walk_at "q"
  exact h2 hx
def dZ:WS :=
 (b4 (dE 3 (wC .non))
 (C_ (pH bA (ak (ae 0) (ak (ae 1) (ak (ae 2) b6)))) (fun a=>[none,none,none,some (.xc a),none]) (fun a n=>(iq (UI 3 a (decide (n = "NoState")))))))
def aY:gE:=fun ds Q=>∃ (many:Int) (l:List bS) (p q:Int),ds=[mD many l,.int p,.int q]/\(1<=many/\many<=100)/\fw many l/\l.length<=1000/\¬ fT many (p,q)/\Q .sh (.bl true)
theorem jF (ds Q) (h:aY ds Q):ds.length=["_law_m", "_law_p", "_law_q"].length:=by obtain⟨_,_,_,_,rfl,_⟩:=h;rfl
theorem mJ:∀ ds Q,aY ds Q->dZ { nx:=fun _=>Q .sh .non,rt:=Q } (aU 5 ds):=by
 rintro ds Q ⟨many,l,p,q,rfl,hm,ay,hl,hx,h⟩
 unfold dZ
 walk_at "q"
 refine⟨many,l,p,q,rfl,hm,ay,hl,fun z=>absurd z hx,fun _=>?_⟩
 walk_at "q"
 exact fun _=>h
def jP:WS :=
 (ki (wB (ax AF (tQ bA (ak (ae 7) (ak (ae 8) (ak (ae 9) b6)))) (ae 11)))
 (iq (wC (.bl false)))
 cT)
def jJ:WS :=
 (b4 (fS 8 (fS 1 (B4 (rp 10) (nv (ak (ae 1) (ak (ae 8) b6))))))
 (b4 (fS 1 (fS 9 (Ga (rp 10) (wC (.int 0)) (nv (ak (ae 9) (ak (ae 1) b6))))))
 jP))
def jN:WS :=
 (b4 (dE 11 (hX rN (ae 10)))
 jJ)
def nT:WS :=
 (b4 (fS 1 (mr (dN (tf (ak (hX JJ (wC (.int 1))) (ak (ae 1) (ak (ax fo (ae 1) (aZ aF (ak (ae 0) (ak (wC (.int 82)) (ak (wC (.int 3)) (ak (ax Q9 (wC (.int 10)) (wC (.int 8))) b6)))))) b6))))) (gN 12)
 (ki (D2 (rj (wB (aZ aY (ak (ae 7) (ak (ae 12) (ak (ae 8) b6)))))) (rj (wB (aZ aY (ak (ae 7) (ak (ae 9) (ak (ae 12) b6)))))))
 (iq (wC (.bl false)))
 cT)))
 (fS 2 (fS 1 (iq (ax kL (ae 7) (nv (ak (ae 1) (ak (ae 2) b6))))))))
def nW:WS :=
 (b4 (fS 1 (dE 7 (nv (ak (ae 1) (ak (hX rN (ae 2)) b6)))))
 (b4 (fS 5 (mr (dN (ae 5)) (gT 2 (bV (gN 8) (bV (gN 9) jz)))
 (b4 (dE 10 (tQ bA (ak (ae 7) (ak (ae 8) (ak (ae 9) b6)))))
 (fS 9 (fS 8 (ki (wB (ax (O3 true) (nv (ak (ae 8) (ak (ae 9) b6))) (ae 4)))
 (ki (wB (ax Ab (ae 10) (wC .non)))
 (iq (wC (.bl false)))
 cT)
 (b4 (ki (rj (wB (aZ cj (ak (ae 3) (ak (ae 10) (ak (ae 8) (ak (ae 9) b6)))))))
 (iq (wC (.bl false)))
 cT)
 jN)))))))
 nT))
def pD:WS :=
 (b4 (dE 5 (eN (bY (wC (.int 2))) (gN 0) tj (ax eL (ae 1) (aZ aF (ak (ae 2) (ak (ax fo (wC (.int 80)) (ae 0)) (ak (wC (.int 2)) (ak (hX w_ (ae 1)) b6)))))) 1 [4,0]))
 (b4 (mr (bY (wC (.int 6))) (gN 6)
 (B4 (rp 5) (nv (ak (aZ aF (ak (ae 0) (ak (ax fo (wC (.int 90)) (ae 6)) (ak (wC (.int 0)) (ak (ae 1) b6))))) (ak (aZ aF (ak (ae 0) (ak (ax fo (wC (.int 90)) (ae 6)) (ak (wC (.int 1)) (ak (ae 1) b6))))) b6)))))
 nW))
def Fd:WS :=
 (b4 (DR 1 2 (UO (aZ bj (ak (ae 0) (ak (wC (.int 100)) b6)))))
 (b4 (dE 3 (aZ cC (ak (ae 1) (ak (ae 2) b6))))
 (b4 (dE 4 (aZ bJ (ak (ae 3) (ak (eN (bY (ax ov (ae 1) (ae 1))) (gN 0) tj (nv (ak (ax B1 (ae 0) (ae 1)) (ak (ax vt (ae 0) (ae 1)) b6))) 1 [1]) b6))))
 pD)))
abbrev Lc:gE:=Yo
theorem Dk (ds Q) (h:Lc ds Q):ds.length=["_law_script"].length:=by obtain⟨_,rfl,_⟩:=h;rfl
theorem JT{l:List P2}{i:Int}(h0:0<=i)(h1:i<l.length):∃ x,x∈l/\eM (l.map cy) i=some (cy x):=by
 have hn:i.toNat<l.length:=by lia
 refine⟨l[i.toNat],Dx hn,?_⟩
 have:=EJ (xs:=l.map cy) (j:=i.toNat) (v:=cy l[i.toNat]) (by simp[hn])
 rwa[tT h0] at this
theorem vO(x:P2):(cy x).nb=true:=by simp[cy,D.nb,pT]
theorem Cy{x y:P2}(h:cy x=cy y):x=y:=by
 simp only[cy,D.tup.injEq,List.cons.injEq,D.int.injEq] at h
 exact Prod.ext h.1 h.2.1
theorem Ce(l:List P2)(x:P2):vE (l.map cy) (cy x)=decide (x∈l):=by
 unfold vE
 rw[List.any_map,wa,Dp,decide_eq_true_iff]
 constructor
 ·rintro⟨y,hy,e⟩
  have e:fF (cy y) (cy x)=true:=e
  rw[kY _ _ (vO y) (vO x)] at e
  rwa[<- Cy e]
 ·exact fun hx=>⟨x,hx,eq_self (vO x)⟩
theorem zp{N B:L2.Q.Env->Prop}{Q:Md->D->Prop}{ns:List Int}{many p q:Int}{steps:List bS}{k:List Int}{ps:List P2}{o3 o4 o5 o6 mz:Option Sl}(m1:1<=many)(m2:many<=20)(ay:fw many steps)(hl:steps.length<=1000)(tN:fT many (p,q))(hk:Kinds many steps k)(e:rk k p=rk k q)(ht:FG many k ps)(Lv:ps.length<=10000)(yA:0<ps.length)
  (h:∀ mz mB,N [some (.sh (.list (ns.map .int))),some (.sh (.int many)),some (.sh (.list (steps.map fi))),o3,o4,o5,o6,some (.ow true (.tup [.int many,.list (steps.map fi)])),some (.sh (.int p)),some (.sh (.int q)),mz,mB,none]):jP { nx:=N,ct:=N,bk:=B,rt:=Q } [some (.sh (.list (ns.map .int))),some (.sh (.int many)),some (.sh (.list (steps.map fi))),o3,o4,o5,o6,some (.ow true (.tup [.int many,.list (steps.map fi)])),some (.sh (.int p)),some (.sh (.int q)),mz,some (.ow true (.list (ps.map cy))),none]:=by
 unfold jP
 walk_at "q"
 refine⟨many,steps,p,q,rfl,by lia,ay,hl,fun _ k2 vk=>⟨fun ne=>?_,fun e2 ps2 Zo _=>?_⟩,fun z=>absurd tN z⟩
 ·rw[vk.uniq ay hk] at ne
  exact absurd e ne
 ·rw[vk.uniq ay hk] at Zo
  rw[Zo.uniq ht]
  walk_at "q"
  refine⟨xR _ 10,xR _ 10,R.F (by rw[Ke];rfl) ?_⟩
  walk_at "q"
  exact h _ _
theorem z8{N B:L2.Q.Env->Prop}{Q:Md->D->Prop}{ns:List Int}{many p q:Int}{steps:List bS}{k:List Int}{ps:List P2}{o3 o4 o5 o6:Option Sl}(m1:1<=many)(m2:many<=20)(ay:fw many steps)(hl:steps.length<=1000)(tN:fT many (p,q))(hk:Kinds many steps k)(e:rk k p=rk k q)(ht:FG many k ps)(Lv:ps.length<=10000)(yA:0<ps.length)
  (h:∀ mz mB,N [some (.sh (.list (ns.map .int))),some (.sh (.int many)),some (.sh (.list (steps.map fi))),o3,o4,o5,o6,some (.ow true (.tup [.int many,.list (steps.map fi)])),some (.sh (.int p)),some (.sh (.int q)),mz,mB,none]):jJ { nx:=N,ct:=N,bk:=B,rt:=Q } [some (.sh (.list (ns.map .int))),some (.sh (.int many)),some (.sh (.list (steps.map fi))),o3,o4,o5,o6,some (.ow true (.tup [.int many,.list (steps.map fi)])),some (.sh (.int p)),some (.sh (.int q)),some (.ow true (.list (ps.map cy))),some (.ow true (.list (ps.map cy))),none]:=by
 obtain⟨w2,e2⟩:∃ w2,w2=jP:=⟨_,rfl⟩
 unfold jJ
 rw[<- e2]
 walk_at "q"
 refine⟨by lia,Int.natCast_pos.mpr (by simp),?_⟩
 rw[e2]
 exact zp m1 m2 ay hl tN hk e ht Lv yA h
theorem Bk{N B:L2.Q.Env->Prop}{Q:Md->D->Prop}{ns:List Int}{many p q:Int}{steps:List bS}{k:List Int}{ps:List P2}{o3 o4 o5 o6 mB:Option Sl}(m1:1<=many)(m2:many<=20)(ay:fw many steps)(hl:steps.length<=1000)(tN:fT many (p,q))(hk:Kinds many steps k)(e:rk k p=rk k q)(ht:FG many k ps)(Lv:ps.length<=10000)(yA:0<ps.length)
  (h:∀ mz mB,N [some (.sh (.list (ns.map .int))),some (.sh (.int many)),some (.sh (.list (steps.map fi))),o3,o4,o5,o6,some (.ow true (.tup [.int many,.list (steps.map fi)])),some (.sh (.int p)),some (.sh (.int q)),mz,mB,none]):jN { nx:=N,ct:=N,bk:=B,rt:=Q } [some (.sh (.list (ns.map .int))),some (.sh (.int many)),some (.sh (.list (steps.map fi))),o3,o4,o5,o6,some (.ow true (.tup [.int many,.list (steps.map fi)])),some (.sh (.int p)),some (.sh (.int q)),some (.ow true (.list (ps.map cy))),mB,none]:=by
 obtain⟨w1,e1⟩:∃ w1,w1=jJ:=⟨_,rfl⟩
 unfold jN
 rw[<- e1]
 walk_at "q"
 refine .inl ⟨rZ _,?_⟩
 rw[e1]
 exact z8 m1 m2 ay hl tN hk e ht Lv yA h
theorem Dw{Q:Md->D->Prop}{ns:List Int}{many p q:Int}{steps:List bS}{best:List P2}{o5 o6 mz mB:Option Sl}(m1:1<=many)(m2:many<=20)(ay:fw many steps)(hl:steps.length<=1000)(hx:fT many (p,q))(h:∀ m,Q m (.bl true)) :
  nT { nx:=fun _=>Q .sh .non,rt:=Q } [some (.sh (.list (ns.map .int))),some (.sh (.int many)),some (.sh (.list (steps.map fi))),some (.ow true (kN many steps)),some (.ow true (.list (best.map cy))),o5,o6,some (.ow true (.tup [.int many,.list (steps.map fi)])),some (.sh (.int p)),some (.sh (.int q)),mz,mB,none]:=by
 unfold nT
 walk_at "q"
 have cp:HV 10 8:=by unfold HV;decide
 refine⟨cp,?_⟩
 refine⟨ns,82,3,_,rfl,by decide,by decide,by decide,fun far f0 f1=>?_⟩
 walk_at "q"
 refine bz _ (fun i ρ=>∃ (Ct:Option Sl),ρ=[some (.sh (.list (ns.map .int))),some (.sh (.int many)),some (.sh (.list (steps.map fi))),some (.ow true (kN many steps)),some (.ow true (.list (best.map cy))),o5,o6,some (.ow true (.tup [.int many,.list (steps.map fi)])),some (.sh (.int p)),some (.sh (.int q)),mz,mB,Ct]) ⟨_,rfl⟩ ?_ ?_
 ·rintro i x ρ OZ ⟨Ct,rfl⟩ N hN
  obtain⟨w,rfl,Zq⟩:∃ w:Int,x=.int w/\¬ (0<=w/\w<many):=by
   have:=kH OZ
   simp only[dc,CY,or_false] at this
   rcases this with e|e|e<;>exact⟨_,e,by lia⟩
  walk_at "q"
  refine⟨many,steps,w,p,rfl,by lia,ay,hl,fun z=>Zq z.1,?_⟩
  walk_at "q"
  refine⟨many,steps,q,w,rfl,by lia,ay,hl,fun z=>Zq z.2,?_⟩
  walk_at "q"
  exact hN _ ⟨_,rfl⟩
 rintro ρ ⟨Ct,rfl⟩
 walk_at "q"
 refine⟨Za 9 ay,Za 9 ay,?_⟩
 rw[show fF (.tup [.int many,.list (steps.map fi)]) (.tup [.int many,.list (steps.map fi)])=true from eq_self (gg' _ _)]
 exact h _
theorem Er{Q:Md->D->Prop}{ns:List Int}{many:Int}{steps:List bS}{best pairs:List P2}{o6:Option Sl}(m1:1<=many)(m2:many<=20)(ay:fw many steps)(hl:steps.length<=1000)(hb:best.length<=400)(bk:∀ k,Kinds many steps k->∀ x,x∈best↔fT many x/\rk k x.1=rk k x.2)(hp:∀ x∈pairs,fT many x)(fA:0<pairs.length)(h:∀ m,Q m (.bl true)) :
  nW { nx:=fun _=>Q .sh .non,rt:=Q } [some (.sh (.list (ns.map .int))),some (.sh (.int many)),some (.sh (.list (steps.map fi))),some (.ow true (kN many steps)),some (.ow true (.list (best.map cy))),some (.ow true (.list (pairs.map cy))),o6,none,none,none,none,none,none]:=by
 obtain⟨w7,e7⟩:∃ w7,w7=nT:=⟨_,rfl⟩
 obtain⟨w0,e0⟩:∃ w0,w0=jN:=⟨_,rfl⟩
 unfold nW
 rw[<- e7,<- e0]
 walk_at "q"
 refine .inl ⟨qG _,?_⟩
 refine bz _ (fun i ρ=>∃ (o8 o9 mz mB:Option Sl),(i=0\/∃ p q,fT many (p,q)/\o8=some (.sh (.int p))/\o9=some (.sh (.int q)))/\ρ=[some (.sh (.list (ns.map .int))),some (.sh (.int many)),some (.sh (.list (steps.map fi))),some (.ow true (kN many steps)),some (.ow true (.list (best.map cy))),some (.sh (.list (pairs.map cy))),o6,some (.ow true (.tup [.int many,.list (steps.map fi)])),o8,o9,mz,mB,none]) ⟨_,_,_,_,.inl rfl,rfl⟩ ?_ ?_
 ·rintro i x ρ hx ⟨o8,o9,mz,mB,_,rfl⟩ N hN
  obtain⟨p,q,rfl,hm,tk⟩:=zc hx
  have tN:=hp _ hm
  walk_at "q"
  refine⟨many,steps,p,q,rfl,by lia,ay,hl,fun _ k hk=>⟨fun ne=>?_,fun e ps ht Lv=>?_⟩,fun z=>absurd tN z⟩
  ·walk_at "q"
   refine⟨rfl,xR _ 10,?_⟩
   rw[show vE (best.map cy) (.tup [.int p,.int q])=decide ((p,q)∈best) from Ce best (p,q),decide_eq_false fun z=>ne ((bk k hk (p,q)).mp z).2]
   walk_at "q"
   exact hN _ ⟨_,_,_,_,.inr ⟨p,q,tN,rfl,rfl⟩,rfl⟩
  ·have D1:(p,q)∈ps:=(ht.mem _).mpr ⟨tN,e⟩
   have yA:0<ps.length:=Py D1
   walk_at "q"
   refine⟨rfl,xR _ 10,?_⟩
   rw[show vE (best.map cy) (.tup [.int p,.int q])=decide ((p,q)∈best) from Ce best (p,q),decide_eq_true ((bk k hk (p,q)).mpr ⟨tN,e⟩)]
   walk_at "q"
   refine⟨many,steps,ps,(p,q),rfl,by lia,by lia,ht.up,fun y hy=>((ht.mem y).mp hy).1,hk.rb.xt ay ht.mem,D1,?_⟩
   walk_at "q"
   rw[e0]
   exact Bk m1 m2 ay hl tN hk e ht Lv yA fun mz mB=>hN _ ⟨_,_,_,_,.inr ⟨p,q,tN,rfl,rfl⟩,rfl⟩
 ·rintro ρ ⟨o8,o9,mz,mB,hz,rfl⟩
  rw[cE] at hz
  obtain⟨p,q,tN,rfl,rfl⟩:=hz.resolve_left (by lia)
  rw[e7]
  exact Dw m1 m2 ay hl tN h
theorem Ff{Q:Md->D->Prop}{ns:List Int}{many:Int}{steps:List bS}{best:List P2}(m1:1<=many)(m2:many<=20)(ay:fw many steps)(hl:steps.length<=1000)(hb:best.length<=400)(bk:∀ k,Kinds many steps k->∀ x,x∈best↔fT many x/\rk k x.1=rk k x.2)(b1:0<best.length)(bi:∀ x∈best,fT many x)(h:∀ m,Q m (.bl true)) :
  pD { nx:=fun _=>Q .sh .non,rt:=Q } [some (.sh (.list (ns.map .int))),some (.sh (.int many)),some (.sh (.list (steps.map fi))),some (.ow true (kN many steps)),some (.ow true (.list (best.map cy))),none,none,none,none,none,none,none,none]:=by
 obtain⟨w5,e5⟩:∃ w5,w5=nW:=⟨_,rfl⟩
 unfold pD
 rw[<- e5]
 walk_at "q"
 refine b7 (fun n out=>∃ ps:List P2,out=ps.map cy/\ps.length=n/\∀ p∈ps,fT many p) (fun ρ=>∃ o,ρ=[o,some (.sh (.list (best.map cy))),some (.sh (.list (ns.map .int)))]) _ 0 [] _ _ ⟨_,rfl⟩ ⟨[],rfl,rfl,fun p hp=>nomatch hp⟩ ?_ ?_
 ·rintro j y hy ρ ⟨o,rfl⟩ out ⟨ps,rfl,fA,CC⟩ N1 N2 nS
  obtain⟨hj,rfl⟩:=bO hy
  walk_at "q"
  refine⟨ns,_,2,_,rfl,by lia,by decide,by lia,fun r r0 r1=>?_⟩
  walk_at "q"
  obtain⟨x,hx,ex⟩:=JT (l:=best) r0 (by lia)
  refine⟨_,ex,?_⟩
  rw[show cy x=.tup [.int x.1,.int x.2] from rfl]
  walk_at "q"
  refine⟨.inl rfl,nS _ _ ⟨_,rfl⟩ ⟨ps++[x],(by rw[y6];rfl),by simp[fA],fun y hy=>?_⟩⟩
  rcases dP.mp hy with z|z
  ·exact CC y z
  ·rw[kP.mp z];exact bi x hx
 rintro out ⟨ps,e,fA,CC⟩
 simp only[AW] at e
 subst e
 rw[bM] at fA
 refine bz _ (fun i ρ=>∃ (ds:List P2) (o6:Option Sl),ds.length=2+i/\(∀ p∈ds,fT many p)/\ρ=[some (.sh (.list (ns.map .int))),some (.sh (.int many)),some (.sh (.list (steps.map fi))),some (.ow true (kN many steps)),some (.ow true (.list (best.map cy))),some (.ow true (.list (ds.map cy))),o6,none,none,none,none,none,none]) ⟨ps,_,by lia,CC,rfl⟩ ?_ ?_
 ·rintro i x ρ hx ⟨ds,o6,dl,di,rfl⟩ N hN
  obtain⟨hi,rfl⟩:=bO hx
  walk_at "q"
  refine⟨ns,_,0,many,rfl,by lia,by decide,by lia,fun p p0 p1=>?_⟩
  walk_at "q"
  refine⟨ns,_,1,many,rfl,by lia,by decide,by lia,fun q q0 q1=>?_⟩
  walk_at "q"
  refine⟨by lia,hN _ ⟨ds++[(p,q)],_,by simp[dl];lia,(fun x hx=>?_),(by rw[y6];rfl)⟩⟩
  rcases dP.mp hx with z|z
  ·exact di x z
  ·rw[kP.mp z];exact⟨⟨p0,p1⟩,q0,q1⟩
 ·rintro ρ ⟨ds,o6,dl,di,rfl⟩
  rw[e5]
  exact Er m1 m2 ay hl hb bk di (by lia) h
theorem JW:∀ ds Q,Lc ds Q->Fd { nx:=fun _=>Q .sh .non,rt:=Q } (aU 13 ds):=by
 rintro ds Q ⟨ns,rfl,hn,h⟩
 obtain⟨w3,e3⟩:∃ w3,w3=pD:=⟨_,rfl⟩
 unfold Fd
 rw[<- e3]
 walk_at "q"
 refine⟨ns,100,rfl,by decide,fun many steps m1 m2 ay hl pw=>?_⟩
 have hl:=iS hl (show 500<=1000 by decide)
 unfold mD
 walk_at "q"
 refine⟨many,steps,rfl,by lia,ay,by lia,?_⟩
 walk_at "q"
 have mm:0<=many*many/\many*many<=400:=⟨P6 (by lia) (by lia),Int.mul_le_mul m2 m2 (by lia) (by lia)⟩
 refine⟨bB (by lia) (by lia),by lia,by lia,?_⟩
 refine b7 (fun n out=>∃ ps:List P2,out=ps.map cy/\ps.length=n/\(∀ p∈ps,fT many p)/\∀ i:Nat,i<n->(((i:Int) / many,(i:Int) % many):P2)∈ps) (fun ρ=>∃ o,ρ=[o,some (.sh (.int many))]) _ 0 [] _ _ ⟨_,rfl⟩ ⟨[],rfl,rfl,(fun p hp=>nomatch hp),fun i hi=>by lia⟩ ?_ ?_
 ·rintro j y hy ρ ⟨o,rfl⟩ out ⟨ps,rfl,fA,CC,E9⟩ N1 N2 nS
  obtain⟨hj,rfl⟩:=bO hy
  walk_at "q"
  refine⟨by lia,by lia,.inl rfl,nS _ _ ⟨_,rfl⟩ ⟨ps++[(((j:Int) / many,(j:Int) % many):P2)],?_,by simp[fA],fT.app CC fun x hx=>?_,fun i hi=>?_⟩⟩
  ·rw[y6]
   simp[cy]
  ·rw[kP.mp hx]
   have:=wu (j:Int) (show 0<many by lia)
   exact⟨⟨Int.ediv_nonneg (by lia) (by lia),Int.ediv_lt_of_lt_mul (by lia) (by lia)⟩,this⟩
  ·by_cases gX:i<j
   ·exact kr _ (E9 i (by lia))
   ·have:i=j:=by lia
    subst this
    exact fq _ (kP.mpr rfl)
 rintro out ⟨ps,e,fA,CC,E9⟩
 simp only[AW] at e
 subst e
 rw[bM] at fA E9
 refine⟨many,steps,ps,rfl,by lia,CC,fun best hp=>?_⟩
 walk_at "q"
 rw[e3]
 have all:∀ x,fT many x->x∈ps:=fun x hx=>Af (n:=(many*many).toNat) (tT mm.1) (by simpa using E9) hx
 have dg:=hp.diag ay m1 all
 exact Ff m1 m2 ay hl (by have:=hp.len;lia) (fun k hk=>hp.kinds ay (fun x=>⟨CC x,all x⟩) hk) (Py dg) (fun p hpb=>CC p (hp.sub p hpb)) h
def top(i:Nat):Stmt:=PySem.Challenge.pw_kinlook_k34_table_told.main.body.getD i (.Pass ⟨0,0,0,0⟩)
abbrev aM:Stmt:=top 4
abbrev gH:List Str:=["m", "state"]
abbrev cJ:Stmt:=top 5
abbrev lG:List Str:=["m", "exits", "start", "deed", "end"]
abbrev e_:Stmt:=top 7
abbrev qx:List Str:=["exits", "ranks", "state"]
abbrev aR:Stmt:=top 8
abbrev dC:List Str:=["exits", "ranks", "keys", "different", "key"]
abbrev cM:Stmt:=top 9
abbrev p_:List Str:=["m", "exits", "rounds", "ranks"]
abbrev dq:Stmt:=top 10
abbrev sS:List Str:=["m"]
abbrev dW:Stmt:=top 11
abbrev uo:List Str:=["m", "p", "q", "kinds"]
abbrev bw:Stmt:=top 13
abbrev gP:List Str:=["m", "p", "q", "kinds", "pairs", "a"]
abbrev bC:Stmt:=top 15
abbrev lq:List Str:=["_law_script", "_law_k"]
abbrev cA:Stmt:=top 16
abbrev nU:List Str:=["_law_cell", "_law_way", "_law_many", "_law_prime"]
abbrev aX:Stmt:=top 17
abbrev cu:List Str:=["_law_cell", "_law_letters", "_law_size", "_law_at", "_law_base", "_law_kind", "_law_words", "_law_k", "_law_word", "_law_tail", "_law_first"]
abbrev cH:Stmt:=top 18
abbrev qp:List Str:=["_law_script", "_law_k", "_law_way", "_law_many", "_law_cell"]
abbrev bH:Stmt:=top 19
abbrev lz:List Str:=["_law_script", "_law_most", "_law_shape", "_law_copies", "_law_states", "_law_size", "_law_many", "_law_menu_here", "_law_steps", "_law_k", "_law_one", "_law_two", "_law_deed", "_law_way", "_law_j", "_law_i"]
abbrev cg:Stmt:=top 20
abbrev jr:List Str:=["_law_many", "_law_steps", "_law_rows_here", "_law_at", "_law_deed", "_law_to"]
abbrev aL:Stmt:=top 21
abbrev cN:List Str:=["_law_rows_here", "_law_one", "_law_other", "_law_pairs", "_law_deed", "_law_to", "_law_end"]
abbrev bx:Stmt:=top 22
abbrev gB:List Str:=["_law_rows_here", "_law_some", "_law_pairs", "_law_pair_here", "_law_gone"]
abbrev cI:Stmt:=top 23
abbrev qO:List Str:=["_law_found", "_law_many", "_law_state"]
abbrev cP:Stmt:=top 24
abbrev qK:List Str:=["_law_rows_here", "_law_told", "_law_p", "_law_q", "_law_pairs", "_law_last", "_law_pair_here", "_law_one", "_law_other"]
abbrev bF:Stmt:=top 25
abbrev lD:List Str:=["_law_m", "_law_p", "_law_q", "_law_kept", "e"]
abbrev lN:Stmt:=top 26
abbrev yF:List Str:=["_law_script", "_law_many", "_law_steps", "_law_rows_here", "_law_best", "_law_pairs", "_law_k", "_law_handed", "_law_p", "_law_q", "_law_told", "_law_kept", "_law_out"]
abbrev rn:List Str:=["NoState"]
structure Txt(K:PySem.W.Frag)(mg:Str->Option Value):Prop where
 LB:mg "any" = none
 Pk:mg "bool" = none
 LD:mg "int" = none
 CD:mg "isinstance" = none
 AQ:mg "len" = none
 D7:mg "list" = none
 Pl:mg "min" = none
 ll:mg "range" = none
 Pm:mg "set" = none
 D8:mg "sorted" = none
 Pn:mg "tuple" = none
 gA':YV K mg "NoState"
 gB':Hd K mg rn "KinError"
 gC':∀ n C,n∈rn->mg n=some (.ref C)->∃ c,mg "NoState" = some (.ref c)/\PySem.W.kitOne K (.ref C) (.ref c)=some (decide (n = "NoState"))
section
variable {P:Program}{w:World}{K:PySem.W.Frag}{mg:Str->Option Value}{base:Heap}
theorem gD:ku gH ["m", "state"] (b5 aM):=⟨rfl,rfl,rfl,by decide +kernel,rfl,by decide +kernel,by decide +kernel⟩
theorem nP {f:Addr} (T:Txt K mg)  (cw:Value) (A:Around) (outer:List PySem.Env) (s:Shared) (H:Hp) (E:XK) (hr:i6 0 (A.deeper (envOfC "check_state" (b5 aM) s.heap.objs.size f cw))) :
  n4 (rX (mw P w mg rn) P w K mg base gH "check_state" (b5 aM) f cw A outer s H E) K (LX rn mg E) (gS aM) eZ :=
 have nd:=gD.nd
 have hu:(A.deeper (envOfC "check_state" (b5 aM) s.heap.objs.size f cw)).units+64<cLine:=hr.units
 (ao (dh (dR (uD Bv yI Gz Fg au (qv 1) (fI hu (qv 0) au)))
   (ao (zG rfl G6 T.gA' (.head _) rK))
   aP))
theorem lX {f:Addr} {fd:FuncData} (F:gy K "check_state" "check_state" aM f fd) (T:Txt K mg)  : gv P w K mg base (mw P w mg rn) 1 f fd ["m", "state"] (eY K rn mg aQ) :=
 UG.ok F gD kI (nP T ) pF
theorem jY:ku lG ["m"] (b5 cJ):=⟨rfl,rfl,rfl,by decide +kernel,rfl,by decide +kernel,by decide +kernel⟩
theorem sE {f:Addr} {fd:FuncData} (F:gy K "exits_of" "exits_of" cJ f fd) (T:Txt K mg)  : gv P w K mg base i9 1 f fd ["m"] (aA K cO) :=
 pV.ok (t:=i_) F jY qH (fun cw A outer s H E hr =>
  have nd:=jY.nd
  have hu:=hr.units
  (aj (dB (i:=1) (tn:=["state"]) (cn:=[]) (ix:=[]) nd rfl (Or.inl rfl) rfl (fY (bK T.ll (fI hu (qv 0) au))) (bL.of (sc:=b5 cJ) (N:=lG) rfl rfl (by decide +kernel)) (fun _ _ _ _=>(aB (i:=0) (show(["state"]:List Str).Nodup by decide +kernel) rfl (Or.inl rfl) (.inr rfl))) (fun _ _ _ _=>cX) (fun _ _ _ _=>(jD aq)))
   (aj (aO 0 (cF PassesOwn.never rfl (dF (fI hu (qv 0) au)) (il rfl (aN (aB (i:=2) nd rfl (Or.inl rfl)) (aN (aB (i:=3) nd rfl (Or.inl rfl)) (aN (aB (i:=4) nd rfl (Or.inl rfl)) eV))))
   (ao (aO 4 (aO 3 (m_ (Im hu (cL (pv 1)) (qv 2)) (fH (aa (qv 3) (aa (qv 4) aq)))))))))
   (ao (pG (pv 1)))))) uO
theorem pN:ku qx ["exits", "ranks", "state"] (b5 e_):=⟨rfl,rfl,rfl,by decide +kernel,rfl,by decide +kernel,by decide +kernel⟩
theorem vY {f:Addr} {fd:FuncData} (F:gy K "key_of" "key_of" e_ f fd) (T:Txt K mg)  : gv P w K mg base i9 1 f fd ["exits", "ranks", "state"] (aA K eF) :=
 pV.ok (t:=oX) F pN uK (fun cw A outer s H E hr =>
  have nd:=pN.nd
  have hu:=hr.units
  (ao (bh (fH (aa (fI hu (qv 1) (qv 2)) (aa (uW hu rfl T.D8 rfl T.Pm (gG (tn:=["deed", "end"]) (cn:=["ranks"]) (ix:=[1]) rfl (lE (fI hu (qv 0) (qv 2))) (bL.of (sc:=b5 e_) (N:=qx) rfl rfl (by decide +kernel)) (fun _ _ _ _=>(il rfl (aN (aB (i:=0) (show(["deed", "end", "ranks"]:List Str).Nodup by decide +kernel) rfl (Or.inl rfl) (.inr rfl)) (aN (aB (i:=1) (show(["deed", "end", "ranks"]:List Str).Nodup by decide +kernel) rfl (Or.inl rfl) (.inr rfl)) eV)))) (fun _ _ _ _=>cX) (fun _ _ _ _=>(fH (aa (qv 0) (aa (fI hu (qv 2) (qv 1)) aq)))))) aq)))))) zZ
theorem fO:ku lq ["_law_script", "_law_k"] (b5 bC):=⟨rfl,rfl,rfl,by decide +kernel,rfl,by decide +kernel,by decide +kernel⟩
theorem lu {f:Addr} {fd:FuncData} (F:gy K "_law_cell_at" "_law_cell_at" bC f fd) (T:Txt K mg)  : gv P w K mg base i9 1 f fd ["_law_script", "_law_k"] (aA K aH) :=
 pV.ok (t:=d_) F fO jy (fun cw A outer s H E hr =>
  have nd:=fO.nd
  have hu:=hr.units
  (aj (dh (bN yI Fg (qv 1) (dH du mV rfl T.AQ nu (qv 0)) (kD _))
   (ao (bh (fI hu (qv 0) (qv 1))))
   aP)
   (ao (bh au)))) mL
theorem ir:ku nU ["_law_cell", "_law_way", "_law_many"] (b5 cA):=⟨rfl,rfl,rfl,by decide +kernel,rfl,by decide +kernel,by decide +kernel⟩
theorem oE {f:Addr} {fd:FuncData} (F:gy K "_law_digit" "_law_digit" cA f fd) (T:Txt K mg)  : gv P w K mg base i9 1 f fd ["_law_cell", "_law_way", "_law_many"] (aA K az) :=
 pV.ok (t:=fX) F ir mH (fun cw A outer s H E hr =>
  have nd:=ir.nd
  have hu:=hr.units
  (aj (aG (i:=3) nd rfl (Or.inl rfl) (fI hu (jD (aa au (aa au (aa au (aa au (aa au (aa au aq))))))) (qv 1)))
   (ao (bh (mq (vm (mq (gW (qv 0) (fI hu (jD (aa au (aa au (aa au (aa au (aa au (aa au aq))))))) (qv 1))) (qv 3)) au) (qv 2)))))) pX
theorem jg:ku jr ["_law_many", "_law_steps"] (b5 cg):=⟨rfl,rfl,rfl,by decide +kernel,rfl,by decide +kernel,by decide +kernel⟩
theorem qM {f:Addr} {fd:FuncData} (F:gy K "_law_rows" "_law_rows" cg f fd) (T:Txt K mg)  : gv P w K mg base i9 1 f fd ["_law_many", "_law_steps"] (aA K cC) :=
 pV.ok (t:=gU) F jg oh (fun cw A outer s H E hr =>
  have nd:=jg.nd
  have hu:=hr.units
  (aj (dB (i:=2) (tn:=["_law_k"]) (cn:=[]) (ix:=[]) nd rfl (Or.inl rfl) rfl (fY (bK T.ll (qv 0))) (bL.of (sc:=b5 cg) (N:=jr) rfl rfl (by decide +kernel)) (fun _ _ _ _=>(aB (i:=0) (show(["_law_k"]:List Str).Nodup by decide +kernel) rfl (Or.inl rfl) (.inr rfl))) (fun _ _ _ _=>cX) (fun _ _ _ _=>(jD aq)))
   (aj (aO 1 (cF PassesOwn.never rfl (dF (qv 1)) (il rfl (aN (aB (i:=3) nd rfl (Or.inl rfl)) (aN (aB (i:=4) nd rfl (Or.inl rfl)) (aN (aB (i:=5) nd rfl (Or.inl rfl)) eV))))
   (ao (aO 5 (aO 4 (m_ (Im hu (cL (pv 2)) (qv 3)) (fH (aa (qv 4) (aa (qv 5) aq)))))))))
   (ao (pG (pv 2)))))) sJ
theorem eQ:ku cN ["_law_rows_here", "_law_one", "_law_other", "_law_pairs"] (b5 aL):=⟨rfl,rfl,rfl,by decide +kernel,rfl,by decide +kernel,by decide +kernel⟩
theorem iR {f:Addr} {fd:FuncData} (F:gy K "_law_both_ways" "_law_both_ways" aL f fd) (T:Txt K mg)  : gv P w K mg base i9 1 f fd ["_law_rows_here", "_law_one", "_law_other", "_law_pairs"] (aA K aJ) :=
 pV.ok (t:=cW) F eQ iG (fun cw A outer s H E hr =>
  have nd:=eQ.nd
  have hu:=hr.units
  (aj (aO 0 (cF PassesOwn.never rfl (dF (fI hu (qv 0) (qv 1))) (il rfl (aN (aB (i:=4) nd rfl (Or.inr rfl)) (aN (aB (i:=5) nd rfl (Or.inr rfl)) eV)))
   (ao (dh (dR (eU (dH Y3 Ca rfl T.LB BV (gG (tn:=["_law_name", "_law_end"]) (cn:=["_law_deed", "_law_pairs", "_law_to"]) (ix:=[4,3,5]) rfl (lE (fI hu (qv 0) (qv 2))) (bL.of (sc:=b5 aL) (N:=cN) rfl rfl (by decide +kernel)) (fun _ _ _ _=>(il rfl (aN (aB (i:=0) (show(["_law_name", "_law_end", "_law_deed", "_law_pairs", "_law_to"]:List Str).Nodup by decide +kernel) rfl (Or.inl rfl) (.inr rfl)) (aN (aB (i:=1) (show(["_law_name", "_law_end", "_law_deed", "_law_pairs", "_law_to"]:List Str).Nodup by decide +kernel) rfl (Or.inl rfl) (.inr rfl)) eV)))) (fun _ _ _ _=>(oH (bN (qS (K:=K) hu) gA (qv 0) (qv 2) (kD _)))) (fun _ _ _ _=>(vh (ke (K:=K) hu) Fi (fH (aa (qv 4) (aa (qv 1) aq))) (qv 3) (by rfl)))))))
   (ao (bh ot))
   aP))))
   (aj (aO 0 (cF PassesOwn.never rfl (dF (fI hu (qv 0) (qv 2))) (il rfl (aN (aB (i:=4) nd rfl (Or.inr rfl)) (aN (aB (i:=6) nd rfl (Or.inr rfl)) eV)))
   (ao (dh (dR (eU (dH Y3 Ca rfl T.LB BV (gG (tn:=["_law_name", "_law_to"]) (cn:=["_law_deed", "_law_end", "_law_pairs"]) (ix:=[4,6,3]) rfl (lE (fI hu (qv 0) (qv 1))) (bL.of (sc:=b5 aL) (N:=cN) rfl rfl (by decide +kernel)) (fun _ _ _ _=>(il rfl (aN (aB (i:=0) (show(["_law_name", "_law_to", "_law_deed", "_law_end", "_law_pairs"]:List Str).Nodup by decide +kernel) rfl (Or.inl rfl) (.inr rfl)) (aN (aB (i:=1) (show(["_law_name", "_law_to", "_law_deed", "_law_end", "_law_pairs"]:List Str).Nodup by decide +kernel) rfl (Or.inl rfl) (.inr rfl)) eV)))) (fun _ _ _ _=>(oH (bN (qS (K:=K) hu) gA (qv 0) (qv 2) (kD _)))) (fun _ _ _ _=>(vh (ke (K:=K) hu) Fi (fH (aa (qv 1) (aa (qv 3) aq))) (qv 4) (by rfl)))))))
   (ao (bh ot))
   aP))))
   (ao (bh ot))))) jG
theorem jh:ku qO ["_law_found", "_law_many"] (b5 cI):=⟨rfl,rfl,rfl,by decide +kernel,rfl,by decide +kernel,by decide +kernel⟩
theorem qg {f:Addr} {fd:FuncData} (F:gy K "_law_pair" "_law_pair" cI f fd) (T:Txt K mg)  : gv P w K mg base i9 1 f fd ["_law_found", "_law_many"] (aA K cz) :=
 pV.ok (t:=gM) F jh oG (fun cw A outer s H E hr =>
  have nd:=jh.nd
  have hu:=hr.units
  (aj (dh (E3 (uT (dR (eU (zg T.CD (qv 0) (zV T.Pn Bj)))) (pJ (bN (TR (K:=K) hu) F_ (dH du mV rfl T.AQ nu (qv 0)) au (kD _)))))
   (ao (bh ot))
   aP)
   (aj (aO 0 (cF PassesOwn.never rfl (HN (qv 0)) (aB (i:=2) nd rfl (Or.inl rfl))
   (ao (dh (E3 (uT (dR (eU (zg T.CD (qv 2) (zV T.LD xJ)))) (uT (eU (zg T.CD (qv 2) (zV T.Pk DQ))) (pJ (dR (uD Bv yI Gz Fg au (qv 2) (qv 1)))))))
   (ao (bh ot))
   aP))))
   (ao (bh ot))))) rR
theorem gj:ku dC ["exits", "ranks"] (b5 aR):=⟨rfl,rfl,rfl,by decide +kernel,rfl,by decide +kernel,by decide +kernel⟩
theorem lQ {f:Addr} {fd:FuncData} (F:gy K "ranks_behind" "ranks_behind" aR f fd) (T:Txt K mg) (gD':eP P w K mg base 1 "key_of" ["exits", "ranks", "state"] (aA K eF)):gv P w K mg base i9 2 f fd ["exits", "ranks"] (aA K aV) :=
 pV.ok (t:=dY) F gj jE (fun cw A outer s H E hr =>
  have nd:=gj.nd
  have hu:=hr.units
  (aj (dB (i:=2) (tn:=["state"]) (cn:=["exits", "ranks"]) (ix:=[0,1]) nd rfl (Or.inl rfl) rfl (fY (bK T.ll (dH du mV rfl T.AQ nu (qv 1)))) (bL.of (sc:=b5 aR) (N:=dC) rfl rfl (by decide +kernel)) (fun _ _ _ _=>(aB (i:=0) (show(["state", "exits", "ranks"]:List Str).Nodup by decide +kernel) rfl (Or.inl rfl) (.inr rfl))) (fun _ _ _ _=>cX) (fun _ _ _ _=>(a_ gD' (hr.mono (by decide)) (aa (qv 1) (aa (qv 2) (aa (qv 0) aq))))))
   (aj (aG (i:=3) nd rfl (Or.inr rfl) (jD aq))
   (aj (aO 2 (cF PassesOwn.never rfl (dF (dH (G5 hu) Al rfl T.D8 iB (qv 2))) (aB (i:=4) nd rfl (Or.inl rfl))
   (ao (dh (bN (yg (K:=K) hu) Bw (qv 4) (qv 3) (by rfl))
   (ao (aO 4 (m_ (cL (pv 3)) (qv 4))))
   aP))))
   (ao (bh (gG (tn:=["key"]) (cn:=["different"]) (ix:=[3]) rfl (lE (qv 2)) (bL.of (sc:=b5 aR) (N:=dC) rfl rfl (by decide +kernel)) (fun _ _ _ _=>(aB (i:=0) (show(["key", "different"]:List Str).Nodup by decide +kernel) rfl (Or.inl rfl) (.inr rfl))) (fun _ _ _ _=>cX) (fun _ _ _ _=>(Dl hu (qv 1) (qv 0)))))))))) mF
theorem jk:ku cu ["_law_cell"] (b5 aX):=⟨rfl,rfl,rfl,by decide +kernel,rfl,by decide +kernel,by decide +kernel⟩
theorem qz {f:Addr} {fd:FuncData} (F:gy K "_law_menu" "_law_menu" aX f fd) (T:Txt K mg) (rV:eP P w K mg base 1 "_law_digit" ["_law_cell", "_law_way", "_law_many"] (aA K az)):gv P w K mg base i9 2 f fd ["_law_cell"] (aA K cD) :=
 pV.ok (t:=g8) F jk oF (fun cw A outer s H E hr =>
  have nd:=jk.nd
  have hu:=hr.units
  (aj (aG (i:=1) nd rfl (Or.inr rfl) rK)
   (aj (aG (i:=2) nd rfl (Or.inl rfl) (bW au (a_ rV (hr.mono (by decide)) (aa (qv 0) (aa au (aa au aq))))))
   (aj (aG (i:=3) nd rfl (Or.inr rfl) (a_ rV (hr.mono (by decide)) (aa (qv 0) (aa au (aa (qv 2) aq)))))
   (aj (aG (i:=4) nd rfl (Or.inr rfl) (gG (tn:=["_law_j"]) (cn:=["_law_cell"]) (ix:=[0]) rfl (fY (bK T.ll au)) (bL.of (sc:=b5 aX) (N:=cu) rfl rfl (by decide +kernel)) (fun _ _ _ _=>(aB (i:=0) (show(["_law_j", "_law_cell"]:List Str).Nodup by decide +kernel) rfl (Or.inl rfl) (.inr rfl))) (fun _ _ _ _=>cX) (fun _ _ _ _=>(a_ rV (hr.mono (by decide)) (aa (bW (gW (qv 1) (bW (qv 0) au)) (qv 0)) (aa au (aa au aq)))))))
   (aj (aG (i:=5) nd rfl (Or.inl rfl) (a_ rV (hr.mono (by decide)) (aa (qv 0) (aa au (aa au aq)))))
   (aj (aG (i:=6) nd rfl (Or.inl rfl) (jD aq))
   (aj (cF PassesOwn.never rfl (bK T.ll au) (aB (i:=7) nd rfl (Or.inr rfl))
   (aj (aG (i:=8) nd rfl (Or.inl rfl) (tX rK (gG (tn:=["_law_j"]) (cn:=["_law_at", "_law_base", "_law_k", "_law_letters"]) (ix:=[3,4,7,1]) rfl (fY (bK T.ll (qv 2))) (bL.of (sc:=b5 aX) (N:=cu) rfl rfl (by decide +kernel)) (fun _ _ _ _=>(aB (i:=0) (show(["_law_j", "_law_at", "_law_base", "_law_k", "_law_letters"]:List Str).Nodup by decide +kernel) rfl (Or.inl rfl) (.inr rfl))) (fun _ _ _ _=>cX) (fun _ _ _ _=>(fI hu (qv 4) (mq (bW (fI hu (qv 2) (qv 0)) (gW (qv 3) (jK bm' Ib rfl T.LD xJ (vh (qS (K:=K) hu) gA (qv 0) (qv 1) (kD _))))) au))))))
   (aj (dh (bN (qS (K:=K) hu) gA (qv 5) au (kD _))
   (ao (aG (i:=8) nd rfl (Or.inl rfl) (tX rK (gG (tn:=["_law_j"]) (cn:=["_law_base", "_law_letters"]) (ix:=[4,1]) rfl (fY (bK T.ll (bW (qv 7) au))) (bL.of (sc:=b5 aX) (N:=cu) rfl rfl (by decide +kernel)) (fun _ _ _ _=>(aB (i:=0) (show(["_law_j", "_law_base", "_law_letters"]:List Str).Nodup by decide +kernel) rfl (Or.inl rfl) (.inr rfl))) (fun _ _ _ _=>cX) (fun _ _ _ _=>(fI hu (qv 2) (fI hu (qv 1) (qv 0))))))))
   aP)
   (aj (dh (bN (qS (K:=K) hu) gA (qv 5) au (kD _))
   (aj (dB (i:=9) (tn:=["_law_j"]) (cn:=["_law_base", "_law_letters"]) (ix:=[4,1]) nd rfl (Or.inl rfl) rfl (fY (bK T.ll (a_ rV (hr.mono (by decide)) (aa (bW (qv 0) (qv 7)) (aa au (aa au aq)))))) (bL.of (sc:=b5 aX) (N:=cu) rfl rfl (by decide +kernel)) (fun _ _ _ _=>(aB (i:=0) (show(["_law_j", "_law_base", "_law_letters"]:List Str).Nodup by decide +kernel) rfl (Or.inl rfl) (.inr rfl))) (fun _ _ _ _=>cX) (fun _ _ _ _=>(fI hu (qv 2) (fI hu (qv 1) (qv 0)))))
   (ao (aG (i:=8) nd rfl (Or.inl rfl) (bW (fI hu (qv 1) (mq (bW (fI hu (qv 4) au) (gW au (qv 7))) au)) (tX rK (qv 9))))))
   aP)
   (aj (dh (bN (qS (K:=K) hu) gA (qv 5) au (kD _))
   (ao (aG (i:=8) nd rfl (Or.inl rfl) (tX rK (gG (tn:=["_law_j"]) (cn:=["_law_base", "_law_k", "_law_letters"]) (ix:=[4,7,1]) rfl (fY (bK T.ll au)) (bL.of (sc:=b5 aX) (N:=cu) rfl rfl (by decide +kernel)) (fun _ _ _ _=>(aB (i:=0) (show(["_law_j", "_law_base", "_law_k", "_law_letters"]:List Str).Nodup by decide +kernel) rfl (Or.inl rfl) (.inr rfl))) (fun _ _ _ _=>cX) (fun _ _ _ _=>(fI hu (qv 3) (mq (bW (fI hu (qv 1) au) (mq (bW (qv 0) (qv 2)) au)) au)))))))
   aP)
   (ao (aO 8 (m_ (cL (pv 6)) (qv 8)))))))))
   (aj (aG (i:=10) nd rfl (Or.inl rfl) (a_ rV (hr.mono (by decide)) (aa (qv 0) (aa au (aa au aq)))))
   (ao (bh (Ew (bW (jD (aa rK aq)) (qv 6)) (wW (qv 10)) (wW (bW (bW (qv 10) au) (a_ rV (hr.mono (by decide)) (aa (qv 0) (aa au (aa au aq)))))))))))))))))) rG
theorem jf:ku qp ["_law_script", "_law_k", "_law_way", "_law_many"] (b5 cH):=⟨rfl,rfl,rfl,by decide +kernel,rfl,by decide +kernel,by decide +kernel⟩
theorem qi {f:Addr} {fd:FuncData} (F:gy K "_law_draw" "_law_draw" cH f fd) (T:Txt K mg) (Pp:eP P w K mg base 1 "_law_cell_at" ["_law_script", "_law_k"] (aA K aH)) (rV:eP P w K mg base 1 "_law_digit" ["_law_cell", "_law_way", "_law_many"] (aA K az)):gv P w K mg base i9 2 f fd ["_law_script", "_law_k", "_law_way", "_law_many"] (aA K aF) :=
 pV.ok (t:=gQ) F jf pB (fun cw A outer s H E hr =>
  have nd:=jf.nd
  have hu:=hr.units
  (aj (aG (i:=4) nd rfl (Or.inl rfl) (a_ Pp (hr.mono (by decide)) (aa (qv 0) (aa (bW au (mq (bW (gW au (qv 1)) (gW au (qv 2))) au)) aq))))
   (ao (bh (a_ rV (hr.mono (by decide)) (aa (bW (bW (qv 4) (gW (a_ Pp (hr.mono (by decide)) (aa (qv 0) (aa au aq))) (bW (qv 1) au))) (gW (bW (qv 1) au) (bW (bW (qv 1) au) (qv 2)))) (aa (qv 2) (aa (qv 3) aq)))))))) sX
theorem gC:ku gB ["_law_rows_here", "_law_some"] (b5 bx):=⟨rfl,rfl,rfl,by decide +kernel,rfl,by decide +kernel,by decide +kernel⟩
theorem mK {f:Addr} {fd:FuncData} (F:gy K "_law_pruned" "_law_pruned" bx f fd) (T:Txt K mg) (Vd:eP P w K mg base 1 "_law_both_ways" ["_law_rows_here", "_law_one", "_law_other", "_law_pairs"] (aA K aJ)):gv P w K mg base i9 2 f fd ["_law_rows_here", "_law_some"] (aA K bJ) :=
 pV.ok (t:=fc) F gC kh (fun cw A outer s H E hr =>
  have nd:=gC.nd
  have hu:=hr.units
  (aj (aG (i:=2) nd rfl (Or.inr rfl) rQ)
   (aj (aO 1 (cF PassesOwn.never rfl (dF (qv 1)) (aB (i:=3) nd rfl (Or.inl rfl))
   (ao (ph hu (cL (pv 2)) (qv 3) ot))))
   (ao (tY PassesOwn.never (eU ot)
   (aj (dB (i:=4) (tn:=["_law_pair_here"]) (cn:=["_law_pairs", "_law_rows_here"]) (ix:=[2,0]) nd rfl (Or.inl rfl) rfl (lE (jK iK sH rfl T.D7 nG (qv 2))) (bL.of (sc:=b5 bx) (N:=gB) rfl rfl (by decide +kernel)) (fun _ _ _ _=>(aB (i:=0) (show(["_law_pair_here", "_law_pairs", "_law_rows_here"]:List Str).Nodup by decide +kernel) rfl (Or.inl rfl) (.inr rfl))) (fun _ _ _ _=>(oH (dR (eU (a_ Vd (hr.mono (by decide)) (aa (qv 2) (aa (fI hu (qv 0) au) (aa (fI hu (qv 0) au) (aa (qv 1) aq))))))))) (fun _ _ _ _=>(qv 0)))
   (aj (dh (bN (qS (K:=K) hu) gA (qv 4) (jD aq) (kD _))
   (ao (bh (dH vP qd rfl T.D8 iB (qv 2))))
   aP)
   (ao (aO 4 (cF PassesOwn.never rfl (dF (qv 4)) (aB (i:=3) nd rfl (Or.inl rfl))
   (ao (aO 3 (El (ZT (Nat.add_le_add_left (by decide:1<=64) _) hu) (cL (pv 2)) (qv 3)))))))))))))) n8
theorem jx:ku qK ["_law_rows_here", "_law_told", "_law_p", "_law_q"] (b5 cP):=⟨rfl,rfl,rfl,by decide +kernel,rfl,by decide +kernel,by decide +kernel⟩
theorem qu {f:Addr} {fd:FuncData} (F:gy K "_law_good" "_law_good" cP f fd) (T:Txt K mg) (Vd:eP P w K mg base 1 "_law_both_ways" ["_law_rows_here", "_law_one", "_law_other", "_law_pairs"] (aA K aJ)) (gE':eP P w K mg base 1 "_law_pair" ["_law_found", "_law_many"] (aA K cz)):gv P w K mg base i9 2 f fd ["_law_rows_here", "_law_told", "_law_p", "_law_q"] (aA K cj) :=
 pV.ok (t:=gJ) F jx oZ (fun cw A outer s H E hr =>
  have nd:=jx.nd
  have hu:=hr.units
  (aj (dh (dR (eU (zg T.CD (qv 1) (zV T.D7 nG))))
   (ao (bh ot))
   aP)
   (aj (aG (i:=4) nd rfl (Or.inl rfl) rQ)
   (aj (aG (i:=5) nd rfl (Or.inl rfl) xT)
   (aj (aO 1 (cF PassesOwn.never rfl (dF (qv 1)) (aB (i:=6) nd rfl (Or.inl rfl))
   (aj (dh (E3 (uT (dR (eU (a_ gE' (hr.mono (by decide)) (aa (qv 6) (aa (dH du mV rfl T.AQ nu (qv 0)) aq))))) (pJ (E3 (Ck (bN WW wN (qv 5) xT (kD _)) (vM (dR (bN (Cw hu) Hy (qv 5) (qv 6) (kD _)))))))))
   (ao (bh ot))
   aP)
   (aj (ph hu (cL (pv 4)) (qv 6) ot)
   (ao (aO 6 (aG (i:=5) nd rfl (Or.inl rfl) (qv 6))))))))
   (aj (aO 1 (cF PassesOwn.never rfl (dF (qv 1)) (il rfl (aN (aB (i:=7) nd rfl (Or.inl rfl)) (aN (aB (i:=8) nd rfl (Or.inl rfl)) eV)))
   (ao (dh (dR (eU (a_ Vd (hr.mono (by decide)) (aa (qv 0) (aa (qv 7) (aa (qv 8) (aa (qv 4) aq)))))))
   (ao (bh ot))
   aP))))
   (ao (aO 3 (aO 2 (bh (vh (ke (K:=K) hu) Fi (fH (aa (qv 2) (aa (qv 3) aq))) (qv 4) (by rfl)))))))))))) rT
theorem jq:ku p_ ["m"] (b5 cM):=⟨rfl,rfl,rfl,by decide +kernel,rfl,by decide +kernel,by decide +kernel⟩
theorem pQ {f:Addr} {fd:FuncData} (F:gy K "rounds_of" "rounds_of" cM f fd) (T:Txt K mg) (gF':eP P w K mg base 1 "exits_of" ["m"] (aA K cO)) (Zr:eP P w K mg base 2 "ranks_behind" ["exits", "ranks"] (aA K aV)):gv P w K mg base i9 3 f fd ["m"] (aA K cB) :=
 pV.ok (t:=gY) F jq nY (fun cw A outer s H E hr =>
  have nd:=jq.nd
  have hu:=hr.units
  (aj (aG (i:=1) nd rfl (Or.inl rfl) (a_ gF' (hr.mono (by decide)) (aa (qv 0) aq)))
   (aj (aG (i:=2) nd rfl (Or.inl rfl) (jD (aa (HQ (jD (aa au aq)) (fI hu (qv 0) au)) aq)))
   (aj (aG (i:=3) nd rfl (Or.inl rfl) (a_ Zr (hr.mono (by decide)) (aa (qv 1) (aa (fI hu (qv 2) au) aq))))
   (aj (tY PassesOwn.never (bN (TR (K:=K) hu) F_ (qv 3) (fI hu (qv 2) (Em au)) (kD _))
   (Ag nd rfl (Or.inl rfl) (pv 2) (pv 3) (a_ Zr (hr.mono (by decide)) (aa (qv 1) (aa (qv 3) aq)))))
   (ao (pG (pv 2)))))))) sV
theorem gf:ku lz ["_law_script", "_law_most"] (b5 bH):=⟨rfl,rfl,rfl,by decide +kernel,rfl,by decide +kernel,by decide +kernel⟩
theorem lB {f:Addr} {fd:FuncData} (F:gy K "_law_machine" "_law_machine" bH f fd) (T:Txt K mg) (Pp:eP P w K mg base 1 "_law_cell_at" ["_law_script", "_law_k"] (aA K aH)) (rV:eP P w K mg base 1 "_law_digit" ["_law_cell", "_law_way", "_law_many"] (aA K az)) (gG':eP P w K mg base 2 "_law_menu" ["_law_cell"] (aA K cD)) (CF:eP P w K mg base 2 "_law_draw" ["_law_script", "_law_k", "_law_way", "_law_many"] (aA K aF)):gv P w K mg base i9 3 f fd ["_law_script", "_law_most"] (aA K bj) :=
 pV.ok (t:=dX) F gf jA (fun cw A outer s H E hr =>
  have nd:=gf.nd
  have hu:=hr.units
  (aj (aG (i:=2) nd rfl (Or.inl rfl) (a_ Pp (hr.mono (by decide)) (aa (qv 0) (aa au aq))))
   (aj (aG (i:=3) nd rfl (Or.inl rfl) (bW au (vm (a_ rV (hr.mono (by decide)) (aa (qv 2) (aa au (aa au aq)))) au)))
   (aj (aG (i:=4) nd rfl (Or.inl rfl) (bW au (a_ rV (hr.mono (by decide)) (aa (qv 2) (aa au (aa au aq))))))
   (aj (aG (i:=5) nd rfl (Or.inl rfl) (a_ rV (hr.mono (by decide)) (aa (qv 2) (aa au (aa au aq)))))
   (aj (dh (bN (qS (K:=K) hu) gA (qv 5) au (kD _))
   (ao (aG (i:=4) nd rfl (Or.inl rfl) (vm au (qv 3))))
   aP)
   (aj (dh (bN (qS (K:=K) hu) gA (qv 5) au (kD _))
   (ao (aG (i:=4) nd rfl (Or.inl rfl) (bW au (a_ rV (hr.mono (by decide)) (aa (qv 2) (aa au (aa (vm au (qv 3)) aq)))))))
   aP)
   (aj (aG (i:=6) nd rfl (Or.inl rfl) (a_ rV (hr.mono (by decide)) (aa (qv 2) (aa au (aa (gW au (qv 4)) aq)))))
   (aj (dh (bN (qS (K:=K) hu) gA (qv 5) au (kD _))
   (ao (aO 1 (aG (i:=6) nd rfl (Or.inl rfl) (qv 1))))
   aP)
   (aj (aG (i:=7) nd rfl (Or.inl rfl) (a_ gG' (hr.mono (by decide)) (aa (a_ Pp (hr.mono (by decide)) (aa (qv 0) (aa au aq))) aq)))
   (aj (aG (i:=8) nd rfl (Or.inl rfl) rQ)
   (aj (cF PassesOwn.never rfl (bK T.ll (Fq Hl DN rfl T.Pl Hm (qv 6) (vm (qv 1) (gW (qv 3) (qv 3))))) (aB (i:=9) nd rfl (Or.inl rfl))
   (aj (aG (i:=10) nd rfl (Or.inl rfl) (a_ CF (hr.mono (by decide)) (aa (qv 0) (aa (qv 9) (aa au (aa (qv 4) aq))))))
   (aj (aG (i:=11) nd rfl (Or.inl rfl) (a_ CF (hr.mono (by decide)) (aa (qv 0) (aa (qv 9) (aa au (aa (qv 4) aq))))))
   (aj (aG (i:=12) nd rfl (Or.inl rfl) (fI hu (qv 7) (a_ CF (hr.mono (by decide)) (aa (qv 0) (aa (qv 9) (aa au (aa (dH du mV rfl T.AQ nu (qv 7)) aq)))))))
   (aj (aG (i:=13) nd rfl (Or.inl rfl) (a_ CF (hr.mono (by decide)) (aa (qv 0) (aa (qv 9) (aa au (aa au aq))))))
   (ao (cF PassesOwn.never rfl (bK T.ll (qv 3)) (aB (i:=14) nd rfl (Or.inl rfl))
   (ao (cF PassesOwn.never rfl (bK T.ll (qv 3)) (aB (i:=15) nd rfl (Or.inl rfl))
   (ao (dh (E3 (uT (bN (qS (K:=K) hu) gA (qv 13) au (kD _)) (pJ (bN (qS (K:=K) hu) gA (qv 15) (mq (bW (qv 13) (qv 14)) (qv 3)) (kD _)))))
   (ao (ph hu (cL (pv 8)) (fH (aa (bW (qv 10) (gW (qv 4) (qv 14))) (aa (qv 12) (aa (bW (qv 11) (gW (qv 4) (qv 15))) aq)))) ot))
   aP)))))))))))
   (aj (cF PassesOwn.never rfl (bK T.ll (J2 (gW (qv 3) (qv 4)) au)) (aB (i:=9) nd rfl (Or.inl rfl))
   (ao (dh (E3 (Ck (bN (qS (K:=K) hu) gA (a_ rV (hr.mono (by decide)) (aa (qv 2) (aa au (aa au aq)))) au (kD _)) (vM (bN Gp JG (mq (bW (qv 9) au) (qv 4)) au (kD _)))))
   (ao (ph hu (cL (pv 8)) (fH (aa (qv 9) (aa (fI hu (qv 7) au) (aa (bW (qv 9) au) aq)))) ot))
   aP)))
   (ao (bh (fH (aa (gW (qv 3) (qv 4)) (aa (dH vP qd rfl T.D8 iB (qv 8)) aq)))))))))))))))))) lW
theorem kj:ku sS ["m"] (b5 dq):=⟨rfl,rfl,rfl,by decide +kernel,rfl,by decide +kernel,by decide +kernel⟩
theorem qX {f:Addr} {fd:FuncData} (F:gy K "kinds_of" "kinds_of" dq f fd) (T:Txt K mg) (gH':eP P w K mg base 3 "rounds_of" ["m"] (aA K cB)):gv P w K mg base i9 4 f fd ["m"] (aA K bf) :=
 pV.ok (t:=iQ) F kj qJ (fun cw A outer s H E hr =>
  have nd:=kj.nd
  have hu:=hr.units
  (ao (bh (Jd (a_ gH' (hr.mono (by decide)) (aa (qv 0) aq)) (Em au))))) vq
theorem tH:ku uo ["m", "p", "q"] (b5 dW):=⟨rfl,rfl,rfl,by decide +kernel,rfl,by decide +kernel,by decide +kernel⟩
theorem Gd {f:Addr} (T:Txt K mg) (RT:vx P w K mg base rn 1 "check_state" ["m", "state"] aQ) (FK:eP P w K mg base 4 "kinds_of" ["m"] (aA K bf)) (cw:Value) (A:Around) (outer:List PySem.Env) (s:Shared) (H:Hp) (E:XK) (hr:i6 4 (A.deeper (envOfC "alike" (b5 dW) s.heap.objs.size f cw))) :
  n4 (rX (mw P w mg rn) P w K mg base uo "alike" (b5 dW) f cw A outer s H E) K (LX rn mg E) (gS dW) sO :=
 have nd:=tH.nd
 have hu:(A.deeper (envOfC "alike" (b5 dW) s.heap.objs.size f cw)).units+64<cLine:=hr.units
 (aj (oO RT (hr.mono (by decide)) Gf (aa (qv 0) (aa (qv 1) aq)))
   (aj (oO RT (hr.mono (by decide)) Gf (aa (qv 0) (aa (qv 2) aq)))
   (aj (aG (i:=3) nd rfl (Or.inl rfl) (a_ FK (hr.mono (by decide)) (aa (qv 0) aq)))
   (ao (bh (vh (qS (K:=K) hu) gA (fI hu (qv 3) (qv 1)) (fI hu (qv 3) (qv 2)) (kD _)))))))
theorem zb {f:Addr} {fd:FuncData} (F:gy K "alike" "alike" dW f fd) (T:Txt K mg) (RT:vx P w K mg base rn 1 "check_state" ["m", "state"] aQ) (FK:eP P w K mg base 4 "kinds_of" ["m"] (aA K bf)):gv P w K mg base (mw P w mg rn) 5 f fd ["m", "p", "q"] (eY K rn mg fu) :=
 UG.ok F tH yH (Gd T RT FK) Ej
theorem kJ:ku gP ["m", "p", "q"] (b5 bw):=⟨rfl,rfl,rfl,by decide +kernel,rfl,by decide +kernel,by decide +kernel⟩
theorem vp {f:Addr} (T:Txt K mg) (FK:eP P w K mg base 4 "kinds_of" ["m"] (aA K bf)) (Ve:vx P w K mg base rn 5 "alike" ["m", "p", "q"] fu) (cw:Value) (A:Around) (outer:List PySem.Env) (s:Shared) (H:Hp) (E:XK) (hr:i6 5 (A.deeper (envOfC "table_of" (b5 bw) s.heap.objs.size f cw))) :
  n4 (rX (mw P w mg rn) P w K mg base gP "table_of" (b5 bw) f cw A outer s H E) K (LX rn mg E) (gS bw) iW :=
 have nd:=kJ.nd
 have hu:(A.deeper (envOfC "table_of" (b5 bw) s.heap.objs.size f cw)).units+64<cLine:=hr.units
 (aj (EY Ve (hr.mono (by decide)) Gf (aa (qv 0) (aa (qv 1) (aa (qv 2) aq)))
   (ao (bh xT))
   aP)
   (aj (aG (i:=3) nd rfl (Or.inr rfl) (a_ FK (hr.mono (by decide)) (aa (qv 0) aq)))
   (aj (aG (i:=4) nd rfl (Or.inl rfl) (jD aq))
   (aj (cF PassesOwn.leaving rfl (bK T.ll (fI hu (qv 0) au)) (aB (i:=5) nd rfl (Or.inr rfl))
   (ao (aO 5 (Hj (cL (pv 4)) (gG (tn:=["b"]) (cn:=["a", "kinds"]) (ix:=[5,3]) rfl (fY (bK T.ll (fI hu (qv 0) au))) (bL.of (sc:=b5 bw) (N:=gP) rfl rfl (by decide +kernel)) (fun _ _ _ _=>(aB (i:=0) (show(["b", "a", "kinds"]:List Str).Nodup by decide +kernel) rfl (Or.inl rfl) (.inr rfl))) (fun _ _ _ _=>(oH (bN (qS (K:=K) hu) gA (fI hu (qv 2) (qv 1)) (fI hu (qv 2) (qv 0)) (kD _)))) (fun _ _ _ _=>(fH (aa (qv 1) (aa (qv 0) aq)))))))))
   (ao (pG (pv 4)))))))
theorem sG {f:Addr} {fd:FuncData} (F:gy K "table_of" "table_of" bw f fd) (T:Txt K mg) (FK:eP P w K mg base 4 "kinds_of" ["m"] (aA K bf)) (Ve:vx P w K mg base rn 5 "alike" ["m", "p", "q"] fu):gv P w K mg base (mw P w mg rn) 6 f fd ["m", "p", "q"] (eY K rn mg bA) :=
 UG.ok F kJ qQ (vp T FK Ve) vz
theorem fK:ku lD ["_law_m", "_law_p", "_law_q"] (b5 bF):=⟨rfl,rfl,rfl,by decide +kernel,rfl,by decide +kernel,by decide +kernel⟩
theorem jZ {f:Addr} {fd:FuncData} (F:gy K "_law_refused" "_law_refused" bF f fd) (T:Txt K mg) (RV:vx P w K mg base rn 6 "table_of" ["m", "p", "q"] bA):gv P w K mg base i9 7 f fd ["_law_m", "_law_p", "_law_q"] (aA K aY) :=
 pV.ok (t:=dZ) F fK jF (fun cw A outer s H E hr =>
  have nd:=fK.nd
  have hu:=hr.units
  (aj (aG (i:=3) nd rfl (Or.inl rfl) xT)
   (Bf (i:=3) (j:=4) (ρk:=fun a=>[none,none,none,some (.xc a),none]) T.gB' nd rfl rfl rfl rfl rfl rfl (fun a=>rfl) (fun pn xe E1 YR=>(ao (oO RV (hr.mono (by decide)) YR (aa (qv 0) (aa (qv 1) (aa (qv 2) aq))))))
   (fun pn a oe n C hn hm xc hp ve=>by
    obtain⟨gI',gJ',gK'⟩:=T.gC' n C hn hm
    exact(ao (bh (Ja (vc:=.ref gI') (j:=3) T.CD hp ve xc gK' (pv 3) (ae' rfl gJ' rfl) (fun _ r=>r)))))))) mJ
theorem Cd:ku yF ["_law_script"] (b5 lN):=⟨rfl,rfl,rfl,by decide +kernel,rfl,by decide +kernel,by decide +kernel⟩
theorem gL' {f:Addr} {fd:FuncData} (F:gy K "law" "law" lN f fd) (T:Txt K mg) (gM':eP P w K mg base 3 "_law_machine" ["_law_script", "_law_most"] (aA K bj)) (gN':eP P w K mg base 1 "_law_rows" ["_law_many", "_law_steps"] (aA K cC)) (gO':eP P w K mg base 2 "_law_pruned" ["_law_rows_here", "_law_some"] (aA K bJ)) (RV:vx P w K mg base rn 6 "table_of" ["m", "p", "q"] bA) (CF:eP P w K mg base 2 "_law_draw" ["_law_script", "_law_k", "_law_way", "_law_many"] (aA K aF)) (gP':eP P w K mg base 2 "_law_good" ["_law_rows_here", "_law_told", "_law_p", "_law_q"] (aA K cj)) (Zt:eP P w K mg base 7 "_law_refused" ["_law_m", "_law_p", "_law_q"] (aA K aY)):gv P w K mg base i9 8 f fd ["_law_script"] (aA K Lc) :=
 pV.ok (t:=Fd) F Cd Dk (fun cw A outer s H E hr =>
  have nd:=Cd.nd
  have hu:=hr.units
  (aj (CP (i:=1) (j:=2) rfl nd rfl (Or.inr rfl) rfl (Or.inl rfl) (fR' (a_ gM' (hr.mono (by decide)) (aa (qv 0) (aa au aq)))))
   (aj (aG (i:=3) nd rfl (Or.inl rfl) (a_ gN' (hr.mono (by decide)) (aa (qv 1) (aa (qv 2) aq))))
   (aj (aG (i:=4) nd rfl (Or.inr rfl) (a_ gO' (hr.mono (by decide)) (aa (qv 3) (aa (gG (tn:=["_law_k"]) (cn:=["_law_many"]) (ix:=[1]) rfl (fY (bK T.ll (gW (qv 1) (qv 1)))) (bL.of (sc:=b5 lN) (N:=yF) rfl rfl (by decide +kernel)) (fun _ _ _ _=>(aB (i:=0) (show(["_law_k", "_law_many"]:List Str).Nodup by decide +kernel) rfl (Or.inl rfl) (.inr rfl))) (fun _ _ _ _=>cX) (fun _ _ _ _=>(fH (aa (vm (qv 0) (qv 1)) (aa (mq (qv 0) (qv 1)) aq))))) aq))))
   (aj (dB (i:=5) (tn:=["_law_k"]) (cn:=["_law_best", "_law_script"]) (ix:=[4,0]) nd rfl (Or.inl rfl) rfl (fY (bK T.ll au)) (bL.of (sc:=b5 lN) (N:=yF) rfl rfl (by decide +kernel)) (fun _ _ _ _=>(aB (i:=0) (show(["_law_k", "_law_best", "_law_script"]:List Str).Nodup by decide +kernel) rfl (Or.inl rfl) (.inr rfl))) (fun _ _ _ _=>cX) (fun _ _ _ _=>(fI hu (qv 1) (a_ CF (hr.mono (by decide)) (aa (qv 2) (aa (bW au (qv 0)) (aa au (aa (dH du mV rfl T.AQ nu (qv 1)) aq))))))))
   (aj (cF PassesOwn.never rfl (bK T.ll au) (aB (i:=6) nd rfl (Or.inl rfl))
   (ao (m_ (cL (pv 5)) (fH (aa (a_ CF (hr.mono (by decide)) (aa (qv 0) (aa (bW au (qv 6)) (aa au (aa (qv 1) aq))))) (aa (a_ CF (hr.mono (by decide)) (aa (qv 0) (aa (bW au (qv 6)) (aa au (aa (qv 1) aq))))) aq))))))
   (aj (aO 1 (aG (i:=7) nd rfl (Or.inl rfl) (fH (aa (qv 1) (aa (jK iK sH rfl T.D7 nG (qv 2)) aq)))))
   (aj (aO 5 (cF PassesOwn.never rfl (dF (qv 5)) (il rfl (aN (aB (i:=8) nd rfl (Or.inl rfl)) (aN (aB (i:=9) nd rfl (Or.inl rfl)) eV)))
   (aj (aG (i:=10) nd rfl (Or.inl rfl) (BK RV (hr.mono (by decide)) (aa (qv 7) (aa (qv 8) (aa (qv 9) aq)))))
   (ao (aO 9 (aO 8 (dh (bN (yg (K:=K) hu) Bw (fH (aa (qv 8) (aa (qv 9) aq))) (qv 4) (by rfl))
   (ao (dh (bN WW wN (qv 10) xT (kD _))
   (ao (bh ot))
   aP))
   (aj (dh (dR (eU (a_ gP' (hr.mono (by decide)) (aa (qv 3) (aa (qv 10) (aa (qv 8) (aa (qv 9) aq)))))))
   (ao (bh ot))
   aP)
   (aj (aG (i:=11) nd rfl (Or.inl rfl) (jK iK sH rfl T.D7 nG (qv 10)))
   (aj (aO 8 (aO 1 (m_ (cL (pv 10)) (fH (aa (qv 1) (aa (qv 8) aq))))))
   (aj (aO 1 (aO 9 (De (cL (pv 10)) au (fH (aa (qv 9) (aa (qv 1) aq))))))
   (ao (dh (bN (TR (K:=K) hu) F_ (BK RV (hr.mono (by decide)) (aa (qv 7) (aa (qv 8) (aa (qv 9) aq)))) (qv 11) (kD _))
   (ao (bh ot))
   aP)))))))))))))
   (aj (aO 1 (cF PassesOwn.never rfl (dF (jD (aa (Em au) (aa (qv 1) (aa (bW (qv 1) (a_ CF (hr.mono (by decide)) (aa (qv 0) (aa au (aa au (aa (Jl au au) aq)))))) aq))))) (aB (i:=12) nd rfl (Or.inl rfl))
   (ao (dh (E3 (uT (dR (eU (a_ Zt (hr.mono (by decide)) (aa (qv 7) (aa (qv 12) (aa (qv 8) aq)))))) (pJ (dR (eU (a_ Zt (hr.mono (by decide)) (aa (qv 7) (aa (qv 9) (aa (qv 12) aq)))))))))
   (ao (bh ot))
   aP))))
   (ao (aO 2 (aO 1 (bh (vh (qS (K:=K) hu) gA (qv 7) (fH (aa (qv 1) (aa (qv 2) aq))) (kD _))))))))))))))) JW
end
theorem RW{us:List Value}(h:us.length=1):∃ a0,us=[a0]:=by
 cases us with
 |nil=>simp at h
 |cons a0 us =>
 cases us with
 |nil=>exact⟨_,rfl⟩
 |cons b us=>simp at h
theorem FL{us:List Value}(h:us.length=2):∃ a0 a1,us=[a0,a1]:=by
 cases us with
 |nil=>simp at h
 |cons a0 us =>
 cases us with
 |nil=>simp at h
 |cons a1 us =>
 cases us with
 |nil=>exact⟨_,_,rfl⟩
 |cons b us=>simp at h
theorem Pq{us:List Value}(h:us.length=3):∃ a0 a1 a2,us=[a0,a1,a2]:=by
 cases us with
 |nil=>simp at h
 |cons a0 us =>
 cases us with
 |nil=>simp at h
 |cons a1 us =>
 cases us with
 |nil=>simp at h
 |cons a2 us =>
 cases us with
 |nil=>exact⟨_,_,_,rfl⟩
 |cons b us=>simp at h
theorem Vf{us:List Value}(h:us.length=4):∃ a0 a1 a2 a3,us=[a0,a1,a2,a3]:=by
 cases us with
 |nil=>simp at h
 |cons a0 us =>
 cases us with
 |nil=>simp at h
 |cons a1 us =>
 cases us with
 |nil=>simp at h
 |cons a2 us =>
 cases us with
 |nil=>simp at h
 |cons a3 us =>
 cases us with
 |nil=>exact⟨_,_,_,_,rfl⟩
 |cons b us=>simp at h
theorem all_mk {l:PySem.W.OpenLaw} {w:World} {K:PySem.W.Frag} {h:Heap} {mg:Str->Option Value} {fa:Addr} (X:K.In h) (G:h.Ns mainGlobals mg) (hfa:mg "law" = some (.ref fa))
  (a0:PySem.W.nsIn K mainGlobals "check_state" = some (some (.ref f0))) (l0:K.lookup f0=some ⟨o0,d0,.func (PySem.W.fnOf "check_state" "check_state" (i7 aM) (gS aM) (b5 aM) .none v0 j0 p0 e0 r0 u0),t0⟩) (c0:PySem.W.codeIn K r0 "check_state" = true) (k0:PySem.W.keepIn K (.ref f0)=true)
  (a1:PySem.W.nsIn K mainGlobals "exits_of" = some (some (.ref f1))) (l1:K.lookup f1=some ⟨o1,d1,.func (PySem.W.fnOf "exits_of" "exits_of" (i7 cJ) (gS cJ) (b5 cJ) .none v1 j1 p1 e1 r1 u1),t1⟩) (c1:PySem.W.codeIn K r1 "exits_of" = true) (k1:PySem.W.keepIn K (.ref f1)=true)
  (a2:PySem.W.nsIn K mainGlobals "key_of" = some (some (.ref f2))) (l2:K.lookup f2=some ⟨o2,d2,.func (PySem.W.fnOf "key_of" "key_of" (i7 e_) (gS e_) (b5 e_) .none v2 j2 p2 e2 r2 u2),t2⟩) (c2:PySem.W.codeIn K r2 "key_of" = true) (k2:PySem.W.keepIn K (.ref f2)=true)
  (a3:PySem.W.nsIn K mainGlobals "ranks_behind" = some (some (.ref f3))) (l3:K.lookup f3=some ⟨o3,d3,.func (PySem.W.fnOf "ranks_behind" "ranks_behind" (i7 aR) (gS aR) (b5 aR) .none v3 j3 p3 e3 r3 u3),t3⟩) (c3:PySem.W.codeIn K r3 "ranks_behind" = true) (k3:PySem.W.keepIn K (.ref f3)=true)
  (a4:PySem.W.nsIn K mainGlobals "rounds_of" = some (some (.ref f4))) (l4:K.lookup f4=some ⟨o4,d4,.func (PySem.W.fnOf "rounds_of" "rounds_of" (i7 cM) (gS cM) (b5 cM) .none v4 j4 p4 e4 r4 u4),t4⟩) (c4:PySem.W.codeIn K r4 "rounds_of" = true) (k4:PySem.W.keepIn K (.ref f4)=true)
  (a5:PySem.W.nsIn K mainGlobals "kinds_of" = some (some (.ref f5))) (l5:K.lookup f5=some ⟨o5,d5,.func (PySem.W.fnOf "kinds_of" "kinds_of" (i7 dq) (gS dq) (b5 dq) .none v5 j5 p5 e5 r5 u5),t5⟩) (c5:PySem.W.codeIn K r5 "kinds_of" = true) (k5:PySem.W.keepIn K (.ref f5)=true)
  (a6:PySem.W.nsIn K mainGlobals "alike" = some (some (.ref f6))) (l6:K.lookup f6=some ⟨o6,d6,.func (PySem.W.fnOf "alike" "alike" (i7 dW) (gS dW) (b5 dW) .none v6 j6 p6 e6 r6 u6),t6⟩) (c6:PySem.W.codeIn K r6 "alike" = true) (k6:PySem.W.keepIn K (.ref f6)=true)
  (a7:PySem.W.nsIn K mainGlobals "table_of" = some (some (.ref f7))) (l7:K.lookup f7=some ⟨o7,d7,.func (PySem.W.fnOf "table_of" "table_of" (i7 bw) (gS bw) (b5 bw) .none v7 j7 p7 e7 r7 u7),t7⟩) (c7:PySem.W.codeIn K r7 "table_of" = true) (k7:PySem.W.keepIn K (.ref f7)=true)
  (a8:PySem.W.nsIn K mainGlobals "_law_cell_at" = some (some (.ref f8))) (l8:K.lookup f8=some ⟨o8,d8,.func (PySem.W.fnOf "_law_cell_at" "_law_cell_at" (i7 bC) (gS bC) (b5 bC) .none v8 j8 p8 e8 r8 u8),t8⟩) (c8:PySem.W.codeIn K r8 "_law_cell_at" = true) (k8:PySem.W.keepIn K (.ref f8)=true)
  (a9:PySem.W.nsIn K mainGlobals "_law_digit" = some (some (.ref f9))) (l9:K.lookup f9=some ⟨o9,d9,.func (PySem.W.fnOf "_law_digit" "_law_digit" (i7 cA) (gS cA) (b5 cA) .none v9 j9 p9 e9 r9 u9),t9⟩) (c9:PySem.W.codeIn K r9 "_law_digit" = true) (k9:PySem.W.keepIn K (.ref f9)=true)
  (Vg:PySem.W.nsIn K mainGlobals "_law_menu" = some (some (.ref Zu))) (l10:K.lookup Zu=some ⟨mz,d10,.func (PySem.W.fnOf "_law_menu" "_law_menu" (i7 aX) (gS aX) (b5 aX) .none v10 j10 p10 e10 Tz u10),t10⟩) (Vh:PySem.W.codeIn K Tz "_law_menu" = true) (Vi:PySem.W.keepIn K (.ref Zu)=true)
  (Vj:PySem.W.nsIn K mainGlobals "_law_draw" = some (some (.ref Zv))) (Vk:K.lookup Zv=some ⟨mB,d11,.func (PySem.W.fnOf "_law_draw" "_law_draw" (i7 cH) (gS cH) (b5 cH) .none v11 j11 p11 e11 r11 u11),t11⟩) (Vl:PySem.W.codeIn K r11 "_law_draw" = true) (Vm:PySem.W.keepIn K (.ref Zv)=true)
  (Vn:PySem.W.nsIn K mainGlobals "_law_machine" = some (some (.ref Zw))) (Vo:K.lookup Zw=some ⟨Ct,d12,.func (PySem.W.fnOf "_law_machine" "_law_machine" (i7 bH) (gS bH) (b5 bH) .none v12 j12 p12 e12 r12 u12),t12⟩) (Vp:PySem.W.codeIn K r12 "_law_machine" = true) (Vq:PySem.W.keepIn K (.ref Zw)=true)
  (Vr:PySem.W.nsIn K mainGlobals "_law_rows" = some (some (.ref Zx))) (Vs:K.lookup Zx=some ⟨Pj,d13,.func (PySem.W.fnOf "_law_rows" "_law_rows" (i7 cg) (gS cg) (b5 cg) .none v13 j13 p13 e13 r13 u13),t13⟩) (Vt:PySem.W.codeIn K r13 "_law_rows" = true) (Vu:PySem.W.keepIn K (.ref Zx)=true)
  (Vv:PySem.W.nsIn K mainGlobals "_law_both_ways" = some (some (.ref Zy))) (Vw:K.lookup Zy=some ⟨CB,d14,.func (PySem.W.fnOf "_law_both_ways" "_law_both_ways" (i7 aL) (gS aL) (b5 aL) .none v14 j14 p14 e14 r14 u14),t14⟩) (Vx:PySem.W.codeIn K r14 "_law_both_ways" = true) (Vy:PySem.W.keepIn K (.ref Zy)=true)
  (Vz:PySem.W.nsIn K mainGlobals "_law_pruned" = some (some (.ref Zz))) (VA:K.lookup Zz=some ⟨vF,d15,.func (PySem.W.fnOf "_law_pruned" "_law_pruned" (i7 bx) (gS bx) (b5 bx) .none v15 j15 p15 e15 r15 u15),t15⟩) (VB:PySem.W.codeIn K r15 "_law_pruned" = true) (VC:PySem.W.keepIn K (.ref Zz)=true)
  (VD:PySem.W.nsIn K mainGlobals "_law_pair" = some (some (.ref ZC))) (VF:K.lookup ZC=some ⟨o16,d16,.func (PySem.W.fnOf "_law_pair" "_law_pair" (i7 cI) (gS cI) (b5 cI) .none v16 j16 p16 e16 r16 u16),t16⟩) (c16:PySem.W.codeIn K r16 "_law_pair" = true) (VG:PySem.W.keepIn K (.ref ZC)=true)
  (VH:PySem.W.nsIn K mainGlobals "_law_good" = some (some (.ref ZD))) (VJ:K.lookup ZD=some ⟨o17,d17,.func (PySem.W.fnOf "_law_good" "_law_good" (i7 cP) (gS cP) (b5 cP) .none v17 j17 p17 e17 r17 u17),t17⟩) (VL:PySem.W.codeIn K r17 "_law_good" = true) (VM:PySem.W.keepIn K (.ref ZD)=true)
  (VN:PySem.W.nsIn K mainGlobals "_law_refused" = some (some (.ref ZE))) (VP:K.lookup ZE=some ⟨o18,d18,.func (PySem.W.fnOf "_law_refused" "_law_refused" (i7 bF) (gS bF) (b5 bF) .none v18 j18 p18 e18 r18 u18),t18⟩) (VQ:PySem.W.codeIn K r18 "_law_refused" = true) (VR:PySem.W.keepIn K (.ref ZE)=true)
  (VS:PySem.W.nsIn K mainGlobals "law" = some (some (.ref ZF))) (VW:K.lookup ZF=some ⟨o19,d19,.func (PySem.W.fnOf "law" "law" (i7 lN) (gS lN) (b5 lN) .none v19 j19 p19 e19 ZG u19),t19⟩) (VX:PySem.W.codeIn K ZG "law" = true) (VY:PySem.W.keepIn K (.ref ZF)=true)
  (LB:PySem.W.nsIn K mainGlobals "any" = some none)
  (Pk:PySem.W.nsIn K mainGlobals "bool" = some none)
  (LD:PySem.W.nsIn K mainGlobals "int" = some none)
  (CD:PySem.W.nsIn K mainGlobals "isinstance" = some none)
  (AQ:PySem.W.nsIn K mainGlobals "len" = some none)
  (D7:PySem.W.nsIn K mainGlobals "list" = some none)
  (Pl:PySem.W.nsIn K mainGlobals "min" = some none)
  (ll:PySem.W.nsIn K mainGlobals "range" = some none)
  (Pm:PySem.W.nsIn K mainGlobals "set" = some none)
  (D8:PySem.W.nsIn K mainGlobals "sorted" = some none)
  (Pn:PySem.W.nsIn K mainGlobals "tuple" = some none)
  {D9:Addr} (VZ:PySem.W.nsIn K mainGlobals "KinError" = some (some (.ref D9)))
  {yB:Addr} (V0:PySem.W.nsIn K mainGlobals "NoState" = some (some (.ref yB)))
  (V1:PySem.W.excIn K D9 [.type "ValueError",.type "Exception",.type "BaseException",.type "object"] "ValueError.__new__" = true) (V2:PySem.W.findIn K (.ref D9) "__getattr__" = some none) (V3:PySem.W.findIn K (.ref D9) "__getattribute__" = some (some (.builtin "BaseException.__getattribute__"))) (V4:PySem.W.findIn K (.ref D9) "__class__" = some (some (.builtin "object.__class__"))) (V5:PySem.W.mroIn K D9 (.type "object")=some true)
  (V6:PySem.W.excIn K yB [.type "ValueError",.type "Exception",.type "BaseException",.type "object"] "ValueError.__new__" = true) (V7:PySem.W.findIn K (.ref yB) "__getattr__" = some none) (V8:PySem.W.findIn K (.ref yB) "__getattribute__" = some (some (.builtin "BaseException.__getattribute__"))) (V9:PySem.W.findIn K (.ref yB) "__class__" = some (some (.builtin "object.__class__"))) (V_:PySem.W.mroIn K yB (.type "object")=some true)
  (Wa:PySem.W.mroIn K yB (.ref D9)=some true)
  (Wb:PySem.W.kitOne K (.ref yB) (.ref yB)=some true)
  : ∃ fd:FuncData,(∀ (s:Shared) (v:Value),BindsTo s fd ⟨[v],[]⟩ [("_law_script",v)])/\∀ base:Heap,K.In base->base.Ns mainGlobals mg->gv l.prog w K mg base i9 8 fa fd ["_law_script"] (aA K Lc):=by
 have e:=hfa.symm.trans (PySem.W.mg_of X G VS)
 cases e
 have hw':=PySem.W.mg_of X G VZ
 have Wc:=PySem.W.mg_of X G V0
 have hA':n9 K D9:=⟨V1,V2,V3,V4,V5⟩
 have ZH:n9 K yB:=⟨V6,V7,V8,V9,V_⟩
 have each:∀ {G:Str->Addr->Prop},G "NoState" yB->∀ n C,n∈rn->mg n=some (.ref C)->G n C:=by
  intro G hC' n C hn hm
  simp only[rn,dc,CY,or_false] at hn
  rcases hn with rfl
  ·rw[Wc] at hm;cases hm;exact hC'
 have T:Txt K mg:=⟨PySem.W.mg_none_of X G LB,PySem.W.mg_none_of X G Pk,PySem.W.mg_none_of X G LD,PySem.W.mg_none_of X G CD,PySem.W.mg_none_of X G AQ,PySem.W.mg_none_of X G D7,PySem.W.mg_none_of X G Pl,PySem.W.mg_none_of X G ll,PySem.W.mg_none_of X G Pm,PySem.W.mg_none_of X G D8,PySem.W.mg_none_of X G Pn,⟨_,Wc,ZH⟩,⟨_,hw',hA',each ⟨ZH,Wa⟩⟩,each ⟨_,Wc,Wb⟩⟩
 have F0:=nk (st:=aM) l0 c0 k0
 have F1:=nk (st:=cJ) l1 c1 k1
 have F2:=nk (st:=e_) l2 c2 k2
 have F3:=nk (st:=aR) l3 c3 k3
 have F4:=nk (st:=cM) l4 c4 k4
 have F5:=nk (st:=dq) l5 c5 k5
 have F6:=nk (st:=dW) l6 c6 k6
 have F7:=nk (st:=bw) l7 c7 k7
 have F8:=nk (st:=bC) l8 c8 k8
 have F9:=nk (st:=cA) l9 c9 k9
 have ZI:=nk (st:=aX) l10 Vh Vi
 have ZJ:=nk (st:=cH) Vk Vl Vm
 have ZK:=nk (st:=bH) Vo Vp Vq
 have ZL:=nk (st:=cg) Vs Vt Vu
 have ZM:=nk (st:=aL) Vw Vx Vy
 have ZN:=nk (st:=bx) VA VB VC
 have ZO:=nk (st:=cI) VF c16 VG
 have ZP:=nk (st:=cP) VJ VL VM
 have ZQ:=nk (st:=bF) VP VQ VR
 have F19:=nk (st:=lN) VW VX VY
 refine⟨PySem.W.fnOf "law" "law" (i7 lN) (gS lN) (b5 lN) .none v19 j19 p19 e19 ZG u19,fun s v=>.of_eq rfl,fun base _ _=>?_⟩
 have C0:vx l.prog w K mg base rn 1 "check_state" ["m", "state"] aQ:=gy.UH F0 (PySem.W.mg_of X G a0) (lX F0 T ) fun _ _ _ _ _ _ us hl=>by obtain⟨_,_,rfl⟩:=FL hl;rfl
 have C1:eP l.prog w K mg base 1 "exits_of" ["m"] (aA K cO):=F1.qE (PySem.W.mg_of X G a1) (sE F1 T ) fun _ _ _ _ _ _ us hl=>by obtain⟨_,rfl⟩:=RW hl;rfl
 have C2:eP l.prog w K mg base 1 "key_of" ["exits", "ranks", "state"] (aA K eF):=F2.qE (PySem.W.mg_of X G a2) (vY F2 T ) fun _ _ _ _ _ _ us hl=>by obtain⟨_,_,_,rfl⟩:=Pq hl;rfl
 have C8:eP l.prog w K mg base 1 "_law_cell_at" ["_law_script", "_law_k"] (aA K aH):=F8.qE (PySem.W.mg_of X G a8) (lu F8 T ) fun _ _ _ _ _ _ us hl=>by obtain⟨_,_,rfl⟩:=FL hl;rfl
 have C9:eP l.prog w K mg base 1 "_law_digit" ["_law_cell", "_law_way", "_law_many"] (aA K az):=F9.qE (PySem.W.mg_of X G a9) (oE F9 T ) fun _ _ _ _ _ _ us hl=>by obtain⟨_,_,_,rfl⟩:=Pq hl;rfl
 have C13:eP l.prog w K mg base 1 "_law_rows" ["_law_many", "_law_steps"] (aA K cC):=ZL.qE (PySem.W.mg_of X G Vr) (qM ZL T ) fun _ _ _ _ _ _ us hl=>by obtain⟨_,_,rfl⟩:=FL hl;rfl
 have ZR:eP l.prog w K mg base 1 "_law_both_ways" ["_law_rows_here", "_law_one", "_law_other", "_law_pairs"] (aA K aJ):=ZM.qE (PySem.W.mg_of X G Vv) (iR ZM T ) fun _ _ _ _ _ _ us hl=>by obtain⟨_,_,_,_,rfl⟩:=Vf hl;rfl
 have C16:eP l.prog w K mg base 1 "_law_pair" ["_law_found", "_law_many"] (aA K cz):=ZO.qE (PySem.W.mg_of X G VD) (qg ZO T ) fun _ _ _ _ _ _ us hl=>by obtain⟨_,_,rfl⟩:=FL hl;rfl
 have C3:eP l.prog w K mg base 2 "ranks_behind" ["exits", "ranks"] (aA K aV):=F3.qE (PySem.W.mg_of X G a3) (lQ F3 T C2) fun _ _ _ _ _ _ us hl=>by obtain⟨_,_,rfl⟩:=FL hl;rfl
 have C10:eP l.prog w K mg base 2 "_law_menu" ["_law_cell"] (aA K cD):=ZI.qE (PySem.W.mg_of X G Vg) (qz ZI T C9) fun _ _ _ _ _ _ us hl=>by obtain⟨_,rfl⟩:=RW hl;rfl
 have ZS:eP l.prog w K mg base 2 "_law_draw" ["_law_script", "_law_k", "_law_way", "_law_many"] (aA K aF):=ZJ.qE (PySem.W.mg_of X G Vj) (qi ZJ T C8 C9) fun _ _ _ _ _ _ us hl=>by obtain⟨_,_,_,_,rfl⟩:=Vf hl;rfl
 have C15:eP l.prog w K mg base 2 "_law_pruned" ["_law_rows_here", "_law_some"] (aA K bJ):=ZN.qE (PySem.W.mg_of X G Vz) (mK ZN T ZR) fun _ _ _ _ _ _ us hl=>by obtain⟨_,_,rfl⟩:=FL hl;rfl
 have C17:eP l.prog w K mg base 2 "_law_good" ["_law_rows_here", "_law_told", "_law_p", "_law_q"] (aA K cj):=ZP.qE (PySem.W.mg_of X G VH) (qu ZP T ZR C16) fun _ _ _ _ _ _ us hl=>by obtain⟨_,_,_,_,rfl⟩:=Vf hl;rfl
 have C4:eP l.prog w K mg base 3 "rounds_of" ["m"] (aA K cB):=F4.qE (PySem.W.mg_of X G a4) (pQ F4 T C1 C3) fun _ _ _ _ _ _ us hl=>by obtain⟨_,rfl⟩:=RW hl;rfl
 have C12:eP l.prog w K mg base 3 "_law_machine" ["_law_script", "_law_most"] (aA K bj):=ZK.qE (PySem.W.mg_of X G Vn) (lB ZK T C8 C9 C10 ZS) fun _ _ _ _ _ _ us hl=>by obtain⟨_,_,rfl⟩:=FL hl;rfl
 have C5:eP l.prog w K mg base 4 "kinds_of" ["m"] (aA K bf):=F5.qE (PySem.W.mg_of X G a5) (qX F5 T C4) fun _ _ _ _ _ _ us hl=>by obtain⟨_,rfl⟩:=RW hl;rfl
 have C6:vx l.prog w K mg base rn 5 "alike" ["m", "p", "q"] fu:=gy.UH F6 (PySem.W.mg_of X G a6) (zb F6 T C0 C5) fun _ _ _ _ _ _ us hl=>by obtain⟨_,_,_,rfl⟩:=Pq hl;rfl
 have C7:vx l.prog w K mg base rn 6 "table_of" ["m", "p", "q"] bA:=gy.UH F7 (PySem.W.mg_of X G a7) (sG F7 T C5 C6) fun _ _ _ _ _ _ us hl=>by obtain⟨_,_,_,rfl⟩:=Pq hl;rfl
 have C18:eP l.prog w K mg base 7 "_law_refused" ["_law_m", "_law_p", "_law_q"] (aA K aY):=ZQ.qE (PySem.W.mg_of X G VN) (jZ ZQ T C7) fun _ _ _ _ _ _ us hl=>by obtain⟨_,_,_,rfl⟩:=Pq hl;rfl
 exact gL' F19 T C12 C13 C15 C7 ZS C17 C18
theorem walk{l:PySem.W.OpenLaw}{q:Program}{loose:List Str}{XP:(Str->Option Value)->Heap->Prop}{YP:World->Heap->Prop}{d:DefRec}{K:Params->PySem.W.Frag}(hn:l.most=some 63)(MR:d.params.defaults=[])
  (hY:∀ (w:World) (h:Heap),YP w h->(K w.params).In h)
  (F:∀ (w:World) (mg:Str->Option Value) (fa:Addr) (h:Heap),(K w.params).In h->h.Ns mainGlobals mg->mg d.name=some (.ref fa) ->
   ∃ fd:FuncData,(∀ (s:Shared) (u:Value),BindsTo s fd ⟨[u],[]⟩ [("_law_script",u)])/\∀ base:Heap,(K w.params).In base->base.Ns mainGlobals mg->gv l.prog w (K w.params) mg base i9 8 fa fd ["_law_script"] (aA (K w.params) Lc)) :
  PySem.W.WalkO q loose XP YP l.row.toRowW d [] (fun f vs=>PySem.call f vs) :=
 L2.cH' (n:=63) (k:=8) (x := "_law_script") (CX:=fun _=>i9) (sp:=fun w=>aA (K w.params) Lc) hn (by decide) MR ⟨rfl,by decide,by decide⟩ hY F (fun w H a ns hl hO hS=>Az hl hS) fun _ _ _ _ _ z=>z
end L2.Q.U4
open PySem PySem.W PyProof.Rows
namespace PySem.W.Fast
def tw15454928062554509038:=0
def tw1141726761176718730:=0
def tw461133471389180307:=0
def tw3824771058024720398:=0
def tw4442798653435987759:=0
def tw8772989174980101051:=0
def tw10375414182855594226:=0
def tw15325466806092898051:=0
def tw3973960446664886785:=0
def tw12783984381592770306:=0
def tw4734834555174966351:=0
def tw17671624714912392382:=0
def tw2054364776402561787:=0
def tw15699567241447230246:=0
def tw18419065860052352126:=0
def tw11979168011207550703:=0
def tw861172019003363760:=0
def tw2026219491141856382:=0
def tw7960773630586417285:=0
def tw465868555987664217:=0
end PySem.W.Fast
set_option maxRecDepth 100000 in
set_option maxHeartbeats 0 in
theorem PySem.Challenge.cw_kinlook_k34_table_told_holds : PySem.Challenge.rw_kinlook_k34_table_told.Holds := by
 w_on;o_law;k_head;(case hw=>w_witness2)
 k_fill
 refine L2.Q.U4.walk (l:=PySem.Challenge.rw_kinlook_k34_table_told) rfl rfl (fun w h Y=>PySem.W.kIn_of Y) ?F
 case F =>
  intro w mg fa h KX G MS
  refine' L2.Q.U4.all_mk KX G MS ?a0 ?l0 ?c0 ?k0 ?a1 ?l1 ?c1 ?k1 ?a2 ?l2 ?c2 ?k2 ?a3 ?l3 ?c3 ?k3 ?a4 ?l4 ?c4 ?k4 ?a5 ?l5 ?c5 ?k5 ?a6 ?l6 ?c6 ?k6 ?a7 ?l7 ?c7 ?k7 ?a8 ?l8 ?c8 ?k8 ?a9 ?l9 ?c9 ?k9 ?Vg ?l10 ?Vh ?Vi ?Vj ?Vk ?Vl ?Vm ?Vn ?Vo ?Vp ?Vq ?Vr ?Vs ?Vt ?Vu ?Vv ?Vw ?Vx ?Vy ?Vz ?VA ?VB ?VC ?VD ?VF ?c16 ?VG ?VH ?VJ ?VL ?VM ?VN ?VP ?VQ ?VR ?VS ?VW ?VX ?VY ?LB ?Pk ?LD ?CD ?AQ ?D7 ?Pl ?ll ?Pm ?D8 ?Pn ?VZ ?V0 ?V1 ?V2 ?V3 ?V4 ?V5 ?V6 ?V7 ?V8 ?V9 ?V_ ?Wa ?Wb
  (case a0=>k_is)
  (case l0=>k_is)
  (case c0=>k_is)
  (case k0=>k_is)
  (case a1=>k_is)
  (case l1=>k_is)
  (case c1=>k_is)
  (case k1=>k_is)
  (case a2=>k_is)
  (case l2=>k_is)
  (case c2=>k_is)
  (case k2=>k_is)
  (case a3=>k_is)
  (case l3=>k_is)
  (case c3=>k_is)
  (case k3=>k_is)
  (case a4=>k_is)
  (case l4=>k_is)
  (case c4=>k_is)
  (case k4=>k_is)
  (case a5=>k_is)
  (case l5=>k_is)
  (case c5=>k_is)
  (case k5=>k_is)
  (case a6=>k_is)
  (case l6=>k_is)
  (case c6=>k_is)
  (case k6=>k_is)
  (case a7=>k_is)
  (case l7=>k_is)
  (case c7=>k_is)
  (case k7=>k_is)
  (case a8=>k_is)
  (case l8=>k_is)
  (case c8=>k_is)
  (case k8=>k_is)
  (case a9=>k_is)
  (case l9=>k_is)
  (case c9=>k_is)
  (case k9=>k_is)
  (case Vg=>k_is)
  (case l10=>k_is)
  (case Vh=>k_is)
  (case Vi=>k_is)
  (case Vj=>k_is)
  (case Vk=>k_is)
  (case Vl=>k_is)
  (case Vm=>k_is)
  (case Vn=>k_is)
  (case Vo=>k_is)
  (case Vp=>k_is)
  (case Vq=>k_is)
  (case Vr=>k_is)
  (case Vs=>k_is)
  (case Vt=>k_is)
  (case Vu=>k_is)
  (case Vv=>k_is)
  (case Vw=>k_is)
  (case Vx=>k_is)
  (case Vy=>k_is)
  (case Vz=>k_is)
  (case VA=>k_is)
  (case VB=>k_is)
  (case VC=>k_is)
  (case VD=>k_is)
  (case VF=>k_is)
  (case c16=>k_is)
  (case VG=>k_is)
  (case VH=>k_is)
  (case VJ=>k_is)
  (case VL=>k_is)
  (case VM=>k_is)
  (case VN=>k_is)
  (case VP=>k_is)
  (case VQ=>k_is)
  (case VR=>k_is)
  (case VS=>k_is)
  (case VW=>k_is)
  (case VX=>k_is)
  (case VY=>k_is)
  (case LB=>k_is)
  (case Pk=>k_is)
  (case LD=>k_is)
  (case CD=>k_is)
  (case AQ=>k_is)
  (case D7=>k_is)
  (case Pl=>k_is)
  (case ll=>k_is)
  (case Pm=>k_is)
  (case D8=>k_is)
  (case Pn=>k_is)
  (case VZ=>k_is)
  (case V0=>k_is)
  (case V1=>k_exc)
  (case V2=>k_is)
  (case V3=>k_is)
  (case V4=>k_is)
  (case V5=>k_is)
  (case V6=>k_exc)
  (case V7=>k_is)
  (case V8=>k_is)
  (case V9=>k_is)
  (case V_=>k_is)
  (case Wa=>k_is)
  (case Wb=>kit_is)
