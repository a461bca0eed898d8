import PyProof.Rows.All
import Wide.All
import OpenK.AllK
import Wide.FinOn
import Lean
import PyProof.EqAt
import PyProof.EqKinds
import PyProof.TupleCall
import PyProof.CompUse
import PyProof.NeData
import PyProof.WalksEnum
import PyProof.EnumMake
import PyProof.ZipIter
import PyProof.Rows.EnumRows
import PyProof.Rows.FactsT2
import KE.KDictList
import PyProof.Rows.SortRuns
import PyProof.Rows.SortWalk
import KE.KSortTup
import PyProof.Rows.SortStr
import PyProof.ListRange
import PyProof.StrOps2
import PyProof.StrBlock2
import PyProof.AutoIntG3
import PyProof.ListMulRight
import PyProof.Rows.ListMulArg
import PyProof.Rows.CallKwBuiltin
import PyProof.Rows.StrMul
import KE.KMinBuiltin
import PyProof.TupleKey
import PyProof.SetKind
import PyProof.Rows.SetFrom
import PyProof.DictWalks
import KE.KRevIter
import PyProof.AutoSeq1
import PyProof.P3Eq
import PyProof.MeetsSeq3
import PyProof.FactsAll.list_2
import PyProof.FactsAll.tuple_2
import PyProof.Rows.RowHeap
import PyProof.FactsAll.list_3
import KE.KItem
import PyProof.MeetsSeq
import PyProof.FactsAll.list_4
import PySem.Challenge.RW_kinlook_k43_homes
open PySem renaming wpAny_bind->ah,wpAny_pure->ay,wpAny_mono->sL
open List renaming mem_cons_of_mem->b5,mem_cons_self->bX,length_map->b4,mem_map->cc,mem_append->dy,mem_cons->cy,mem_append_right->fz,getElem?_eq_some_iff->i7,getElem?_eq_getElem->jv,size_toArray->gi,map_cons->fi,nodup_append->iS,map_map->fA,sublist_append_right->oq,mem_append_left->kS,nodup_cons->iA,pairwise_map->ki,mem_singleton->kU,mem_of_getElem?->nX,getElem?_map->nc,length_take->mr,drop_eq_getElem_cons->vt,getElem?_eq_none->sM,getElem?_append_right->w_,length_append->pd,pairwise_iff_getElem->xa,append_nil->n4,length_cons->pe,nodup_nil->n5,mem_range->qB,getElem?_append_left->BQ,replicate_succ->yy,append_assoc->xh,mem_iff_getElem?->BU,mem_filter->xi,zip_cons_cons->AB,lookup_cons->yA,flatten_cons->AF,ext_getElem?->AG,length_drop->AH,all_eq_true->AI,take_length->AJ,getElem_mem->AK,take_add_one->B1,map_congr_left->D3,map_append->AO,filter_eq_self->D4,nodup_iff_pairwise_ne->KL,getD_eq_getElem?_getD->KP,nil_sublist->B3,sublist_append_left->KW,pairwise_append->FK,nil_append->B4,all_cons->AQ,any_cons->AR,take_of_length_le->K0,append_eq_nil_iff->K2,pairwise_cons->FL,take_append_drop->Lc,getElem?_set_ne->Lv,mem_of_mem_take->LB,mem_iff_getElem->LD,filterMap_cons->LG,countP_cons->FP,length_eq_zero_iff->OG,find?_cons->FR,length_singleton->OJ,idxOf_lt_length_of_mem->QN,not_mem_nil->LH,map_fst_zip->LJ,any_eq_true->LM,extract_eq_drop_take->QQ,getElem_idxOf->OL,all_map->FT,getElem?_set_self->QR,length_pos_of_mem->QV,drop_of_length_le->QX,not_of_lt_findIdx->QY,perm_append_comm->QZ,drop_length->OO,cons_ne_nil->OQ,eq_nil_iff_forall_not_mem->UH,mem_of_mem_drop->Q0,length_erase_le->Q5,length_nil->OS,length_zip->OU,mem_filterMap->Q6,filterMap_map->Q7,length_range->Q8
open PySem.Heap renaming get?_push_of_some->eR,lt_size->dS,get?_push_size->i9,get?_update_self->D5,get?_update_other->LN,size_update->D6,get?_push_ne->FU,size_push->FV,get?_update_ne->Q9
open Nat renaming le_refl->bT,zero_le->eh,ne_of_lt->fw,lt_of_lt_of_le->kX,le_trans->gx,le_of_lt->kA,lt_succ_of_lt->qE,lt_irrefl->pf,zero_add->qS,le_of_not_lt->D7,pow_succ->yB,not_lt_zero->D8,lt_succ_of_le->FX,add_sub_of_le->LP,lt_or_ge->D9,mul_assoc->FY,one_pos->Ee,ne_of_gt->GA,add_zero->GB,lt_of_succ_lt->Q_,le_of_succ_le->Ra,le_of_lt_succ->OV,sub_lt->EA,le_add_right->Rb,le_of_eq->LS,mod_lt->GH,eq_zero_or_pos->Rc,le_succ->LV,lt_trans->Rf,add_comm->OW,min_self->OX,mul_comm->OY,succ_pos->OZ
open Bool renaming false_ne_true->gy,false_eq_true->gE,and_eq_true->kr,eq_iff_iff->xk,not_true->O0,and_true->O1
open Array renaming getElem?_toList->kG,toList_push->n9,getElem?_eq_getElem->yT,getD_eq_getD_getElem?->B5,length_toList->y2,getElem?_eq_none->B6,getElem?_eq_some_iff->GL,size_extract->EB,eq_empty_of_size_eq_zero->O3,getElem?_extract->O4,toArray_toList->O5,perm_iff_toList_perm->Rg,toList_inj->LW,append_assoc->O6,toList_extract->Rh,append_empty->Ri
open Int renaming le_refl->pj,toNat_of_nonneg->B7,le_trans->vv,le_of_lt->AU,toNat_natCast->GN,emod_lt_of_pos->Rj
open Option renaming isSome_map->Rk
local macro_rules | `(command| def $i:declId $s:optDeclSig $v:declVal)=>`(command| noncomputable def $i:declId $s:optDeclSig $v:declVal)
local macro_rules | `(command| abbrev $i:declId $s:optDeclSig $v:declVal)=>`(command| noncomputable abbrev $i:declId $s:optDeclSig $v:declVal)
set_option compiler.extract_closed false
local macro_rules | `(tactic| walk_at "l") => `(tactic| first | lia | omega)
local macro_rules | `(tactic| walk_at "s1") => `(tactic| solve_by_elim (maxDepth := 4) [Nat.lt_of_lt_of_le, Nat.lt_of_le_of_lt, Nat.le_trans, Nat.lt_trans, Nat.le_of_lt, Nat.le_of_not_lt])
local macro_rules | `(tactic| walk_at "s2") => `(tactic| solve_by_elim (maxDepth := 5) [Nat.lt_of_lt_of_le, Nat.lt_of_le_of_lt, Nat.le_trans, Nat.le_of_lt, Nat.le_of_not_lt, Nat.lt_of_not_le, Nat.lt_of_succ_lt, Nat.le_of_succ_le])
local macro_rules | `(tactic| walk_at "s3") => `(tactic| solve_by_elim (maxDepth := 5) [Int.lt_of_lt_of_le, Int.lt_of_le_of_lt, Int.le_trans, Int.le_of_lt, Int.not_lt.mp, Int.not_le.mp])
local macro_rules | `(tactic| walk_at "s4") => `(tactic| solve_by_elim (maxDepth := 5) [Nat.le_trans, Nat.lt_of_lt_of_le, Nat.le_of_lt, Nat.le_add_right, Nat.le_add_left, Nat.add_le_add_left, Nat.add_lt_add_left, Nat.succ_le_succ, Nat.sub_le])
theorem L2.fP{α β:Type _}{A B C:α->β->Prop}{G:Prop}(x:∃ a b,A a b/\B a b/\C a b)(k:∀ a b,A a b->B a b->C a b->G):G :=
 let ⟨a,b,p,q,r⟩:=x
 k a b p q r
set_option Elab.async false
set_option linter.all false
set_option maxRecDepth 100000
namespace L2
open PySem PySem.Spec PyProof.Rows
abbrev Key:=Sum Int Str
def B8:Key->Value->Bool
 |.inl k,v=>Value.isInt k v
 |.inr x,v=>Value.isStrOf x v
def X6(w:World):Key->Int
 |.inl k=>hashInt k
 |.inr x=>hashStr w x
theorem xl:∀ {k:Key} {v:Value},B8 k v=true->(∃ i t,k=Sum.inl i/\v=Value.int i t)\/(∃ x t,k=Sum.inr x/\v=Value.str x t)
 |.inl i,v,h=>by
  obtain⟨t,e⟩:=Value.isInt_shape (k:=i) (v:=v) h
  exact .inl ⟨i,t,rfl,e⟩
 |.inr x,v,h=>by
  obtain⟨t,e⟩:=Value.isStrOf_shape (x:=x) (v:=v) h
  exact .inr ⟨x,t,rfl,e⟩
theorem UI(i:Int)(t:Tok):B8 (.inl i) (.int i t)=true:=by simp[B8,Value.isInt]
theorem UJ(x:Str)(t:Tok):B8 (.inr x) (.str x t)=true:=by simp[B8,Value.isStrOf]
theorem UK(a b:Int):decide ((Sum.inl a:Key)=Sum.inl b)=(a == b):=by
 by_cases e:a=b
 ·subst e;simp
 ·have h:¬ (Sum.inl a:Key)=Sum.inl b:=fun q=>e (Sum.inl.inj q)
  rw[decide_eq_false h]
  exact(beq_eq_false_iff_ne.mpr e).symm
theorem UL(a b:Str):decide ((Sum.inr a:Key)=Sum.inr b)=decide (a=b):=by
 by_cases e:a=b
 ·subst e;simp
 ·have h:¬ (Sum.inr a:Key)=Sum.inr b:=fun q=>e (Sum.inr.inj q)
  rw[decide_eq_false h,decide_eq_false e]
theorem X7(a:Int)(b:Str):decide ((Sum.inl a:Key)=Sum.inr b)=false:=decide_eq_false (fun q=>nomatch q)
theorem X8(a:Str)(b:Int):decide ((Sum.inr a:Key)=Sum.inl b)=false:=decide_eq_false (fun q=>nomatch q)
def iE(prog:Program)(w:World):PySem.KeyKind prog w Key where
 is:=B8
 hash:=X6 w
 inj:=fun v a b ha hb=>by
  rcases xl ha with⟨i,t,rfl,rfl⟩|⟨x,t,rfl,rfl⟩
  ·rcases xl hb with⟨j,u,rfl,e⟩|⟨y,u,rfl,e⟩
   ·injection e with e1 _;rw[e1]
   ·exact nomatch e
  ·rcases xl hb with⟨j,u,rfl,e⟩|⟨y,u,rfl,e⟩
   ·exact nomatch e
   ·injection e with e1 _;rw[e1]
 byValue:=fun k v h=>by
  rcases xl h with⟨i,t,rfl,rfl⟩|⟨x,t,rfl,rfl⟩<;>rfl
 pyHash:=fun hv h=>by
  rcases xl hv with⟨i,t,rfl,rfl⟩|⟨x,t,rfl,rfl⟩
  ·exact wpAny_pyHash_int h
  ·exact wpAny_pyHash_str h
 eqBool:=fun hu hv h=>by
  rcases xl hu with⟨i,t,rfl,rfl⟩|⟨x,t,rfl,rfl⟩
  ·rcases xl hv with⟨j,u,rfl,rfl⟩|⟨y,u,rfl,rfl⟩
   ·rw[UK] at h;exact wpAny_eqBool_int h
   ·rw[X7] at h;exact SeqAt.EqAt.int_str i t y u _ _ _ _ h
  ·rcases xl hv with⟨j,u,rfl,rfl⟩|⟨y,u,rfl,rfl⟩
   ·rw[X8] at h;exact SeqAt.EqAt.str_int x t j u _ _ _ _ h
   ·rw[UL] at h;exact wpAny_eqBool_str h
 «strs» := fun k x t v h=>by
  rcases xl h with⟨i,u,rfl,e⟩|⟨y,u,rfl,e⟩
  ·exact nomatch e
  ·injection e with e1 _
   subst e1
   cases v<;>rfl
theorem X9(prog:Program)(w:World)(k:Key)(v:Value):(iE prog w).is k v=B8 k v:=rfl
theorem X_(prog:Program)(w:World)(i:Int)(t:Tok):(iE prog w).is (.inl i) (.int i t)=true:=UI i t
theorem Ya(prog:Program)(w:World)(x:Str)(t:Tok):(iE prog w).is (.inr x) (.str x t)=true:=UJ x t
inductive V where
 |non|bl (b:Bool)|int (i:Int)|str (x:Str)|qV (b:Array UInt8)|AV (b:UInt64)|ref (a:Addr)|ty (n:String)
 deriving DecidableEq
def RelV:V->Value->Prop
 |.non,u=>u=Value.none
 |.bl b,u=>u=Value.bool b
 |.int i,u=>∃ t,u=Value.int i t
 |.str x,u=>∃ t,u=Value.str x t
 |.qV b,u=>∃ t,u=Value.bytes b t
 |.AV b,u=>∃ t,u=Value.float b t
 |.ref a,u=>u=Value.ref a
 |.ty n,u=>u=Value.type n
abbrev Vals:List V->List Value->Prop:=Paired RelV
theorem Vals.length{xs:List V}{us:List Value}(r:Vals xs us):xs.length=us.length:=Paired.length r
theorem Vals.get:∀ {xs:List V} {us:List Value} {i:Nat} {x:V},Vals xs us->xs[i]? = some x->∃ u,us[i]? = some u/\RelV x u
 |_,_,_,_,.nil,e=>by simp at e
 |_,_,0,_,.cons r _,e=>by simp at e;subst e;exact⟨_,rfl,r⟩
 |_,_,i+1,x,.cons _ t,e=>by
  obtain⟨u,h1,h2⟩:=Vals.get (i:=i) (x:=x) t (by simpa using e)
  exact⟨u,by simpa using h1,h2⟩
theorem Vals.append:∀ {xs ys:List V} {us ws:List Value},Vals xs us->Vals ys ws->Vals (xs++ys) (us++ws)
 |_,_,_,_,.nil,s=>s
 |_,_,_,_,.cons r t,s=>.cons r (Vals.append t s)
theorem Vals.take:∀ {xs:List V} {us:List Value} (n:Nat),Vals xs us->Vals (xs.take n) (us.take n)
 |_,_,0,_=>.nil
 |_,_,_+1,.nil=>.nil
 |_,_,n+1,.cons r t=>.cons r (Vals.take n t)
theorem Vals.drop:∀ {xs:List V} {us:List Value} (n:Nat),Vals xs us->Vals (xs.drop n) (us.drop n)
 |_,_,0,r=>r
 |_,_,_+1,.nil=>.nil
 |_,_,n+1,.cons _ t=>Vals.drop n t
def tJ:Option V->Option Value->Prop
 |some v,some u=>RelV v u
 |none,none=>True
 |_,_=>False
def KV{κ:Type}:List (κ × V)->List (κ × Value)->Prop:=Paired fun(p:κ × V) (q:κ × Value)=>p.1=q.1/\RelV p.2 q.2
def kV:Key->V
 |.inl i=>.int i
 |.inr x=>.str x
inductive HO where
 /-- a list -/
 |lst (xs:List V)
 /-- a tuple (never changes) -/
 |tup (xs:List V)
 /-- a dict whose keys are ints and texts;one whose keys are tuples of ints and texts (the empty one is both) -/
 |dK (kvs:List (Key × V))|dT (kvs:List (List Key × V))
 /-- a set of ints: its members,its size -/
 |set (S:Int->Bool) (n:Nat)
 /-- an instance of the class at C,its dict at dx,its attributes -/
 |ins (C dx:Addr) (fs:List (Str × V))
 /-- the dict of the instance at x -/
 |own (x:Addr)
 /-- the dict of an exception -/
 |xd (fs:List (Str × V))
 /-- a bound method,f of x -/
 |met (f x:Addr)
 /-- a range object lo,lo+1,.. below hi -/
 |Rl (lo hi:Int)
 /-- a thing that is known to the object (the script;a dict while a loop walks it): read,never written while it is so -/
 |oa (o:Obj) (u:HO)
 /-- a code object's table -/
 |EC (ps:Array Value)
 /-- any other thing,by what is true of its one object (a def of eZ' own: fa' a S n:=HO.ext fun h=>..) -/
 |ext (φ:Heap->Prop)
abbrev Hp:=Addr->Option HO
def upd(H:Hp)(a:Addr)(o:HO):Hp:=fun b=>if b=a then some o else H b
theorem gX{H:Hp}{a:Addr}{o:HO}:upd H a o a=some o:=by unfold upd;rw[if_pos rfl]
theorem fm{H:Hp}{a b:Addr}{o:HO}(h:b≠a):upd H a o b=H b:=by unfold upd;rw[if_neg h]
theorem Yb{H:Hp}{a b:Addr}{o u:HO}(h:H a=some o)(h':H b=some u)(d:o≠u):a≠b:=by
 intro e;subst e;rw[h] at h';exact d (Option.some.inj h')
theorem B9{H:Hp}{a b:Addr}{o:HO}(h:H a=some o)(h':H b=none):a≠b:=by
 intro e;subst e;rw[h] at h';cases h'
section
variable (P:Program)(w:World)
def fE(H:Hp)(h:Heap)(a:Addr):HO->Prop
 |.lst xs=>xs.length<=sizeLine/\∃ (its:List Value) (n:Nat),Vals xs its/\h.get? a=some { cls:=.type "list",data:=.seq its.toArray n }
 |.tup xs=>xs.length<=sizeLine/\∃ its:List Value,Vals xs its/\IsTup h a its.toArray
 |.dK kvs=>kvs.length<=sizeLine/\(a == sysModules)=false/\∃ vs,KV kvs vs/\h.DictOf (iE P w) a vs
 |.dT kvs=>kvs.length<=sizeLine/\(a == sysModules)=false/\∃ xs:List (List Key × Addr × Value),
   Paired (fun(p:List Key × V) (q:List Key × Addr × Value)=>p.1=q.1/\H q.2.1=some (.tup (p.1.map kV))/\RelV p.2 q.2.2) kvs xs /\
   ∃ o es ep,h.get? a=some o/\o.ExactDict/\o.data=.dict es ep/\es.toList=xs.map (entryOfKey (tupleKind (iE P w)))/\(xs.map (·.1)).Nodup
 |.set S n=>h.SetOf (intKind P w) a S n
 |.ins C dx fs=>H dx=some (.own a)/\fs.length<=1000/\dx≠a/\h.get? a=some (PySem.W.instObj C dx) /\
   ∃ mA,h.Ns1 dx mA/\(∀ f,tJ (fs.lookup f) (mA f))/\PySem.Within mA (fs.map (·.1))
 |.own _=>∃ o,h.get? a=some o
 |.xd fs=>∃ mA,h.Ns1 a mA/\∀ f,tJ (fs.lookup f) (mA f)
 |.Rl lo hi=>∃ t u v,h.get? a=some { cls:=.type "range",data:=.fields #[.int lo t,.int hi u,.int 1 v] }
 |.oa o u=>h.get? a=some o/\fE H h a u
 |.EC ps=>h.get? a=some { cls:=.none,data:=.fields ps }
 |.met f x=>h.get? a=some (PySem.W.methodObj (.ref f) (.ref x))
 |.ext φ=>φ h/\(∃ o,h.get? a=some o)/\∀ h1 h2:Heap,φ h1->(∀ o,h1.get? a=some o->h2.get? a=some o)->φ h2
def g7(H:Hp)(h:Heap):Prop:=∀ a o,H a=some o->fE P w H h a o
end
section
variable {P:Program}{w:World}{H H':Hp}{h h':Heap}{a:Addr}{o:HO}
theorem fE.lt(x:fE P w H h a o):a<h.objs.size:=by
 cases o with
 |lst xs=>obtain⟨_,_,_,_,e⟩:=x;exact dS e
 |tup xs=>obtain⟨_,_,_,p⟩:=x;exact p.lt
 |dK kvs=>obtain⟨_,_,_,_,o,_,_,e,_⟩:=x;exact dS e
 |dT kvs=>obtain⟨_,_,_,_,o,_,_,e,_⟩:=x;exact dS e
 |set S n=>obtain⟨o,_,_,_,e,_⟩:=x;exact dS e
 |ins C dx fs=>obtain⟨_,_,_,e,_⟩:=x;exact dS e
 |own y=>obtain⟨_,e⟩:=x;exact dS e
 |xd fs=>obtain⟨_,⟨_,_,_,e,_⟩,_⟩:=x;exact dS e
 |Rl lo hi=>obtain⟨_,_,_,e⟩:=x;exact dS e
 |oa ob u=>obtain⟨e,_⟩:=x;exact dS e
 |EC ps=>exact dS (show h.get? a=some _ from x)
 |met f y=>exact dS (show h.get? a=some _ from x)
 |ext φ=>obtain⟨_,⟨_,e⟩,_⟩:=x;exact dS e
theorem Paired.Rm{α β:Type}{F G:α->β->Prop}:∀ {UM:List α} {UN:List β},Paired F UM UN->(∀ a b,F a b->G a b)->Paired G UM UN
 |_,_,.nil,_=>.nil
 |_,_,.cons r t,f=>.cons (f _ _ r) (Paired.Rm t f)
theorem fE.fq(x:fE P w H h a o)(k:∀ b u,(b=a\/H b=some (.own a))->h.get? b=some u->h'.get? b=some u)
  (ho:∀ b,H b=some (.own a)->H' b=some (.own a)) (ht:∀ b xs,H b=some (.tup xs)->H' b=some (.tup xs)):fE P w H' h' a o:=by
 induction o with
 |lst xs=>obtain⟨z,its,n,r,e⟩:=x;exact⟨z,its,n,r,k _ _ (.inl rfl) e⟩
 |tup xs=>obtain⟨z,its,r,ob,e,c⟩:=x;exact⟨z,its,r,ob,k _ _ (.inl rfl) e,c⟩
 |dK kvs=>obtain⟨z,y,vs,r,ob,es,ep,e,c⟩:=x;exact⟨z,y,vs,r,ob,es,ep,k _ _ (.inl rfl) e,c⟩
 |dT kvs =>
  obtain⟨z,y,xs,r,ob,es,ep,e,c⟩:=x
  exact⟨z,y,xs,Paired.Rm r fun p q z=>⟨z.1,ht _ _ z.2.1,z.2.2⟩,ob,es,ep,k _ _ (.inl rfl) e,c⟩
 |set S n=>obtain⟨ob,es,ep,t,e,c⟩:=x;exact⟨ob,es,ep,t,k _ _ (.inl rfl) e,c⟩
 |ins C dx fs =>
  obtain⟨d,z,ne,e,mA,⟨od,es,ep,e2,c⟩,r⟩:=x
  exact⟨ho _ d,z,ne,k _ _ (.inl rfl) e,mA,⟨od,es,ep,k _ _ (.inr d) e2,c⟩,r⟩
 |own y=>obtain⟨ob,e⟩:=x;exact⟨ob,k _ _ (.inl rfl) e⟩
 |xd fs=>obtain⟨mA,⟨od,es,ep,e,c⟩,r⟩:=x;exact⟨mA,⟨od,es,ep,k _ _ (.inl rfl) e,c⟩,r⟩
 |Rl lo hi=>obtain⟨t,u,v,e⟩:=x;exact⟨t,u,v,k _ _ (.inl rfl) e⟩
 |oa ob u ih=>obtain⟨e,q⟩:=x;exact⟨k _ _ (.inl rfl) e,ih q⟩
 |EC ps =>
  have e:h.get? a=some { cls:=.none,data:=.fields ps }:=x
  show h'.get? a=some { cls:=.none,data:=.fields ps }
  exact k a _ (.inl rfl) e
 |met f y =>
  have e:h.get? a=some (PySem.W.methodObj (.ref f) (.ref y)):=x
  show h'.get? a=some (PySem.W.methodObj (.ref f) (.ref y))
  exact k a _ (.inl rfl) e
 |ext φ=>obtain⟨p,⟨o,e⟩,st⟩:=x;exact⟨st _ _ p fun o q=>k _ _ (.inl rfl) q,⟨o,k _ _ (.inl rfl) e⟩,st⟩
theorem g7.lt(x:g7 P w H h)(e:H a=some o):a<h.objs.size:=(x a o e).lt
theorem g7.fresh(x:g7 P w H h)(e:h.objs.size<=a):H a=none:=by
 cases q:H a with
 |none=>rfl
 |some u=>exact absurd (kX (x.lt q) e) (pf _)
theorem g7.kept(x:g7 P w H h)(k:∀ b u,h.get? b=some u->h'.get? b=some u):g7 P w H h':=fun a o e =>
 (x a o e).fq (fun b u _ q=>k b u q) (fun _ q=>q) fun _ _ q=>q
theorem g7.laid(x:g7 P w H h)(k:∀ b u,h.get? b=some u->h'.get? b=some u)(hp:h.objs.size<=a)(new:fE P w (upd H a o) h' a o):g7 P w (upd H a o) h':=fun b u e=>by
 have hn:=x.fresh hp
 by_cases hb:b=a
 ·subst hb;rw[gX] at e;cases e;exact new
 ·rw[fm hb] at e
  exact(x b u e).fq (fun c v _ q=>k c v q) (fun c q=>by rw[fm (B9 q hn)];exact q) fun c xs q=>by rw[fm (B9 q hn)];exact q
end
def Rd(H:Hp)(a:Addr)(u:HO):Prop:=H a=some u\/∃ o,H a=some (.oa o u)
theorem Rd.ok{P:Program}{w:World}{H:Hp}{h:Heap}{a:Addr}{u:HO}(r:Rd H a u)(x:g7 P w H h):fE P w H h a u:=by
 rcases r with r|⟨o,r⟩
 ·exact x a u r
 ·obtain⟨_,q⟩:=x a _ r
  exact q
def LX:Option HO->Prop
 |some (.lst _)=>True
 |some (.dK _)=>True
 |some (.dT _)=>True
 |some (.set _ _)=>True
 |some (.ins _ _ _)=>True
 |some (.ext _)=>True
 |_=>False
section
variable {P:Program}{w:World}{H:Hp}{h h':Heap}{x e:Addr}{o':HO}
theorem g7.write(ok:g7 P w H h)(mu:LX (H x))(he:e=x\/H e=some (.own x))(k:∀ b u,b≠e->h.get? b=some u->h'.get? b=some u)(GO:∃ u,h'.get? e=some u)
  (new:fE P w (upd H x o') h' x o'):g7 P w (upd H x o') h':=fun b u q=>by
 have UO:∀ c y,H c=some (.own y)->c≠x:=fun c y r z=>by subst z;rw[r] at mu;exact mu
 have Yc:∀ c xs,H c=some (.tup xs)->c≠x:=fun c xs r z=>by subst z;rw[r] at mu;exact mu
 by_cases hb:b=x
 ·subst hb;rw[gX] at q;cases q;exact new
 ·rw[fm hb] at q
  by_cases ED:b=e
  ·have q':H b=some (.own x):=by
    rcases he with z|z
    ·exact absurd (ED.trans z) hb
    ·rw[ED];exact z
   rw[q] at q';cases q'
   obtain⟨v,hv⟩:=GO
   exact⟨v,by rw[ED];exact hv⟩
  ·refine(ok b u q).fq (fun c v hc r=>k c v ?_ r) (fun c r=>by rw[fm (UO c b r)];exact r) fun c xs r=>by rw[fm (Yc c xs r)];exact r
   rcases hc with rfl|hc
   ·exact ED
   ·rintro rfl
    rcases he with z|z
    ·exact UO c b hc z
    ·rw[hc] at z;cases z;exact hb rfl
end
structure Un(fs ex:List Addr)(H H':Hp)(h h':Heap):Prop where
 keep:∀ b o,h.get? b=some o->H b=none->b∉fs->b∉ex->h'.get? b=some o
 slot:∀ b o,h.get? b=some o->H b=none->b∈fs->b∉ex->∃ sl,h'.get? b=some { o with slots:=sl }
 free:∀ b o,h.get? b=some o->H b=none->b∉ex->H' b=none
 there:∀ b o,h.get? b=some o->b∉ex->∃ o',h'.get? b=some o'
 ku:∀ b xs,H b=some (.tup xs)->H' b=some (.tup xs)
 AW:∀ b o u,H b=some (.oa o u)->H' b=some (.oa o u)
 Cb:∀ b ps,H b=some (.EC ps)->∃ more,H' b=some (.EC (ps++more))
section
variable {fs ex:List Addr}{H H1:Hp}{h h1 h':Heap}{a x e:Addr}{o:HO}
theorem Un.any(u:Un fs ex H H1 h h1){b:Addr}{ob:Obj}(q:h.get? b=some ob)(n:H b=none)(hx:b∉ex):∃ sl,h1.get? b=some { ob with slots:=sl }:=by
 by_cases hb:b∈fs
 ·exact u.slot b ob q n hb hx
 ·exact⟨ob.slots,u.keep b ob q n hb hx⟩
theorem Un.kept(k:∀ b u,h.get? b=some u->h'.get? b=some u):Un fs ex H H h h' :=
 ⟨fun b ob q _ _ _=>k b ob q,fun b ob q _ _ _=>⟨ob.slots,k b ob q⟩,fun _ _ _ n _=>n,fun b ob q _=>⟨ob,k b ob q⟩,fun _ _ q=>q,fun _ _ _ q=>q,fun _ ps q=>⟨#[],by rw[q];simp⟩⟩
theorem Un.refl:Un fs ex H H h h:=Un.kept fun _ _ q=>q
theorem Un.laid(k:∀ b u,h.get? b=some u->h'.get? b=some u)(hp:h.objs.size<=a)(hn:H a=none):Un fs ex H (upd H a o) h h' where
 keep:=fun b u q _ _ _=>k b u q
 slot:=fun b u q _ _ _=>⟨u.slots,k b u q⟩
 free:=fun b u q n _=>by rw[fm (fw (kX (dS q) hp))];exact n
 there:=fun b u q _=>⟨u,k b u q⟩
 ku:=fun b xs q=>by rw[fm (B9 q hn)];exact q
 AW:=fun b u xs q=>by rw[fm (B9 q hn)];exact q
 Cb:=fun b ps q=>⟨#[],by rw[fm (B9 q hn),q];simp⟩
theorem Un.write(mu:LX (H x))(he:e=x\/H e=some (.own x))(k:∀ b u,b≠e->h.get? b=some u->h'.get? b=some u)(GO:∃ u,h'.get? e=some u):Un fs ex H (upd H x o) h h':=by
 have hx:∀ b,H b=none->b≠x:=fun b n z=>by subst z;rw[n] at mu;exact mu
 have hb:∀ b,H b=none->b≠e:=fun b n z=>by
  subst z
  rcases he with r|r
  ·exact hx b n r
  ·rw[n] at r;cases r
 have hm:∀ b u,H b=some u->¬ LX (some u)->b≠x:=fun b u q nm z=>by subst z;rw[q] at mu;exact nm mu
 refine⟨fun b u q n _ _=>k b u (hb b n) q,fun b u q n _ _=>⟨u.slots,k b u (hb b n) q⟩,fun b u q n _=>by rw[fm (hx b n)];exact n,fun b u q _=>?_,
  fun b xs q=>by rw[fm (hm b _ q fun z=>z)];exact q,fun b u xs q=>by rw[fm (hm b _ q fun z=>z)];exact q,fun b ps q=>⟨#[],by rw[fm (hm b _ q fun z=>z),q];simp⟩⟩
 by_cases ED:b=e
 ·subst ED;exact GO
 ·exact⟨u,k b u ED q⟩
end
def O7(h:Heap)(H:Hp):List Addr:=(List.range h.objs.size).filter fun a=>(H a).isSome
def AX(h:Heap)(H:Hp):Heap:=PySem.W.hideAll h (O7 h H)
theorem Yd(h:Heap)(H:Hp):(AX h H).objs.size=h.objs.size:=PySem.W.hideAll_size _ _
theorem Ye{h:Heap}{H:Hp}{b:Addr}{o:Obj}(e:h.get? b=some o)(n:H b=none):(AX h H).get? b=some o :=
 PySem.W.hideAll_get _ e fun hm=>by
  have q:(H b).isSome=true:=(xi.mp hm).2
  rw[n] at q;simp at q
theorem Yf{h:Heap}{H:Hp}{b:Addr}{o:Obj}(e:(AX h H).get? b=some o):h.get? b=some o/\H b=none:=by
 have e':h.get? b=some o:=PySem.W.of_hideAll (O7 h H) e
 refine⟨e',?_⟩
 cases q:H b with
 |none=>rfl
 |some x =>
  have hm:b∈O7 h H:=xi.mpr ⟨qB.mpr (dS e'),by simp[q]⟩
  have z:(AX h H).get? b=none:=PySem.W.hideAll_none (O7 h H) hm
  rw[z] at e;cases e
def Yg(g h:Heap)(L:Addr):List (Addr × Obj):=(List.range h.objs.size).filterMap fun a=>if a=L\/(g.get? a).isSome=true then none else (h.get? a).map fun o=>(a,o)
def rest(g h:Heap)(L d:Addr):List (Addr × Obj):=(Yg g h L).filter fun p=>decide (p.1≠d)
structure Mod(K:PySem.W.Frag)(mg:Str->Option Value)(base:Heap):Prop where
 EE:K.In base
 glob:base.Ns mainGlobals mg
 blt:∃ mb,base.Ns builtinsNs mb/\∀ x:Str,x ≠ "__name__"->mb x=bootBuiltins x
 nolimit:base.NoLimit
structure Cx where
 prog:Program
 w:World
 K:PySem.W.Frag
 mg:Str->Option Value
 base:Heap
 A:Around
 N:List Str
 iX:Shared
 GP:Hp
 env:Env
 outer:List Env
 stack:List Env
 ex:List Addr
 fn:Str->Bool
 calm:Bool
 pn:List (Addr × Obj)
 xe:Value->Shared->Prop
def xo(l:List Env):List Addr:=l.filterMap (·.frame)
abbrev Cx.fs(X:Cx):List Addr:=xo X.outer
def O8(sc:Scope)(x:Str):Prop:=sc.names.lookup x=some .local\/sc.names.lookup x=some .cell\/sc.names.lookup x=some .free
def Loc(sc:Scope)(x:Str):Prop:=sc.names.lookup x=some .local\/sc.names.lookup x=some .cell
def Look(env:Env)(h:Heap)(m:Str->Option Value)(x:Str)(u:Value):Prop :=
 (env.kindOf x=some .local/\m x=some u)\/((env.kindOf x=some .cell\/env.kindOf x=some .free)/\∃ c,env.cells.lookup x=some c/\h.IsCell c (some u))
structure Cx.Ok(X:Cx):Prop where
 mod:Mod X.K X.mg X.base
 kind:X.env.scope.kind=.function
 glob:X.env.globals=mainGlobals
 blt:X.env.builtins=builtinsNs
 above:X.iX.heap.objs.size<=X.env.locals
 inj:∀ x y c,X.env.cells.lookup x=some c->X.env.cells.lookup y=some c->x=y
 has:∀ x,(X.env.kindOf x=some .cell\/X.env.kindOf x=some .free)->∃ c,X.env.cells.lookup x=some c
 LZ:∀ x c,X.fn x=true->X.env.cells.lookup x=some c->X.iX.heap.objs.size<=c
 hd:X.calm=true->X.A.handled=none
 frames:X.A.frames=some X.stack
 O9:X.stack=X.outer\/(X.stack=X.env :: X.outer/\X.env.frame=some X.env.locals)
 O_:∀ b∈X.ex,b≠X.env.locals/\∀ x c,X.env.cells.lookup x=some c->c≠b
 bs:∀ b o,X.base.get? b=some o->X.iX.heap.get? b=some o/\X.GP b=none
 Ct:X.base.objs.size<=X.iX.heap.objs.size
 L4:∀ b o,X.base.get? b=some o->b∉X.ex
 L5:∀ b∈X.ex,b∉X.fs
 xt:X.iX.heap.FunFrames X.base X.outer
 GU:∀ b∈X.fs,X.GP b=none
structure Inv(X:Cx)(pins:List (Addr × Obj))(σ:List (Option V))(H:Hp)(s:Shared):Prop where
 ok:X.Ok
 os:s.os=X.iX.os
 bare:AllBare s.gens
 base:Un X.fs X.ex X.GP H X.iX.heap s.heap
 loc:∃ m,s.heap.Ns X.env.locals m/\∀ (i:Nat) (x:Str) (v:V),X.N[i]? = some x->σ[i]? = some (some v)->O8 X.env.scope x->∃ u,RelV v u/\Look X.env s.heap m x u
 cell:∀ x c,X.env.cells.lookup x=some c->∃ v,s.heap.IsCell c v
 free:H X.env.locals=none
 xv:∀ x c,X.env.cells.lookup x=some c->H c=none
 pin:∀ p∈X.pn++pins,s.heap.get? p.1=some p.2/\H p.1=none/\p.1≠X.env.locals/\p.1∉X.fs/\∀ v,p.2.data≠.cell v
 bq:g7 X.prog X.w H s.heap
 len:σ.length=X.N.length
section
variable {X:Cx}{pins:List (Addr × Obj)}{σ:List (Option V)}{H H':Hp}{s:Shared}{h':Heap}
theorem Cx.Ok.Yh(ok:X.Ok){b:Addr}{o:Obj}(e:X.base.get? b=some o):b∉X.fs:=fun hb=>by
 have:=(ok.xt.mem hb).1
 rw[e] at this;cases this
theorem Inv.bs(I:Inv X pins σ H s):∀ b o,X.base.get? b=some o->s.heap.get? b=some o/\H b=none:=fun b o e =>
 ⟨I.base.keep b o (I.ok.bs b o e).1 (I.ok.bs b o e).2 (I.ok.Yh e) (I.ok.L4 b o e),I.base.free b o (I.ok.bs b o e).1 (I.ok.bs b o e).2 (I.ok.L4 b o e)⟩
theorem Inv.bk(I:Inv X pins σ H s):∀ b o,X.base.get? b=some o->s.heap.get? b=some o:=fun b o e=>(I.bs b o e).1
theorem Inv.mod(I:Inv X pins σ H s):Mod X.K X.mg X.base:=I.ok.mod
theorem Inv.kB(I:Inv X pins σ H s):X.K.In s.heap:=I.ok.mod.EE.keeps I.bk
theorem Inv.lt(I:Inv X pins σ H s):X.env.locals<s.heap.objs.size:=let ⟨_,hn,_⟩:=I.loc;hn.lt
theorem Inv.sz(I:Inv X pins σ H s):X.iX.heap.objs.size<=s.heap.objs.size:=gx I.ok.above (kA I.lt)
theorem Inv.Yi(I:Inv X pins σ H s){a:Addr}(h:s.heap.objs.size<=a):a∉X.fs:=fun hb=>by
 obtain⟨_,o,ho,_⟩:=I.ok.xt.mem hb
 exact absurd (kX (dS ho) (gx I.sz h)) (pf _)
theorem Inv.EF(I:Inv X pins σ H s):∀ x c,X.env.cells.lookup x=some c->c≠X.env.locals:=fun x c e z=>by
 obtain⟨v,o,ho,hd⟩:=I.cell x c e
 obtain⟨m,⟨o',es,ep,px,Yj,_⟩,_⟩:=I.loc
 rw[z,px] at ho;cases ho;rw[Yj] at hd;cases hd
theorem Inv.xt(I:Inv X pins σ H s):s.heap.FunFrames X.base X.outer:=by
 have all:∀ (l:List Env),(∀ b∈xo l,b∈X.fs)->X.iX.heap.FunFrames X.base l->s.heap.FunFrames X.base l:=by
  intro l
  induction l with
  |nil=>intro _ _;trivial
  |cons env r ih =>
   intro hs hl
   obtain⟨hk,⟨L,o,hf,hn,ho,hd⟩,hr⟩:=hl
   have hL:L∈X.fs:=hs L (by unfold xo;rw[LG,hf];exact bX)
   obtain⟨sl,e⟩:=I.base.slot L o ho (I.ok.GU L hL) hL fun z=>I.ok.L5 L z hL
   exact⟨hk,⟨L,_,hf,hn,e,hd⟩,ih (fun b hb=>hs b (by unfold xo;rw[LG,hf];exact b5 _ hb)) hr⟩
 exact all X.outer (fun _ hb=>hb) I.ok.xt
theorem Inv.stack(I:Inv X pins σ H s):s.heap.FunFrames X.base X.stack:=by
 rcases I.ok.O9 with e|⟨e,hf⟩
 ·rw[e];exact I.xt
 ·rw[e]
  obtain⟨m,hn,_⟩:=I.loc
  refine .cons (by rw[I.ok.kind];decide) hf hn ?_ I.xt
  exact Heap.get?_none_of_le (gx I.ok.Ct I.ok.above)
theorem Inv.Rn(I:Inv X pins σ H s):∀ b∈xo X.stack,b∈X.env.locals :: X.fs:=fun b hb=>by
 rcases I.ok.O9 with e|⟨e,hf⟩
 ·rw[e] at hb;exact b5 _ hb
 ·rw[e] at hb
  unfold xo at hb
  rw[LG,hf] at hb
  exact hb
theorem Inv.UQ(I:Inv X pins σ H s):∀ b∈xo X.stack,H b=none:=fun b hb=>by
 rcases cy.mp (I.Rn b hb) with e|hb
 ·rw[e];exact I.free
 ·obtain⟨_,o,ho,_⟩:=I.ok.xt.mem hb
  exact I.base.free b o ho (I.ok.GU b hb) fun z=>I.ok.L5 b z hb
theorem Inv.step{g':Array GenState}{t':Nat}{d':Drawn}{ch:List Addr}(I:Inv X pins σ H s)
  (vw:∀ b∈ch,(b∈X.ex\/X.iX.heap.objs.size<=b)/\b≠X.env.locals/\(∀ x c,X.env.cells.lookup x=some c->c≠b)/\∀ p∈X.pn++pins,p.1≠b)
  (keep:∀ b o,b≠X.env.locals->b∉X.fs->b∉ch->s.heap.get? b=some o->H b=none->h'.get? b=some o)
  (slot:∀ b o,b≠X.env.locals->b∈X.fs->b∉ch->s.heap.get? b=some o->H b=none->∃ sl,h'.get? b=some { o with slots:=sl }) (free:∀ b o,b∉ch->s.heap.get? b=some o->H b=none->H' b=none)
  (there:∀ b o,b∉ch->s.heap.get? b=some o->∃ o',h'.get? b=some o')
  (ku:∀ b xs,H b=some (.tup xs)->H' b=some (.tup xs)) (AW:∀ b o u,H b=some (.oa o u)->H' b=some (.oa o u)) (Cb:∀ b ps,H b=some (.EC ps)->∃ more,H' b=some (.EC (ps++more)))
  (ns:∀ m,s.heap.Ns X.env.locals m->h'.Ns X.env.locals m) (bq:g7 X.prog X.w H' h') (hg:AllBare g') :
  Inv X pins σ H' { s with heap:=h',gens:=g',drawn:=d',toks:=t' }:=by
 have UR:∀ b o,X.iX.heap.get? b=some o->b≠X.env.locals:=fun b o e=>fw (kX (dS e) I.ok.above)
 have Pa:∀ b o,X.iX.heap.get? b=some o->b∉X.ex->b∉ch:=fun b o e hx hb=>by
  rcases (vw b hb).1 with z|z
  ·exact hx z
  ·exact absurd (kX (dS e) z) (pf _)
 have cellK:∀ x c,X.env.cells.lookup x=some c->∀ v,s.heap.IsCell c v->h'.IsCell c v:=fun x c e v cK=>by
  obtain⟨o,ho,hd⟩:=cK
  have L6:c∉ch:=fun z=>(vw c z).2.2.1 x c e rfl
  by_cases hc:c∈X.fs
  ·obtain⟨sl,q⟩:=slot c o (I.EF x c e) hc L6 ho (I.xv x c e)
   exact⟨_,q,hd⟩
  ·exact⟨o,keep c o (I.EF x c e) hc L6 ho (I.xv x c e),hd⟩
 refine⟨I.ok,I.os,hg,⟨fun b o e n hb hx=>?_,fun b o e n hb hx=>?_,fun b o e n hx=>?_,fun b o e hx=>?_,fun b xs e=>ku b xs (I.base.ku b xs e),fun b o xs e=>AW b o xs (I.base.AW b o xs e),fun b ps e=>?_⟩,?_,fun x c e=>?_,?_,fun x c e=>?_,fun p hp=>?_,bq,I.len⟩
 ·exact keep b o (UR b o e) hb (Pa b o e hx) (I.base.keep b o e n hb hx) (I.base.free b o e n hx)
 ·obtain⟨sl,e1⟩:=I.base.slot b o e n hb hx
  obtain⟨Yk,e2⟩:=slot b _ (UR b o e) hb (Pa b o e hx) e1 (I.base.free b o e n hx)
  exact⟨Yk,e2⟩
 ·obtain⟨o',e1⟩:=I.base.there b o e hx
  exact free b o' (Pa b o e hx) e1 (I.base.free b o e n hx)
 ·obtain⟨o',e1⟩:=I.base.there b o e hx
  exact there b o' (Pa b o e hx) e1
 ·obtain⟨m1,e1⟩:=I.base.Cb b ps e
  obtain⟨m2,e2⟩:=Cb b _ e1
  exact⟨m1++m2,by rw[e2,O6]⟩
 ·obtain⟨m,hn,hl⟩:=I.loc
  refine⟨m,ns m hn,fun i x v e1 e2 e3=>?_⟩
  obtain⟨u,r,l⟩:=hl i x v e1 e2 e3
  refine⟨u,r,?_⟩
  rcases l with l|⟨k,c,e,z⟩
  ·exact .inl l
  ·exact .inr ⟨k,c,e,cellK x c e _ z⟩
 ·obtain⟨v,z⟩:=I.cell x c e
  exact⟨v,cellK x c e v z⟩
 ·obtain⟨m,⟨o,_,_,ho,_⟩,_⟩:=I.loc
  exact free _ o (fun z=>(vw _ z).2.1 rfl) ho I.free
 ·obtain⟨v,o,ho,hd⟩:=I.cell x c e
  exact free c o (fun z=>(vw c z).2.2.1 x c e rfl) ho (I.xv x c e)
 ·obtain⟨e,n,ne,nf,d⟩:=I.pin p hp
  have L6:p.1∉ch:=fun z=>(vw p.1 z).2.2.2 p hp rfl
  exact⟨keep p.1 p.2 ne nf L6 e n,free p.1 p.2 L6 e n,ne,nf,d⟩
theorem Inv.un{t':Nat}(I:Inv X pins σ H s)(u:Un X.fs [] H H' s.heap h')(bq:g7 X.prog X.w H' h'):Inv X pins σ H' { s with heap:=h',toks:=t' }:=by
 obtain⟨m,⟨o,es,ep,ho,r⟩,_⟩:=id I.loc
 obtain⟨sl,hL⟩:=u.any ho I.free (by simp)
 exact I.step (g':=s.gens) (d':=s.drawn) (ch:=[]) (fun _ z=>nomatch z) (fun b o _ hb _ e n=>u.keep b o e n hb (by simp)) (fun b o _ hb _ e n=>u.slot b o e n hb (by simp)) (fun b o _ e n=>u.free b o e n (by simp)) (fun b o _ e=>u.there b o e (by simp)) u.ku u.AW u.Cb (fun m' hm=>by
  obtain⟨o',Ro,L7,px,r'⟩:=hm
  rw[ho] at px;cases px
  exact⟨_,Ro,L7,hL,r'⟩) bq I.bare
theorem Inv.call{g':Array GenState}{t':Nat}{d':Drawn}{ch:List Addr}(I:Inv X pins σ H s)(u:Un (xo X.stack) ch H H' s.heap h')(bq:g7 X.prog X.w H' h')(hg:AllBare g')
  (vw:∀ b∈ch,(b∈X.ex\/X.iX.heap.objs.size<=b)/\b≠X.env.locals/\(∀ x c,X.env.cells.lookup x=some c->c≠b)/\∀ p∈X.pn++pins,p.1≠b) :
  Inv X pins σ H' { s with heap:=h',gens:=g',drawn:=d',toks:=t' }:=by
 obtain⟨m,⟨o,es,ep,ho,r⟩,_⟩:=id I.loc
 obtain⟨sl,hL⟩:=u.any ho I.free fun z=>(vw _ z).2.1 rfl
 exact I.step (ch:=ch) vw (fun b o hL hb hc e n=>u.keep b o e n (fun z=>(cy.mp (I.Rn b z)).elim hL hb) hc) (fun b o _ _ hc e n=>u.any e n hc) (fun b o hc e n=>u.free b o e n hc) (fun b o hc e=>u.there b o e hc) u.ku u.AW u.Cb (fun m' hm=>by
  obtain⟨o',Ro,L7,px,r'⟩:=hm
  rw[ho] at px;cases px
  exact⟨_,Ro,L7,hL,r'⟩) bq hg
theorem Inv.turned{t':Nat}{it:Addr}(I:Inv X pins σ H s)(k:∀ b o,b≠it->s.heap.get? b=some o->h'.get? b=some o)(hn:H it=none)(hL:it≠X.env.locals)
  (h1:it∈X.ex\/X.iX.heap.objs.size<=it) (h2:∀ x c,X.env.cells.lookup x=some c->c≠it) (h3:∀ p∈X.pn++pins,p.1≠it):Inv X pins σ H { s with heap:=h',toks:=t' }:=by
 have UT:∀ b u,H b=some u->b≠it:=fun b u e z=>by rw[z,hn] at e;cases e
 refine I.step (g':=s.gens) (d':=s.drawn) (ch:=[it]) (fun b hb=>?_) (fun b o _ _ hc e _=>k b o (fun z=>hc (by simp[z])) e) (fun b o _ _ hc e _=>⟨o.slots,k b o (fun z=>hc (by simp[z])) e⟩) (fun _ _ _ _ n=>n)
  (fun b o hc e=>⟨o,k b o (fun z=>hc (by simp[z])) e⟩) (fun _ _ e=>e) (fun _ _ _ e=>e) (fun b ps e=>⟨#[],by rw[e];simp⟩) (fun m hm=>?_) (fun b u e=>?_) I.bare
 ·have e:b=it:=by simpa using hb
  subst e
  exact⟨h1,hL,h2,h3⟩
 ·obtain⟨o,es,ep,ho,r⟩:=hm
  exact⟨o,es,ep,k _ o (Ne.symm hL) ho,r⟩
 ·refine(I.bq b u e).fq (fun c v hc q=>k c v ?_ q) (fun _ q=>q) fun _ _ q=>q
  rcases hc with z|z
  ·rw[z];exact UT b u e
  ·exact UT c _ z
theorem Inv.tok(I:Inv X pins σ H s)(t:Nat):Inv X pins σ H { s with toks:=t }:=I.un (h':=s.heap) (t':=t) Un.refl I.bq
theorem Inv.kept{t':Nat}(I:Inv X pins σ H s)(k:∀ b u,s.heap.get? b=some u->h'.get? b=some u):Inv X pins σ H { s with heap:=h',toks:=t' }:=I.un (Un.kept k) (I.bq.kept k)
theorem Inv.laid{a:Addr}{o:HO}{t':Nat}(I:Inv X pins σ H s)(k:∀ b u,s.heap.get? b=some u->h'.get? b=some u)(hp:s.heap.objs.size<=a)(new:fE X.prog X.w (upd H a o) h' a o) :
  Inv X pins σ (upd H a o) { s with heap:=h',toks:=t' }:=I.un (Un.laid k hp (I.bq.fresh hp)) (I.bq.laid k hp new)
theorem Inv.write{x e:Addr}{o:HO}{t':Nat}(I:Inv X pins σ H s)(mu:LX (H x))(he:e=x\/H e=some (.own x))(k:∀ b u,b≠e->s.heap.get? b=some u->h'.get? b=some u)(GO:∃ u,h'.get? e=some u)
  (new:fE X.prog X.w (upd H x o) h' x o):Inv X pins σ (upd H x o) { s with heap:=h',toks:=t' }:=I.un (Un.write mu he k GO) (I.bq.write mu he k GO new)
theorem Inv.UU{UW:List (Addr × Obj)}(I:Inv X pins σ H s)(h:∀ p∈UW,s.heap.get? p.1=some p.2/\H p.1=none/\p.1≠X.env.locals/\p.1∉X.fs/\∀ v,p.2.data≠.cell v):Inv X UW σ H s :=
 ⟨I.ok,I.os,I.bare,I.base,I.loc,I.cell,I.free,I.xv,fun p hp=>(dy.mp hp).elim (fun z=>I.pin p (kS _ z)) (h p),I.bq,I.len⟩
theorem UX{N:List Str}(hN:N.Nodup){i j:Nat}{x:Str}(a:N[i]? = some x)(b:N[j]? = some x):i=j:=by
 obtain⟨h1,e1⟩:=i7.mp a
 obtain⟨h2,e2⟩:=i7.mp b
 exact(List.getElem_inj hN).mp (e1.trans e2.symm)
theorem UY{M:Model}{A:Around}{E:Value->Shared->Prop}{i:Nat}{x:Str}{v:V}{u:Value}{Q:Unit->Shared->Prop}(I:Inv X pins σ H s)(hN:X.N.Nodup)(hi:X.N[i]? = some x)(hx:Loc X.env.scope x)(r:RelV v u)
  (h:∀ s',Inv X pins (σ.set i (some v)) H s'->(∃ a,Heap.SameBut a s.heap s'.heap/\(a=X.env.locals\/X.env.cells.lookup x=some a))->Q () s') (hf:X.fn x=true\/X.env.scope.names.lookup x=some .local:=by first|exact .inl rfl|exact .inr rfl|assumption):wpAny M A (storeName X.env x u) Q E s:=by
 obtain⟨m,hn,hl⟩:=id I.loc
 have Yl:(X.env.scope.kind == .class || (X.env.scope.kind == .module && X.env.locals != X.env.globals))=false:=by rw[I.ok.kind];rfl
 have UZ:i<σ.length:=by rw[I.len];exact(i7.mp hi).1
 have EF:=I.EF
 have tracked:∀ {a:Addr} {h':Heap},(∃ o,s.heap.get? a=some o/\H a=none)->Heap.SameBut a s.heap h'->g7 X.prog X.w H h':=fun {a h'} ha hs b ob e=>by
  obtain⟨_,_,U0⟩:=ha
  refine(I.bq b ob e).fq (fun c w' hc q=>(hs.2 c ?_).trans q) (fun _ q=>q) fun _ _ q=>q
  rintro rfl
  rcases hc with rfl|hc
  ·rw[U0] at e;cases e
  ·rw[U0] at hc;cases hc
 rcases hx with hk|hk
 ·refine wpAny_storeName_local hk hn (fun h' Rp hs=>?_) Yl
  obtain⟨oL,_,_,vx,_⟩:=id hn
  refine h _ ⟨I.ok,I.os,I.bare,⟨fun b o e n hb hx=>?_,fun b o e n hb hx=>?_,I.base.free,fun b o e hx=>?_,I.base.ku,I.base.AW,I.base.Cb⟩,⟨_,Rp,fun j y v' e1 e2 e3=>?_⟩,fun y c e=>?_,I.free,I.xv,fun p hp=>?_,tracked ⟨oL,vx,I.free⟩ hs,by simpa using I.len⟩ ⟨_,hs,.inl rfl⟩
  ·exact(hs.2 b (fw (kX (dS e) I.ok.above))).trans (I.base.keep b o e n hb hx)
  ·obtain⟨sl,e1⟩:=I.base.slot b o e n hb hx
   exact⟨sl,(hs.2 b (fw (kX (dS e) I.ok.above))).trans e1⟩
  ·obtain⟨o',e1⟩:=I.base.there b o e hx
   exact⟨o',(hs.2 b (fw (kX (dS e) I.ok.above))).trans e1⟩
  ·by_cases hj:j=i
   ·subst hj
    rw[hi] at e1;cases e1
    rw[QR UZ] at e2
    cases e2
    exact⟨u,r,.inl ⟨hk,by simp⟩⟩
   ·rw[Lv (Ne.symm hj)] at e2
    obtain⟨u',r',q⟩:=hl j y v' e1 e2 e3
    refine⟨u',r',?_⟩
    rcases q with⟨k,e⟩|⟨k,c,e,z⟩
    ·refine .inl ⟨k,?_⟩
     have:y≠x:=fun e=>hj (UX hN e1 (e ▸ hi))
     simp[this,e]
    ·exact .inr ⟨k,c,e,z.sameBut hs (EF y c e)⟩
  ·obtain⟨w',z⟩:=I.cell y c e
   exact⟨w',z.sameBut hs (EF y c e)⟩
  ·obtain⟨e,n,ne,nf,d⟩:=I.pin p hp
   exact⟨(hs.2 p.1 ne).trans e,n,ne,nf,d⟩
 ·have Rq:X.fn x=true:=by
   rcases hf with z|z
   ·exact z
   ·rw[z] at hk;cases hk
  obtain⟨c,hc⟩:=I.ok.has x (.inl hk)
  obtain⟨w',z⟩:=I.cell x c hc
  refine wpAny_storeName_cell I.ok.kind hk hc z (fun h' xA hs=>?_)
  obtain⟨oc,U4,Ym⟩:=id z
  refine h { s with heap:=h' } ⟨I.ok,I.os,I.bare,⟨fun b o e n hb hx=>?_,fun b o e n hb hx=>?_,I.base.free,fun b o e hx=>?_,I.base.ku,I.base.AW,I.base.Cb⟩,⟨m,hn.sameBut hs (Ne.symm (EF x c hc)),fun j y v' e1 e2 e3=>?_⟩,fun y c' e=>?_,I.free,I.xv,fun p hp=>?_,tracked ⟨oc,U4,I.xv x c hc⟩ hs,by simpa using I.len⟩ ⟨c,hs,.inr hc⟩
  ·exact(hs.2 b (fw (kX (dS e) (I.ok.LZ x c Rq hc)))).trans (I.base.keep b o e n hb hx)
  ·obtain⟨sl,e1⟩:=I.base.slot b o e n hb hx
   exact⟨sl,(hs.2 b (fw (kX (dS e) (I.ok.LZ x c Rq hc)))).trans e1⟩
  ·obtain⟨o',e1⟩:=I.base.there b o e hx
   exact⟨o',(hs.2 b (fw (kX (dS e) (I.ok.LZ x c Rq hc)))).trans e1⟩
  ·by_cases hj:j=i
   ·subst hj
    rw[hi] at e1;cases e1
    rw[QR UZ] at e2
    cases e2
    exact⟨u,r,.inr ⟨.inl hk,c,hc,xA⟩⟩
   ·rw[Lv (Ne.symm hj)] at e2
    obtain⟨u',r',q⟩:=hl j y v' e1 e2 e3
    refine⟨u',r',?_⟩
    rcases q with q|⟨k,c',e,z'⟩
    ·exact .inl q
    ·refine .inr ⟨k,c',e,z'.sameBut hs ?_⟩
     rintro rfl
     exact hj (UX hN e1 (I.ok.inj _ _ _ e hc ▸ hi))
  ·by_cases GV:c'=c
   ·subst GV;exact⟨_,xA⟩
   ·obtain⟨w2,z2⟩:=I.cell y c' e
    exact⟨w2,z2.sameBut hs GV⟩
  ·obtain⟨e,n,ne,nf,d⟩:=I.pin p hp
   refine⟨(hs.2 p.1 ?_).trans e,n,ne,nf,d⟩
   intro q
   rw[q,U4] at e
   have q':oc=p.2:=Option.some.inj e
   exact d w' (by rw[<- q'];exact Ym)
theorem U5{M:Model}{A:Around}{E:Value->Shared->Prop}{i:Nat}{x:Str}{v:V}{u:Value}{Q:Unit->Shared->Prop}(I:Inv X pins σ H s)(hN:X.N.Nodup)(hi:X.N[i]? = some x)(hx:Loc X.env.scope x)(r:RelV v u)
  (h:∀ s',Inv X pins (σ.set i (some v)) H s'->Q () s') (hf:X.fn x=true\/X.env.scope.names.lookup x=some .local:=by first|exact .inl rfl|exact .inr rfl|assumption):wpAny M A (storeName X.env x u) Q E s :=
 UY I hN hi hx r (fun s' I' _=>h s' I') hf
theorem Inv.Yn{s':Shared}{ch:List Addr}(I:Inv X pins σ H s)(ho:s'.os=s.os)(u:Un (xo X.stack) ch H H' s.heap s'.heap)(bq:g7 X.prog X.w H' s'.heap)(hg:AllBare s'.gens)
  (vw:∀ b∈ch,(b∈X.ex\/X.iX.heap.objs.size<=b)/\b≠X.env.locals/\(∀ x c,X.env.cells.lookup x=some c->c≠b)/\∀ p∈X.pn++pins,p.1≠b):Inv X pins σ H' s':=by
 obtain⟨h',g',d',t',o'⟩:=s'
 have e:o'=s.os:=ho
 subst e
 exact I.call (g':=g') (t':=t') (d':=d') u bq hg vw
end
abbrev XK:=Value->Option Addr->Hp->Prop
abbrev St:=List (Option V)
abbrev VK:=V->Hp->Prop
abbrev TE:=St->Hp->VK->Prop
abbrev TT:=St->Hp->(Bool->Hp->Prop)->Prop
abbrev TA:=St->Hp->(List V->Hp->Prop)->Prop
structure Ends where
 nx:St->Hp->Prop
 rt:VK
 bk:St->Hp->Prop:=fun _ _=>False
 ct:St->Hp->Prop:=fun _ _=>False
abbrev TS:=Ends->St->Hp->Prop
def EP(X:Cx)(pins:List (Addr × Obj))(σ:St)(Q:VK)(u:Value)(s':Shared):Prop:=∃ v H',Inv X pins σ H' s'/\RelV v u/\Q v H'
def TP(X:Cx)(pins:List (Addr × Obj))(σ:St)(Q:Bool->Hp->Prop)(b:Bool)(s':Shared):Prop:=∃ H',Inv X pins σ H' s'/\Q b H'
def AP(X:Cx)(pins:List (Addr × Obj))(σ:St)(Q:List V->Hp->Prop)(us:List Value)(s':Shared):Prop:=∃ vs H',Inv X pins σ H' s'/\Vals vs us/\Q vs H'
def SP(X:Cx)(pins:List (Addr × Obj))(D:Ends)(f:Flow)(s':Shared):Prop :=
 match f with
 |.next=>∃ bE H',Inv X pins bE H' s'/\D.nx bE H'
 |.brk=>∃ bE H',Inv X pins bE H' s'/\D.bk bE H'
 |.cont=>∃ bE H',Inv X pins bE H' s'/\D.ct bE H'
 |.ret u=>∃ v bE H',Inv X pins bE H' s'/\RelV v u/\D.rt v H'
def PE(X:Cx)(e:Expr)(t:TE):Prop :=
 ∀ (pins:List (Addr × Obj)) (s:Shared) (σ:St) (H:Hp) (Q:VK),Inv X pins σ H s->t σ H Q->wpAny (model X.prog X.w) X.A (eval e X.env) (EP X pins σ Q) X.xe s
def PT(X:Cx)(e:Expr)(t:TT):Prop :=
 ∀ (pins:List (Addr × Obj)) (s:Shared) (σ:St) (H:Hp) (Q:Bool->Hp->Prop),Inv X pins σ H s->t σ H Q->wpAny (model X.prog X.w) X.A (isTrue e X.env (eval e X.env)) (TP X pins σ Q) X.xe s
def PW(X:Cx)(e:Expr)(t:TT):Prop :=
 ∀ (whole:Sem Value) (pins:List (Addr × Obj)) (s:Shared) (σ:St) (H:Hp) (Q:Bool->Hp->Prop),Inv X pins σ H s->t σ H Q->wpAny (model X.prog X.w) X.A (isTrue e X.env whole) (TP X pins σ Q) X.xe s
def PA(X:Cx)(es:List Expr)(t:TA):Prop :=
 ∀ (pos:Pos) (pins:List (Addr × Obj)) (s:Shared) (σ:St) (H:Hp) (Q:List V->Hp->Prop),Inv X pins σ H s->t σ H Q->wpAny (model X.prog X.w) X.A (spliced (backTo pos (starEach es X.env))) (AP X pins σ Q) X.xe s
def PS(X:Cx)(st:Stmt)(t:TS):Prop :=
 ∀ (pins:List (Addr × Obj)) (s:Shared) (σ:St) (H:Hp) (D:Ends),Inv X pins σ H s->t D σ H->wpAny (model X.prog X.w) X.A (exec st X.env) (SP X pins D) X.xe s
def mv(X:Cx)(st:List Stmt)(t:TS):Prop :=
 ∀ (pins:List (Addr × Obj)) (s:Shared) (σ:St) (H:Hp) (D:Ends),Inv X pins σ H s->t D σ H->wpAny (model X.prog X.w) X.A (execs st X.env) (SP X pins D) X.xe s
theorem cq{α:Type}{t:Sem α}{Q Q':α->Shared->Prop}{M:Model}{A:Around}{E:Value->Shared->Prop}{s:Shared}(h:wpAny M A t Q E s)(hQ:∀ a s,Q a s->Q' a s):wpAny M A t Q' E s:=sL h hQ fun _ _ x=>x
section
variable {X:Cx}
def EG(i:Nat):TE:=fun σ H Q=>∃ v,σ[i]? = some (some v)/\Q v H
def tC(v:V):TE:=fun _ H Q=>Q v H
theorem U6 {i:Nat} {x:Str} {pos:Pos} (hN:X.N[i]? = some x) (hv:O8 X.env.scope x) (hd:(x == ("__debug__" : Str))=false:=by decide) (rg:(x == ("__classdict__" : Str))=false:=by decide):PE X (.Name x pos) (EG i):=by
 intro pins s σ H Q I h
 obtain⟨v,e,h⟩:=h
 obtain⟨m,hn,hl⟩:=I.loc
 obtain⟨u,r,l⟩:=hl i x v hN e hv
 have fin:EP X pins σ Q u s:=⟨v,H,I,r,h⟩
 rcases l with⟨hk,hm⟩|⟨hk,c,hc,U7⟩
 ·exact wpAny_Name (wpAny_loadName_local I.ok.kind hk hn hm fin) hd
 ·rcases hk with hk|hk
  ·exact wpAny_Name (wpAny_loadName_cell I.ok.kind hk hc U7 fin) hd
  ·exact wpAny_Name (wpAny_loadName_free I.ok.kind hk hc U7 fin rg) hd
theorem Yo{i j pos}:PE X (.Constant (.int i) j pos) (tC (.int i)):=fun _ _ _ H _ I h=>wpAny_Constant_int ⟨.int i,H,I.tok _,⟨_,rfl⟩,h⟩
theorem Yp{b j pos}:PE X (.Constant (.bool b) j pos) (tC (.bl b)):=fun _ _ _ H _ I h=>Constant_bool ⟨.bl b,H,I,rfl,h⟩
theorem Yq{j pos}:PE X (.Constant .none j pos) (tC .non):=fun _ _ _ H _ I h=>Constant_none ⟨.non,H,I,rfl,h⟩
theorem Yr{x j pos}:PE X (.Constant (.str x) j pos) (tC (.str x)):=fun _ _ _ H _ I h=>Calls.Constant_str ⟨.str x,H,I.tok _,⟨_,rfl⟩,h⟩
def Gl(X:Cx)(x:Str):Prop:=X.env.kindOf x=some .globalImplicit
theorem Ys{E:Value->Shared->Prop}{pins:List (Addr × Obj)}{s:Shared}{σ:St}{H:Hp}{x:Str}{u:Value}{pos:Pos}{Q:Value->Shared->Prop}(I:Inv X pins σ H s)(hg:Gl X x)(hm:X.mg x=some u)(h:Q u s)
  (hd:(x == ("__debug__" : Str))=false:=by decide):wpAny (model X.prog X.w) X.A (eval (.Name x pos) X.env) Q E s :=
 Calls.Name_function_global I.ok.kind hg (Calls.loadGlobal_global (by rw[I.ok.glob];exact I.mod.glob.keeps I.bk) hm h) hd
theorem CB{E:Value->Shared->Prop}{pins:List (Addr × Obj)}{s:Shared}{σ:St}{H:Hp}{x:Str}{u:Value}{pos:Pos}{Q:Value->Shared->Prop}(I:Inv X pins σ H s)(hg:Gl X x)(hm:X.mg x=none)(hv:bootBuiltins x=some u)(h:Q u s)
  (hn:x ≠ "__name__" := by decide) (hd:(x == ("__debug__" : Str))=false:=by decide):wpAny (model X.prog X.w) X.A (eval (.Name x pos) X.env) Q E s:=by
 obtain⟨mb,h1,h2⟩:=I.mod.blt
 exact Calls.Name_function_global I.ok.kind hg (Calls.loadGlobal_builtin (by rw[I.ok.glob];exact I.mod.glob.keeps I.bk) hm (by rw[I.ok.blt];exact h1.keeps I.bk) ((h2 x hn).trans hv) h) hd
theorem Yt {x:Str} {v:V} {u:Value} {pos:Pos} (hg:Gl X x) (hm:X.mg x=none) (hv:bootBuiltins x=some u) (r:RelV v u) (hn:x ≠ "__name__" := by decide) (hd:(x == ("__debug__" : Str))=false:=by decide):PE X (.Name x pos) (tC v) :=
 fun _ _ _ H _ I h=>CB I hg hm hv ⟨v,H,I,r,h⟩ hn hd
variable {a b:Expr}{ta tb:TE}{pos:Pos}
def tB(t:TE):TT:=fun σ H Q=>t σ H fun x H1=>∃ c,x=.bl c/\Q c H1
theorem Yu{e:Expr}{t:TE}(h:PE X e t)(he:∀ whole,isTrue e X.env whole=(do let v <- whole;standAt e.pos;holding [v] (truthy v)):=by intro _;rfl):PT X e (tB t):=by
 intro pins s σ H Q I hw
 refine isTrue_plain (cq (h pins s σ H _ I hw) fun v s1 cv=>L2.fP cv fun x H1 I1 r1 q1=>?_) (he _)
 obtain⟨d,rfl,q⟩:=q1
 cases r1
 exact wpAny_truthy_bool ⟨H1,I1,q⟩
variable {tA Pb:TT}{rest:List Expr}
def Yv(t u:TT):TT:=fun σ H Q=>t σ H fun c H1=>if c=true then u σ H1 Q else Q false H1
def Yw(t u:TT):TT:=fun σ H Q=>t σ H fun c H1=>if c=true then Q true H1 else u σ H1 Q
def Yx(t:TT):TT:=fun σ H Q=>t σ H fun c H1=>Q (!c) H1
theorem pw_and1(ha:PT X a tA):PW X (.BoolOp .And [a] pos) tA:=by
 intro wh pins s σ H Q I h
 refine isTrue_and (cq (ha pins s σ H Q I h) fun c s1 e=>?_)
 cases c with
 |true=>exact isTrue_and_nil e
 |false=>exact e
theorem pw_or1(ha:PT X a tA):PW X (.BoolOp .Or [a] pos) tA:=by
 intro wh pins s σ H Q I h
 refine isTrue_or (cq (ha pins s σ H Q I h) fun c s1 e=>?_)
 cases c with
 |false=>exact isTrue_or_nil e
 |true=>exact e
theorem pw_and(ha:PT X a tA)(hb:PW X (.BoolOp .And (b :: rest) pos) Pb):PW X (.BoolOp .And (a :: b :: rest) pos) (Yv tA Pb):=by
 intro wh pins s σ H Q I h
 refine isTrue_and (cq (ha pins s σ H _ I h) fun c s1 cK=>?_)
 obtain⟨H1,I1,q1⟩:=cK
 cases c with
 |true=>exact hb wh pins s1 σ H1 Q I1 q1
 |false=>exact⟨H1,I1,q1⟩
theorem pw_or(ha:PT X a tA)(hb:PW X (.BoolOp .Or (b :: rest) pos) Pb):PW X (.BoolOp .Or (a :: b :: rest) pos) (Yw tA Pb):=by
 intro wh pins s σ H Q I h
 refine isTrue_or (cq (ha pins s σ H _ I h) fun c s1 cK=>?_)
 obtain⟨H1,I1,q1⟩:=cK
 cases c with
 |true=>exact⟨H1,I1,q1⟩
 |false=>exact hb wh pins s1 σ H1 Q I1 q1
theorem Yy(ha:PT X a tA):PT X (.UnaryOp .Not a pos) (Yx tA):=by
 intro pins s σ H Q I h
 exact isTrue_not (ha pins s σ H (fun c H1=>Q (!c) H1) I h)
def Yz(ta tb:TE):TE:=fun σ H Q=>ta σ H fun x H1=>∃ c,x=.bl c/\if c=true then tb σ H1 Q else Q (.bl false) H1
def YB(ta tb:TE):TE:=fun σ H Q=>ta σ H fun x H1=>∃ c,x=.bl c/\if c=true then Q (.bl true) H1 else tb σ H1 Q
theorem YC{op}{t:TE}(h:PE X a t):PE X (.BoolOp op [a] pos) t:=fun pins s σ H Q I hw=>BoolOp_one (h pins s σ H Q I hw)
theorem YD(ha:PE X a ta)(hb:PE X (.BoolOp .And (b :: rest) pos) tb):PE X (.BoolOp .And (a :: b :: rest) pos) (Yz ta tb):=by
 intro pins s σ H Q I h
 refine BoolOp_and (cq (ha pins s σ H _ I h) fun v s1 cv=>L2.fP cv fun x H1 I1 r1 q1=>?_)
 obtain⟨c,rfl,q1⟩:=q1
 cases r1
 refine wpAny_truthy_bool ?_
 cases c with
 |true=>exact hb pins s1 σ H1 Q I1 q1
 |false=>exact⟨.bl false,H1,I1,rfl,q1⟩
theorem YF(ha:PE X a ta)(hb:PE X (.BoolOp .Or (b :: rest) pos) tb):PE X (.BoolOp .Or (a :: b :: rest) pos) (YB ta tb):=by
 intro pins s σ H Q I h
 refine BoolOp_or (cq (ha pins s σ H _ I h) fun v s1 cv=>L2.fP cv fun x H1 I1 r1 q1=>?_)
 obtain⟨c,rfl,q1⟩:=q1
 cases r1
 refine wpAny_truthy_bool ?_
 cases c with
 |false=>exact hb pins s1 σ H1 Q I1 q1
 |true=>exact⟨.bl true,H1,I1,rfl,q1⟩
def YG(t:TT)(ta tb:TE):TE:=fun σ H Q=>t σ H fun c H1=>if c=true then ta σ H1 Q else tb σ H1 Q
theorem YH{c:Expr}(hc:PT X c tA)(ha:PE X a ta)(hb:PE X b tb):PE X (.IfExp c a b pos) (YG tA ta tb):=by
 intro pins s σ H Q I h
 refine wpAny_IfExp (cq (hc pins s σ H _ I h) fun d s1 cK=>?_)
 obtain⟨H1,I1,q1⟩:=cK
 cases d with
 |true=>exact ha pins s1 σ H1 Q I1 q1
 |false=>exact hb pins s1 σ H1 Q I1 q1
end
def eK(K:PySem.W.Frag)(H:Hp)(a:Addr)(xs:List V):Prop :=
 Rd H a (.lst xs) \/
  ∃ (o:Obj) (its:Array Value) (n:Nat),K.lookup a=some o/\o.cls=.type "list"/\o.dict=none/\o.data=.seq its n/\its.size<=sizeLine/\Vals xs its.toList
def ng(K:PySem.W.Frag)(H:Hp)(a:Addr)(xs:List V):Prop :=
 Rd H a (.tup xs) \/
  ∃ (o:Obj) (its:Array Value) (n:Nat),K.lookup a=some o/\o.cls=.type "tuple"/\o.data=.seq its n/\its.size<=sizeLine/\Vals xs its.toList
def YJ:Value->Option V
 |.none=>some .non
 |.bool b=>some (.bl b)
 |.int i _=>some (.int i)
 |.str x _=>some (.str x)
 |.bytes b _=>some (.qV b)
 |.float b _=>some (.AV b)
 |.ref a=>some (.ref a)
 |.type n=>some (.ty n)
 |_=>none
theorem RelV.abs{x:V}{u:Value}(r:RelV x u):YJ u=some x:=by
 cases x with
 |non=>cases r;rfl
 |bl _=>cases r;rfl
 |int _=>obtain⟨t,rfl⟩:=r;rfl
 |str _=>obtain⟨t,rfl⟩:=r;rfl
 |qV _=>obtain⟨t,rfl⟩:=r;rfl
 |AV _=>obtain⟨t,rfl⟩:=r;rfl
 |ref _=>cases r;rfl
 |ty _=>cases r;rfl
theorem RelV.inj{x y:V}{u:Value}(r:RelV x u)(q:RelV y u):x=y:=Option.some.inj (r.abs.symm.trans q.abs)
theorem Vals.inj:∀ {xs ys:List V} {us:List Value},Vals xs us->Vals ys us->xs=ys
 |_,_,_,.nil,.nil=>rfl
 |_,_,_,.cons r t,.cons r' t'=>by rw[r.inj r',Vals.inj t t']
section
variable {X:Cx}{pins:List (Addr × Obj)}{σ:St}{H:Hp}{s:Shared}{a:Addr}{xs ys:List V}
theorem Inv.list(I:Inv X pins σ H s)(h:eK X.K H a xs):∃ its:List Value,Vals xs its/\PlainL s.heap a its.toArray/\xs.length<=sizeLine:=by
 rcases h with h|⟨o,its,n,hk,hc,hd,hs,hz,r⟩
 ·obtain⟨z,its,n,r,e⟩:=h.ok I.bq
  exact⟨its,r,⟨_,n,e,rfl,rfl,rfl⟩,z⟩
 ·refine⟨its.toList,r,⟨o,n,I.kB a o hk,hc,hd,by simpa using hs⟩,?_⟩
  have e:=r.length
  simp only[y2] at e
  lia
theorem Inv.tuple(I:Inv X pins σ H s)(h:ng X.K H a xs):∃ its:List Value,Vals xs its/\IsTup s.heap a its.toArray/\xs.length<=sizeLine:=by
 rcases h with h|⟨o,its,n,hk,hc,hs,hz,r⟩
 ·obtain⟨z,its,r,p⟩:=h.ok I.bq
  exact⟨its,r,p,z⟩
 ·refine⟨its.toList,r,⟨o,I.kB a o hk,hc,n,by simpa using hs⟩,?_⟩
  have e:=r.length
  simp only[y2] at e
  lia
theorem Inv.YK(I:Inv X pins σ H s)(h:eK X.K H a xs)(h':eK X.K H a ys):xs=ys:=by
 obtain⟨its,r,⟨o,n,e,_,_,d⟩,_⟩:=I.list h
 obtain⟨its',r',⟨o',n',e',_,_,d'⟩,_⟩:=I.list h'
 rw[e] at e';cases e'
 rw[d] at d'
 injection d' with d1 _
 have:its=its':=by simpa using congrArg Array.toList d1
 subst this
 exact r.inj r'
end
abbrev Cx.wish(X:Cx)(E:Value->Shared->Prop):Cx:={ X with xe:=E }
abbrev Cx.L8(X:Cx):Cx:=X.wish fun _ _=>False
theorem Cx.Ok.wish{X:Cx}(ok:X.Ok)(E:Value->Shared->Prop):(X.wish E).Ok :=
 ⟨ok.mod,ok.kind,ok.glob,ok.blt,ok.above,ok.inj,ok.has,ok.LZ,ok.hd,ok.frames,ok.O9,ok.O_,ok.bs,ok.Ct,ok.L4,ok.L5,ok.xt,ok.GU⟩
theorem Cx.Ok.CC{X:Cx}{E:Value->Shared->Prop}(ok:(X.wish E).Ok):X.Ok :=
 ⟨ok.mod,ok.kind,ok.glob,ok.blt,ok.above,ok.inj,ok.has,ok.LZ,ok.hd,ok.frames,ok.O9,ok.O_,ok.bs,ok.Ct,ok.L4,ok.L5,ok.xt,ok.GU⟩
section
variable {X:Cx}{pins:List (Addr × Obj)}{σ:St}{H:Hp}{s:Shared}{E:Value->Shared->Prop}
theorem Inv.wish(I:Inv X pins σ H s)(E:Value->Shared->Prop):Inv (X.wish E) pins σ H s:=⟨I.ok.wish E,I.os,I.bare,I.base,I.loc,I.cell,I.free,I.xv,I.pin,I.bq,I.len⟩
theorem Inv.CC(I:Inv (X.wish E) pins σ H s):Inv X pins σ H s:=⟨I.ok.CC,I.os,I.bare,I.base,I.loc,I.cell,I.free,I.xv,I.pin,I.bq,I.len⟩
theorem SP.CC{D:Ends}{f:Flow}{s':Shared}(h:SP (X.wish E) pins D f s'):SP X pins D f s':=by
 cases f with
 |next=>obtain⟨bE,H',I,q⟩:=h;exact⟨bE,H',I.CC,q⟩
 |brk=>obtain⟨bE,H',I,q⟩:=h;exact⟨bE,H',I.CC,q⟩
 |cont=>obtain⟨bE,H',I,q⟩:=h;exact⟨bE,H',I.CC,q⟩
 |ret u=>obtain⟨v,bE,H',I,r,q⟩:=h;exact⟨v,bE,H',I.CC,r,q⟩
theorem mv.L8{st:List Stmt}{t:TS}(h:mv X.L8 st t):mv X st t:=fun pins s σ H D I hw =>
 sL (h pins s σ H D (I.wish _) hw) (fun _ _ q=>q.CC) fun _ _ z=>False.elim z
end
section
variable {X:Cx}{st:Stmt}{rest:List Stmt}{t u:TS}{e:Expr}{te:TE}{pos:Pos}
def YL:TS:=fun D σ H=>D.nx σ H
def U8(t u:TS):TS:=fun D σ H=>t { D with nx:=u D } σ H
theorem YM:mv X [] YL:=fun _ _ σ H _ I h=>wpAny_execs_nil ⟨σ,H,I,h⟩
theorem U9(h1:PS X st t)(h2:mv X rest u):mv X (st :: rest) (U8 t u):=by
 intro pins s σ H D I h
 refine wpAny_execs_cons (cq (h1 pins s σ H { D with nx:=u D } I h) fun f s1 q=>?_)
 cases f with
 |next =>
  obtain⟨bE,H',I',q⟩:=q
  exact h2 pins s1 bE H' D I' q
 |ret v=>exact q
 |brk=>exact q
 |cont=>exact q
theorem U_(h1:PS X st t):mv X [st] t:=by
 intro pins s σ H D I h
 refine wpAny_execs_cons (cq (h1 pins s σ H D I h) fun f s1 q=>?_)
 cases f with
 |next=>exact wpAny_execs_nil q
 |ret v=>exact q
 |brk=>exact q
 |cont=>exact q
theorem Inv.quiet{pins:List (Addr × Obj)}{σ:St}{H:Hp}{s:Shared}(I:Inv X pins σ H s):interactive X.env=false:=by simp[interactive,I.ok.kind]
def YN(te:TE):TS:=fun D σ H=>te σ H fun _ H1=>D.nx σ H1
theorem Pg(he:PE X e te)(hs:swapsWith e none pos.line X.env=pure false:=by rfl):PS X (.Expr e pos) (YN te):=by
 intro pins s σ H D I h
 exact wpAny_Expr_any (cq (he pins s σ H _ I h) fun v s1 cv=>L2.fP cv fun x H1 I1 r1 q1=>⟨σ,H1,I1,q1⟩) I.quiet hs
def YQ(te:TE):TS:=fun D σ H=>te σ H D.rt
theorem Va(he:PE X e te):PS X (.Return (some e) pos) (YQ te):=by
 intro pins s σ H D I h
 exact wpAny_Return_some (cq (he pins s σ H _ I h) fun v s1 cv=>L2.fP cv fun x H1 I1 r1 q1=>⟨x,σ,H1,I1,r1,q1⟩)
def YR(c:TT)(t u:TS):TS:=fun D σ H=>c σ H fun b H1=>if b=true then t D σ H1 else u D σ H1
theorem YS{c:Expr}{a b:List Stmt}{tc:TT}(hc:PT X c tc)(ha:mv X a t)(hb:mv X b u):PS X (.If c a b pos) (YR tc t u):=by
 intro pins s σ H D I h
 refine wpAny_If (cq (hc pins s σ H _ I h) fun d s1 cK=>?_)
 obtain⟨H1,I1,q1⟩:=cK
 cases d with
 |true=>exact ha pins s1 σ H1 D I1 q1
 |false=>exact hb pins s1 σ H1 D I1 q1
end
abbrev TG:=V->St->Hp->(St->Hp->Prop)->Prop
abbrev CD:=List V->St->Hp->(St->Hp->Prop)->Prop
def PG(X:Cx)(target:Expr)(t:TG):Prop :=
 ∀ (pins:List (Addr × Obj)) (s:Shared) (σ:St) (H:Hp) (v:V) (u:Value) (Q:St->Hp->Prop),Inv X pins σ H s->RelV v u->t v σ H Q ->
  wpAny (model X.prog X.w) X.A (assign target X.env u) (fun _ s'=>∃ bE H',Inv X pins bE H' s'/\Q bE H') X.xe s
def y3(X:Cx)(ts:List Expr)(t:CD):Prop :=
 ∀ (pins:List (Addr × Obj)) (s:Shared) (σ:St) (H:Hp) (vs:List V) (us:List Value) (Q:St->Hp->Prop),Inv X pins σ H s->Vals vs us->t vs σ H Q ->
  wpAny (model X.prog X.w) X.A (assignInOrder ((assignEach ts X.env).map (·.2)) us) (fun _ s'=>∃ bE H',Inv X pins bE H' s'/\Q bE H') X.xe s
section
variable {X:Cx}{pos:Pos}
def Rr(i:Nat):TG:=fun v σ H Q=>Q (σ.set i (some v)) H
theorem Rt{i:Nat}{x:Str}(hN:X.N.Nodup)(hi:X.N[i]? = some x)(hx:Loc X.env.scope x)(hf:X.fn x=true\/X.env.scope.names.lookup x=some .local:=by first|exact .inl rfl|exact .inr rfl|assumption):PG X (.Name x pos) (Rr i):=by
 intro pins s σ H v u Q I r h
 exact wpAny_assign_Name (U5 I hN hi hx r (fun s' I'=>⟨_,H,I',h⟩) hf)
def YT:CD:=fun vs σ H Q=>vs=[]/\Q σ H
def YV(t:TG)(u:CD):CD:=fun vs σ H Q=>∃ v r,vs=v :: r/\t v σ H fun bE H'=>u r bE H' Q
theorem Vb:y3 X [] YT:=by
 intro pins s σ H vs us Q I r h
 obtain⟨e,h⟩:=h
 subst e
 cases r
 exact assignInOrder_nil ⟨σ,H,I,h⟩
theorem Ru{e:Expr}{es:List Expr}{t:TG}{u:CD}(h1:PG X e t)(h2:y3 X es u)
  (hs:(assignEach (e :: es) X.env).map (·.2)=assign e X.env :: (assignEach es X.env).map (·.2):=by rfl):y3 X (e :: es) (YV t u):=by
 intro pins s σ H vs us Q I r h
 obtain⟨v,vr,e1,h⟩:=h
 subst e1
 cases r with
 |cons r rr =>
  rw[hs]
  refine assignInOrder_cons (cq (h1 pins s σ H _ _ _ I r h) fun _ s1 cK=>?_)
  obtain⟨GW,H1,I1,q1⟩:=cK
  exact h2 pins s1 GW H1 _ _ Q I1 rr q1
def YW(K:PySem.W.Frag)(n:Nat)(t:CD):TG:=fun v σ H Q=>∃ a xs,v=.ref a/\ng K H a xs/\xs.length=n/\t xs σ H Q
theorem Vc{es:List Expr}{k:Nat}{t:CD}{n:Nat}(hc:X.calm=true)(h:y3 X es t)
  (hn:(assignEach es X.env).length=n:=by rfl) (kH:(assignEach es X.env).findIdx? (·.1)=none:=by rfl):PG X (.Tuple es k pos) (YW X.K n t):=by
 intro pins s σ H v u Q I r hw
 obtain⟨a,xs,e1,hq,hl,hw⟩:=hw
 subst e1
 cases r
 obtain⟨its,rv,ht,hz⟩:=I.tuple hq
 refine assign_Tuple_tuple (I.ok.hd hc) ht (by simp[hn,<- hl,rv.length]) kH fun h' hx=>?_
 have I1:Inv X pins σ H { s with heap:=h' }:=I.kept (t':=s.toks) fun b o e=>hx b o (fw (dS e)) e
 exact h pins _ σ H xs _ Q I1 (by simpa using rv) hw
def Rv(te:TE)(g:TG):TS:=fun D σ H=>te σ H fun x H1=>g x σ H1 D.nx
theorem YX{tg e:Expr}{te:TE}{g:TG}(he:PE X e te)(hg:PG X tg g)(hs:swapsWithSole [tg] e pos.line X.env=pure false:=by rfl)(hw:swappedStores [tg] e X.env=pure none:=by rfl)
  (h1:(assignEach [tg] X.env).map (·.2)=[assign tg X.env]:=by rfl):PS X (.Assign [tg] e pos) (Rv te g):=by
 intro pins s σ H D I h
 refine wpAny_Assign_stores (cq (he pins s σ H _ I h) fun v s1 cv=>L2.fP cv fun x H1 I1 r1 q1=>?_) hs hw
 rw[h1]
 exact cq (hg pins s1 σ H1 x v _ I1 r1 q1) fun _ s2 q=>q
theorem Rw{i:Nat}{x:Str}{e:Expr}{te:TE}{pos':Pos}(hN:X.N.Nodup)(hi:X.N[i]? = some x)(hx:Loc X.env.scope x)(he:PE X e te)(hs:swapsWith e (some (.Name x pos')) pos.line X.env=pure false:=by rfl)(hf:X.fn x=true\/X.env.scope.names.lookup x=some .local:=by first|exact .inl rfl|exact .inr rfl|assumption) :
  PS X (.Assign [.Name x pos'] e pos) (Rv te (Rr i)):=by
 intro pins s σ H D I h
 refine wpAny_Assign_Name (cq (he pins s σ H _ I h) fun v s1 cv=>L2.fP cv fun y H1 I1 r1 q1=>?_) hs
 exact U5 I1 hN hi hx r1 (fun s2 I2=>⟨_,H1,I2,q1⟩) hf
def YY(c:TT)(tb:TS):TS:=fun D σ H=>∃ W:Nat->St->Hp->Prop,(∃ m,W m σ H)/\∀ m σ H,W m σ H ->
 c σ H fun b H1=>if b=true then ∃ N:St->Hp->Prop,(∀ bE H',N bE H'->∃ m',m'<m/\W m' bE H')/\tb { D with nx:=N,ct:=N,bk:=D.nx } σ H1 else D.nx σ H1
theorem YZ{c:Expr}{body:List Stmt}{tc:TT}{tb:TS}(hp:PassesOwn (model X.prog X.w) X.A X.env X.xe)(hc:PT X c tc)(hb:mv X body tb):PS X (.While c body [] pos) (YY tc tb):=by
 intro pins s σ H D I h
 obtain⟨W,⟨m0,w0⟩,turn⟩:=h
 refine wpAny_While (codeAny_whileLoop (fun n s'=>∃ bE H',Inv X pins bE H' s'/\W n bE H') ?_ m0 ⟨σ,H,I,w0⟩)
 rintro n s1 ⟨GW,H1,I1,w1⟩
 refine wpAny_passesOwn hp (cq (hc pins s1 GW H1 _ I1 (turn n GW H1 w1)) fun b s2 cK=>?_)
 obtain⟨H2,I2,q2⟩:=cK
 cases b with
 |true =>
  obtain⟨N,hN,q2⟩:=q2
  rw[if_pos rfl]
  refine wpAny_passesOwn hp (cq (hb pins s2 GW H2 _ I2 q2) fun f s3 q3=>?_)
  cases f with
  |next =>
   obtain⟨pz,H3,I3,n3⟩:=q3
   obtain⟨m',hm,w3⟩:=hN pz H3 n3
   exact⟨m',hm,pz,H3,I3,w3⟩
  |cont =>
   obtain⟨pz,H3,I3,n3⟩:=q3
   obtain⟨m',hm,w3⟩:=hN pz H3 n3
   exact⟨m',hm,pz,H3,I3,w3⟩
  |brk=>exact q3
  |ret v=>exact q3
 |false =>
  rw[if_neg gy]
  exact wpAny_execs_nil ⟨GW,H2,I2,q2⟩
end
structure It where
 go:Nat->Hp->Prop
 nh:Nat->Hp->V->Hp->Prop
 stop:Nat->Hp->Prop
def xB(X:Cx)(pins:List (Addr × Obj))(H:Hp)(b:Addr):Prop :=
 H b=none/\b≠X.env.locals/\b∉X.fs/\(b∈X.ex\/X.iX.heap.objs.size<=b)/\(∀ x c,X.env.cells.lookup x=some c->c≠b)/\∀ p∈X.pn++pins,p.1≠b
theorem Inv.Rx{X:Cx}{pins:List (Addr × Obj)}{σ:St}{H H':Hp}{s:Shared}{b:Addr}(I:Inv X pins σ H s)(hb:s.heap.objs.size<=b)(hn:H' b=none):xB X pins H' b:=by
 refine⟨hn,GA (kX I.lt hb),I.Yi hb,.inr (gx I.sz hb),fun x c e z=>?_,fun p hp z=>?_⟩
 ·obtain⟨v,q⟩:=I.cell x c e
  exact absurd (kX q.lt (by rw[z];exact hb)) (pf _)
 ·exact absurd (kX (dS (I.pin p hp).1) (by rw[z];exact hb)) (pf _)
structure Turn(P:Program)(w:World)(K:PySem.W.Frag)(tg:Expr)(J:It)(fp:List Addr)(it:Addr)(tn:Nat->Heap->Prop):Prop where
 mem:it∈fp
 obj:∀ i h,tn i h->∀ b∈fp,∃ o,h.get? b=some o/\∀ v,o.data≠.cell v
 keep:∀ i h h',tn i h->(∀ b∈fp,∀ o,h.get? b=some o->h'.get? b=some o)->tn i h'
 item:∀ (X:Cx),X.prog=P->X.w=w->X.K=K->X.calm=true->∀ (i:Nat) (pins:List (Addr × Obj)) (s:Shared) (σ:St) (H:Hp) (E:Value->Shared->Prop),Inv X pins σ H s->(∀ b∈fp,xB X pins H b)->tn i s.heap->J.go i H ->
  wpAny (model P w) X.A (pyNext (.ref it)) (fun r s1=>∃ u,r=some u /\
   wpAny (model P w) X.A (letOwnedTupleGo tg (.ref it) u) (fun _ s2=>∃ x H',Inv X pins σ H' s2/\RelV x u/\J.nh i H x H'/\tn (i+1) s2.heap/\∀ b∈fp,H' b=none) E s1) E s
 done:∀ (X:Cx),X.prog=P->X.w=w->X.K=K->X.calm=true->∀ (i:Nat) (pins:List (Addr × Obj)) (s:Shared) (σ:St) (H:Hp) (E:Value->Shared->Prop),Inv X pins σ H s->(∀ b∈fp,xB X pins H b)->tn i s.heap->J.stop i H ->
  wpAny (model P w) X.A (pyNext (.ref it)) (fun r s1=>r=none/\Inv X pins σ H s1) E s
 self:∀ (A:Around) (i:Nat) (s:Shared) (Q:Value->Shared->Prop) (E:Value->Shared->Prop),tn i s.heap->Q (.ref it) s->wpAny (model P w) A (pyIter (.ref it)) Q E s
abbrev TI:=St->Hp->(It->Hp->Prop)->Prop
def Vd(X:Cx)(pins:List (Addr × Obj))(σ:St)(tg:Expr)(R:It->Hp->Prop)(Ry:Value)(s2:Shared):Prop :=
 ∃ (it:Addr) (fp:List Addr) (tn:Nat->Heap->Prop) (J:It) (H':Hp),Ry=.ref it/\Inv X pins σ H' s2/\Turn X.prog X.w X.K tg J fp it tn/\tn 0 s2.heap/\(∀ b∈fp,xB X pins H' b)/\R J H'
def PI(X:Cx)(tg iter:Expr)(wi:TI):Prop :=
 ∀ (pins:List (Addr × Obj)) (s:Shared) (σ:St) (H:Hp) (R:It->Hp->Prop),Inv X pins σ H s->wi σ H R ->
  wpAny (model X.prog X.w) X.A (eval iter X.env) (fun v s1=>wpAny (model X.prog X.w) X.A (pyIter v) (Vd X pins σ tg R) X.xe s1) X.xe s
theorem Ve{M:Model}{A:Around}{E:Value->Shared->Prop}{s:Shared}{tg:Expr}{it:Addr}{u:Value}{o:Obj}{n:String}{vs:Array Value}{Q:Unit->Shared->Prop}(ho:s.heap.get? it=some o)(hc:o.cls=.type n)(hd:o.data=.fields vs)
  (hn:["enumerate", "zip", "dict_itemiterator", "dict_reverseitemiterator", "odict_iterator", "itertools.zip_longest", "itertools.pairwise"].contains n=false) (hQ:Q () s):wpAny M A (letOwnedTupleGo tg (.ref it) u) Q E s:=by
 unfold letOwnedTupleGo
 cases tg<;>first
  |exact ay hQ
  | (cases u<;>first
     |exact ay hQ
     | (refine ah (wpAny_load ho ?_)
        rw[hc,hd]
        show wpAny M A (if (["enumerate", "zip", "dict_itemiterator", "dict_reverseitemiterator", "odict_iterator", "itertools.zip_longest", "itertools.pairwise"].contains n && vs[0]? == some (rawInt _))=true then _ else _) Q E s
        rw[if_neg (by intro h;rw[hn,Bool.false_and] at h;cases h)]
        exact ay hQ))
def Ph(K:PySem.W.Frag)(a:Addr):It :=
 ⟨fun i H=>∃ xs x,eK K H a xs/\xs[i]? = some x,fun i H x H'=>H'=H/\∀ xs,eK K H a xs->xs[i]? = some x,fun i H=>∃ xs,eK K H a xs/\xs.length<=i⟩
def og(lo:Int)(n:Nat):It:=⟨fun i _=>i<n,fun i H x H'=>H'=H/\x=.int (lo+i),fun i _=>n<=i⟩
theorem Y0{P:Program}{w:World}{K:PySem.W.Frag}{tg:Expr}(a it:Addr):Turn P w K tg (Ph K a) [it] it (fun i h=>h.IsListIter it a i) where
 mem:=by simp
 obj:=fun i h st b hb=>by
  have e:b=it:=by simpa using hb
  subst e
  obtain⟨o,e,c,d⟩:=st
  exact⟨o,e,fun v z=>by rw[d] at z;cases z⟩
 keep:=fun i h h' st k=>st.at fun o e=>k it (by simp) o e
 item:=by
  intro X hP hw hK hc i pins s σ H E I hf st hg
  subst hP hw hK
  obtain⟨xs,x,hq,hx⟩:=hg
  obtain⟨its,rv,p,hz⟩:=I.list hq
  obtain⟨u,hu,ru⟩:=rv.get hx
  obtain⟨f0,f1,f2,f3,f4,f5⟩:=hf it (by simp)
  refine wpAny_pyNext_list_item st p.isList (x:=u) (by simpa using hu) fun h' ae sb=>?_
  have I1:Inv X pins σ H { s with heap:=h' }:=I.turned (t':=s.toks) (fun b o hb e=>(sb.2 b hb).trans e) f0 f1 f3 f4 f5
  obtain⟨o,e,c,d⟩:=id ae
  exact⟨u,rfl,Ve (s:={ s with heap:=h' }) e c d (by decide) ⟨x,H,I1,ru,⟨rfl,fun ys hy=>by rw[I.YK hy hq];exact hx⟩,ae,fun b hb=>(hf b hb).1⟩⟩
 done:=by
  intro X hP hw hK hc i pins s σ H E I hf st hg
  subst hP hw hK
  obtain⟨xs,hq,hx⟩:=hg
  obtain⟨its,rv,p,hz⟩:=I.list hq
  obtain⟨f0,f1,f2,f3,f4,f5⟩:=hf it (by simp)
  have hl:=rv.length
  exact wpAny_pyNext_list_end (I.ok.hd hc) st p.isList (by simp;lia) fun h' eb=>⟨rfl,I.turned (t':=s.toks) (fun b o hb e=>eb b o hb e) f0 f1 f3 f4 f5⟩
 self:=fun _ _ _ _ _ st h=>wpAny_pyIter_listiter st h
theorem Y1{P:Program}{w:World}{K:PySem.W.Frag}{tg:Expr}(it:Addr)(lo:Int)(n:Nat):Turn P w K tg (og lo n) [it] it (fun i h=>IsRangeIter h it (lo+(i:Nat)*1) ((n:Int)-(i:Nat)) 1) where
 mem:=by simp
 obj:=fun i h st b hb=>by
  have e:b=it:=by simpa using hb
  subst e
  exact⟨_,st,fun v z=>by
   have z':Data.fields _=Data.cell v:=z
   cases z'⟩
 keep:=fun i h h' st k=>k it (by simp) _ st
 item:=by
  intro X hP hw hK hc i pins s σ H E I hf st hg
  subst hP hw hK
  obtain⟨f0,f1,f2,f3,f4,f5⟩:=hf it (by simp)
  have W:=Walks.range (prog:=X.prog) (w:=X.w) (I.ok.hd hc) it lo 1 n
  refine W.item i s _ _ hg st fun v h' tk hv ae kk=>?_
  obtain⟨t,rfl⟩:=hv
  have I1:Inv X pins σ H { s with heap:=h',toks:=tk }:=I.turned (fun b o hb e=>kk b o (by simpa using hb) e) f0 f1 f3 f4 f5
  refine⟨_,rfl,Ve (s:={ s with heap:=h',toks:=tk }) (n := "range_iterator") ae rfl rfl (by decide) ⟨.int (lo+i),H,I1,⟨t,?_⟩,⟨rfl,rfl⟩,ae,fun b hb=>(hf b hb).1⟩⟩
  rw[Int.mul_one]
 done:=by
  intro X hP hw hK hc i pins s σ H E I hf st hg
  subst hP hw hK
  obtain⟨f0,f1,f2,f3,f4,f5⟩:=hf it (by simp)
  exact wpAny_pyNext_range_end (I.ok.hd hc) st (by have:n<=i:=hg;lia) fun h' eb=>⟨rfl,I.turned (t':=s.toks) (fun b o hb e=>eb b o hb e) f0 f1 f3 f4 f5⟩
 self:=fun _ _ _ _ _ st h=>wpAny_pyIter_rangeiter st h
section
variable {X:Cx}{tg:Expr}
def Y2(K:PySem.W.Frag)(tl:TE):TI:=fun σ H R=>tl σ H fun x H1=>∃ a,x=.ref a/\(∃ xs,eK K H1 a xs)/\R (Ph K a) H1
theorem Vf{l:Expr}{tl:TE}(hl:PE X l tl):PI X tg l (Y2 X.K tl):=by
 intro pins s σ H R I h
 refine cq (hl pins s σ H _ I h) fun v s1 cv=>L2.fP cv fun x H1 I1 r1 q1=>?_
 obtain⟨a,e,⟨xs,hq⟩,q⟩:=q1
 subst e
 cases r1
 obtain⟨its,rv,p,hz⟩:=I1.list hq
 refine wpAny_pyIter_list p.isList ?_
 refine⟨s1.heap.objs.size,[s1.heap.objs.size],_,_,H1,rfl,I1.kept (t':=s1.toks) fun b o e=>eR _ e,Y0 a _,⟨_,i9 _ rfl,rfl,rfl⟩,fun b hb=>?_,q⟩
 have e:b=s1.heap.objs.size:=by simpa using hb
 subst e
 exact I1.Rx (bT _) (I1.bq.fresh (bT _))
theorem Y3{pins:List (Addr × Obj)}{σ:St}{H:Hp}{s:Shared}{R:It->Hp->Prop}{E:Value->Shared->Prop}{lo hi:Int}{t u v:Tok}{tk:Nat}(I:Inv X pins σ H s)(h1:-(2 ^ 62)<=lo)(h2:lo<2 ^ 62)(h3:-(2 ^ 62)<=hi)(h4:hi<2 ^ 62)
  (q:R (og lo (hi-lo).toNat) H):wpAny (model X.prog X.w) X.A (pyIter (.ref s.heap.objs.size)) (Vd X pins σ tg R) E { s with heap:=s.heap.push { cls:=.type "range",data:=.fields #[.int lo t,.int hi u,.int 1 v] },toks:=tk }:=by
 refine wpAny_pyIter_range (IsRange.new ..) (small_one h1 h2 h3 h4) ?_
 have I1:Inv X pins σ H { s with heap:=s.heap.push { cls:=.type "range",data:=.fields #[.int lo t,.int hi u,.int 1 v] },toks:=tk }:=I.kept fun b o e=>eR _ e
 refine⟨(s.heap.push { cls:=.type "range",data:=.fields #[.int lo t,.int hi u,.int 1 v] }).objs.size,[(s.heap.push { cls:=.type "range",data:=.fields #[.int lo t,.int hi u,.int 1 v] }).objs.size],_,_,H,rfl,
  I1.kept (t':=tk) fun b o e=>eR _ e,Y1 _ lo (hi-lo).toNat,?_,fun b hb=>?_,q⟩
 ·have e1:lo+((0:Nat):Int)*1=lo:=by simp
  have e2:(((hi-lo).toNat:Nat):Int)-((0:Nat):Int)=Builtin.Range.rangeSize lo hi 1:=by rw[rangeSize_one];split<;>lia
  show IsRangeIter _ _ (lo+((0:Nat):Int)*1) ((((hi-lo).toNat:Nat):Int)-((0:Nat):Int)) 1
  rw[e1,e2]
  exact i9 _ rfl
 ·have e:b=(s.heap.push { cls:=.type "range",data:=.fields #[.int lo t,.int hi u,.int 1 v] }).objs.size:=by simpa using hb
  subst e
  exact I1.Rx (bT _) (I1.bq.fresh (bT _))
def Y4(ta:TA):TI:=fun σ H R=>ta σ H fun vs H1=>∃ j:Int,vs=[.int j]/\-(2 ^ 62)<=j/\j<2 ^ 62/\R (og 0 j.toNat) H1
theorem Y5 {a:Expr} {ta:TA} {p pos:Pos} (hg:Gl X "range") (hm:X.mg "range" = none) (ha:PA X [a] ta) (hs:starEach [a] X.env=[(false,eval a X.env)]:=by rfl):PI X tg (.Call (.Name "range" p) [a] [] pos) (Y4 ta):=by
 intro pins s σ H R I h
 refine Call_ (CB I hg hm boot_range (PyProof.Rows.callWith_type1 (cq (ha pos pins s σ H _ I h) fun us s1 cv=>L2.fP cv fun vs H1 I1 r1 q1=>?_) hs rfl))
 obtain⟨j,e,q1,q2,q⟩:=q1
 subst e
 cases r1 with
 |cons r rr =>
  cases rr
  obtain⟨t,rfl⟩:=r
  exact call_range_1 (Y3 I1 (by decide) (by decide) q1 q2 (by simpa using q))
def Vg(wi:TI)(g:TG)(tb:TS):TS:=fun D σ H=>wi σ H fun J H1=>∃ W:Nat->Nat->St->Hp->Prop,(∃ m,W 0 m σ H1)/\∀ i m σ H,W i m σ H ->
 (J.stop i H/\D.nx σ H)\/(J.go i H/\∃ N:St->Hp->Prop,(∀ bE H',N bE H'->∃ m',m'<m/\W (i+1) m' bE H')/\∀ x H',J.nh i H x H'->g x σ H' fun ja H2=>tb { D with nx:=N,ct:=N,bk:=D.nx } ja H2)
def L9(fp:List Addr)(h:Heap):List (Addr × Obj):=fp.filterMap fun b=>(h.get? b).map fun o=>(b,o)
theorem Pj{fp:List Addr}{h:Heap}{b:Addr}{o:Obj}(hb:b∈fp)(e:h.get? b=some o):(b,o)∈L9 fp h:=Q6.mpr ⟨b,hb,by rw[e];rfl⟩
theorem Y6{fp:List Addr}{h:Heap}{p:Addr × Obj}(hp:p∈L9 fp h):p.1∈fp/\h.get? p.1=some p.2:=by
 obtain⟨b,hb,e⟩:=Q6.mp hp
 cases q:h.get? b with
 |none=>rw[q] at e;cases e
 |some o =>
  rw[q] at e
  have e':(b,o)=p:=Option.some.inj e
  subst e'
  exact⟨hb,q⟩
theorem Inv.pinned{pins:List (Addr × Obj)}{σ:St}{H:Hp}{s:Shared}{fp:List Addr}(I:Inv X pins σ H s)(hf:∀ b∈fp,xB X pins H b)(ho:∀ b∈fp,∃ o,s.heap.get? b=some o/\∀ v,o.data≠.cell v):Inv X (pins++L9 fp s.heap) σ H s :=
 I.UU fun p hp=>(dy.mp hp).elim (fun z=>I.pin p (fz _ z)) fun z=>by
  obtain⟨hb,e⟩:=Y6 z
  obtain⟨f0,f1,f2,_⟩:=hf p.1 hb
  obtain⟨o,e',d⟩:=ho p.1 hb
  rw[e] at e';cases e'
  exact⟨e,f0,f1,f2,d⟩
theorem Inv.Pk{pins pl:List (Addr × Obj)}{σ:St}{H:Hp}{s:Shared}(I:Inv X (pins++pl) σ H s):Inv X pins σ H s:=I.UU fun p hp=>I.pin p (fz _ (kS _ hp))
theorem Y7{iter:Expr}{body:List Stmt}{wi:TI}{g:TG}{tb:TS}{pos:Pos}(hp:PassesOwn (model X.prog X.w) X.A X.env X.xe)(hc:X.calm=true)(hi:PI X tg iter wi)(hg:PG X tg g)(hb:mv X body tb)
  (hs:∀ x,foldedSetIterable iter X.env x=pure x:=by intro _;rfl):PS X (.For tg iter body [] pos) (Vg wi g tb):=by
 intro pins s σ H D I h
 refine wpAny_For (cq (hi pins s σ H _ I h) fun v s1 h1=>cq h1 fun Ry s2 h2=>?_) hs
 obtain⟨it,fp,tn,J,H2,e,I2,T,vE,f2,W,⟨m0,w0⟩,turn⟩:=h2
 subst e
 -- what stays true of the iterator's objects through the loop
 have stat:∀ {H':Hp},(∀ b∈fp,H' b=none)->∀ b∈fp,xB X pins H' b:=fun hn b hb=>⟨hn b hb,(f2 b hb).2⟩
 refine codeAny_forLoop_any (fun n s'=>∃ i bE H',Inv X pins bE H' s'/\tn i s'.heap/\(∀ b∈fp,H' b=none)/\W i n bE H') ?_ m0 ⟨0,σ,H2,I2,vE,fun b hb=>(f2 b hb).1,w0⟩
 rintro n s3 ⟨i,pz,H3,I3,vF,Vh,w3⟩
 rcases turn i n pz H3 w3 with⟨stop,qn⟩|⟨go,N,hN,step⟩
 ·refine wpAny_passesOwn hp (cq (T.done X rfl rfl rfl hc i pins s3 pz H3 X.xe I3 (stat Vh) vF stop) fun r s4 cK=>?_)
  obtain⟨hr,I4⟩:=cK
  subst hr
  exact wpAny_execs_nil ⟨pz,H3,I4,qn⟩
 ·refine wpAny_passesOwn hp (cq (T.item X rfl rfl rfl hc i pins s3 pz H3 X.xe I3 (stat Vh) vF go) fun r s4 cK=>?_)
  obtain⟨u,hr,h4⟩:=cK
  subst hr
  refine wpAny_passesOwn hp (cq h4 fun _ s5 cK=>?_)
  obtain⟨x,H5,I5,r5,y5,EH,Pl⟩:=cK
  have Y8:=I5.pinned (stat Pl) (T.obj _ _ EH)
  refine wpAny_passesOwn hp (cq (hg _ s5 pz H5 x u _ Y8 r5 (step x H5 y5)) fun _ s6 cK=>?_)
  obtain⟨Y9,H6,I6,q6⟩:=cK
  refine wpAny_passesOwn hp (cq (hb _ s6 Y9 H6 _ I6 q6) fun f s7 q7=>?_)
  have again:∀ {xC:St} {H7:Hp},Inv X (pins++L9 fp s5.heap) xC H7 s7->N xC H7->∃ m,m<n/\∃ i bE H',Inv X pins bE H' s7/\tn i s7.heap/\(∀ b∈fp,H' b=none)/\W i m bE H':=fun {xC H7} I7 n7=>by
   obtain⟨m',hm,w7⟩:=hN xC H7 n7
   refine⟨m',hm,i+1,xC,H7,I7.Pk,T.keep _ _ _ EH fun b hb o e=>(I7.pin (b,o) (fz _ (fz _ (Pj hb e)))).1,fun b hb=>?_,w7⟩
   obtain⟨o,e,d⟩:=T.obj _ _ EH b hb
   exact(I7.pin (b,o) (fz _ (fz _ (Pj hb e)))).2.1
  cases f with
  |next=>obtain⟨xC,H7,I7,n7⟩:=q7;exact again I7 n7
  |cont=>obtain⟨xC,H7,I7,n7⟩:=q7;exact again I7 n7
  |brk=>obtain⟨xC,H7,I7,q7⟩:=q7;exact⟨xC,H7,I7.Pk,q7⟩
  |ret v=>obtain⟨x7,xC,H7,I7,r7,q7⟩:=q7;exact⟨x7,xC,H7,I7.Pk,r7,q7⟩
end
abbrev R2:=V->V->Hp->VK->Prop
def dn(X:Cx)(f:Value->Value->Sem Value)(r:R2):Prop :=
 ∀ (pins:List (Addr × Obj)) (s:Shared) (σ:St) (H:Hp) (x y:V) (v u:Value) (Q:VK),Inv X pins σ H s->RelV x v->RelV y u->r x y H Q ->
  wpAny (model X.prog X.w) X.A (f v u) (EP X pins σ Q) X.xe s
def Pm(X:Cx)(f:Value->Sem Value)(r:V->Hp->VK->Prop):Prop :=
 ∀ (pins:List (Addr × Obj)) (s:Shared) (σ:St) (H:Hp) (x:V) (v:Value) (Q:VK),Inv X pins σ H s->RelV x v->r x H Q ->
  wpAny (model X.prog X.w) X.A (f v) (EP X pins σ Q) X.xe s
def i3(X:Cx)(f:Value)(r:List V->Hp->VK->Prop):Prop :=
 ∀ (pins:List (Addr × Obj)) (s:Shared) (σ:St) (H:Hp) (xs:List V) (us:List Value) (Q:VK),Inv X pins σ H s->Vals xs us->r xs H Q ->
  wpAny (model X.prog X.w) X.A (call f us) (EP X pins σ Q) X.xe s
def Y_(X:Cx)(r:V->Hp->(Bool->Hp->Prop)->Prop):Prop :=
 ∀ (pins:List (Addr × Obj)) (s:Shared) (σ:St) (H:Hp) (x:V) (v:Value) (Q:Bool->Hp->Prop),Inv X pins σ H s->RelV x v->r x H Q ->
  wpAny (model X.prog X.w) X.A (truthy v) (TP X pins σ Q) X.xe s
def Mb(r:R2)(ta tb:TE):TE:=fun σ H Q=>ta σ H fun x H1=>tb σ H1 fun y H2=>r x y H2 Q
def Rz(r:V->Hp->VK->Prop)(ta:TE):TE:=fun σ H Q=>ta σ H fun x H1=>r x H1 Q
def rI(C:Int->Int->Prop)(g:Int->Int->V):R2:=fun x y H Q=>∃ i j,x=.int i/\y=.int j/\C i j/\Q (g i j) H
def GY(g:Int->Int->V):R2:=fun x y H Q=>∃ i j,x=.int i/\y=.int j/\Q (g i j) H
def rU(g:Int->V):V->Hp->VK->Prop:=fun x H Q=>∃ i,x=.int i/\Q (g i) H
section
variable {X:Cx}{a b:Expr}{ta tb:TE}{pos:Pos}
theorem RA(ha:PE X a ta)(hb:PE X b tb){pins:List (Addr × Obj)}{s:Shared}{σ:St}{H:Hp}{R:V->V->Hp->Prop}(I:Inv X pins σ H s)
  (h:ta σ H fun x H1=>tb σ H1 fun y H2=>R x y H2) {Q:Value->Shared->Prop} {f:Value->Value->Sem Value}
  (hf:∀ v u s2 x y H2,Inv X pins σ H2 s2->RelV x v->RelV y u->R x y H2->wpAny (model X.prog X.w) X.A (f v u) Q X.xe s2) :
  wpAny (model X.prog X.w) X.A (eval a X.env) (fun v eC=>wpAny (model X.prog X.w) X.A (eval b X.env) (fun u EI=>wpAny (model X.prog X.w) X.A (f v u) Q X.xe EI) X.xe eC) X.xe s:=by
 refine cq (ha pins s σ H _ I h) fun v s1 cv=>L2.fP cv fun x H1 I1 r1 q1=>?_
 refine cq (hb pins s1 σ H1 _ I1 q1) fun u s2 cv=>L2.fP cv fun y H2 I2 r2 q2=>?_
 exact hf v u s2 x y H2 I2 r1 r2 q2
theorem Za{op:Operator}{r:R2}(ho:dn X (binaryOp op) r)(ha:PE X a ta)(hb:PE X b tb):PE X (.BinOp a op b pos) (Mb r ta tb):=by
 intro pins s σ H Q I h
 exact wpAny_BinOp (RA ha hb I h fun v u s2 x y H2 I2 rx ry q=>ho pins s2 σ H2 x y v u Q I2 rx ry q)
theorem Zb{op:UnaryOp}{r:V->Hp->VK->Prop}(ho:Pm X (unaryOp op) r)(ha:PE X a ta):PE X (.UnaryOp op a pos) (Rz r ta):=by
 intro pins s σ H Q I h
 exact UnaryOp_ (cq (ha pins s σ H _ I h) fun v s1 cv=>L2.fP cv fun x H1 I1 r1 q1=>ho pins s1 σ H1 x v Q I1 r1 q1)
theorem RC{f:Value->Value->Sem Value}{C:Int->Int->Prop}{g:Int->Int->Int}
  (rule:∀ (i j:Int) (t u:Tok) (s:Shared) (Q:Value->Shared->Prop) (E:Value->Shared->Prop),C i j->Q (.int (g i j) s.toks) { s with toks:=s.toks+1 }->wpAny (model X.prog X.w) X.A (f (.int i t) (.int j u)) Q E s) :
  dn X f (rI C fun i j=>.int (g i j)):=by
 intro pins s σ H x y v u Q I rx ry h
 obtain⟨i,j,rfl,rfl,hc,q⟩:=h
 obtain⟨t,rfl⟩:=rx
 obtain⟨t',rfl⟩:=ry
 exact rule i j t t' s _ _ hc ⟨.int (g i j),H,I.tok _,⟨_,rfl⟩,q⟩
theorem Vi{f:Value->Value->Sem Value}{g:Int->Int->Int}
  (rule:∀ (i j:Int) (t u:Tok) (s:Shared) (Q:Value->Shared->Prop) (E:Value->Shared->Prop),Q (.int (g i j) s.toks) { s with toks:=s.toks+1 }->wpAny (model X.prog X.w) X.A (f (.int i t) (.int j u)) Q E s) :
  dn X f (GY fun i j=>.int (g i j)):=by
 intro pins s σ H x y v u Q I rx ry h
 obtain⟨i,j,rfl,rfl,q⟩:=h
 obtain⟨t,rfl⟩:=rx
 obtain⟨t',rfl⟩:=ry
 exact rule i j t t' s _ _ ⟨.int (g i j),H,I.tok _,⟨_,rfl⟩,q⟩
theorem Vj{f:Value->Value->Sem Value}{g:Int->Int->Bool}
  (rule:∀ (i j:Int) (t u:Tok) (s:Shared) (Q:Value->Shared->Prop) (E:Value->Shared->Prop),Q (.bool (g i j)) s->wpAny (model X.prog X.w) X.A (f (.int i t) (.int j u)) Q E s) :
  dn X f (GY fun i j=>.bl (g i j)):=by
 intro pins s σ H x y v u Q I rx ry h
 obtain⟨i,j,rfl,rfl,q⟩:=h
 obtain⟨t,rfl⟩:=rx
 obtain⟨t',rfl⟩:=ry
 exact rule i j t t' s _ _ ⟨.bl (g i j),H,I,rfl,q⟩
def Zc(i j:Int):Prop:=0<j/\j<1073741824
def y6(i j:Int):Prop:=(-(2 ^ 64)<i/\i<2 ^ 64)\/(-(2 ^ 64)<j/\j<2 ^ 64)
theorem y6.ok{i j:Int}(h:y6 i j):IntMulOk i j:=by
 rcases h with⟨h1,h2⟩|⟨h1,h2⟩
 ·exact .of_left (intBits_le_64 h1 h2)
 ·exact .of_right (intBits_le_64 h1 h2)
theorem Zd:dn X (binaryOp .Add) (GY fun i j=>.int (i+j)):=Vi fun _ _ _ _ _ _ _ q=>add_int q
theorem Ze:dn X (binaryOp .Sub) (GY fun i j=>.int (i-j)):=Vi fun _ _ _ _ _ _ _ q=>sub_int q
theorem Zf:dn X (binaryOp .Mult) (rI y6 fun i j=>.int (i*j)):=RC fun _ _ _ _ _ _ _ hc q=>mul_int q hc.ok
theorem Zg:dn X (binaryOp .FloorDiv) (rI Zc fun i j=>.int (i / j)):=RC fun i j _ _ _ _ _ hc q=>by
 have h1:(0:Int)<j:=hc.1
 have h2:j<1073741824:=hc.2
 exact floordiv_int (by lia) (by rw[Int.fdiv_eq_ediv_of_nonneg i (by exact AU ‹_›)];exact q) (.inl (PyProof.noPylong_small (by lia)))
theorem Zh:dn X (binaryOp .Mod) (rI (fun _ j=>0<j) fun i j=>.int (i % j)):=RC fun i j _ _ _ _ _ hc q=>by
 have h1:(0:Int)<j:=hc
 exact mod_int' (by lia) (by rw[Int.fmod_eq_emod_of_nonneg i (by exact AU ‹_›)];exact q)
theorem Zi{f:Value->Sem Value}{g:Int->Int}
  (rule:∀ (i:Int) (t:Tok) (s:Shared) (Q:Value->Shared->Prop) (E:Value->Shared->Prop),Q (.int (g i) s.toks) { s with toks:=s.toks+1 }->wpAny (model X.prog X.w) X.A (f (.int i t)) Q E s) :
  Pm X f (rU fun i=>.int (g i)):=by
 intro pins s σ H x v Q I rx h
 obtain⟨i,rfl,q⟩:=h
 obtain⟨t,rfl⟩:=rx
 exact rule i t s _ _ ⟨.int (g i),H,I.tok _,⟨_,rfl⟩,q⟩
theorem Zj:Pm X (unaryOp .USub) (rU fun i=>.int (-i)):=Zi fun _ _ _ _ _ q=>neg_int q
end
def Vk:V->V->Bool
 |.non,.non=>true|.non,.int _=>true|.int _,.non=>true|.non,.bl _=>true|.bl _,.non=>true|.non,.str _=>true|.str _,.non=>true
 |.int _,.int _=>true|.bl _,.bl _=>true|.str _,.str _=>true|.qV _,.qV _=>true
 |.int _,.str _=>true|.str _,.int _=>true|.bl _,.str _=>true|.str _,.bl _=>true
 |_,_=>false
def Zk:R2:=fun x y H Q=>Vk x y=true/\Q (.bl (decide (x=y))) H
def Zm:R2:=fun x y H Q=>Vk x y=true/\Q (.bl (!decide (x=y))) H
theorem Vl{i j:Int}:decide (V.int i=V.int j)=(i == j):=by
 rw[xk]
 simp
theorem Vm{i j:Bool}:decide (V.bl i=V.bl j)=(i == j):=by
 rw[xk]
 simp
theorem Vn{i j:Str}:decide (V.str i=V.str j)=(i == j):=by
 rw[xk]
 simp
theorem Vo{i j:Array UInt8}:decide (V.qV i=V.qV j)=(i.toList == j.toList):=by
 rw[xk]
 cases i
 cases j
 simp
section
variable {X:Cx}{a b c:Expr}{ta tb:TE}{pos:Pos}
theorem gp{pins:List (Addr × Obj)}{σ:St}{H:Hp}{s:Shared}{Q:VK}{k k':Bool}(I:Inv X pins σ H s)(q:Q (.bl k) H)(e:k=k'):EP X pins σ Q (.bool k') s:=by
 subst e
 exact⟨.bl k,H,I,rfl,q⟩
theorem Zn:dn X (compareOp .Eq) Zk:=by
 intro pins s σ H x y v u Q I rx ry h
 obtain⟨hs,q⟩:=h
 cases x with
 |non =>
  cases rx
  cases y with
  |non=>cases ry;exact PySem.EqNone.eq_none_none (gp I q (by simp))
  |bl j=>cases ry;exact PySem.EqNone.eq_none_bool (gp I q (by simp))
  |int j=>obtain⟨t',rfl⟩:=ry;exact PySem.EqNone.eq_none_int (gp I q (by simp))
  |str j=>obtain⟨t',rfl⟩:=ry;exact PySem.EqNone.eq_none_str (gp I q (by simp))
  |_=>exact absurd (show false=true from hs) gy
 |bl i =>
  cases rx
  cases y with
  |non=>cases ry;exact PySem.EqNone.eq_bool_none (gp I q (by simp))
  |bl j=>cases ry;exact eq_bool (gp I q Vm)
  |str j=>obtain⟨t',rfl⟩:=ry;exact PySem.EqMixed.eq_bool_str (gp I q (by simp))
  |_=>exact absurd (show false=true from hs) gy
 |int i =>
  obtain⟨t,rfl⟩:=rx
  cases y with
  |non=>cases ry;exact PySem.EqNone.eq_int_none (gp I q (by simp))
  |int j=>obtain⟨t',rfl⟩:=ry;exact eq_int (gp I q Vl)
  |str j=>obtain⟨t',rfl⟩:=ry;exact PySem.EqMixed.eq_int_str (gp I q (by simp))
  |_=>exact absurd (show false=true from hs) gy
 |str i =>
  obtain⟨t,rfl⟩:=rx
  cases y with
  |non=>cases ry;exact PySem.EqNone.eq_str_none (gp I q (by simp))
  |bl j=>cases ry;exact PySem.EqMixed.eq_str_bool (gp I q (by simp))
  |int j=>obtain⟨t',rfl⟩:=ry;exact PySem.EqMixed.eq_str_int (gp I q (by simp))
  |str j=>obtain⟨t',rfl⟩:=ry;exact eq_str (gp I q Vn)
  |_=>exact absurd (show false=true from hs) gy
 |qV i =>
  obtain⟨t,rfl⟩:=rx
  cases y with
  |qV j=>obtain⟨t',rfl⟩:=ry;exact PySem.W.eq_bytes (gp I q Vo)
  |_=>exact absurd (show false=true from hs) gy
 |_=>cases y<;>exact absurd (show false=true from hs) gy
theorem Zo:dn X (compareOp .NotEq) Zm:=by
 intro pins s σ H x y v u Q I rx ry h
 obtain⟨hs,q⟩:=h
 cases x with
 |non =>
  cases rx
  cases y with
  |non=>cases ry;exact PySem.EqNone.ne_none_none (gp I q (by simp))
  |bl j=>cases ry;exact PySem.EqNone.ne_none_bool (gp I q (by simp))
  |int j=>obtain⟨t',rfl⟩:=ry;exact PySem.EqNone.ne_none_int (gp I q (by simp))
  |str j=>obtain⟨t',rfl⟩:=ry;exact PySem.EqNone.ne_none_str (gp I q (by simp))
  |_=>exact absurd (show false=true from hs) gy
 |bl i =>
  cases rx
  cases y with
  |non=>cases ry;exact PySem.EqNone.ne_bool_none (gp I q (by simp))
  |bl j=>cases ry;exact ne_bool (gp I q (congrArg not Vm))
  |str j=>obtain⟨t',rfl⟩:=ry;exact PySem.EqMixed.ne_bool_str (gp I q (by simp))
  |_=>exact absurd (show false=true from hs) gy
 |int i =>
  obtain⟨t,rfl⟩:=rx
  cases y with
  |non=>cases ry;exact PySem.EqNone.ne_int_none (gp I q (by simp))
  |int j=>obtain⟨t',rfl⟩:=ry;exact ne_int (gp I q (congrArg not Vl))
  |str j=>obtain⟨t',rfl⟩:=ry;exact PySem.EqMixed.ne_int_str (gp I q (by simp))
  |_=>exact absurd (show false=true from hs) gy
 |str i =>
  obtain⟨t,rfl⟩:=rx
  cases y with
  |non=>cases ry;exact PySem.EqNone.ne_str_none (gp I q (by simp))
  |bl j=>cases ry;exact PySem.EqMixed.ne_str_bool (gp I q (by simp))
  |int j=>obtain⟨t',rfl⟩:=ry;exact PySem.EqMixed.ne_str_int (gp I q (by simp))
  |str j=>obtain⟨t',rfl⟩:=ry;exact ne_str (gp I q (congrArg not Vn))
  |_=>exact absurd (show false=true from hs) gy
 |qV i =>
  obtain⟨t,rfl⟩:=rx
  cases y with
  |qV j=>obtain⟨t',rfl⟩:=ry;exact PySem.W.ne_bytes (gp I q (congrArg not Vo))
  |_=>exact absurd (show false=true from hs) gy
 |_=>cases y<;>exact absurd (show false=true from hs) gy
theorem Zq:dn X (compareOp .Lt) (GY fun i j=>.bl (decide (i<j))):=Vj fun _ _ _ _ _ _ _ q=>lt_int q
theorem Zr:dn X (compareOp .Gt) (GY fun i j=>.bl (decide (j<i))):=Vj fun _ _ _ _ _ _ _ q=>gt_int q
theorem Zt:dn X (compareOp .Lt) (fun x y H Q=>∃ i j,x=.str i/\y=.str j/\Q (.bl (decide (i.cps.toList<j.cps.toList))) H):=by
 intro pins s σ H x y v u Q I rx ry h
 obtain⟨i,j,rfl,rfl,q⟩:=h
 obtain⟨t,rfl⟩:=rx
 obtain⟨t',rfl⟩:=ry
 exact lt_str (gp I q rfl)
theorem Zu:dn X (compareOp .In) (fun x y H Q=>∃ i j,x=.str i/\y=.str j/\Q (.bl (!(Builtin.Str.occurrences j i 0 j.length 1).isEmpty)) H):=by
 intro pins s σ H x y v u Q I rx ry h
 obtain⟨i,j,rfl,rfl,q⟩:=h
 obtain⟨t,rfl⟩:=rx
 obtain⟨t',rfl⟩:=ry
 exact in_str (gp I q rfl)
theorem Zv:dn X (compareOp .Is) (fun x y H Q=>y=.non/\Q (.bl (decide (x=.non))) H):=by
 intro pins s σ H x y v u Q I rx ry h
 obtain⟨rfl,q⟩:=h
 cases ry
 refine is_none_gen (gp I q ?_)
 cases x<;>first
  | (cases rx;rfl)
  | (obtain⟨t,rfl⟩:=rx;rfl)
theorem Zw:dn X (compareOp .NotIn) (fun x y H Q=>∃ i j,x=.str i/\y=.str j/\Q (.bl (!(!(Builtin.Str.occurrences j i 0 j.length 1).isEmpty))) H):=by
 intro pins s σ H x y v u Q I rx ry h
 obtain⟨i,j,rfl,rfl,q⟩:=h
 obtain⟨t,rfl⟩:=rx
 obtain⟨t',rfl⟩:=ry
 exact notIn_str (gp I q rfl)
theorem dn.or{f:Value->Value->Sem Value}{r r':R2}(h:dn X f r)(h':dn X f r'):dn X f (fun x y H Q=>r x y H Q\/r' x y H Q):=by
 intro pins s σ H x y v u Q I rx ry q
 rcases q with q|q
 ·exact h pins s σ H x y v u Q I rx ry q
 ·exact h' pins s σ H x y v u Q I rx ry q
theorem nk(b:Expr){op:CmpOp}(h:op≠.In:=by decide)(h2:op≠.NotIn:=by decide):behindInMarks op b=false:=by
 have e1:(op == CmpOp.In)=false:=by cases op<;>first|rfl|exact absurd rfl h
 have e2:(op == CmpOp.NotIn)=false:=by cases op<;>first|rfl|exact absurd rfl h2
 cases b<;>simp[behindInMarks,e1,e2]
theorem Zx{op:CmpOp}{r:R2}(ho:dn X (compareOp op) r)(ha:PE X a ta)(hb:PE X b tb)(hm:behindInMarks op b=false):PE X (.Compare a [op] [b] pos) (Mb r ta tb):=by
 intro pins s σ H Q I h
 exact wpAny_Compare1 (RA ha hb I h fun v u s2 x y H2 I2 rx ry q=>ho pins s2 σ H2 x y v u Q I2 rx ry q) hm
def Vp(t:TE):TT:=fun σ H Q=>t σ H fun x H'=>∃ k,x=.bl k/\Q k H'
theorem Zy{op:CmpOp}{r:R2}(ho:dn X (compareOp op) r)(ha:PE X a ta)(hb:PE X b tb)(hm:behindInMarks op b=false):PT X (.Compare a [op] [b] pos) (Vp (Mb r ta tb)):=by
 intro pins s σ H Q I h
 refine wpAny_isTrue_Compare1 (cq (ha pins s σ H _ I h) fun v s1 cv=>L2.fP cv fun x H1 I1 r1 q1=>cq (hb pins s1 σ H1 _ I1 q1) fun u s2 cv=>L2.fP cv fun y H2 I2 r2 q2 =>
  cq (ho pins s2 σ H2 x y v u _ I2 r1 r2 q2) fun c s3 ⟨z,H3,I3,r3,k,e,q3⟩=>?_) hm
 subst e
 cases r3
 exact wpAny_truthy_bool ⟨H3,I3,q3⟩
def RD(K:PySem.W.Frag)(x:V)(H:Hp)(k:Bool):Prop :=
 match x with
 |.non=>k=false
 |.bl b=>k=b
 |.int i=>k=(i != 0)
 |.str y=>y.length<=sizeLine/\k=((y.length:Int) != 0)
 |.qV y=>y.size<=sizeLine/\k=((y.size:Int) != 0)
 |.ref p=>(∃ xs,eK K H p xs/\k = !xs.isEmpty)\/(∃ xs,ng K H p xs/\k = !xs.isEmpty)\/∃ kvs,H p=some (.dK kvs)/\k = !kvs.isEmpty
 |_=>False
theorem Zz{κ:Type}{kvs:List (κ × V)}{vs:List (κ × Value)}(r:KV kvs vs):(!vs.isEmpty) = !kvs.isEmpty:=by
 cases r<;>rfl
theorem Vq{xs:List V}{its:List Value}(r:Vals xs its):(!its.toArray.isEmpty) = !xs.isEmpty:=by
 cases r<;>simp
theorem Mk:(sizeLine:Nat)<2 ^ 63:=by rw[sizeLine_eq];decide
theorem ZC:Y_ X (fun x H Q=>∃ k,RD X.K x H k/\Q k H):=by
 intro pins s σ H x v Q I rx h
 obtain⟨k,e,q⟩:=h
 have hl:=Mk
 have hs:sizeLine=16777216:=sizeLine_eq
 cases x with
 |non =>
  cases rx
  have e':k=false:=e
  subst e'
  exact truthy_none ⟨H,I,q⟩
 |bl b =>
  cases rx
  have e':k=b:=e
  subst e'
  exact wpAny_truthy_bool ⟨H,I,q⟩
 |int i =>
  obtain⟨t,rfl⟩:=rx
  have e':k=(i != 0):=e
  subst e'
  exact PySem.P.truthy_int ⟨H,I,q⟩
 |str y =>
  obtain⟨t,rfl⟩:=rx
  obtain⟨hy,e'⟩:y.length<=sizeLine/\k=((y.length:Int) != 0):=e
  subst e'
  exact PySem.P.truthy_str (by lia) ⟨H,I.tok _,q⟩
 |qV y =>
  obtain⟨t,rfl⟩:=rx
  obtain⟨hy,e'⟩:y.size<=sizeLine/\k=((y.size:Int) != 0):=e
  subst e'
  exact PySem.W.truthy_bytes (by lia) ⟨H,I.tok _,q⟩
 |ref p =>
  cases rx
  have e':(∃ xs,eK X.K H p xs/\k = !xs.isEmpty)\/(∃ xs,ng X.K H p xs/\k = !xs.isEmpty)\/∃ kvs,H p=some (.dK kvs)/\k = !kvs.isEmpty:=e
  rcases e' with⟨xs,hx,e'⟩|⟨xs,hx,e'⟩|⟨kvs,hx,e'⟩
  ·subst e'
   obtain⟨its,r,pl,hz⟩:=I.list hx
   have hlen:=r.length
   exact wpAny_truthy_list pl.isList (by simp only[gi];lia) ⟨H,I.tok _,by rw[Vq r];exact q⟩
  ·subst e'
   obtain⟨its,r,pl,hz⟩:=I.tuple hx
   have hlen:=r.length
   exact truthy_tuple pl (by simp only[gi];lia) ⟨H,I.tok _,by rw[Vq r];exact q⟩
  ·subst e'
   obtain⟨hz,hS,vs,r,m⟩:kvs.length<=sizeLine/\(p == sysModules)=false/\∃ vs,KV kvs vs/\s.heap.DictOf (iE X.prog X.w) p vs:=I.bq p _ hx
   have hlen:kvs.length=vs.length:=Paired.length r
   exact wpAny_truthy_dict hS m (by lia) ⟨H,I.tok _,by rw[Zz r];exact q⟩
 |_=>exact(show False from e).elim
theorem ZD(ha:PE X a ta)(he:∀ whole,isTrue a X.env whole=(do let v <- whole;standAt a.pos;holding [v] (truthy v))) :
  PT X a (fun σ H Q=>ta σ H fun x H'=>∃ k,RD X.K x H' k/\Q k H'):=by
 intro pins s σ H Q I h
 exact isTrue_plain (cq (ha pins s σ H _ I h) fun v s1 cv=>L2.fP cv fun x H1 I1 r1 q1=>ZC pins s1 σ H1 x v Q I1 r1 q1) (he _)
theorem ZE:dn X (binaryOp .Add) (fun x y H Q=>∃ i j,x=.str i/\y=.str j/\i.length+j.length<=sizeLine/\Q (.str (i++j)) H):=by
 intro pins s σ H x y v u Q I rx ry h
 obtain⟨i,j,rfl,rfl,hz,q⟩:=h
 obtain⟨t,rfl⟩:=rx
 obtain⟨t',rfl⟩:=ry
 exact add_str (fun t' tk=>⟨.str (i++j),H,I.tok _,⟨_,rfl⟩,q⟩) hz
theorem vals1{x:V}{us:List Value}(r:Vals [x] us):∃ u,us=[u]/\RelV x u:=by
 cases r with
 |cons r1 r2=>cases r2;exact⟨_,rfl,r1⟩
theorem vals2{x y:V}{us:List Value}(r:Vals [x,y] us):∃ u w',us=[u,w']/\RelV x u/\RelV y w':=by
 cases r with
 |cons r1 r2 =>
  cases r2 with
  |cons r3 r4=>cases r4;exact⟨_,_,rfl,r1,r3⟩
theorem ZF (hc:X.calm=true):i3 X (.builtin "min") (fun xs H Q=>∃ i j,xs=[.int i,.int j]/\Q (.int (if j<i then j else i)) H):=by
 intro pins s σ H xs us Q I r h
 obtain⟨i,j,rfl,q⟩:=h
 obtain⟨u,w',rfl,⟨t,rfl⟩,⟨t',rfl⟩⟩:=vals2 r
 refine min_two_ints (I.ok.hd hc) fun h' tk k=>⟨_,H,I.kept k,?_,q⟩
 by_cases hj:j<i
 ·rw[if_pos hj,if_pos hj];exact⟨_,rfl⟩
 ·rw[if_neg hj,if_neg hj];exact⟨_,rfl⟩
theorem ZG:i3 X (.type "int") (fun xs H Q=>(∃ i,xs=[.int i]/\Q (.int i) H)\/∃ k,xs=[.bl k]/\Q (.int (if k then 1 else 0)) H):=by
 intro pins s σ H xs us Q I r h
 rcases h with⟨i,rfl,q⟩|⟨k,rfl,q⟩
 ·obtain⟨u,rfl,t,rfl⟩:=vals1 r
  exact call_int_int ⟨.int i,H,I,⟨_,rfl⟩,q⟩
 ·obtain⟨u,rfl,r1⟩:=vals1 r
  cases r1
  exact call_int_bool ⟨.int (if k then 1 else 0),H,I.tok _,⟨_,rfl⟩,q⟩
def ZH(K:PySem.W.Frag)(x:V)(H:Hp)(n:Nat):Prop :=
 match x with
 |.str y=>y.length<=sizeLine/\n=y.length
 |.qV y=>y.size<=sizeLine/\n=y.size
 |.ref p=>(∃ xs,eK K H p xs/\n=xs.length)\/∃ xs,ng K H p xs/\n=xs.length
 |_=>False
theorem RG:i3 X (.builtin "len") (fun xs H Q=>∃ x n,xs=[x]/\ZH X.K x H n/\Q (.int n) H):=by
 intro pins s σ H xs us Q I r h
 obtain⟨x,n,rfl,e,q⟩:=h
 obtain⟨u,rfl,rx⟩:=vals1 r
 have hl:=Mk
 have hs:sizeLine=16777216:=sizeLine_eq
 cases x with
 |str y =>
  obtain⟨t,rfl⟩:=rx
  obtain⟨hy,e'⟩:y.length<=sizeLine/\n=y.length:=e
  subst e'
  exact len_str (by lia) ⟨.int _,H,I.tok _,⟨_,rfl⟩,q⟩
 |qV y =>
  obtain⟨t,rfl⟩:=rx
  obtain⟨hy,e'⟩:y.size<=sizeLine/\n=y.size:=e
  subst e'
  exact PySem.W.len_bytes (by walk_at "s4") ⟨.int _,H,I.tok _,⟨_,rfl⟩,q⟩
 |ref p =>
  cases rx
  have e':(∃ xs,eK X.K H p xs/\n=xs.length)\/∃ xs,ng X.K H p xs/\n=xs.length:=e
  rcases e' with⟨xs,hx,e'⟩|⟨xs,hx,e'⟩
  ·subst e'
   obtain⟨its,r',pl,hz⟩:=I.list hx
   have hlen:=r'.length
   exact Calls.call_len_list pl.isList (by simp only[gi];lia) ⟨.int xs.length,H,I.tok _,⟨_,by simp only[gi];rw[hlen]⟩,q⟩
  ·subst e'
   obtain⟨its,r',pl,hz⟩:=I.tuple hx
   have hlen:=r'.length
   exact len_tuple pl (by simp only[gi];lia) ⟨.int xs.length,H,I.tok _,⟨_,by simp only[gi];rw[hlen]⟩,q⟩
 |_=>exact(show False from e).elim
end
structure RH(h:Heap)(x dx C:Addr)(mA:Str->Option Value):Prop where
 obj:h.get? x=some (PySem.W.instObj C dx)
 ns:h.Ns1 dx mA
 ne:dx≠x
theorem lookIn_ns{h:Heap}{dx:Addr}{mA:Str->Option Value}(n:h.Ns1 dx mA):∃ od,h.get? dx=some od/\∀ name,PySem.W.lookIn name od=some (mA name):=by
 obtain⟨o,es,ep,ho,hd,hk,_,hm⟩:=n
 refine⟨o,ho,fun name=>?_⟩
 have e:=hm name
 unfold nsFind findBy at e
 rw[<- Array.find?_toList] at e
 unfold PySem.W.lookIn
 rw[hd]
 dsimp only
 split
 ·rename_i y q
  rw[q] at e
  exact congrArg some e
 ·rename_i q
  rw[q] at e
  have a:es.toList.any (·.refKey)=false:=by
   rw[List.any_eq_false]
   intro y hy
   obtain⟨z,t,ZI⟩:=hk y (Array.mem_toList_iff.mp hy)
   simp[DictEntry.refKey,ZI]
  have a':¬ es.toList.any (·.refKey)=true:=by rw[a];exact gy
  rw[if_neg a']
  exact congrArg some e
theorem RH.look{h:Heap}{x dx C:Addr}{mA:Str->Option Value}(I:RH h x dx C mA):∃ od,PySem.W.InstAt h x (PySem.W.instObj C dx) C (some od)/\∀ name,PySem.W.lookIn name od=some (mA name) :=
 let ⟨od,ho,hl⟩:=lookIn_ns I.ns
 ⟨od,⟨I.obj,rfl,rfl,ho⟩,hl⟩
theorem tJ.some_of{v:V}{o:Option Value}(r:tJ (some v) o):∃ u,o=some u/\RelV v u:=by
 cases o with
 |none=>exact(show False from r).elim
 |some u=>exact⟨u,rfl,r⟩
section
variable {P:Program}{w:World}{H:Hp}{h:Heap}{a C dx:Addr}{fs:List (Str × V)}
theorem Pn(bq:g7 P w H h)(e:H a=some (.ins C dx fs)):∃ mA,RH h a dx C mA/\(∀ f,tJ (fs.lookup f) (mA f))/\PySem.Within mA (fs.map (·.1))/\fs.length<=1000/\H dx=some (.own a):=by
 obtain⟨d,z,ne,ob,mA,n,r,q⟩:=(show fE P w H h a (.ins C dx fs) from bq a _ e)
 exact⟨mA,⟨ob,n,ne⟩,r,q,z,d⟩
end
structure RJ(K:PySem.W.Frag)(C:Addr):Prop where
 pg:PySem.W.plainGet K C Str.empty=true
 hd:PySem.W.hasDictIn K C=true
 po:PySem.W.plainOver K C=true
 sa:PySem.W.findIn K (.ref C) "__setattr__" = some (some (.builtin "object.__setattr__"))
theorem RJ.get{K:PySem.W.Frag}{C:Addr}(c:RJ K C)(f:Str):PySem.W.plainGet K C f=true:=c.pg
section
variable {X:Cx}{pins:List (Addr × Obj)}{σ:St}{H:Hp}{s:Shared}{A:Around}{E:Value->Shared->Prop}{Q:Value->Shared->Prop}{c:Value}{b:Bool}
inductive vS(K:PySem.W.Frag)(H:Hp):V->Value->Prop where
 |non:vS K H .non (.type "NoneType")
 |bl (x:Bool):vS K H (.bl x) (.type "bool")
 |int (i:Int):vS K H (.int i) (.type "int")
 |str (x:Str):vS K H (.str x) (.type "str")
 |AV (x:UInt64):vS K H (.AV x) (.type "float")
 |lst {a:Addr} {xs:List V} (e:H a=some (.lst xs)):vS K H (.ref a) (.type "list")
 |oa {a:Addr} {o:Obj} {xs:List V} (e:H a=some (.oa o (.lst xs))):vS K H (.ref a) (.type "list")
 |tup {a:Addr} {xs:List V} (e:H a=some (.tup xs)):vS K H (.ref a) (.type "tuple")
 |dK {a:Addr} {kvs:List (Key × V)} (e:H a=some (.dK kvs)):vS K H (.ref a) (.type "dict")
 |dT {a:Addr} {kvs:List (List Key × V)} (e:H a=some (.dT kvs)):vS K H (.ref a) (.type "dict")
 |ins {a C dx:Addr} {fs:List (Str × V)} (e:H a=some (.ins C dx fs)) (cl:RJ K C) (ha:PySem.W.findIn K (.ref C) "__class__" = some (some (.builtin "object.__class__")))
   (hn:PySem.W.specialIn K (.builtin "object.__class__") "__get__" = some (some (.builtin "getset_descriptor.__get__"))) (Vr:PySem.W.takesIn K (.builtin "object.__class__")=some true)
   (hm:PySem.W.mroIn K C (.type "object")=some true):vS K H (.ref a) (.ref C)
theorem EJ{x:V}{u t:Value}(I:Inv X pins σ H s)(rx:RelV x u)(ty:vS X.K H x t)(e:PySem.W.kitOne X.K t c=some b)(h:∀ tk,Q (.bool b) { s with toks:=tk }) :
  wpAny (model X.prog X.w) A (call (.builtin "isinstance") [u,c]) Q E s:=by
 cases ty with
 |non=>cases (show u=Value.none from rx);exact PySem.W.kia_one PySem.W.kitx_none I.kB True.intro e (fun z=>nomatch z) h
 |bl y=>cases (show u=Value.bool y from rx);exact PySem.W.kia_one PySem.W.kitx_bool I.kB True.intro e (fun z=>nomatch z) h
 |int i=>obtain⟨t,q⟩:=(show ∃ t,u=Value.int i t from rx);cases q;exact PySem.W.kia_one PySem.W.kitx_int I.kB True.intro e (fun z=>nomatch z) h
 |str y=>obtain⟨t,q⟩:=(show ∃ t,u=Value.str y t from rx);cases q;exact PySem.W.kia_one PySem.W.kitx_str I.kB True.intro e (fun z=>nomatch z) h
 |AV y=>obtain⟨t,q⟩:=(show ∃ t,u=Value.float y t from rx);cases q;exact PySem.W.kia_one PySem.W.kitx_float I.kB True.intro e (fun z=>nomatch z) h
 |@lst a xs ea =>
  cases (show u=Value.ref a from rx)
  obtain⟨_,_,n,_,h1⟩:=(show fE X.prog X.w H s.heap a (.lst xs) from I.bq a _ ea)
  exact PySem.W.kia_one PySem.W.kitx_list I.kB ⟨_,h1,rfl⟩ e (fun z=>nomatch z) h
 |@oa a ob xs ea =>
  cases (show u=Value.ref a from rx)
  obtain⟨_,_,_,n,_,h1⟩:=(show fE X.prog X.w H s.heap a (.oa ob (.lst xs)) from I.bq a _ ea)
  exact PySem.W.kia_one PySem.W.kitx_list I.kB ⟨_,h1,rfl⟩ e (fun z=>nomatch z) h
 |@tup a xs ea =>
  cases (show u=Value.ref a from rx)
  obtain⟨_,_,_,p⟩:=(show fE X.prog X.w H s.heap a (.tup xs) from I.bq a _ ea)
  obtain⟨o,h1,h2,_⟩:=p
  exact PySem.W.kia_one PySem.W.kitx_tuple I.kB ⟨o,h1,h2⟩ e (fun z=>nomatch z) h
 |@dK a kvs ea =>
  cases (show u=Value.ref a from rx)
  obtain⟨_,_,vs,_,p⟩:=(show fE X.prog X.w H s.heap a (.dK kvs) from I.bq a _ ea)
  obtain⟨o,es,ep,h1,h2,_⟩:=p
  exact PySem.W.kia_one PySem.W.kitx_dict I.kB ⟨o,h1,h2.1⟩ e (fun z=>nomatch z) h
 |@dT a kvs ea =>
  cases (show u=Value.ref a from rx)
  obtain⟨_,_,xs,_,o,es,ep,h1,h2,_⟩:=(show fE X.prog X.w H s.heap a (.dT kvs) from I.bq a _ ea)
  exact PySem.W.kia_one PySem.W.kitx_dict I.kB ⟨o,h1,h2.1⟩ e (fun z=>nomatch z) h
 |@ins a C dx fs ea cl ha hn Vr hm =>
  cases (show u=Value.ref a from rx)
  obtain⟨mA,O,_⟩:=Pn I.bq ea
  obtain⟨od,J,_⟩:=O.look
  exact PySem.W.kia_one (PySem.W.kitx_own (cl.get _) cl.hd ha hn Vr hm) I.kB J e (fun z=>nomatch z) h
end
structure mw(k:Nat)(A:Around):Prop where
 hd:A.handled=none
 dp:A.depth+3*k+5<recursionLimit
 un:A.units+16*k+200<cLine
theorem mw.mono{j k:Nat}{A:Around}(r:mw k A)(h:j<=k):mw j A:=⟨r.hd,by have:=r.dp;lia,by have:=r.un;lia⟩
theorem mw.deeper{k:Nat}{A:Around}(r:mw (k+1) A)(env:Env):mw k (A.deeper env) :=
 ⟨r.hd,by have:=r.dp;show A.depth+1+3*k+5<_;lia,by have:=r.un;show A.units+3+16*k+200<_;lia⟩
theorem mw.depth{k:Nat}{A:Around}(r:mw k A):A.depth<recursionLimit:=by have:=r.dp;lia
theorem mw.units{k:Nat}{A:Around}(r:mw k A):A.units+64<cLine:=by have:=r.un;lia
def Vs:TA:=fun _ H Q=>Q [] H
def Vt(ta:TE)(tr:TA):TA:=fun σ H Q=>ta σ H fun x H1=>tr σ H1 fun xs H2=>Q (x :: xs) H2
section
variable {X:Cx}{e:Expr}{es:List Expr}{te:TE}{t:TA}{pos:Pos}
theorem vT:PA X [] Vs:=fun _ _ _ _ H Q I h=>Calls.spliced_nil ⟨[],H,I,.nil,h⟩
theorem rh(ha:PE X e te)(hr:PA X es t)(hs:starEach (e :: es) X.env=(false,eval e X.env) :: starEach es X.env:=by rfl):PA X (e :: es) (Vt te t):=by
 intro pos pins s σ H Q I h
 rw[hs]
 show wpAny _ _ (spliced ((false,eval e X.env) :: backTo pos (starEach es X.env))) _ _ s
 refine Calls.spliced_cons (cq (ha pins s σ H _ I h) fun u s1 cv=>L2.fP cv fun x H1 I1 r1 q1=>?_)
 exact cq (hr pos pins s1 σ H1 _ I1 q1) fun us s2 cv=>L2.fP cv fun xs H2 I2 r2 q2=>⟨x :: xs,H2,I2,.cons r1 r2,q2⟩
def ZJ(t:TA):TE:=fun σ H Q=>t σ H fun xs H1=>xs.length<=sizeLine/\∀ p,H1 p=none->Q (.ref p) (upd H1 p (.tup xs))
def ZK(t:TA):TE:=fun σ H Q=>t σ H fun xs H1=>xs.length<=sizeLine/\∀ p,H1 p=none->Q (.ref p) (upd H1 p (.lst xs))
theorem ZL{x1}(h:PA X es t):PE X (.Tuple es x1 pos) (ZJ t):=by
 intro pins s σ H Q I hq
 refine wpAny_Tuple_spliced (cq (h pos pins s σ H _ I hq) fun us s1 ⟨xs,H1,I1,r,z,q⟩=>⟨by rw[<- r.length];exact z,?_⟩)
 have hf:H1 s1.heap.objs.size=none:=I1.bq.fresh (bT _)
 refine⟨.ref s1.heap.objs.size,upd H1 s1.heap.objs.size (.tup xs),I1.laid (t':=s1.toks) (fun b u e=>eR _ e) (bT _) ?_,rfl,q _ hf⟩
 exact⟨z,us,r,⟨_,i9 _ rfl,rfl,_,rfl⟩⟩
theorem ZM(h:PA X es t):PE X (.List es pos) (ZK t):=by
 intro pins s σ H Q I hq
 refine wpAny_List_spliced (cq (h pos pins s σ H _ I hq) fun us s1 ⟨xs,H1,I1,r,z,q⟩=>⟨by rw[<- r.length];exact z,?_⟩)
 have hf:H1 s1.heap.objs.size=none:=I1.bq.fresh (bT _)
 refine⟨.ref s1.heap.objs.size,upd H1 s1.heap.objs.size (.lst xs),I1.laid (t':=s1.toks) (fun b u e=>eR _ e) (bT _) ?_,rfl,q _ hf⟩
 exact⟨z,us,0,r,i9 _ rfl⟩
end
abbrev Sp:=List V->Hp->VK->XK->Prop
abbrev y8:=List Env->Hp->Shared->XK->Value->Shared->Prop
structure Pp(P:Program)(w:World)(K:PySem.W.Frag)(mg:Str->Option Value)(base:Heap)(A:Around)(outer:List Env)(s:Shared)(H:Hp):Prop where
 frames:A.frames=some outer
 mod:Mod K mg base
 bs:∀ b o,base.get? b=some o->s.heap.get? b=some o/\H b=none
 Ct:base.objs.size<=s.heap.objs.size
 xt:s.heap.FunFrames base outer
 GU:∀ b∈xo outer,H b=none
 bq:g7 P w H s.heap
 bare:AllBare s.gens
def CE(outer:List Env)(P:Program)(w:World)(H:Hp)(s:Shared)(Q:VK)(u:Value)(s':Shared):Prop :=
 ∃ v H',s'.os=s.os/\AllBare s'.gens/\Un (xo outer) [] H H' s.heap s'.heap/\g7 P w H' s'.heap/\RelV v u/\Q v H'
def CR(CX:y8)(outer:List Env)(P:Program)(w:World)(H:Hp)(s:Shared)(Q:VK)(E:XK)(r:Result)(s':Shared):Prop :=
 match r with
 |.ok (.ret u)=>CE outer P w H s Q u s'
 |.ok _=>False
 |.error e=>CX outer H s E e s'
structure iF(P:Program)(w:World)(K:PySem.W.Frag)(mg:Str->Option Value)(base:Heap)(CX:y8)(k:Nat)(f:Addr)(fd:FuncData)(ps:List Str)(sp:Sp):Prop where
 len:∀ vs H Q E,sp vs H Q E->vs.length=ps.length
 run:∀ (A:Around) (outer:List Env) (s:Shared) (H:Hp) (args:Args) (us:List Value) (vs:List V) (Q:VK) (E:XK),mw k A->Pp P w K mg base A outer s H->BindsTo s fd args (ps.zip us)->Vals vs us->sp vs H Q E ->
  codeAny (model P w) A (.call (.ref f) args) (CR CX outer P w H s Q E) s
section
variable {X:Cx}{pins:List (Addr × Obj)}{σ:St}{H:Hp}{s s':Shared}
theorem Inv.ZN(I:Inv X pins σ H s):Pp X.prog X.w X.K X.mg X.base X.A X.stack s H :=
 ⟨I.ok.frames,I.ok.mod,I.bs,gx I.ok.Ct I.sz,I.stack,I.UQ,I.bq,I.bare⟩
theorem Inv.after{Q:VK}{u:Value}(I:Inv X pins σ H s)(h:CE X.stack X.prog X.w H s Q u s'):EP X pins σ Q u s':=by
 obtain⟨v,H',os,bare,un,bq,r,q⟩:=h
 obtain⟨hh,g,d,t,ZO⟩:=s'
 obtain rfl:ZO=s.os:=os
 exact⟨v,H',I.call (h':=hh) (g':=g) (d':=d) (t':=t) (ch:=[]) un bq bare (fun b z=>absurd z (by simp)),r,q⟩
end
def RK(sp:Sp)(CF:List V)(E:XK)(t:TA):TE:=fun σ H Q=>t σ H fun vs H1=>sp (vs++CF) H1 Q E
def Binds(K:PySem.W.Frag)(fd:FuncData)(ps:List Str)(ds:List Value):Prop :=
 ∀ (s:Shared) (us:List Value),K.In s.heap->(us++ds).length=ps.length->BindsTo s fd ⟨us,[]⟩ (ps.zip (us++ds))
theorem Binds.all{K:PySem.W.Frag}{fd:FuncData}{ps:List Str}(h:∀ us:List Value,us.length=ps.length->bindArgs fd ⟨us,[]⟩=pure (ps.zip us)):Binds K fd ps []:=fun s us _ hl=>by
 rw[n4] at hl ⊢
 exact .of_eq (h us hl)
def Passes(CX:y8)(X:Cx)(E:XK):Prop:=∀ (pins:List (Addr × Obj)) (σ:St) (H:Hp) (s:Shared) (e:Value) (s':Shared),Inv X pins σ H s->CX X.stack H s E e s'->X.xe e s'
section
variable {X:Cx}{CX:y8}{k:Nat}{f:Addr}{fd:FuncData}{ps:List Str}{sp:Sp}{CF:List V}{ds:List Value}{E:XK}{x:Str}{p pos:Pos}{e:Expr}{es:List Expr}{t:TA}
theorem ZP{pins:List (Addr × Obj)}{σ:St}{H:Hp}{s:Shared}{Q:VK}{us:List Value}{vs:List V}(F:iF X.prog X.w X.K X.mg X.base CX k f fd ps sp)(hr:mw k X.A)(hb:Binds X.K fd ps ds)(hd:Vals CF ds)(hx:Passes CX X E)
  (I:Inv X pins σ H s) (r:Vals vs us) (h:sp (vs++CF) H Q E):wpAny (model X.prog X.w) X.A (call (.ref f) us) (EP X pins σ Q) X.xe s:=by
 have r2:Vals (vs++CF) (us++ds):=r.append hd
 have hl:(us++ds).length=ps.length:=by rw[<- r2.length];exact F.len _ _ _ _ h
 refine wpAny_call (codeAny_mono (F.run X.A X.stack s H ⟨us,[]⟩ (us++ds) (vs++CF) Q E hr I.ZN (hb s us I.kB hl) r2 h) fun r s' hq=>?_)
 cases r with
 |error e=>exact hx pins σ H s e s' I hq
 |ok fl =>
  cases fl with
  |ret u=>exact I.after hq
  |next=>exact False.elim hq
  |brk=>exact False.elim hq
  |cont=>exact False.elim hq
theorem ZQ(F:iF X.prog X.w X.K X.mg X.base CX k f fd ps sp)(hr:mw k X.A)(hg:Gl X x)(hm:X.mg x=some (.ref f))(hk:PySem.W.keepIn X.K (.ref f)=true)(hb:Binds X.K fd ps ds)(hd:Vals CF ds)(hx:Passes CX X E)
  (ha:PA X (e :: es) t) (rp:(x == ("__debug__" : Str))=false:=by decide) (he:starEach (e :: es) X.env=(false,eval e X.env) :: starEach es X.env:=by rfl) (nr:(backTo pos (starEach es X.env)).any (·.1)=false:=by rfl) :
  PE X (.Call (.Name x p) (e :: es) [] pos) (RK sp CF E t):=by
 intro pins s σ H Q I h
 refine wpAny_Call_Name_kw (Ys I hg hm ?_ rp)
 refine PySem.W.callWith_K (h₀:=X.base) I.ok.mod.EE hk (cq (ha pos pins s σ H _ I h) fun us s1 cv=>L2.fP cv fun vs H1 I1 r q=>⟨I1.kB,?_⟩) he nr
 exact ZP F hr hb hd hx I1 r q
end
structure lh(N P:List Str)(sc:Scope):Prop where
 kind:sc.kind=.function
 co:sc.isCoroutine=false
 gen:sc.isGenerator=false
 nd:N.Nodup
 pre:N.take P.length=P
 par:∀ x∈P,sc.names.lookup x=some .local\/sc.names.lookup x=some .cell
 ZR:∀ y∈sc.names,y.2≠.free
theorem Vu{kindOf:Str->Option NameKind}{x:Str}:∀ {binds:List (Str × Value)} {m:Str->Option Value},(∀ v,(x,v)∉binds)->bindL kindOf binds m x=m x
 |[],_,_=>rfl
 | (n,v) :: r,m,h=>by
  unfold bindL
  rw[Vu fun w hw=>h w (b5 _ hw)]
  split
  ·have:x≠n:=by rintro rfl;exact h v bX
   simp[this]
  ·rfl
theorem Vv{kindOf:Str->Option NameKind}{x:Str}:∀ {binds:List (Str × Value)} {m:Str->Option Value},(∀ v,(x,v)∉binds)->bindC kindOf binds m x=m x
 |[],_,_=>rfl
 | (n,v) :: r,m,h=>by
  unfold bindC
  rw[Vv fun w hw=>h w (b5 _ hw)]
  split
  ·rfl
  ·have:x≠n:=by rintro rfl;exact h v bX
   simp[this]
theorem Vw{kindOf:Str->Option NameKind}{x:Str}{v:Value}:∀ {P:List Str} {vs:List Value} {i:Nat} {m:Str->Option Value},P.Nodup->P[i]? = some x->vs[i]? = some v->kindOf x=some .local ->
  bindL kindOf (P.zip vs) m x=some v
 |[],_,_,_,_,h,_,_=>by simp at h
 |_ :: _,[],_,_,_,_,h,_=>by simp at h
 |p :: P,w :: vs,0,m,nd,h1,h2,hk=>by
  simp at h1 h2;subst h1;subst h2
  show bindL kindOf ((p,w) :: P.zip vs) m p=_
  unfold bindL
  rw[Vu fun v hv=>(iA.mp nd).1 (List.of_mem_zip hv).1,if_pos hk]
  simp
 |p :: P,w :: vs,i+1,m,nd,h1,h2,hk=>by
  show bindL kindOf ((p,w) :: P.zip vs) m x=_
  unfold bindL
  exact Vw (i:=i) (iA.mp nd).2 (by simpa using h1) (by simpa using h2) hk
theorem Vx{kindOf:Str->Option NameKind}{x:Str}{v:Value}:∀ {P:List Str} {vs:List Value} {i:Nat} {m:Str->Option Value},P.Nodup->P[i]? = some x->vs[i]? = some v->kindOf x≠some .local ->
  bindC kindOf (P.zip vs) m x=some v
 |[],_,_,_,_,h,_,_=>by simp at h
 |_ :: _,[],_,_,_,_,h,_=>by simp at h
 |p :: P,w :: vs,0,m,nd,h1,h2,hk=>by
  simp at h1 h2;subst h1;subst h2
  show bindC kindOf ((p,w) :: P.zip vs) m p=_
  unfold bindC
  rw[Vv fun v hv=>(iA.mp nd).1 (List.of_mem_zip hv).1,if_neg hk]
  simp
 |p :: P,w :: vs,i+1,m,nd,h1,h2,hk=>by
  show bindC kindOf ((p,w) :: P.zip vs) m x=_
  unfold bindC
  exact Vx (i:=i) (iA.mp nd).2 (by simpa using h1) (by simpa using h2) hk
def start(N:List Str)(vs:List V):St:=vs.map some++List.replicate (N.length-vs.length) none
def EK(CX:y8)(P:Program)(w:World)(K:PySem.W.Frag)(mg:Str->Option Value)(base:Heap)(N:List Str)(qual:Str)(scope:Scope)(f:Addr)(cd:Value)(A:Around)(outer:List Env)(s:Shared)(H:Hp)(E:XK):Cx where
 prog:=P
 w:=w
 K:=K
 mg:=mg
 base:=base
 A:=A.deeper (envOfC qual scope s.heap.objs.size f cd)
 N:=N
 iX:=s
 GP:=H
 env:=envOfC qual scope s.heap.objs.size f cd
 outer:=outer
 stack:=envOfC qual scope s.heap.objs.size f cd :: outer
 ex:=[]
 calm:=true
 fn:=fun _=>true
 pn:=[]
 xe:=fun e s'=>wpAny (model P w) (A.deeper (envOfC qual scope s.heap.objs.size f cd)) (leaving (envOfC qual scope s.heap.objs.size f cd) e) (fun _ CH=>CX outer H s E e CH) (fun e' CH=>CX outer H s E e' CH) s'
theorem Vy{sc:Scope}{n:Nat}{x:Str}(h:sc.names.lookup x=some .cell):∃ c,(cellsFrom n sc.names []).lookup x=some c:=by
 have q:=PySem.W.cellsFrom_some sc.names n [] (.inl h)
 exact Option.isSome_iff_exists.mp q
theorem ZS{CX:y8}{P:Program}{w:World}{K:PySem.W.Frag}{mg:Str->Option Value}{base:Heap}{N ps:List Str}{qual:Str}{scope:Scope}{f:Addr}{cd:Value}{A:Around}{outer:List Env}{s s1:Shared}{H:Hp}{E:XK}{us:List Value}{vs:List V}
  (S:lh N ps scope) (hd:A.handled=none) (e0:Pp P w K mg base A outer s H) (hl:vs.length=ps.length) (r:Vals vs us)
  (x:InCallC s s.heap.objs.size (bindL (envOfC qual scope s.heap.objs.size f cd).kindOf (ps.zip us) fun _=>none) (cellsFrom (s.heap.objs.size+1) scope.names []) (bindC (envOfC qual scope s.heap.objs.size f cd).kindOf (ps.zip us) fun _=>none) s1) :
  Inv (EK CX P w K mg base N qual scope f cd A outer s H E) [] (start N vs) H s1:=by
 have nr:ps.length<=N.length:=by have:=congrArg List.length S.pre;rw[mr] at this;lia
 obtain⟨h1,tk,rfl,hk⟩:=x.done
 have My:∀ b:Addr,b∉(EK CX P w K mg base N qual scope f cd A outer s H E).ex:=fun b z=>absurd (show b∈([]:List Addr) from z) (by simp)
 refine⟨⟨e0.mod,S.kind,rfl,rfl,bT _,fun y z c h1 h2=>?_,fun y hy=>?_,fun y c _ h=>?_,fun _=>hd,Around.frames_deeper e0.frames,.inr ⟨rfl,rfl⟩,fun b z=>absurd z (My b),e0.bs,e0.Ct,fun b _ _=>My b,fun b z=>absurd z (My b),e0.xt,e0.GU⟩,
  rfl,e0.bare,Un.kept hk,⟨_,x.toInCall.ns,fun i y v h1 h2 h3=>?_⟩,fun y c h=>⟨_,x.cell y c h⟩,e0.bq.fresh (bT _),fun y c h=>?_,fun p hp=>absurd (show p∈([]:List (Addr × Obj)) from hp) (by simp),e0.bq.kept hk,?_⟩
 ·exact name_of_addr x.apart (PySem.mem_of_lookup h1) (PySem.mem_of_lookup h2)
 ·have hy:scope.names.lookup y=some .cell\/scope.names.lookup y=some .free:=hy
  rcases hy with hy|hy
  ·exact Vy hy
  ·exact absurd rfl (S.ZR _ (PySem.mem_of_lookup hy))
 ·exact kA (x.above y c (PySem.mem_of_lookup h))
 ·have hi:i<vs.length:=by
   unfold start at h2
   by_cases hi:i<vs.length
   ·exact hi
   ·rw[w_ (by simpa using hi)] at h2
    rw[List.getElem?_replicate] at h2
    split at h2<;>cases h2
  have ha:vs[i]? = some v:=by
   unfold start at h2
   rw[BQ (by simpa using hi),nc] at h2
   cases e:vs[i]? with
   |none=>rw[e] at h2;cases h2
   |some a=>rw[e] at h2;cases h2;rfl
  obtain⟨u,hu,rv⟩:=r.get ha
  have hp:ps[i]? = some y:=by
   rw[<- S.pre,List.getElem?_take_of_lt (by lia)];exact h1
  have Vz:ps.Nodup:=by rw[<- S.pre];exact S.nd.sublist (List.take_sublist _ _)
  refine⟨u,rv,?_⟩
  rcases S.par y (nX hp) with k|k
  ·exact .inl ⟨k,Vw Vz hp hu k⟩
  ·obtain⟨c,e⟩:=Vy (n:=s.heap.objs.size+1) k
   refine .inr ⟨.inl k,c,e,?_⟩
   have q:=x.cell y c e
   rw[Vx Vz hp hu (by show scope.names.lookup y≠_;rw[k];decide)] at q
   exact q
 ·exact e0.bq.fresh (kA (x.above y c (PySem.mem_of_lookup h)))
 ·unfold start
  show _=N.length
  rw[pd,b4,List.length_replicate]
  lia
theorem ZT{CX:y8}{P:Program}{w:World}{K:PySem.W.Frag}{mg:Str->Option Value}{base:Heap}{k:Nat}{f:Addr}{name qual:Str}{params:Arguments}{body:List Stmt}{scope:Scope}{dV kV doc pm eI ct oc:Value}{an od:Option Addr}
  {CL:Array (Option Value)} {N ps:List Str} {sp:Sp} (lk:K.lookup f=some ⟨oc,od,.func (PySem.W.fnOf name qual params body scope dV kV doc pm an eI ct),CL⟩) (rg:PySem.W.codeIn K eI qual=true) (S:lh N ps scope)
  (len:∀ vs H Q E,sp vs H Q E->vs.length=ps.length)
  (MA:∀ (A:Around) (outer:List Env) (s:Shared) (H:Hp) (vs:List V) (Q:VK) (E:XK),mw k (A.deeper (envOfC qual scope s.heap.objs.size f eI))->sp vs H Q E ->
   ∃ t,mv (EK CX P w K mg base N qual scope f eI A outer s H E) body t/\t { nx:=fun _ H'=>Q .non H',rt:=Q } (start N vs) H) :
  iF P w K mg base CX (k+1) f (PySem.W.fnOf name qual params body scope dV kV doc pm an eI ct) ps sp:=by
 refine⟨len,fun A outer s H args us vs Q E hr e0 hb r CM=>?_⟩
 have hl:=len _ _ _ _ CM
 have KX:K.In s.heap:=e0.mod.EE.keeps fun b o e=>(e0.bs b o e).1
 have lim:s.heap.NoLimit:=e0.mod.nolimit.keeps fun b o e=>(e0.bs b o e).1
 have ZU:∀ y∈ps.zip us,scope.names.lookup y.1=some .local\/(scope.names.lookup y.1=some .cell/\((cellsFrom (s.heap.objs.size+1) scope.names []).lookup y.1).isSome=true):=fun⟨n,v⟩ hy=>by
  rcases S.par n (List.of_mem_zip hy).1 with q|q
  ·exact .inl q
  ·exact .inr ⟨q,PySem.W.cellsFrom_some _ _ _ (.inl q)⟩
 refine codeAny_call_function hr.depth (KX _ _ lk) rfl S.co S.gen rfl (PySem.W.codeRec_of KX rg) (hb _ _ _ _ ?_)
 refine wpAny_newFunctionEnv_cells S.kind ZU fun env he s1 x=>?_
 subst he
 refine⟨lim.keeps x.toInCall.keep,codeAny_func ?_⟩
 obtain⟨t,ht,hq⟩:=MA A outer s H vs Q E (hr.deeper _) CM
 have I:Inv (EK CX P w K mg base N qual scope f eI A outer s H E) [] (start N vs) H s1:=ZS S hr.hd e0 hl r x
 refine sL (ht [] s1 (start N vs) H _ I hq) (fun fl s' hs=>?_) fun e s' hs=>hs
 have fin:∀ {bE:St} {H':Hp} {v:V} {u:Value},Inv (EK CX P w K mg base N qual scope f eI A outer s H E) [] bE H' s'->RelV v u->Q v H'->CE outer P w H s Q u s' :=
  fun {bE H' v u} J rv q=>⟨v,H',J.os,J.bare,J.base,J.bq,rv,q⟩
 cases fl with
 |ret u =>
  obtain⟨v,bE,H',J,rv,q⟩:=hs
  exact fin J rv q
 |next =>
  obtain⟨bE,H',J,q⟩:=hs
  exact fin (v:=V.non) (u:=Value.none) J rfl q
 |brk =>
  obtain⟨_,_,_,q⟩:=hs
  exact False.elim q
 |cont =>
  obtain⟨_,_,_,q⟩:=hs
  exact False.elim q
section
variable {X:Cx}{x:Str}{p pos:Pos}{e:Expr}{es:List Expr}{t:TA}{id T:String}{r:List V->Hp->VK->Prop}
def RL(r:List V->Hp->VK->Prop)(t:TA):TE:=fun σ H Q=>t σ H fun vs H1=>r vs H1 Q
theorem RN (hc:i3 X (.builtin id) r) (hg:Gl X x) (hm:X.mg x=none) (hv:bootBuiltins x=some (.builtin id)) (ha:PA X (e :: es) t) (hn:x ≠ "__name__" := by decide) (rp:(x == ("__debug__" : Str))=false:=by decide)
  (he:starEach (e :: es) X.env=(false,eval e X.env) :: starEach es X.env:=by rfl) (nr:(backTo pos (starEach es X.env)).any (·.1)=false:=by rfl):PE X (.Call (.Name x p) (e :: es) [] pos) (RL r t):=by
 intro pins s σ H Q I h
 refine wpAny_Call_Name_kw (CB I hg hm hv ?_ hn rp)
 exact PyProof.Rows.callWith_builtin1 (cq (ha pos pins s σ H _ I h) fun us s1 cv=>L2.fP cv fun vs H1 I1 r1 q1=>hc pins s1 σ H1 vs us Q I1 r1 q1) he nr
theorem ZV (hc:i3 X (.type T) r) (hg:Gl X x) (hm:X.mg x=none) (hv:bootBuiltins x=some (.type T)) (ha:PA X (e :: es) t) (hn:x ≠ "__name__" := by decide) (rp:(x == ("__debug__" : Str))=false:=by decide)
  (he:starEach (e :: es) X.env=(false,eval e X.env) :: starEach es X.env:=by rfl) (nr:(backTo pos (starEach es X.env)).any (·.1)=false:=by rfl):PE X (.Call (.Name x p) (e :: es) [] pos) (RL r t):=by
 intro pins s σ H Q I h
 refine wpAny_Call_Name_kw (CB I hg hm hv ?_ hn rp)
 exact PyProof.Rows.callWith_type1 (cq (ha pos pins s σ H _ I h) fun us s1 cv=>L2.fP cv fun vs H1 I1 r1 q1=>hc pins s1 σ H1 vs us Q I1 r1 q1) he nr
end
end L2
namespace HT
open PySem PyProof.Rows
section
open PySem.SeqAt
open PySem.AutoSeq1 (wpAny_loadPart')
open PySem.MeetsSeq PySem.MeetsSeq2 PySem.MeetsSeq3
end
section
variable {prog:Program}{w:World}{A:Around}{E:Value->Shared->Prop}{s:Shared}
theorem ZW{t b:Addr}{vs ws:List Value}{Q:Value->Shared->Prop}(ht:IsTup s.heap t vs.toArray)(hb:IsTup s.heap b ws.toArray)(hv:vs≠[])
  (h1:ws=[]->Q (.ref t) s) (h2:ws≠[]->Q (.ref s.heap.objs.size) { s with heap:=s.heap.push { cls:=.type "tuple",data:=.seq (vs++ws).toArray } })
  (hsz:vs.length+ws.length<=sizeLine):wpAny (model prog w) A (binaryOp .Add (.ref t) (.ref b)) Q E s:=by
 obtain⟨⟨cls,dd,data,sl⟩,ho,hc,n,hd⟩:=id ht
 obtain⟨⟨RP,rq,data2,rz⟩,nv,xD,n2,hd2⟩:=id hb
 simp only at hc hd xD hd2
 subst hc hd xD hd2
 have e:vs.toArray++ws.toArray=(vs++ws).toArray:=by simp
 by_cases hw:ws=[]
 ·exact concat_meets ⟨_,ho,rfl⟩ ⟨_,nv,rfl⟩ noFill_tuple_add seq_tuple_add PySem.F.slot_tuple_add PySem.F.entry_tuple_add (PySem.F.args_tuple_add_2 _ _)
   (tuple_addW1 t b vs.toArray ws.toArray n n2 dd rq sl rz (by simpa using hv) (by simp[hw])) ⟨ho,nv,h1 hw⟩
 ·refine concat_meets ⟨_,ho,rfl⟩ ⟨_,nv,rfl⟩ noFill_tuple_add seq_tuple_add PySem.F.slot_tuple_add PySem.F.entry_tuple_add (PySem.F.args_tuple_add_2 _ _)
   (tuple_addW2 t b vs.toArray ws.toArray n n2 dd rq sl rz (by simpa using hv) (by simpa using hw) (by rw[gi,gi];exact hsz)) ⟨ho,nv,?_⟩
  rw[e]
  exact h2 hw
def bI(n d:Nat):Option Int->Nat
 |none=>d
 |some v=>if v<0 then (v+(n:Int)).toNat else min v.toNat n
theorem ZX(n d:Nat)(hd:d<=n)(o:Option Int):bI n d o<=n:=by
 cases o with
 |none=>exact hd
 |some v =>
  show(if v<0 then (v+(n:Int)).toNat else min v.toNat n)<=n
  by_cases hv:v<0
  ·rw[if_pos hv];lia
  ·rw[if_neg hv];exact Nat.min_le_right _ _
theorem VA(v:Int)(n d:Nat):(if v<0 then max (v+(n:Int)) 0 else min v (n:Int))=((bI n d (some v):Nat):Int):=by
 show(if v<0 then max (v+(n:Int)) 0 else min v (n:Int))=(((if v<0 then (v+(n:Int)).toNat else min v.toNat n):Nat):Int)
 by_cases hv:v<0
 ·simp only[if_pos hv];lia
 ·simp only[if_neg hv];lia
theorem ZY(lo hi:Option Int)(n:Nat):Builtin.Slice.sliceAdjust lo hi 1 (n:Int)=(((bI n 0 lo:Nat):Int),((bI n n hi:Nat):Int)):=by
 have h1:¬ ((1:Int)<0):=by decide
 unfold Builtin.Slice.sliceAdjust
 simp only[h1,if_false]
 refine Prod.ext ?_ ?_
 ·cases lo with
  |none=>rfl
  |some v=>exact VA v n 0
 ·cases hi with
  |none=>rfl
  |some v=>exact VA v n n
theorem ZZ(i j:Nat):Builtin.Slice.slicePlaces (i:Int) (j:Int) 1=j-i:=by
 unfold Builtin.Slice.slicePlaces
 have h1:(1:Int)>0:=by exact pj _
 simp only[h1,if_true,Int.ediv_one]
 split<;>lia
theorem VB{v:Value}{o:Option Int}{Q:Option Int->Shared->Prop}(p:IsPart v o)(h:Q o s):wpAny (model prog w) A (Builtin.Slice.slicePartIndex v) Q E s:=by
 cases p with
 |none=>exact slicePart_none h
 |int i t=>exact slicePart_int h
theorem Z0{sl:Addr}{vl vu:Value}{lo hi:Option Int}{n:Nat}{Q:Int × Int × Nat->Shared->Prop}(hs:s.heap.IsSliceOf sl vl vu .none)(pl:IsPart vl lo)(pu:IsPart vu hi)
  (h:Q (((bI n 0 lo:Nat):Int),1,bI n n hi-bI n 0 lo) s):wpAny (model prog w) A (Builtin.Slice.sliceApplied (.ref sl) (pure (n:Int))) Q E s:=by
 obtain⟨os,MB,jI,Pq⟩:=id hs
 unfold Builtin.Slice.sliceApplied Builtin.Slice.sliceFields
 refine ah (ah (wpAny_field MB Pq (x:=vl) rfl (ah (wpAny_field MB Pq (x:=vu) rfl (ah (wpAny_field MB Pq (x:=.none) rfl (ay ?_)))))))
 refine ah (slicePart_none ?_)
 show wpAny _ _ (if ((1:Int) == 0)=true then _ else _) _ _ s
 rw[if_neg (by decide)]
 refine ah (VB pl (ah (VB pu (ah (ay ?_)))))
 show wpAny _ _ (match Builtin.Slice.sliceAdjust lo hi 1 (n:Int) with|(lo,hi)=>pure (lo,(1:Int),Builtin.Slice.slicePlaces lo hi 1)) _ _ s
 rw[ZY lo hi n]
 show wpAny _ _ (pure (((bI n 0 lo:Nat):Int),(1:Int),Builtin.Slice.slicePlaces ((bI n 0 lo:Nat):Int) ((bI n n hi:Nat):Int) 1)) _ _ s
 rw[ZZ]
 exact ay h
theorem Z1(xs:Array Value)(i k:Nat):((List.range k).filterMap fun(m:Nat)=>xs[((i:Int)+(m:Int)*1).toNat]?).toArray=((xs.toList.drop i).take k).toArray:=by
 have e:(fun(m:Nat)=>xs[((i:Int)+(m:Int)*1).toNat]?)=fun m=>xs[i+m]? := by
  funext m
  have:((i:Int)+(m:Int)*1).toNat=i+m:=by exact(Nat.add_assoc ..).symm
  rw[this]
 rw[e]
 have:=pick_run xs i k
 rw[Q7] at this
 have e2:((fun x=>xs[x]?) ∘ fun x=>i+x)=fun m=>xs[i+m]? := rfl
 rw[e2] at this
 rw[this]
theorem Z2{t sl:Addr}{items:Array Value}{vl vu:Value}{lo hi:Option Int}{Q:Value->Shared->Prop}(ht:IsTup s.heap t items)(hs:s.heap.IsSliceOf sl vl vu .none)(pl:IsPart vl lo)(pu:IsPart vu hi)
  (hw:¬ (bI items.size 0 lo=0/\bI items.size items.size hi=items.size))
  (h:Q (.ref s.heap.objs.size) { s with heap:=s.heap.push { cls:=.type "tuple",data:=.seq ((items.toList.drop (bI items.size 0 lo)).take (bI items.size items.size hi-bI items.size 0 lo)).toArray } })
  (hsz:items.size<=sizeLine):wpAny (model prog w) A (getItem (.ref t) (.ref sl)) Q E s:=by
 have Pt:sizeOk (.seq ((items.toList.drop (bI items.size 0 lo)).take (bI items.size items.size hi-bI items.size 0 lo)).toArray):=by
  show((items.toList.drop (bI items.size 0 lo)).take (bI items.size items.size hi-bI items.size 0 lo)).toArray.size<=sizeLine
  rw[gi,mr,AH,y2]
  lia
 have hj:bI items.size items.size hi<=items.size:=ZX _ _ (bT _) hi
 obtain⟨os,MB,jI,Pq⟩:=id hs
 have Z3:s.TypeIs (.ref sl) "slice" := ⟨os,MB,jI⟩
 unfold getItem
 try with_reducible refine wpAny_holding ?_
 first|refine ah (ay ?_)|skip
 refine ah (wpAny_sequenceKey ht.typeIs (by decide) ?_)
 refine ah (wpAny_callSpecial?_slot (name:=Str.ofString "__getitem__") ht.typeIs PyProof.Rows.slot_tuple_getitem
  (wpAny_call_entry PyProof.Rows.slot_tuple_getitem ht.typeIs entry_tuple_getitem ?_ (args_tuple_getitem _ _)))
 show wpAny _ _ (Builtin.Tuple.tupleItemsOf (.ref t) >>= _) _ _ s
 refine ah (tupleItemsOf_ ht ?_)
 refine ah (wpAny_typeOf Z3 ?_)
 rw[if_pos (by decide)]
 refine ah (Z0 hs pl pu ?_)
 have CY:¬ ((((bI items.size 0 lo:Nat):Int) == 0 && (1:Int) == 1 && (bI items.size items.size hi-bI items.size 0 lo) == items.size)=true):=by
  intro q
  rw[kr,kr] at q
  have q1:((bI items.size 0 lo:Nat):Int)=0:=eq_of_beq q.1.1
  have q2:bI items.size items.size hi-bI items.size 0 lo=items.size:=eq_of_beq q.2
  exact hw ⟨by lia,by lia⟩
 show wpAny _ _ (if (((bI items.size 0 lo:Nat):Int) == 0 && (1:Int) == 1 && (bI items.size items.size hi-bI items.size 0 lo) == items.size)=true then _ else _) _ _ s
 rw[if_neg CY,Z1]
 first
  |exact ah (m:=Builtin.Tuple.tupleExact _) (wpAny_newObj_type (ay ⟨_,rfl,ay h⟩) Pt)
  |exact ah (m:=Builtin.Tuple.tupleExact _) (wpAny_newObj_type (ah (ay (ay ⟨_,rfl,ay h⟩))) Pt)
  |exact ah (ah (m:=Builtin.Tuple.tupleExact _) (wpAny_newObj_type (ay (ay ⟨_,rfl,ay h⟩)) Pt))
  |exact ah (ah (m:=Builtin.Tuple.tupleExact _) (wpAny_newObj_type (ay ⟨_,rfl,ay h⟩) Pt))
end
end HT
namespace L2
open PySem PySem.Spec PyProof.Rows
abbrev TO:=St->Hp->(Option Int->Hp->Prop)->Prop
def PO(X:Cx)(e:Option Expr)(t:TO):Prop :=
 ∀ (pins:List (Addr × Obj)) (s:Shared) (σ:St) (H:Hp) (Q:Option Int->Hp->Prop),Inv X pins σ H s->t σ H Q ->
  wpAny (model X.prog X.w) X.A (evalPart e X.env) (fun u s'=>∃ o H',Inv X pins σ H' s'/\IsPart u o/\Q o H') X.xe s
def Z4(t:TE):TO:=fun σ H Q=>t σ H fun x H1=>∃ i,x=.int i/\Q (some i) H1
section
variable {X:Cx}{e:Expr}{te:TE}{lo hi:Option Expr}{tl th:TO}{pos p2:Pos}
theorem Z5(h:PE X e te):PO X (some e) (Z4 te):=by
 intro pins s σ H Q I hw
 rw[evalPart_some]
 refine cq (h pins s σ H _ I hw) fun u s1 cv=>L2.fP cv fun x H1 I1 r1 q1=>?_
 obtain⟨i,rfl,q⟩:=q1
 obtain⟨t,rfl⟩:=r1
 exact⟨some i,H1,I1,.int i t,q⟩
def G0(X:Cx)(r:V->Option Int->Option Int->Hp->VK->Prop):Prop :=
 ∀ (pins:List (Addr × Obj)) (s:Shared) (σ:St) (H:Hp) (x:V) (v vl vu:Value) (lo hi:Option Int) (sl:Addr) (Q:VK),Inv X pins σ H s->RelV x v->s.heap.IsSliceOf sl vl vu .none->IsPart vl lo->IsPart vu hi->r x lo hi H Q ->
  ∃ T id,typeLookup (.type T) "__getitem__" = pure (some (.builtin id))/\s.TypeIs v T/\wpAny (model X.prog X.w) X.A (getItem v (.ref sl)) (EP X pins σ Q) X.xe s
def Z6(r:V->Option Int->Option Int->Hp->VK->Prop)(te:TE)(tl th:TO):TE:=fun σ H Q=>te σ H fun x H1=>tl σ H1 fun l H2=>th σ H2 fun u H3=>r x l u H3 Q
theorem Z7{r:V->Option Int->Option Int->Hp->VK->Prop}(hr:G0 X r)(he:PE X e te)(hl:PO X lo tl)(hu:PO X hi th):PE X (.Subscript e (.Slice lo hi none p2) pos) (Z6 r te tl th):=by
 intro pins s σ H Q I h
 refine Subscript_ (cq (he pins s σ H _ I h) fun v s1 cv=>L2.fP cv fun x H1 I1 r1 q1=>?_)
 refine wpAny_Slice (cq (hl pins s1 σ H1 _ I1 q1) fun vl s2 cv=>L2.fP cv fun l H2 I2 pl q2=>cq (hu pins s2 σ H2 _ I2 q2) fun vu s3 cv=>L2.fP cv fun u H3 I3 pu q3=>?_)
 rw[evalPart_none]
 refine ay ?_
 have I4:Inv X pins σ H3 { s3 with heap:=s3.heap.push { cls:=.type "slice",data:=.fields #[vl,vu,.none] } }:=I3.kept (t':=s3.toks) fun b ob q=>eR _ q
 obtain⟨T,id,hT,ht,hg⟩:=hr pins { s3 with heap:=s3.heap.push { cls:=.type "slice",data:=.fields #[vl,vu,.none] } } σ H3 x v vl vu l u s3.heap.objs.size Q I4 r1 (Heap.IsSliceOf.new ..) pl pu q3
 show wpAny (model X.prog X.w) X.A (subscriptTail e (.Slice lo hi none p2) v (.ref s3.heap.objs.size)) (EP X pins σ Q) X.xe { s3 with heap:=s3.heap.push { cls:=.type "slice",data:=.fields #[vl,vu,.none] } }
 exact tail_any (ops:=[.ref s3.heap.objs.size,v]) ht hT hg (by with_unfolding_all rfl)
def AY(xs:List V)(lo hi:Option Int):List V:=(xs.drop (HT.bI xs.length 0 lo)).take (HT.bI xs.length xs.length hi-HT.bI xs.length 0 lo)
theorem VC(xs:List V)(lo hi:Option Int):(AY xs lo hi).length<=xs.length:=by
 unfold AY
 rw[mr,AH]
 lia
def VD(K:PySem.W.Frag):V->Option Int->Option Int->Hp->VK->Prop:=fun x lo hi H Q=>∃ a xs,x=.ref a/\ng K H a xs /\
 ¬ (HT.bI xs.length 0 lo=0/\HT.bI xs.length xs.length hi=xs.length)/\∀ p,H p=none->Q (.ref p) (upd H p (.tup (AY xs lo hi)))
theorem Z8:G0 X (VD X.K):=by
 intro pins s σ H x v vl vu lo hi sl Q I rx hs pl pu h
 obtain⟨a,xs,rfl,hx,hw,q⟩:=h
 cases rx
 obtain⟨its,r,ht,hz⟩:=I.tuple hx
 have hlen:its.toArray.size=xs.length:=by rw[gi];exact r.length.symm
 refine⟨"tuple",_,PyProof.Rows.slot_tuple_getitem.lookup,ht.typeIs,?_⟩
 refine HT.Z2 ht hs pl pu (by rw[hlen];exact hw) ?_ (by rw[hlen];exact hz)
 rw[hlen]
 refine⟨.ref s.heap.objs.size,_,I.laid (t':=s.toks) (o:=.tup (AY xs lo hi)) (fun b ob q=>eR _ q) (bT _) ?_,rfl,q _ (I.bq.fresh (bT _))⟩
 exact⟨gx (VC xs lo hi) hz,_,(r.drop (HT.bI xs.length 0 lo)).take (HT.bI xs.length xs.length hi-HT.bI xs.length 0 lo),IsTup.new _ _⟩
def RQ(K:PySem.W.Frag):R2:=fun x y H Q=>∃ a b xs ys,x=.ref a/\y=.ref b/\ng K H a xs/\ng K H b ys/\xs≠[]/\xs.length+ys.length<=sizeLine /\
 (ys=[]->Q (.ref a) H)/\(ys≠[]->∀ p,H p=none->Q (.ref p) (upd H p (.tup (xs++ys))))
theorem Vals.RT{xs:List V}{us:List Value}(r:Vals xs us):us=[]↔xs=[]:=by
 cases r with
 |nil=>simp
 |cons _ _=>simp
theorem Z9:dn X (binaryOp .Add) (RQ X.K):=by
 intro pins s σ H x y v u Q I rx ry h
 obtain⟨a,b,xs,ys,rfl,rfl,ha,hb,hx,hz,q1,q2⟩:=h
 cases rx
 cases ry
 obtain⟨its,r1,p1,_⟩:=I.tuple ha
 obtain⟨Pu,r2,p2,_⟩:=I.tuple hb
 refine HT.ZW p1 p2 (fun z=>hx (r1.RT.mp z)) (fun z=>⟨.ref a,H,I,rfl,q1 (r2.RT.mp z)⟩) (fun z=>?_) (by rw[<- r1.length,<- r2.length];exact hz)
 refine⟨.ref s.heap.objs.size,_,I.laid (t':=s.toks) (o:=.tup (xs++ys)) (fun b ob q=>eR _ q) (bT _) ?_,rfl,q2 (fun w=>z (r2.RT.mpr w)) _ (I.bq.fresh (bT _))⟩
 exact⟨by rw[pd];exact hz,_,r1.append r2,IsTup.new _ _⟩
end
def ll(n:Nat)(i:Int):Option Nat:=if 0<=i then (if i<n then some i.toNat else none) else if -(n:Int)<=i then some (i+n).toNat else none
def eW{α:Type}(xs:List α)(i:Int):Option α:=(ll xs.length i).bind fun j=>xs[j]?
theorem Z_{n:Nat}{i:Int}{j:Nat}(h:ll n i=some j):seqIndex? i n=some j/\j<n/\-(n:Int)<=i/\i<n:=by
 unfold ll at h
 by_cases h0:0<=i
 ·rw[if_pos h0] at h
  by_cases h1:i<n
  ·rw[if_pos h1] at h
   have e:i.toNat=j:=Option.some.inj h
   exact⟨by rw[seqIndex_of h0 h1,e],by lia,by lia,h1⟩
  ·rw[if_neg h1] at h;cases h
 ·rw[if_neg h0] at h
  by_cases h1:-(n:Int)<=i
  ·rw[if_pos h1] at h
   have e:(i+n).toNat=j:=Option.some.inj h
   exact⟨by rw[seqIndex_neg (by exact Int.not_le.mp ‹_›) h1,e],by lia,h1,by lia⟩
  ·rw[if_neg h1] at h;cases h
theorem RV{α:Type}{xs:List α}{i:Int}{v:α}(h:eW xs i=some v):∃ j,seqIndex? i xs.length=some j/\xs[j]? = some v/\j<xs.length/\-(xs.length:Int)<=i/\i<xs.length:=by
 unfold eW at h
 cases e:ll xs.length i with
 |none=>rw[e] at h;cases h
 |some j =>
  rw[e] at h
  obtain⟨h1,h2,h3,h4⟩:=Z_ e
  exact⟨j,h1,h,h2,h3,h4⟩
theorem He{α:Type}{xs:List α}{j:Nat}{v:α}(h:xs[j]? = some v):eW xs (j:Int)=some v:=by
 have hj:j<xs.length:=(i7.mp h).1
 have e:ll xs.length (j:Int)=some j:=by
  unfold ll
  rw[if_pos (by walk_at "s1"),if_pos (by lia)];simp
 unfold eW;rw[e];exact h
theorem aa'{α:Type}(xs:List α)(v:α):eW (xs++[v]) (-1)=some v:=by
 have hl:(xs++[v]).length=xs.length+1:=by simp
 have e:ll (xs++[v]).length (-1)=some xs.length:=by
  unfold ll
  rw[hl,if_neg (by decide),if_pos (by lia)]
  congr 1
  lia
 unfold eW
 rw[e]
 show(xs++[v])[xs.length]? = some v
 simp
def Pw(b:Expr):Prop:=∀ o i,subscripted b false o i=operate [o,i] (getItem o i)
def tN(X:Cx)(r:R2):Prop :=
 ∀ (value slice:Expr) (pins:List (Addr × Obj)) (s:Shared) (σ:St) (H:Hp) (x y:V) (v u:Value) (Q:VK),Inv X pins σ H s->RelV x v->RelV y u->r x y H Q ->
  subscripted slice false v u=operate [v,u] (getItem v u)->wpAny (model X.prog X.w) X.A (subscriptTail value slice v u) (EP X pins σ Q) X.xe s
def Px(X:Cx)(id:String)(r:V->List V->Hp->VK->Prop):Prop :=
 ∀ (pins:List (Addr × Obj)) (s:Shared) (σ:St) (H:Hp) (x:V) (xs:List V) (v:Value) (us:List Value) (Q:VK),Inv X pins σ H s->RelV x v->Vals xs us->r x xs H Q ->
  wpAny (model X.prog X.w) X.A (call (.builtin id) (v :: us)) (EP X pins σ Q) X.xe s
section
variable {X:Cx}{a b:Expr}{ta tb:TE}{pos:Pos}
theorem tN.or{r r':R2}(h:tN X r)(h':tN X r'):tN X (fun x y H Q=>r x y H Q\/r' x y H Q):=by
 intro value slice pins s σ H x y v u Q I rx ry q hs
 rcases q with q|q
 ·exact h value slice pins s σ H x y v u Q I rx ry q hs
 ·exact h' value slice pins s σ H x y v u Q I rx ry q hs
theorem RW{r:R2}(hr:tN X r)(ha:PE X a ta)(hb:PE X b tb)(hs:Pw b):PE X (.Subscript a b pos) (Mb r ta tb):=by
 intro pins s σ H Q I h
 exact Subscript_ (RA ha hb I h fun v u s2 x y H2 I2 rx ry q=>hr a b pins s2 σ H2 x y v u Q I2 rx ry q (hs _ _))
def VF(K:PySem.W.Frag):R2:=fun x y H Q=>∃ p xs i v,x=.ref p/\y=.int i/\eK K H p xs/\eW xs i=some v/\Q v H
def VG(K:PySem.W.Frag):R2:=fun x y H Q=>∃ p xs i v,x=.ref p/\y=.int i/\ng K H p xs/\eW xs i=some v/\Q v H
def VH:R2:=fun x y H Q=>∃ z i c,x=.str z/\y=.int i/\z.length<=sizeLine/\eW z.cps.toList i=some c/\Q (.str ⟨#[c]⟩) H
theorem ab':tN X (VF X.K):=by
 intro value slice pins s σ H x y v u Q I rx ry h hs
 obtain⟨p,xs,i,z,rfl,rfl,hq,he,q⟩:=h
 cases rx
 obtain⟨t,rfl⟩:=ry
 obtain⟨its,r,pl,hz⟩:=I.list hq
 obtain⟨j,h1,h2,h3,h4,h5⟩:=RV he
 obtain⟨w,ew,kK⟩:=r.get h2
 have hl:=r.length
 have hn:=Mk
 have fin:EP X pins σ Q w s:=⟨z,H,I,kK,q⟩
 by_cases h0:0<=i
 ·have hj:i.toNat=j:=by
   rw[seqIndex_of h0 h5] at h1
   exact Option.some.inj h1
  exact item_listR pl.isList h0 (by lia) (by rw[hj];simpa using ew) fin hs
 ·have hj:(i+(its.toArray.size:Int)).toNat=j:=by
   rw[seqIndex_neg (by exact Int.not_le.mp ‹_›) h4] at h1
   rw[gi,<- hl]
   exact Option.some.inj h1
  exact subscriptTail_builtinR (x:=w) pl.isList.typeIs slot_list_getitem.lookup
   (wpAny_getItem_list_neg (Q:=fun r s'=>r=w/\EP X pins σ Q r s') pl.isList (by exact Int.not_le.mp ‹_›) (by rw[gi]<;>lia) (by lia) (by rw[hj];simpa using ew) ⟨rfl,fin⟩) hs
theorem ac':tN X (VG X.K):=by
 intro value slice pins s σ H x y v u Q I rx ry h hs
 obtain⟨p,xs,i,z,rfl,rfl,hq,he,q⟩:=h
 cases rx
 obtain⟨t,rfl⟩:=ry
 obtain⟨its,r,pl,hz⟩:=I.tuple hq
 obtain⟨j,h1,h2,h3,h4,h5⟩:=RV he
 obtain⟨w,ew,kK⟩:=r.get h2
 have hl:=r.length
 have hn:=Mk
 have fin:EP X pins σ Q w s:=⟨z,H,I,kK,q⟩
 exact subscriptTail_builtinR (x:=w) pl.typeIs slot_tuple_getitem.lookup
  (getItem_tuple (j:=j) (Q:=fun r s'=>r=w/\EP X pins σ Q r s') pl (by lia) (by lia) (by rw[gi,<- hl];exact h1) (by simpa using ew) ⟨rfl,fin⟩) hs
theorem ad':tN X VH:=by
 intro value slice pins s σ H x y v u Q I rx ry h hs
 obtain⟨z,i,c,rfl,rfl,hz,he,q⟩:=h
 obtain⟨t,rfl⟩:=rx
 obtain⟨t',rfl⟩:=ry
 obtain⟨j,h1,h2,h3,h4,h5⟩:=RV he
 have hl:z.cps.toList.length=z.length:=by simp[Str.length]
 rw[hl] at h1 h4 h5
 have hn:=Mk
 exact tail_any (typeIs_str s z t) slot_str_getitem.lookup (getItem_str (c:=c) (by
  have e1:decide (i < -(2 ^ 63:Int))=false:=decide_eq_false (by lia)
  have e2:decide (i >= 2 ^ 63)=false:=decide_eq_false (by lia)
  rw[e1,e2,Bool.or_false]) (by rw[h1];simpa using h2) ⟨.str ⟨#[c]⟩,H,I.tok _,⟨_,rfl⟩,q⟩) hs
def rIx(K:PySem.W.Frag):R2:=fun x y H Q=>VF K x y H Q\/VG K x y H Q\/VH x y H Q
theorem af':tN X (rIx X.K):=ab'.or (ac'.or ad')
theorem ag'(lo hi:Option Int)(n:Nat):(sliceBounds lo hi none n).1=((HT.bI n 0 lo:Nat):Int)/\(sliceBounds lo hi none n).2.1=((HT.bI n n hi:Nat):Int)/\(sliceBounds lo hi none n).2.2=1:=by
 refine⟨?_,?_,rfl⟩
 ·cases lo with
  |none=>simp[sliceBounds,HT.bI]
  |some i =>
   simp only[sliceBounds,HT.bI,Option.getD_none,show(1:Int)>0 by decide,if_true]
   by_cases h:i<0
   ·simp only[h,if_true]<;>lia
   ·simp only[h,if_false]<;>lia
 ·cases hi with
  |none=>simp[sliceBounds,HT.bI]
  |some i =>
   simp only[sliceBounds,HT.bI,Option.getD_none,show(1:Int)>0 by decide,if_true]
   by_cases h:i<0
   ·simp only[h,if_true]<;>lia
   ·simp only[h,if_false]<;>lia
theorem ah'(its:List Value)(lo hi:Option Int):slicePick its.toArray lo hi none=((its.drop (HT.bI its.length 0 lo)).take (HT.bI its.length its.length hi-HT.bI its.length 0 lo)).toArray:=by
 obtain⟨h1,h2,h3⟩:=ag' lo hi its.toArray.size
 unfold slicePick
 rw[h1,h2,h3]
 simp only[sliceRange_one,pick_run,gi]<;>rfl
def ai'(K:PySem.W.Frag):V->Option Int->Option Int->Hp->VK->Prop:=fun x lo hi H Q=>∃ a xs,x=.ref a/\eK K H a xs/\∀ p,H p=none->Q (.ref p) (upd H p (.lst (AY xs lo hi)))
theorem aj':G0 X (ai' X.K):=by
 intro pins s σ H x v vl vu lo hi sl Q I rx hs pl pu h
 obtain⟨a,xs,rfl,hx,q⟩:=h
 cases rx
 obtain⟨its,r,ht,hz⟩:=I.list hx
 have hlen:=r.length
 refine⟨"list",_,slot_list_getitem.lookup,ht.isList.typeIs,?_⟩
 refine wpAny_getItem_list_slice ht.isList hs pl pu .none (by simp) ?_ (by rw[gi]<;>lia)
 rw[ah',<- hlen]
 refine⟨.ref s.heap.objs.size,_,I.laid (t':=s.toks) (o:=.lst (AY xs lo hi)) (fun b ob q=>eR _ q) (bT _) ?_,rfl,q _ (I.bq.fresh (bT _))⟩
 exact⟨gx (VC xs lo hi) hz,_,0,(r.drop (HT.bI xs.length 0 lo)).take (HT.bI xs.length xs.length hi-HT.bI xs.length 0 lo),i9 _ rfl⟩
def y9:V->Bool
 |.non=>true
 |.bl _=>true
 |.int _=>true
 |.str _=>true
 |_=>false
def AZ:V->V->Bool
 |.non,.non=>true
 |.bl a,.bl b=>a == b
 |.bl a,.int b=>(if a then 1 else 0) == b
 |.int a,.bl b=>a == (if b then 1 else 0)
 |.int a,.int b=>a == b
 |.str a,.str b=>a == b
 |_,_=>false
theorem ak'{A:Around}{s:Shared}{y x:V}{u v:Value}(ry:RelV y u)(rx:RelV x v)(fy:y9 y=true)(fx:y9 x=true):SeqAt.EqAt A s u v (AZ y x):=by
 cases y with
 |non =>
  cases ry
  cases x with
  |non=>cases rx;exact SeqAt.EqAt.same _
  |bl b=>cases rx;exact SeqAt.EqAt.none_bool b
  |int b=>obtain⟨t,rfl⟩:=rx;exact SeqAt.EqAt.none_int b t
  |str b=>obtain⟨t,rfl⟩:=rx;exact SeqAt.EqAt.none_str b t
  |_=>exact absurd (show false=true from fx) gy
 |bl a =>
  cases ry
  cases x with
  |non=>cases rx;exact SeqAt.EqAt.bool_none a
  |bl b=>cases rx;exact SeqAt.EqAt.bool_bool a b
  |int b=>obtain⟨t,rfl⟩:=rx;exact SeqAt.EqAt.bool_int a b t
  |str b=>obtain⟨t,rfl⟩:=rx;exact SeqAt.EqAt.bool_str a b t
  |_=>exact absurd (show false=true from fx) gy
 |int a =>
  obtain⟨t',rfl⟩:=ry
  cases x with
  |non=>cases rx;exact SeqAt.EqAt.int_none a t'
  |bl b=>cases rx;exact SeqAt.EqAt.int_bool a t' b
  |int b=>obtain⟨t,rfl⟩:=rx;exact SeqAt.EqAt.int_int a t' b t
  |str b=>obtain⟨t,rfl⟩:=rx;exact SeqAt.EqAt.int_str a t' b t
  |_=>exact absurd (show false=true from fx) gy
 |str a =>
  obtain⟨t',rfl⟩:=ry
  cases x with
  |non=>cases rx;exact SeqAt.EqAt.str_none a t'
  |bl b=>cases rx;exact SeqAt.EqAt.str_bool a t' b
  |int b=>obtain⟨t,rfl⟩:=rx;exact SeqAt.EqAt.str_int a t' b t
  |str b=>obtain⟨t,rfl⟩:=rx;exact SeqAt.EqAt.str_str a t' b t
  |_=>exact absurd (show false=true from fx) gy
 |_=>exact absurd (show false=true from fy) gy
def rL(x:V)(u:Value):Bool:=match u with
 |.none=>AZ .non x
 |.bool b=>AZ (.bl b) x
 |.int i _=>AZ (.int i) x
 |.str z _=>AZ (.str z) x
 |_=>false
theorem VJ{x y:V}{u:Value}(r:RelV y u)(f:y9 y=true):rL x u=AZ y x:=by
 cases y with
 |non=>cases r;rfl
 |bl b=>cases r;rfl
 |int i=>obtain⟨t,rfl⟩:=r;rfl
 |str z=>obtain⟨t,rfl⟩:=r;rfl
 |_=>exact absurd (show false=true from f) gy
theorem MD{x:V}:∀ {xs:List V} {us:List Value},Vals xs us->xs.all y9=true->us.any (rL x)=xs.any fun y=>AZ y x
 |_,_,.nil,_=>rfl
 |y :: xs,u :: us,.cons r t,f=>by
  rw[AQ,kr] at f
  rw[AR,AR,VJ r f.1,MD t f.2]
theorem MG{A:Around}{s:Shared}{x:V}{v:Value}(rx:RelV x v)(fx:y9 x=true):∀ {xs:List V} {us:List Value},Vals xs us->xs.all y9=true->∀ u∈us,SeqAt.EqAt A s u v (rL x u)
 |_,_,.nil,_=>fun u hu=>by cases hu
 |y :: xs,u :: us,.cons r t,f=>fun u' hu=>by
  rw[AQ,kr] at f
  rcases cy.mp hu with rfl|hu
  ·rw[VJ r f.1];exact ak' r rx f.1 fx
  ·exact MG rx fx t f.2 u' hu
def Py(x:V)(xs:List V):Bool:=xs.any fun y=>AZ y x
def ML(K:PySem.W.Frag)(neg:Bool):R2:=fun x y H Q=>∃ p xs,y=.ref p/\(eK K H p xs\/ng K H p xs)/\y9 x=true/\xs.all y9=true/\Q (.bl (if neg then !Py x xs else Py x xs)) H
theorem al':dn X (compareOp .In) (ML X.K false):=by
 intro pins s σ H x y v u Q I rx ry h
 obtain⟨p,xs,rfl,hq,fx,fs,q⟩:=h
 cases ry
 rcases hq with hq|hq
 ·obtain⟨its,r,pl,hz⟩:=I.list hq
  refine SeqAt.in_listAt (rL x) pl.isList (fun w hw=>MG rx fx r fs w (by simpa using hw)) ⟨.bl _,H,I,rfl,?_⟩
  rw[show its.toArray.any (rL x)=its.any (rL x) by simp,MD r fs]
  exact q
 ·obtain⟨its,r,pl,hz⟩:=I.tuple hq
  refine SeqAt.in_tupleAt (rL x) pl (fun w hw=>MG rx fx r fs w (by simpa using hw)) ⟨.bl _,H,I,rfl,?_⟩
  rw[show its.toArray.any (rL x)=its.any (rL x) by simp,MD r fs]
  exact q
theorem am':dn X (compareOp .NotIn) (ML X.K true):=by
 intro pins s σ H x y v u Q I rx ry h
 obtain⟨p,xs,rfl,hq,fx,fs,q⟩:=h
 cases ry
 rcases hq with hq|hq
 ·obtain⟨its,r,pl,hz⟩:=I.list hq
  refine SeqAt.notIn_listAt (rL x) pl.isList (fun w hw=>MG rx fx r fs w (by simpa using hw)) ⟨.bl _,H,I,rfl,?_⟩
  rw[show its.toArray.any (rL x)=its.any (rL x) by simp,MD r fs]
  exact q
 ·obtain⟨its,r,pl,hz⟩:=I.tuple hq
  refine SeqAt.notIn_tupleAt (rL x) pl (fun w hw=>MG rx fx r fs w (by simpa using hw)) ⟨.bl _,H,I,rfl,?_⟩
  rw[show its.toArray.any (rL x)=its.any (rL x) by simp,MD r fs]
  exact q
theorem i3.or{f:Value}{r r':List V->Hp->VK->Prop}(h:i3 X f r)(h':i3 X f r'):i3 X f (fun xs H Q=>r xs H Q\/r' xs H Q):=by
 intro pins s σ H xs us Q I rs q
 rcases q with q|q
 ·exact h pins s σ H xs us Q I rs q
 ·exact h' pins s σ H xs us Q I rs q
theorem an':i3 X (.type "list") (fun xs H Q=>∃ p ys,xs=[.ref p]/\(eK X.K H p ys\/ng X.K H p ys)/\∀ l,H l=none->Q (.ref l) (upd H l (.lst ys))):=by
 intro pins s σ H xs us Q I r h
 obtain⟨p,ys,rfl,hq,q⟩:=h
 obtain⟨u,rfl,rx⟩:=vals1 r
 cases rx
 have fin:∀ (its:List Value),Vals ys its->ys.length<=sizeLine->∀ (h':Heap) (c':Nat),(∀ b o',s.heap.get? b=some o'->h'.get? b=some o') ->
   h'.get? s.heap.objs.size=some { cls:=.type "list",dict:=none,data:=.seq its.toArray c',slots:=#[] }->EP X pins σ Q (.ref s.heap.objs.size) { s with heap:=h' }:=fun its r' hz h' c' kp e =>
  ⟨.ref s.heap.objs.size,_,I.laid (t':=s.toks) kp (bT _) (show fE X.prog X.w _ h' _ (.lst ys) from⟨hz,its,c',r',e⟩),rfl,q _ (I.bq.fresh (bT _))⟩
 rcases hq with hq|hq
 ·obtain⟨its,r',pl,hz⟩:=I.list hq
  have hlen:=r'.length
  obtain⟨o,ho,hc,n,hd⟩:=pl.isList
  exact call_list_seq p (.inl rfl) ho hc hd (fun h' c' kp e=>fin its r' hz h' c' kp e) (by simp only[gi]<;>lia)
 ·obtain⟨its,r',pl,hz⟩:=I.tuple hq
  have hlen:=r'.length
  obtain⟨o,ho,hc,n,hd⟩:=pl
  exact call_list_seq p (.inr rfl) ho hc hd (fun h' c' kp e=>fin its r' hz h' c' kp e) (by simp only[gi]<;>lia)
def RX(K:PySem.W.Frag)(T:String)(x:V)(H:Hp):Prop:=match x with
 |.str _=>T = "str"
 |.int _=>T = "int"
 |.ref p=>(T = "list"/\∃ xs,eK K H p xs)\/(T = "tuple"/\∃ o,K.lookup p=some o/\o.cls=.type "tuple"/\o.dict=none) \/
   (T = "dict"/\((∃ kvs,H p=some (.dK kvs))\/∃ kvs,H p=some (.dT kvs)))\/(T = "set"/\∃ S n,H p=some (.set S n))
 |_=>False
theorem VL{pins:List (Addr × Obj)}{σ:St}{H:Hp}{s:Shared}{T:String}{x:V}{v:Value}(I:Inv X pins σ H s)(r:RelV x v)(ty:RX X.K T x H) :
  s.TypeIs v T/\∀ a,v=.ref a->∃ ob,s.heap.get? a=some ob/\ob.dict=none:=by
 cases x with
 |str z =>
  obtain⟨t,rfl⟩:=r
  cases (show T = "str" from ty)
  exact⟨typeIs_str s z t,fun _ e=>nomatch e⟩
 |int i =>
  obtain⟨t,rfl⟩:=r
  cases (show T = "int" from ty)
  exact⟨typeIs_int s i t,fun _ e=>nomatch e⟩
 |ref p =>
  cases r
  rcases ty with⟨rfl,xs,hq⟩|⟨rfl,o,hk,hc,hd⟩|⟨rfl,hk⟩|⟨rfl,S,n,hk⟩
  ·obtain⟨its,_,pl,_⟩:=I.list hq
   refine⟨pl.isList.typeIs,fun a e=>?_⟩
   cases e
   obtain⟨o,n,e,c,hd,_⟩:=pl
   exact⟨o,e,hd⟩
  ·refine⟨⟨o,I.kB p o hk,hc⟩,fun a e=>?_⟩
   cases e
   exact⟨o,I.kB _ o hk,hd⟩
  ·have z:∃ o,s.heap.get? p=some o/\o.ExactDict:=by
    rcases hk with⟨kvs,hk⟩|⟨kvs,hk⟩
    ·obtain⟨_,_,_,_,o,_,_,e,ex,_⟩:=I.bq p _ hk
     exact⟨o,e,ex⟩
    ·obtain⟨_,_,_,_,o,_,_,e,ex,_⟩:=I.bq p _ hk
     exact⟨o,e,ex⟩
   obtain⟨o,e,ex⟩:=z
   refine⟨⟨o,e,ex.1⟩,fun a e2=>?_⟩
   cases e2
   exact⟨o,e,ex.2.1⟩
  ·obtain⟨o,_,_,_,e,ex,_⟩:=I.bq p _ hk
   refine⟨⟨o,e,ex.1⟩,fun a e2=>?_⟩
   cases e2
   exact⟨o,e,ex.2.1⟩
 |_=>exact False.elim ty
def ao'(K:PySem.W.Frag)(T:String)(r:V->List V->Hp->VK->Prop)(to:TE):TE:=fun σ H Q=>to σ H fun x H1=>RX K T x H1/\r x [] H1 Q
def tBM(K:PySem.W.Frag)(T:String)(r:V->List V->Hp->VK->Prop)(to:TE)(t:TA):TE:=fun σ H Q=>to σ H fun x H1=>RX K T x H1/\t σ H1 fun xs H2=>r x xs H2 Q
variable {o e:Expr}{es:List Expr}{to:TE}{t:TA}{name:Str}{apos dk:Pos}{T id:String}{r:V->List V->Hp->VK->Prop}
theorem aq' (pa:PlainAttrs T) (slot:Slot T name id) (RZ:typeOf (.builtin id)=pure (.type "method_descriptor")) (hm:Px X id r) (ho:PE X o to)
  (rS:attributeBase o name X.env (eval o X.env)=eval o X.env:=by rfl) (hline:(apos.endLine == dk.line)=true:=by rfl):PE X (.Call (.Attribute o name apos) [] [] dk) (ao' X.K T r to):=by
 intro pins s σ H Q I h
 refine wpAny_Call_method0_late rS hline (cq (ho pins s σ H _ I h) fun v s1 cK=>?_)
 obtain⟨x,H1,I1,r1,ty,q1⟩:=cK
 obtain⟨h1,h2⟩:=VL I1 r1 ty
 exact⟨T,id,pa,slot,RZ,h1,h2,Calls.callWith_builtin rfl (PySem.evalArgs_none (hm pins s1 σ H1 x [] v [] Q I1 r1 .nil q1))⟩
theorem HC (pa:PlainAttrs T) (slot:Slot T name id) (RZ:typeOf (.builtin id)=pure (.type "method_descriptor")) (hm:Px X id r) (ho:PE X o to) (ha:PA X (e :: es) t)
  (rS:attributeBase o name X.env (eval o X.env)=eval o X.env:=by rfl)
  (rV:((backTo dk (starEach (e :: es) X.env)).all (fun x=>!x.1) && (backToKw dk (keywordEach [] X.env)).all (fun x=>x.1.isSome)
   && decide ((e :: es).length+([]:List Keyword).length+(if ([]:List Keyword).isEmpty then 0 else 1)<30))=true:=by rfl)
  (hline:(apos.endLine == dk.line)=true:=by rfl) (hs:starEach (e :: es) X.env=(false,eval e X.env) :: starEach es X.env:=by rfl) (xE:(backTo dk (starEach es X.env)).any (·.1)=false:=by rfl) :
  PE X (.Call (.Attribute o name apos) (e :: es) [] dk) (tBM X.K T r to t):=by
 intro pins s σ H Q I h
 refine wpAny_Call_method_late rS rV hline rfl (cq (ho pins s σ H _ I h) fun v s1 cK=>?_)
 obtain⟨x,H1,I1,r1,ty,q1⟩:=cK
 obtain⟨h1,h2⟩:=VL I1 r1 ty
 refine⟨T,id,pa,slot,RZ,h1,h2,?_⟩
 have hA:=ha dk pins s1 σ H1 _ I1 q1
 rw[hs] at hA ⊢
 refine Calls.callWith_builtin (by show(false || (backTo dk (starEach es X.env)).any (·.1))=false;rw[xE]<;>rfl) (Calls.evalArgs_plain ?_)
 exact cq hA fun us s2 cv=>L2.fP cv fun vs H2 I2 r2 q2=>hm pins s2 σ H2 x vs v us Q I2 r1 r2 q2
end
def Pz(X:Cx)(id:String)(r:V->List V->Hp->VK->Prop):Prop :=
 ∀ (pins:List (Addr × Obj)) (s:Shared) (σ:St) (H:Hp) (x:V) (xs:List V) (v:Value) (us:List Value) (Q:VK),Inv X pins σ H s->RelV x v->Vals xs us->r x xs H Q ->
  wpAny (model X.prog X.w) X.A (call (.builtin id) (v :: us)) (EP X pins σ Q) X.xe s
theorem Vals.one{x:V}{us:List Value}(h:Vals [x] us):∃ u,us=[u]/\RelV x u:=by
 cases h
 rename_i r h
 cases h
 exact⟨_,rfl,‹_›⟩
theorem Vals.two{x y:V}{us:List Value}(h:Vals [x,y] us):∃ u v,us=[u,v]/\RelV x u/\RelV y v:=by
 cases h
 rename_i r h
 cases h
 rename_i q h
 cases h
 exact⟨_,_,rfl,‹_›,‹_›⟩
theorem Vals.zero:∀ {us:List Value},Vals [] us->us=[]
 |_,.nil=>rfl
theorem Vals.dropLast{xs:List V}{us:List Value}(h:Vals xs us):Vals xs.dropLast us.dropLast:=by
 induction h with
 |nil=>exact .nil
 |cons r t ih =>
  cases t with
  |nil=>exact .nil
  |cons q t'=>exact .cons r ih
theorem Vals.rep{xs:List V}{us:List Value}(h:Vals xs us):∀ k:Nat,Vals (List.replicate k xs).flatten (List.replicate k us).flatten
 |0=>.nil
 |k+1=>by
  rw[yy,yy,AF,AF]
  exact Vals.append h (Vals.rep h k)
theorem ar'{α:Type}(l:List α):l.eraseIdx (l.length-1)=l.dropLast:=by
 induction l with
 |nil=>rfl
 |cons a r ih =>
  cases r with
  |nil=>rfl
  |cons b r =>
   have e:(a :: b :: r).length-1=((b :: r).length-1)+1:=by
    have h1:(a :: b :: r).length=r.length+2:=rfl
    have h2:(b :: r).length=r.length+1:=rfl
    lia
   rw[e,List.eraseIdx_cons_succ,ih]
   all_goals rfl
section
variable {X:Cx}{pins:List (Addr × Obj)}{σ:St}{H:Hp}{s:Shared}{l:Addr}{xs ys:List V}
theorem Inv.MQ{its its':List Value}{n:Nat}{f:Array Value->Array Value}{t':Nat}(I:Inv X pins σ H s)(hH:H l=some (.lst xs))
  (e:s.heap.get? l=some { cls:=.type "list",data:=.seq its.toArray n }) (hf:f its.toArray=its'.toArray) (hv:Vals ys its') (hz:ys.length<=sizeLine) :
  Inv X pins σ (upd H l (.lst ys)) { s with heap:=s.heap.update l (Obj.mapSeq f),toks:=t' }:=by
 have q:=PySem.IsL.update e f
 rw[hf] at q
 refine I.write (x:=l) (e:=l) (by rw[hH];exact trivial) (.inl rfl) (fun b' u hb hu=>(LN s.heap (Obj.mapSeq f) (Ne.symm hb)).trans hu) ⟨_,q⟩ ?_
 exact⟨hz,its',_,hv,q⟩
theorem Inv.R0{its:List Value}{t':Nat}(I:Inv X pins σ H s)(hv:Vals ys its)(hz:ys.length<=sizeLine) :
  Inv X pins σ (upd H s.heap.objs.size (.lst ys)) { s with heap:=s.heap.push { cls:=.type "list",data:=.seq its.toArray },toks:=t' } :=
 I.laid (fun _ _ q=>eR _ q) (bT _) ⟨hz,its,0,hv,i9 _ rfl⟩
theorem Inv.fresh(I:Inv X pins σ H s):H s.heap.objs.size=none:=I.bq.fresh (bT _)
theorem Inv.MR (I:Inv X pins σ H s) (hH:H l=some (.lst xs)):xs.length<=sizeLine/\∃ (its:List Value) (n:Nat),Vals xs its/\xs.length=its.length/\s.heap.get? l=some { cls:=.type "list",data:=.seq its.toArray n }:=by
 obtain⟨z,its,n,r,e⟩:=I.bq l _ hH
 exact⟨z,its,n,r,r.length,e⟩
end
section
variable {X:Cx}
def au':V->List V->Hp->VK->Prop:=fun x vs H Q=>∃ l xs y,x=.ref l/\vs=[y]/\H l=some (.lst xs)/\xs.length<sizeLine/\Q .non (upd H l (.lst (xs++[y])))
theorem R1:Pz X "list.append" au':=by
 intro pins s σ H x vs v us Q I rx rv h
 obtain⟨l,xs,y,rfl,rfl,hH,hz,q⟩:=h
 cases rx
 obtain⟨u,rfl,ru⟩:=rv.one
 obtain⟨z,its,n,r,hl,e⟩:=I.MR hH
 refine call_meets F.slot_list_append ⟨_,e,rfl⟩ F.entry_list_append (F.args_list_append_2 _ _) (PySem.list_append l its.toArray n u (by rw[gi];lia)) ⟨e,?_⟩
 refine⟨.non,_,I.MQ (its':=its++[u]) hH e (by simp) (r.append (.cons ru .nil)) ?_,rfl,q⟩
 rw[pd,OJ]
 assumption
def av':V->List V->Hp->VK->Prop:=fun x vs H Q=>∃ l xs y,x=.ref l/\vs=[]/\H l=some (.lst xs)/\xs[xs.length-1]? = some y/\Q y (upd H l (.lst xs.dropLast))
theorem aw':Pz X "list.pop" av':=by
 intro pins s σ H x vs v us Q I rx rv h
 obtain⟨l,xs,y,rfl,rfl,hH,hy,q⟩:=h
 cases rx
 have hus:=rv.zero
 subst hus
 obtain⟨z,its,n,r,hl,e⟩:=I.MR hH
 obtain⟨u,hu,ru⟩:=r.get hy
 have R3:its.toArray[its.toArray.size-1]? = some u:=by
  show its.toArray[its.length-1]? = some u
  rw[<- kG,<- hl]
  exact hu
 refine call_meets F.slot_list_pop ⟨_,e,rfl⟩ F.entry_list_pop (F.args_list_pop_1 _) (MeetsSeq.list_pop_last l its.toArray n u R3 (by rw[gi];lia)) ⟨e,?_⟩
 refine⟨y,_,I.MQ (its':=its.dropLast) hH e ?_ r.dropLast ?_,ru,q⟩
 ·show its.toArray.eraseIdxIfInBounds (its.toArray.size-1)=its.dropLast.toArray
  rw[gi,List.eraseIdxIfInBounds_toArray,ar']
 ·rw[List.length_dropLast]
  lia
end
section
set_option maxRecDepth 100000 in
end
section
variable {κ:Type}[DecidableEq κ]
def rX(kvs:List (κ × V))(k:κ):Option V:=(kvs.find? fun kv=>decide (kv.1=k)).map (·.2)
def putK(kvs:List (κ × V))(k:κ)(v:V):List (κ × V) :=
 if (kvs.any fun kv=>decide (kv.1=k))=true then kvs.map (fun kv=>if kv.1=k then (kv.1,v) else kv) else kvs++[(k,v)]
def fc'(kvs:List (κ × V))(k:κ):List (κ × V):=kvs.filter fun kv=>decide (kv.1≠k)
theorem PB{p:κ × V}{r:List (κ × V)}{k:κ}(e:p.1=k):rX (p :: r) k=some p.2:=by simp[rX,FR,e]
theorem PC{p:κ × V}{r:List (κ × V)}{k:κ}(e:¬ p.1=k):rX (p :: r) k=rX r k:=by simp[rX,FR,e]
theorem VM(k:κ):∀ kvs:List (κ × V),(kvs.any fun kv=>decide (kv.1=k))=(rX kvs k).isSome
 |[]=>rfl
 |p :: r=>by
  rw[AR]
  by_cases e:p.1=k
  ·simp only[PB e,decide_eq_true e,Bool.true_or,Option.isSome_some]
  ·rw[PC e,decide_eq_false e,Bool.false_or];exact VM k r
theorem R4(kvs:List (κ × V))(k:κ)(v:V):(putK kvs k v).length<=kvs.length+1:=by
 unfold putK
 split
 ·rw[b4];exact Rb _ _
 ·rw[pd,pe,OS];exact bT _
theorem tJ.MS{o:Option V}{u:Option Value}(r:tJ o u):o.isSome=u.isSome:=by
 cases o with
 |none=>cases u with
  |none=>rfl
  |some _=>exact(show False from r).elim
 |some _=>cases u with
  |none=>exact(show False from r).elim
  |some _=>rfl
theorem tJ.getD{o:Option V}{u:Option Value}{d:V}{d':Value}(r:tJ o u)(rd:RelV d d'):RelV (o.getD d) (u.getD d'):=by
 cases o with
 |none=>cases u with
  |none=>exact rd
  |some _=>exact(show False from r).elim
 |some _=>cases u with
  |none=>exact(show False from r).elim
  |some _=>exact r
theorem KV.val{kvs:List (κ × V)}{vs:List (κ × Value)}(r:KV kvs vs)(k:κ):tJ (rX kvs k) (valueAt vs k):=by
 unfold KV at r
 induction r with
 |nil=>exact True.intro
 |@cons p q ps qs h t ih =>
  obtain⟨h1,h2⟩:=h
  by_cases e:p.1=k
  ·have e':q.1=k:=h1.symm.trans e
   have b:valueAt (q :: qs) k=some q.2:=by simp[valueAt,FR,e']
   rw[PB e,b];exact h2
  ·have e':¬ q.1=k:=fun z=>e (h1.trans z)
   have b:valueAt (q :: qs) k=valueAt qs k:=by simp[valueAt,FR,e']
   rw[PC e,b];exact ih
theorem KV.any{kvs:List (κ × V)}{vs:List (κ × Value)}(r:KV kvs vs)(k:κ):(kvs.any fun kv=>decide (kv.1=k))=vs.any fun kv=>decide (kv.1=k):=by
 unfold KV at r
 induction r with
 |nil=>rfl
 |cons h t ih=>rw[AR,AR,ih,h.1]
theorem KV.repl{kvs:List (κ × V)}{vs:List (κ × Value)}(r:KV kvs vs)(k:κ){y:V}{u:Value}(ry:RelV y u) :
  KV (kvs.map fun kv=>if kv.1=k then (kv.1,y) else kv) (vs.map fun kv=>if kv.1=k then (kv.1,u) else kv):=by
 unfold KV at r ⊢
 induction r with
 |nil=>exact .nil
 |@cons p q ps qs h t ih =>
  rw[fi,fi]
  refine .cons ?_ ih
  obtain⟨h1,h2⟩:=h
  by_cases e:p.1=k
  ·rw[if_pos e,if_pos (h1.symm.trans e)];exact⟨h1,ry⟩
  ·rw[if_neg e,if_neg (fun z=>e (h1.trans z))];exact⟨h1,h2⟩
theorem KV.put{kvs:List (κ × V)}{vs:List (κ × Value)}(r:KV kvs vs)(k:κ){y:V}{u:Value}(ry:RelV y u):KV (putK kvs k y) (stored vs k u):=by
 unfold putK stored
 rw[r.any k]
 by_cases e:(vs.any fun kv=>decide (kv.1=k))=true
 ·rw[if_pos e,if_pos e];exact r.repl k ry
 ·rw[if_neg e,if_neg e];exact Paired.snoc r ⟨rfl,ry⟩
theorem KV.length{kvs:List (κ × V)}{vs:List (κ × Value)}(r:KV kvs vs):kvs.length=vs.length:=Paired.length r
end
theorem EL{P:Program}{w:World}{k:Key}{u:Value}(r:RelV (kV k) u):(iE P w).is k u=true:=by
 cases k with
 |inl i=>obtain⟨t,e⟩:=(show ∃ t,u=Value.int i t from r);subst e;exact X_ P w i t
 |inr x=>obtain⟨t,e⟩:=(show ∃ t,u=Value.str x t from r);subst e;exact Ya P w x t
theorem R5{P:Program}{w:World}:∀ {ks:List Key} {us:List Value},Vals (ks.map kV) us->ItemsAre (iE P w) ks us
 |[],_,r=>by rw[List.map_nil] at r;cases r;exact .nil
 |k :: ks,_,r=>by
  rw[fi] at r
  cases r with
  |cons h t=>exact .cons (EL h) (R5 t)
abbrev KT(H:Hp):List (List Key × V)->List (List Key × Addr × Value)->Prop:=Paired fun p q=>p.1=q.1/\H q.2.1=some (.tup (p.1.map kV))/\RelV p.2 q.2.2
theorem KT.val{H:Hp}{kvs:List (List Key × V)}{xs:List (List Key × Addr × Value)}(r:KT H kvs xs)(k:List Key):tJ (rX kvs k) ((atKey xs k).map (·.2)):=by
 induction r with
 |nil=>exact True.intro
 |@cons p q ps qs h t ih =>
  obtain⟨h1,_,h2⟩:=h
  by_cases e:p.1=k
  ·have e':q.1=k:=h1.symm.trans e
   have b:atKey (q :: qs) k=some q.2:=by simp[atKey,FR,e']
   rw[PB e,b];exact h2
  ·have e':¬ q.1=k:=fun z=>e (h1.trans z)
   have b:atKey (q :: qs) k=atKey qs k:=by simp[atKey,FR,e']
   rw[PC e,b];exact ih
theorem KT.repl{H:Hp}{kvs:List (List Key × V)}{xs:List (List Key × Addr × Value)}(r:KT H kvs xs)(k:List Key){y:V}{u:Value}(ry:RelV y u) :
  KT H (kvs.map fun kv=>if kv.1=k then (kv.1,y) else kv) (xs.map (putAt k u)):=by
 induction r with
 |nil=>exact .nil
 |@cons p q ps qs h t ih =>
  rw[fi,fi]
  refine .cons ?_ ih
  obtain⟨h1,h2,h3⟩:=h
  unfold putAt
  by_cases e:p.1=k
  ·rw[if_pos e,if_pos (h1.symm.trans e)];exact⟨h1,h2,ry⟩
  ·rw[if_neg e,if_neg (fun z=>e (h1.trans z))];exact⟨h1,h2,h3⟩
theorem KT.put{H:Hp}{kvs:List (List Key × V)}{xs:List (List Key × Addr × Value)}(r:KT H kvs xs)(k:List Key){b:Addr}{y:V}{u:Value}(hb:H b=some (.tup (k.map kV)))(ry:RelV y u) :
  KT H (putK kvs k y) (storedH xs k b u):=by
 have e:(kvs.any fun kv=>decide (kv.1=k))=(atKey xs k).isSome:=by
  rw[VM,(r.val k).MS,Rk]
 unfold putK storedH
 rw[e]
 by_cases q:(atKey xs k).isSome=true
 ·rw[if_pos q,if_pos q];exact r.repl k ry
 ·rw[if_neg q,if_neg q];exact Paired.snoc r ⟨rfl,hb,ry⟩
theorem KT.keeps{H H':Hp}{kvs:List (List Key × V)}{xs:List (List Key × Addr × Value)}(r:KT H kvs xs)(ht:∀ b ys,H b=some (.tup ys)->H' b=some (.tup ys)):KT H' kvs xs :=
 Paired.Rm r fun _ _ z=>⟨z.1,ht _ _ z.2.1,z.2.2⟩
section
variable {P:Program}{w:World}{H:Hp}{h:Heap}{a:Addr}
theorem VN{u:HO}(ok:g7 P w H h)(e:Rd H a u):fE P w H h a u:=e.ok ok
theorem Dp{kvs:List (Key × V)}(ok:g7 P w H h)(e:Rd H a (.dK kvs)):kvs.length<=sizeLine/\(a == sysModules)=false/\∃ vs,KV kvs vs/\h.DictOf (iE P w) a vs :=
 show fE P w H h a (.dK kvs) from VN ok e
theorem VP{kvs:List (Key × V)}(ok:g7 P w H h)(e:H a=some (.dK kvs)):kvs.length<=sizeLine/\(a == sysModules)=false/\∃ vs,KV kvs vs/\h.DictOf (iE P w) a vs:=Dp ok (.inl e)
theorem HG{ks:List Key}(ok:g7 P w H h)(e:H a=some (.tup (ks.map kV))):(tupleKind (iE P w)).is h ks a:=by
 obtain⟨_,its,r,o,h1,h2,n,h3⟩:=(show fE P w H h a (.tup (ks.map kV)) from ok a _ e)
 exact⟨o,its.toArray,n,h1,h2,h3,by simpa using R5 r⟩
theorem ER{kvs:List (List Key × V)}(ok:g7 P w H h)(e:Rd H a (.dT kvs)):kvs.length<=sizeLine/\(a == sysModules)=false /\
  ∃ xs,KT H kvs xs/\h.DictOfH (tupleKind (iE P w)) a xs:=by
 obtain⟨z,y,xs,r,o,es,ep,h1,h2,h3,h4,h5⟩:=(show fE P w H h a (.dT kvs) from VN ok e)
 refine⟨z,y,xs,r,o,es,ep,h1,h2,h3,h4,fun x hx=>?_,h5⟩
 have all:∀ {l:List (List Key × V)} {m:List (List Key × Addr × Value)},KT H l m->∀ x∈m,(tupleKind (iE P w)).is h x.1 x.2.1:=by
  intro l m q
  induction q with
  |nil=>intro x hx;exact nomatch hx
  |@cons p q ps qs hq t ih =>
   intro x hx
   rcases cy.mp hx with e|hx
   ·subst e
    exact HG ok (by rw[<- hq.1];exact hq.2.1)
   ·exact ih x hx
 exact all r x hx
theorem ay'{kvs:List (List Key × V)}(ok:g7 P w H h)(e:H a=some (.dT kvs)):kvs.length<=sizeLine/\(a == sysModules)=false /\
  ∃ xs,KT H kvs xs/\h.DictOfH (tupleKind (iE P w)) a xs:=ER ok (.inl e)
end
def mz(H:Hp)(a:Addr)(y:V)(r:Option V):Prop :=
 (∃ kvs k,Rd H a (.dK kvs)/\y=kV k/\r=rX kvs k)\/∃ kvs k b,Rd H a (.dT kvs)/\y=.ref b/\H b=some (.tup (k.map kV))/\r=rX kvs k
def Dx(H:Hp)(a:Addr)(y v:V)(H':Hp):Prop :=
 (∃ kvs k,H a=some (.dK kvs)/\y=kV k/\kvs.length<sizeLine/\H'=upd H a (.dK (putK kvs k v))) \/
 ∃ kvs k b,H a=some (.dT kvs)/\y=.ref b/\H b=some (.tup (k.map kV))/\kvs.length<sizeLine/\H'=upd H a (.dT (putK kvs k v))
theorem mz.k{H:Hp}{a:Addr}{kvs:List (Key × V)}{k:Key}(e:H a=some (.dK kvs)):mz H a (kV k) (rX kvs k):=.inl ⟨kvs,k,.inl e,rfl,rfl⟩
theorem mz.t{H:Hp}{a b:Addr}{kvs:List (List Key × V)}{k:List Key}(e:H a=some (.dT kvs))(eb:H b=some (.tup (k.map kV))):mz H a (.ref b) (rX kvs k):=.inr ⟨kvs,k,b,.inl e,rfl,eb,rfl⟩
theorem Dx.k{H:Hp}{a:Addr}{kvs:List (Key × V)}{k:Key}{v:V}(e:H a=some (.dK kvs))(hl:kvs.length<sizeLine):Dx H a (kV k) v (upd H a (.dK (putK kvs k v))):=.inl ⟨kvs,k,e,rfl,hl,rfl⟩
theorem Dx.t{H:Hp}{a b:Addr}{kvs:List (List Key × V)}{k:List Key}{v:V}(e:H a=some (.dT kvs))(eb:H b=some (.tup (k.map kV)))(hl:kvs.length<sizeLine) :
  Dx H a (.ref b) v (upd H a (.dT (putK kvs k v))):=.inr ⟨kvs,k,b,e,rfl,eb,hl,rfl⟩
section
variable {X:Cx}{pins:List (Addr × Obj)}{σ:St}{H:Hp}{s:Shared}{a:Addr}{y v:V}{u r:Value}{o:Option V}{A:Around}{E:Value->Shared->Prop}
theorem Inv.big(I:Inv X pins σ H s):sysModules<s.heap.objs.size:=by
 have h:mainGlobals<s.heap.objs.size:=(I.mod.glob.keeps I.bk).lt
 exact Rf (by decide) h
theorem az'{Q:Value->Shared->Prop}(hu:A.units+1<cLine)(I:Inv X pins σ H s)(g:mz H a y (some v))(ry:RelV y u)(h:∀ w' s',Inv X pins σ H s'->RelV v w'->Q w' s') :
  wpAny (model X.prog X.w) A (getItem (.ref a) u) Q E s:=by
 rcases g with⟨kvs,k,e,ey,l⟩|⟨kvs,k,b,e,ey,eb,l⟩
 ·subst ey
  obtain⟨z,hd,vs,rel,dd⟩:=Dp I.bq e
  obtain⟨w',hw,kK⟩:=tJ.some_of (v:=v) (o:=valueAt vs k) (by rw[l];exact rel.val k)
  exact wpAny_getItem_of (EL ry) dd.mapOf hw (h w' _ (I.tok _) kK)
 ·subst ey
  cases (show u=Value.ref b from ry)
  obtain⟨z,hd,xs,rel,dd⟩:=ER I.bq e
  obtain⟨w',hw,kK⟩:=tJ.some_of (v:=v) (o:=(atKey xs k).map (·.2)) (by rw[l];exact rel.val k)
  obtain⟨p,hp,hp2⟩:=Option.map_eq_some_iff.mp hw
  refine wpAny_getItem_heap (tupleKind_room_in1 hu) (HG I.bq eb) dd hp ?_
  rw[hp2]
  exact h w' _ (I.tok _) kK
theorem aB'{Q:Value->Shared->Prop}(hu:A.units+1<cLine)(I:Inv X pins σ H s)(g:mz H a y o)(ry:RelV y u)(h:∀ s',Inv X pins σ H s'->Q (.bool o.isSome) s') :
  wpAny (model X.prog X.w) A (compareOp .In u (.ref a)) Q E s:=by
 rcases g with⟨kvs,k,e,ey,l⟩|⟨kvs,k,b,e,ey,eb,l⟩
 ·subst ey
  obtain⟨z,hd,vs,rel,dd⟩:=Dp I.bq e
  refine wpAny_in_of (EL ry) hd dd.mapOf ?_
  rw[<- (rel.val k).MS,<- l]
  exact h _ (I.tok _)
 ·subst ey
  cases (show u=Value.ref b from ry)
  obtain⟨z,hd,xs,rel,dd⟩:=ER I.bq e
  refine wpAny_in_heap (tupleKind_room_in1 hu) (HG I.bq eb) hd dd ?_
  have q:=(rel.val k).MS
  rw[Rk] at q
  rw[<- q,<- l]
  exact h _ (I.tok _)
theorem aC'{Q:Value->Shared->Prop}(hu:A.units+1<cLine)(I:Inv X pins σ H s)(g:mz H a y o)(ry:RelV y u)(h:∀ s',Inv X pins σ H s'->Q (.bool (!o.isSome)) s') :
  wpAny (model X.prog X.w) A (compareOp .NotIn u (.ref a)) Q E s:=by
 rcases g with⟨kvs,k,e,ey,l⟩|⟨kvs,k,b,e,ey,eb,l⟩
 ·subst ey
  obtain⟨z,hd,vs,rel,dd⟩:=Dp I.bq e
  refine wpAny_notIn_of (EL ry) hd dd.mapOf ?_
  rw[<- (rel.val k).MS,<- l]
  exact h _ (I.tok _)
 ·subst ey
  cases (show u=Value.ref b from ry)
  obtain⟨z,hd,xs,rel,dd⟩:=ER I.bq e
  refine wpAny_notIn_heap (tupleKind_room_in1 hu) (HG I.bq eb) hd dd ?_
  have q:=(rel.val k).MS
  rw[Rk] at q
  rw[<- q,<- l]
  exact h _ (I.tok _)
theorem R6{h':Heap}{t':Nat}{ob:HO}(I:Inv X pins σ H s)(mu:LX (H a))(hs:Heap.SameBut a s.heap h')(he:∃ q,h'.get? a=some q)(new:fE X.prog X.w (upd H a ob) h' a ob) :
  Inv X pins σ (upd H a ob) { s with heap:=h',toks:=t' } :=
 I.write (x:=a) (e:=a) mu (.inl rfl) (fun b q hb z=>(hs.2 b hb).trans z) he new
theorem VQ{P:Program}{w:World}{H':Hp}{h':Heap}{kvs:List (Key × V)}{vs:List (Key × Value)}(z:kvs.length<=sizeLine)(hd:(a == sysModules)=false)(rel:KV kvs vs)(dd:h'.DictOf (iE P w) a vs) :
  fE P w H' h' a (.dK kvs):=⟨z,hd,vs,rel,dd⟩
theorem aD'{H':Hp}{Q:Unit->Shared->Prop}(hu:A.units+1<cLine)(I:Inv X pins σ H s)(g:Dx H a y v H')(ry:RelV y u)(rv:RelV v r)(h:∀ s',Inv X pins σ H' s'->Q () s') :
  wpAny (model X.prog X.w) A (setItem (.ref a) u r) Q E s:=by
 rcases g with⟨kvs,k,e,ey,l,eH⟩|⟨kvs,k,b,e,ey,eb,l,eH⟩
 ·subst ey eH
  obtain⟨z,hd,vs,rel,dd⟩:=VP I.bq e
  have hz:vs.length<=sizeLine:=by rw[<- rel.length];exact z
  have hl:(putK kvs k v).length<=sizeLine:=by have:=R4 kvs k v;walk_at "s1"
  refine wpAny_setItem_pairs (hsz:=hz) (EL ry) dd fun h' EV hs=>h _ ?_
  have he:∃ q,h'.get? a=some q:=let ⟨q,_,_,hq,_⟩:=EV;⟨q,hq⟩
  exact R6 I (by rw[e];exact True.intro) hs he (VQ hl hd (rel.put k rv) EV)
 ·subst ey eH
  cases (show u=Value.ref b from ry)
  obtain⟨z,hd,xs,rel,dd⟩:=ay' I.bq e
  have hz:xs.length<=sizeLine:=by rw[<- Paired.length rel];exact z
  have hl:(putK kvs k v).length<=sizeLine:=by have:=R4 kvs k v;walk_at "s1"
  refine wpAny_setItem_heap (hsz:=hz) (tupleKind_room_in1 hu) (HG I.bq eb) dd fun h' EV hs=>h _ ?_
  obtain⟨q,es,ep,hq,h2,h3,h4,_,h5⟩:=EV
  refine R6 I (by rw[e];exact True.intro) hs ⟨q,hq⟩ ⟨hl,hd,_,(rel.put k eb rv).keeps fun c ys ec=>?_,q,es,ep,hq,h2,h3,h4,h5⟩
  rw[fm (Yb ec e (fun z=>nomatch z))]
  exact ec
end
section
variable {X:Cx}{pins:List (Addr × Obj)}{σ:St}{H:Hp}{s:Shared}{a:Addr}{kvs:List (Key × V)}{A:Around}{E:Value->Shared->Prop}
theorem aE' {Q:Value->Shared->Prop} (I:Inv X pins σ H s) (e:Rd H a (.dK kvs)) (h:∀ t s',Inv X pins σ H s'->Q (.int kvs.length t) s'):wpAny (model X.prog X.w) A (call (.builtin "len") [.ref a]) Q E s:=by
 obtain⟨z,hd,vs,rel,dd⟩:=Dp I.bq e
 refine call_len_dict hd dd (by rw[<- rel.length];rw[sizeLine_eq] at z;lia) ?_
 rw[<- rel.length]
 exact h _ _ (I.tok _)
end
theorem aF' {X:Cx} {pins:List (Addr × Obj)} {σ:St} {H:Hp} {s:Shared} {a:Addr} {y:V} {o:Option V} (I:Inv X pins σ H s) (g:mz H a y o):s.TypeIs (.ref a) "dict" := by
 rcases g with⟨kvs,k,e,_,_⟩|⟨kvs,k,b,e,_,_,_⟩
 ·obtain⟨_,_,vs,_,dd⟩:=Dp I.bq e
  exact dd.typeIs
 ·obtain⟨_,_,xs,_,dd⟩:=ER I.bq e
  exact dd.typeIs
def aG'(td ty tv:TE):TS:=fun D σ H=>tv σ H fun v H1=>td σ H1 fun x H2=>ty σ H2 fun y H3=>∃ a H4,x=.ref a/\Dx H3 a y v H4/\D.nx σ H4
section
variable {X:Cx}{o i value:Expr}{pos pos':Pos}{td ty tv:TE}
theorem aH'(hu:X.A.units+1<cLine)(ho:PE X o td)(hi:PE X i ty)(hv:PE X value tv)(hs:swapsWith value (some (.Subscript o i pos')) pos.line X.env=pure false) :
  PS X (.Assign [.Subscript o i pos'] value pos) (aG' td ty tv):=by
 intro pins s σ H D I h
 refine wpAny_Assign_Subscript (cq (hv pins s σ H _ I h) fun r s1 cv=>L2.fP cv fun v H1 I1 rv q1=>cq (ho pins s1 σ H1 _ I1 q1) fun u s2 cv=>L2.fP cv fun x H2 I2 rx q2=>cq (hi pins s2 σ H2 _ I2 q2) fun iv s3 cK=>?_) hs
 obtain⟨y,H3,I3,ry,a,H4,ex,g,q3⟩:=cK
 subst ex
 obtain rfl:u=Value.ref a:=rx
 exact aD' hu I3 g ry rv fun s4 I4=>⟨σ,H4,I4,q3⟩
end
theorem aI' {P:Program} {w:World} {H:Hp} (h:Heap) (hb:sysModules<h.objs.size):fE P w H (h.push { cls:=.type "dict",data:=.dict #[] }) h.objs.size (.dK []) :=
 ⟨eh _,beq_eq_false_iff_ne.mpr (Ne.symm (fw hb)),[],.nil,Heap.DictOf.new h⟩
theorem aJ' {P:Program} {w:World} {H:Hp} (h:Heap) (hb:sysModules<h.objs.size):fE P w H (h.push { cls:=.type "dict",data:=.dict #[] }) h.objs.size (.dT []) :=
 ⟨eh _,beq_eq_false_iff_ne.mpr (Ne.symm (fw hb)),[],.nil,_,#[],0,i9 _ rfl,⟨rfl,rfl,rfl⟩,rfl,rfl,n5⟩
def aK':TE:=fun _ H Q=>∀ p,H p=none->Q (.ref p) (upd H p (.dT []))
section
variable {X:Cx}{pos:Pos}
theorem aL':PE X (.Dict [] [] pos) aK':=fun pins s σ H Q I h =>
 wpAny_Dict_empty ⟨.ref s.heap.objs.size,_,I.laid (a:=s.heap.objs.size) (o:=.dT []) (t':=s.toks) (fun _ _ q=>eR _ q) (bT _) (aJ' s.heap I.big),rfl,h _ (I.bq.fresh (bT _))⟩
end
def R7:List (TE × TE)->St->Hp->(List (V × V)->Hp->Prop)->Prop
 |[],_,H,Q=>Q [] H
 | (tk,tv) :: r,σ,H,Q=>tk σ H fun x H1=>tv σ H1 fun y H2=>R7 r σ H2 fun ps H3=>Q ((x,y) :: ps) H3
abbrev VV:List (V × V)->List (Value × Value)->Prop:=Paired fun p q=>RelV p.1 q.1/\RelV p.2 q.2
def PD(X:Cx)(pos:Pos)(keys:List (Option Expr))(values:List Expr)(A3:List (TE × TE)):Prop :=
 ∀ (pins:List (Addr × Obj)) (s:Shared) (σ:St) (H:Hp) (Q:List (V × V)->Hp->Prop),Inv X pins σ H s->R7 A3 σ H Q ->
  wpAny (model X.prog X.w) X.A (evalPairs (pairTrees keys values X.env pos)) (fun vs s'=>∃ ps H',Inv X pins σ H' s'/\VV ps vs/\Q ps H') X.xe s
theorem aM'{X:Cx}{pos:Pos}:PD X pos [] [] []:=fun pins s σ H Q I h=>pairTrees_nil_walk ⟨[],H,I,.nil,h⟩
theorem aN'{X:Cx}{pos:Pos}{k v:Expr}{ks:List (Option Expr)}{vs:List Expr}{tk tv:TE}{A3:List (TE × TE)}(hk:PE X k tk)(hv:PE X v tv)(hr:PD X pos ks vs A3) :
  PD X pos (some k :: ks) (v :: vs) ((tk,tv) :: A3):=fun pins s σ H Q I h =>
 pairTrees_cons_walk (cq (hk pins s σ H _ I h) fun u s1 cv=>L2.fP cv fun x H1 I1 rx q1=>cq (hv pins s1 σ H1 _ I1 q1) fun w2 s2 cv=>L2.fP cv fun y H2 I2 ry q2 =>
  cq (hr pins s2 σ H2 _ I2 q2) fun ws s3 cv=>L2.fP cv fun ps H3 I3 rel q3=>⟨(x,y) :: ps,H3,I3,.cons ⟨rx,ry⟩ rel,q3⟩)
def MV(kvs more:List (Key × V)):List (Key × V):=more.foldl (fun acc kv=>putK acc kv.1 kv.2) kvs
theorem KV.merge:∀ {more:List (Key × V)} {rs:List (Key × Value)} {kvs:List (Key × V)} {vs:List (Key × Value)},KV more rs->KV kvs vs->KV (MV kvs more) (merged vs rs):=by
 intro more rs kvs vs r
 unfold KV at r
 induction r generalizing kvs vs with
 |nil=>intro q;exact q
 |@cons p q ps qs h t ih =>
  intro r0
  have e:KV (putK kvs p.1 p.2) (stored vs q.1 q.2):=by
   have:=r0.put p.1 h.2
   rw[<- h.1];exact this
  exact ih e
theorem VR:∀ (more kvs:List (Key × V)),(MV kvs more).length<=kvs.length+more.length
 |[],kvs=>by show kvs.length<=kvs.length+0;lia
 |p :: r,kvs=>by
  have h1:=VR r (putK kvs p.1 p.2)
  have h2:=R4 kvs p.1 p.2
  show(MV (putK kvs p.1 p.2) r).length<=_
  rw[pe];lia
theorem VS{P:Program}{w:World}:∀ {kvs:List (Key × V)} {ws:List (Value × Value)},VV (kvs.map fun kv=>(kV kv.1,kv.2)) ws->∃ rs,Carries (iE P w) ws rs/\KV kvs rs
 |[],_,r=>by rw[List.map_nil] at r;cases r;exact⟨[],True.intro,.nil⟩
 |p :: kvs,_,r=>by
  rw[fi] at r
  cases r with
  |@cons a b as bs h t =>
   obtain⟨rs,c,q⟩:=VS (P:=P) (w:=w) t
   obtain⟨b1,b2⟩:=b
   exact⟨(p.1,b2) :: rs,⟨EL h.1,rfl,c⟩,.cons ⟨rfl,h.2⟩ q⟩
def aO'(A3:List (TE × TE)):TE:=fun σ H Q=>∀ p,H p=none->R7 A3 σ (upd H p (.dK [])) fun ps H2=>H2 p=some (.dK [])/\∃ kvs:List (Key × V),ps=kvs.map (fun kv=>(kV kv.1,kv.2))/\kvs.length<=15/\Q (.ref p) (upd H2 p (.dK (MV [] kvs)))
theorem aP'{X:Cx}{pos:Pos}{keys:List (Option Expr)}{values:List Expr}{A3:List (TE × TE)}(h:PD X pos keys values A3)(ny:keys.all (·.isSome)=true)(hl:keys.length=values.length)(h0:keys≠[])
  (h15:keys.length<=15):PE X (.Dict keys values pos) (aO' A3):=by
 intro pins s σ H Q I q
 have hn:=I.bq.fresh (bT s.heap.objs.size)
 have I1:=I.laid (a:=s.heap.objs.size) (o:=.dK []) (h':=s.heap.push { cls:=.type "dict",data:=.dict #[] }) (t':=s.toks) (fun _ _ q=>eR _ q) (bT _) (aI' s.heap I.big)
 refine wpAny_Dict_walk (knd:=iE X.prog X.w) ny hl h0 h15 (cq (h pins _ σ _ _ I1 (q _ hn)) fun ws s2 cK=>?_)
 obtain⟨ps,H2,I2,rel,e,kvs,ep,lk,q2⟩:=cK
 subst ep
 obtain⟨rs,c,rk⟩:=VS (P:=X.prog) (w:=X.w) rel
 obtain⟨z,hd,vs0,r0,dd⟩:=VP I2.bq e
 cases r0
 refine⟨rs,c,dd,fun h' EV hs=>⟨.ref s.heap.objs.size,_,?_,rfl,q2⟩⟩
 have hz:(MV [] kvs).length<=sizeLine:=by
  have h1:=VR kvs []
  rw[OS] at h1
  rw[sizeLine_eq];lia
 have he:∃ q,h'.get? s.heap.objs.size=some q:=let ⟨q,_,_,hq,_⟩:=EV;⟨q,hq⟩
 exact R6 I2 (by rw[e];exact True.intro) hs he (VQ hz hd (rk.merge .nil) EV)
structure M1(X:Cx)(o:Expr)(m:Str)(apos:Pos)(e:Expr)(dk:Pos):Prop where
 base:attributeBase o m X.env (eval o X.env)=eval o X.env
 few:((backTo dk (starEach [e] X.env)).all (fun x=>!x.1) && (backToKw dk (keywordEach [] X.env)).all (fun x=>x.1.isSome)
  && decide (([e]:List Expr).length+([]:List Keyword).length+(if ([]:List Keyword).isEmpty then 0 else 1)<30))=true
 line:(apos.endLine == dk.line)=true
 trees:backTo dk (starEach [e] X.env)=[(false,eval e X.env)]
structure M2(X:Cx)(o:Expr)(m:Str)(apos:Pos)(e f:Expr)(dk:Pos):Prop where
 base:attributeBase o m X.env (eval o X.env)=eval o X.env
 few:((backTo dk (starEach [e,f] X.env)).all (fun x=>!x.1) && (backToKw dk (keywordEach [] X.env)).all (fun x=>x.1.isSome)
  && decide (([e,f]:List Expr).length+([]:List Keyword).length+(if ([]:List Keyword).isEmpty then 0 else 1)<30))=true
 line:(apos.endLine == dk.line)=true
 trees:backTo dk (starEach [e,f] X.env)=[(false,eval e X.env),(false,eval f X.env)]
def PF(H:Hp)(a:Addr):Prop:=(∃ kvs,Rd H a (.dK kvs))\/∃ kvs,Rd H a (.dT kvs)
theorem aS'{X:Cx}{pins:List (Addr × Obj)}{σ:St}{H:Hp}{s:Shared}{a:Addr}(I:Inv X pins σ H s)(d:PF H a) :
  s.TypeIs (.ref a) "dict"/\(∀ b,Value.ref a=.ref b->∃ ob,s.heap.get? b=some ob/\ob.dict=none)/\(a == sysModules)=false:=by
 rcases d with⟨kvs,e⟩|⟨kvs,e⟩
 ·obtain⟨_,hd,vs,_,dd⟩:=Dp I.bq e
  refine⟨dd.typeIs,fun b q=>?_,hd⟩
  cases q
  obtain⟨ob,_,_,h1,h2,_⟩:=dd
  exact⟨ob,h1,h2.2.1⟩
 ·obtain⟨_,hd,xs,_,dd⟩:=ER I.bq e
  refine⟨dd.typeIs,fun b q=>?_,hd⟩
  cases q
  obtain⟨ob,_,_,h1,h2,_⟩:=dd
  exact⟨ob,h1,h2.2.1⟩
section
variable {X:Cx}{pins:List (Addr × Obj)}{σ:St}{H:Hp}{s:Shared}{a:Addr}{y:V}{u:Value}{o:Option V}{A:Around}{E:Value->Shared->Prop}
theorem aT'{Q:Value->Shared->Prop}(hu:A.units+1<cLine)(I:Inv X pins σ H s)(g:mz H a y o)(ry:RelV y u)(h:∀ w' s',Inv X pins σ H s'->RelV (o.getD .non) w'->Q w' s') :
  wpAny (model X.prog X.w) A (call (.builtin "dict.get") [.ref a,u]) Q E s:=by
 rcases g with⟨kvs,k,e,ey,l⟩|⟨kvs,k,b,e,ey,eb,l⟩
 ·subst ey
  obtain⟨z,hd,vs,rel,dd⟩:=Dp I.bq e
  refine call_meetsIn PySem.F.slot_dict_get dd.typeIs PySem.F.entry_dict_get (PySem.F.args_dict_get_2 _ _) (meets_dict_get (iE X.prog X.w) a (EL ry) hd) ⟨_,dd.mapOf,h _ _ (I.tok _) ?_⟩
  rw[l]
  exact(rel.val k).getD rfl
 ·subst ey
  cases (show u=Value.ref b from ry)
  obtain⟨z,hd,xs,rel,dd⟩:=ER I.bq e
  refine call_meetsIn PySem.F.slot_dict_get dd.typeIs PySem.F.entry_dict_get (PySem.F.args_dict_get_2 _ _) (meetsH_dict_get (tupleKind (iE X.prog X.w)) a b hd) ⟨tupleKind_room_in1 hu,k,xs,HG I.bq eb,dd,h _ _ (I.tok _) ?_⟩
  rw[l]
  exact(rel.val k).getD rfl
end
def aU'(td ty:TE):TE:=fun σ H Q=>td σ H fun x H1=>∃ a,x=.ref a/\PF H1 a/\ty σ H1 fun y H2=>∃ o,mz H2 a y o/\Q (o.getD .non) H2
def aV'(td ty tx:TE):TE:=fun σ H Q=>td σ H fun x H1=>∃ a,x=.ref a/\PF H1 a/\ty σ H1 fun y H2=>tx σ H2 fun z H3=>∃ o,mz H3 a y o/\Q (o.getD z) H3
section
variable {X:Cx}{o e:Expr}{apos dk:Pos}{td ty:TE}
theorem aW' (hu:X.A.units+1<cLine) (ho:PE X o td) (he:PE X e ty) (m:M1 X o "get" apos e dk):PE X (.Call (.Attribute o "get" apos) [e] [] dk) (aU' td ty):=by
 intro pins s σ H Q I h
 refine wpAny_Call_method m.base m.few m.line PySem.F.plainAttrs_dict PySem.F.slot_dict_get PySem.F.type_dict_get (cq (ho pins s σ H _ I h) fun u s1 cK=>?_)
 obtain⟨x,H1,I1,rx,a,ex,d,q1⟩:=cK
 subst ex
 obtain rfl:u=Value.ref a:=rx
 obtain⟨t1,t2,_⟩:=aS' I1 d
 refine⟨t1,t2,?_⟩
 rw[m.trees]
 refine Calls.callWith_builtin rfl (Calls.evalArgs_plain (Calls.spliced_cons (cq (he pins s1 σ H1 _ I1 q1) fun iv s2 ⟨y,H2,I2,ry,ov,g,q2⟩=>Calls.spliced_nil ?_)))
 exact aT' hu I2 g ry fun w' s3 I3 kK=>⟨_,H2,I3,kK,q2⟩
end
end L2
namespace VW
open PySem PySem.W PySem.Calls PyProof.Rows
theorem aX'{P:Params}{h:Heap}:∀ (ns:List Int) (vs:List Value),WellAll P h vs (ns.map WData.int)->IntsAre vs ns:=by
 intro ns
 induction ns with
 |nil =>
  intro vs w
  rw[List.map_nil] at w
  cases w
  exact .nil
 |cons n ns ih =>
  intro vs w
  rw[fi] at w
  cases w with
  |cons a b =>
   cases a
   exact .cons _ _ (ih _ b)
theorem aY'{l:OpenLaw}{n:Nat}(hn:l.most=some n){P:Params}{h:Heap}{args:List WData}{vals:List Value}
  (DB:l.row.toRowW.claim.pre args=true) (A4:WellAll P h vals args) :
  ∃ a vs ns,vals=[Value.ref a]/\args=[WData.list (ns.map WData.int)]/\h.get? a=some { cls:=.type "list",data:=.seq vs.toArray }/\IntsAre vs ns/\ns.length<=n:=by
 have xI:WShape.hasAll [] args [.list .int]=true:=(pre_splitW DB).1
 have hc:l.pre.holds [] { args:=args }=true:=(pre_splitW DB).2
 obtain⟨d,r,rfl,h1,h2⟩:=hasAllW_cons xI
 obtain rfl:=hasAllW_nil h2
 obtain⟨xs,rfl,h3⟩:=hasW_list h1
 obtain⟨ns,rfl⟩:=items_int h3
 have hlen:ns.length<=n:=by
  unfold OpenLaw.pre at hc
  have h4:(WTm.not (.lt (.lit (.int (n:Int))) (.len (.arg 0)))).holds [] { args:=[.list (ns.map .int)] }=true:=by
   have h4:=(holds_andW hc).1
   rw[hn] at h4
   exact h4
  have h5:=condW_of h4 (w_not (w_lt w_lit (w_len_list (w_arg rfl))))
  rw[b4] at h5
  refine D7 fun q=>?_
  have q':(n:Int)<((ns.length:Nat):Int):=by lia
  first
   | (rw[decide_eq_true q'] at h5;exact absurd h5 (by decide))
   | (simp at h5;lia)
 cases A4 with
 |cons w1 w2 =>
  cases w2
  cases w1 with
  |list ho ny=>exact⟨_,_,ns,rfl,rfl,ho,aX' ns _ ny,hlen⟩
theorem aZ'(l:OpenLaw)(args:List WData):l.row.toRowW.claim.post args (.bool true) args=true :=
 postW_of (r:=l.row.toRowW) (X:=(true == true))
  (show WShape.has [] (.bool true) .bool=true by first|rfl|decide|simp[WShape.has,WShape.arms,WShape.armsAll])
  (show(WTm.eq .res (.lit (.bool true))).value [] { args:=args,res:=some (.bool true),after:=args }=some (.bool (true == true)) from w_eq_bool (w_res rfl) w_lit) rfl
theorem ba'{l:OpenLaw}{n:Nat}{q:Program}{loose:List Str}{XP:(Str->Option Value)->Heap->Prop}{YP:World->Heap->Prop}{d:DefRec}
  (hn:l.most=some n) (MX:d.params.defaults=[])
  (call:∀ (w:World) (iX eC:Shared) (mg mb:Str->Option Value) (fa:Addr) (o:Obj) (pm cd doc:Value) (a:Addr) (vs:List Value) (ns:List Int),
   Ground q loose [] XP w iX mg mb eC.heap->YP w eC.heap ->
   eC.heap.get? fa=some o->o.data=.func (docDef d.name d.params d.body d.scope pm cd doc)->eC.heap.CodeRec cd d.name->mg d.name=some (.ref fa) ->
   eC.heap.get? a=some { cls:=.type "list",data:=.seq vs.toArray }->IntsAre vs ns->ns.length<=n->eC.gens = #[] ->
   codeAny (model l.prog w) callerA (.call (.ref fa) ⟨[.ref a],[]⟩) (fun r s'=>r=.ok (.ret (.bool true))/\OldK eC.heap s'.heap/\s'.os=eC.os/\AllBare s'.gens) eC) :
  WalkO q loose XP YP l.row.toRowW d [] (fun f vs=>PySem.call f vs):=by
 intro w iX eC mg mb G Y fa o pm cd doc dV kV ho hd rg hD MY hg args vals as DB hlay hrd A4 DC
 obtain rfl:dV=.none:=Dflts.none hD MX
 obtain rfl:kV=.none:=Dflts.noKw hD
 obtain⟨a,vs,ns,rfl,rfl,R8,hints,hlen⟩:=aY' hn DB A4
 refine enter_call (codeAny_mono (call w iX eC mg mb fa o pm cd doc a vs ns G Y ho (fd_plain hd) rg MY R8 hints hlen hg) fun r s' hq=>?_)
 obtain⟨rfl,h2,h3,h4⟩:=hq
 exact⟨.inl ⟨.bool true,.bool true,[],rfl,fun _=>rfl,.bool true,aZ' l _,fun _=>⟨List.Pairwise.nil,fun _ hm=>(nomatch hm)⟩⟩,h2,h3,h4⟩
end VW
namespace L2
open PySem PySem.Spec PyProof.Rows
theorem VX:∀ {vs:List Value} {ns:List Int},IntsAre vs ns->Vals (ns.map V.int) vs
 |_,_,.nil=>.nil
 |_,_,.cons n t h=>.cons ⟨t,rfl⟩ (VX h)
def Only(H:Hp):Prop:=∀ b,H b=none\/∃ o xs,H b=some (.oa o (.lst xs))
theorem bb'{P:Program}{w:World}{K:PySem.W.Frag}{mg mb:Str->Option Value}{CX:y8}{k:Nat}{fa a:Addr}{fd:FuncData}{x:Str}{sp:Sp}{eC:Shared}{vs:List Value}{ns:List Int}
  (KX:K.In eC.heap) (VY:eC.heap.Ns mainGlobals mg) (hb:eC.heap.Ns builtinsNs mb) (zh:∀ x:Str,x ≠ "__name__"->mb x=bootBuiltins x) (bc':eC.heap.NoLimit) (hg:eC.gens = #[])
  (ha:eC.heap.get? a=some { cls:=.type "list",data:=.seq vs.toArray }) (hi:IntsAre vs ns) (hl:ns.length<=sizeLine) (hr:mw k callerA)
  (F:∀ base:Heap,K.In base->base.Ns mainGlobals mg->iF P w K mg base CX k fa fd [x] sp) (bd':∀ (s:Shared) (u:Value),BindsTo s fd ⟨[u],[]⟩ [(x,u)])
  (CM:∀ H:Hp,Only H->eK K H a (ns.map V.int)->sp [.ref a] H (fun v _=>v=.bl true) fun _ _ _=>False)
  (R9:∀ H e s',CX [] H eC (fun _ _ _=>False) e s'->False) :
  codeAny (model P w) callerA (.call (.ref fa) ⟨[.ref a],[]⟩) (fun r s'=>r=.ok (.ret (.bool true))/\OldK eC.heap s'.heap/\s'.os=eC.os/\AllBare s'.gens) eC:=by
 have rv:=VX hi
 have be':=hi.length
 -- from an abstract heap in which nothing but the script may be tracked
 have core:∀ H:Hp,Only H->eK K H a (ns.map V.int)->g7 P w H eC.heap->(∀ b,H b≠none->b=a)->(H a≠none->K.lookup a=none) ->
   codeAny (model P w) callerA (.call (.ref fa) ⟨[.ref a],[]⟩) (fun r s'=>r=.ok (.ret (.bool true))/\OldK eC.heap s'.heap/\s'.os=eC.os/\AllBare s'.gens) eC:=by
  intro H hO hS bq hA hK
  have VZ:∀ {b:Addr} {o:Obj},eC.heap.get? b=some o->H b=none->(AX eC.heap H).get? b=some o:=fun e n=>Ye e n
  have My:∀ {b:Addr} {o:Obj} {es:Array DictEntry} {ep:Nat},eC.heap.get? b=some o->o.data=.dict es ep->H b=none:=fun {b o es ep} e d=>by
   cases q:H b with
   |none=>rfl
   |some u =>
    have e':b=a:=hA b (by rw[q];simp)
    subst e'
    rw[ha] at e;cases e
    have d':Data.seq vs.toArray _=Data.dict es ep:=d
    cases d'
  have PH:∀ {b:Addr} {m:Str->Option Value},eC.heap.Ns b m->(AX eC.heap H).Ns b m:=fun {b m} ⟨o,es,ep,e,d,r⟩=>⟨o,es,ep,VZ e (My e d),d,r⟩
  have V0:K.In (AX eC.heap H):=fun b o e=>VZ (KX b o e) (by
   cases q:H b with
   |none=>rfl
   |some u =>
    have e':b=a:=hA b (by rw[q];simp)
    subst e'
    rw[hK (by rw[q];simp)] at e;cases e)
  have hM:Mod K mg (AX eC.heap H):=⟨V0,PH VY,⟨mb,PH hb,zh⟩,let ⟨mc,h1,h2⟩:=bc';⟨mc,PH h1,h2⟩⟩
  have e0:Pp P w K mg (AX eC.heap H) callerA [] eC H:=⟨rfl,hM,fun b o e=>Yf e,LS (Yd _ _),trivial,fun b hb=>absurd (show b∈([]:List Addr) from hb) (by simp),bq,.of_eq hg⟩
  refine codeAny_mono ((F _ V0 (PH VY)).run callerA [] eC H ⟨[.ref a],[]⟩ [.ref a] [.ref a] _ _ hr e0 (bd' eC (.ref a)) (.cons rfl .nil) (CM H hO hS)) fun r s' h=>?_
  cases r with
  |error e=>exact(R9 H e s' h).elim
  |ok fl =>
   cases fl with
   |next=>exact False.elim h
   |brk=>exact False.elim h
   |cont=>exact False.elim h
   |ret u =>
    obtain⟨v,H',os,bare,un,bf',r',q⟩:=h
    have q':v=.bl true:=q
    subst q'
    obtain rfl:u=Value.bool true:=r'
    refine⟨rfl,OldK.of_keep fun b o e=>?_,os,bare⟩
    cases q:H b with
    |none=>exact un.keep b o e q (by intro z;exact absurd (show b∈([]:List Addr) from z) (by simp)) (by simp)
    |some u =>
     rcases hO b with z|⟨ob,xs,z⟩
     ·rw[q] at z;cases z
     ·have z2:=un.AW b ob _ z
      obtain⟨e1,_⟩:=bq b _ z
      obtain⟨e2,_⟩:=bf' b _ z2
      rw[e] at e1;cases e1
      exact e2
 cases hk:K.lookup a with
 |some o =>
  -- the script is one of the module's own objects
  have e:=KX a o hk
  rw[ha] at e
  cases e
  refine core (fun _=>none) (fun _=>.inl rfl) (.inr ⟨_,vs.toArray,_,hk,rfl,rfl,rfl,by rw[gi,be'];exact hl,by simpa using rv⟩) (fun b u z=>by have z':(none:Option HO)=some u:=z;cases z') (fun b z=>absurd rfl z) fun z=>absurd rfl z
 |none =>
  refine core (fun b=>if b=a then some (.oa { cls:=.type "list",data:=.seq vs.toArray } (.lst (ns.map V.int))) else none) (fun b=>?_) (.inl (.inr ⟨{ cls:=.type "list",data:=.seq vs.toArray },if_pos rfl⟩)) (fun b u z=>?_) (fun b z=>?_) fun _=>hk
  ·by_cases hb:b=a
   ·exact .inr ⟨_,_,if_pos hb⟩
   ·exact .inl (if_neg hb)
  ·by_cases hb:b=a
   ·have z':=(if_pos hb).symm.trans z
    cases z'
    subst hb
    exact⟨ha,by rw[b4];exact hl,vs,_,rv,ha⟩
   ·have z':=(if_neg hb).symm.trans z
    cases z'
  ·by_cases hb:b=a
   ·exact hb
   ·exact absurd (if_neg hb) z
theorem bg'{l:PySem.W.OpenLaw}{n k:Nat}{q:Program}{loose:List Str}{XP:(Str->Option Value)->Heap->Prop}{YP:World->Heap->Prop}{d:DefRec}{K:Params->PySem.W.Frag}{CX:World->y8}{sp:World->Sp}{x:Str}
  (hn:l.most=some n) (HK:n<=sizeLine) (MX:d.params.defaults=[]) (hr:mw k callerA)
  (hY:∀ (w:World) (h:Heap),YP w h->(K w.params).In h)
  (F:∀ (w:World) (mg:Str->Option Value) (fa:Addr) (h:Heap),(K w.params).In h->h.Ns mainGlobals mg->mg d.name=some (.ref fa) ->
   ∃ fd:FuncData,(∀ (s:Shared) (u:Value),BindsTo s fd ⟨[u],[]⟩ [(x,u)]) /\
    ∀ base:Heap,(K w.params).In base->base.Ns mainGlobals mg->iF l.prog w (K w.params) mg base (CX w) k fa fd [x] (sp w))
  (CM:∀ (w:World) (H:Hp) (a:Addr) (ns:List Int),ns.length<=n->Only H->eK (K w.params) H a (ns.map V.int)->sp w [.ref a] H (fun v _=>v=.bl true) fun _ _ _=>False)
  (R9:∀ (w:World) (H:Hp) (s:Shared) (e:Value) (s':Shared),CX w [] H s (fun _ _ _=>False) e s'->False) :
  PySem.W.WalkO q loose XP YP l.row.toRowW d [] (fun f vs=>PySem.call f vs):=by
 refine VW.ba' hn MX fun w iX eC mg mb fa o pm cd doc a vs ns G Y ho hd rg MY R8 hints hlen hg=>?_
 have KX:=hY w _ Y
 obtain⟨fd,hb,hF⟩:=F w mg fa _ KX G.T.g MY
 exact bb' KX G.T.g G.T.b G.T.builtins G.T.nolimit hg R8 hints (gx hlen HK) hr hF hb (fun H hO hS=>CM w H a ns hlen hO hS) fun H e s'=>R9 w H eC e s'
def kC(s:Stmt):Arguments:=match s with
 |.FunctionDef _ a _ _ _ _ _ _ _ _=>a
 |_=>{ posonlyargs:=[],args:=[],vararg:=none,kwonlyargs:=[],kw_defaults:=[],kwarg:=none,defaults:=[] }
def jS(s:Stmt):List Stmt:=match s with
 |.FunctionDef _ _ b _ _ _ _ _ _ _=>b
 |_=>[]
def cE(s:Stmt):Scope:=match s with
 |.FunctionDef _ _ _ _ _ _ sc _ _ _=>sc
 |_=>{ kind:=.function,names:=[],isGenerator:=false,isCoroutine:=false }
abbrev i5:y8:=fun _ _ _ _ _ _=>False
abbrev E0:XK:=fun _ _ _=>False
theorem bh'{X:Cx}:Passes i5 X E0:=fun _ _ _ _ _ _ _ h=>h.elim
structure kc(K:PySem.W.Frag)(x qual:Str)(st:Stmt)(f:Addr)(fd:FuncData):Prop where
 ex:∃ (oc:Value) (od:Option Addr) (kV doc pm:Value) (an:Option Addr) (eI ct:Value) (CL:Array (Option Value)),
  fd=PySem.W.fnOf x qual (kC st) (jS st) (cE st) .none kV doc pm an eI ct/\K.lookup f=some ⟨oc,od,.func fd,CL⟩/\PySem.W.codeIn K eI qual=true
 kp:PySem.W.keepIn K (.ref f)=true
section
variable {P:Program}{w:World}{K:PySem.W.Frag}{mg:Str->Option Value}{base:Heap}
theorem kc.ok{x qual:Str}{st:Stmt}{f:Addr}{fd:FuncData}{N ps:List Str}{k:Nat}{sp:Sp}(F:kc K x qual st f fd)(S:lh N ps (cE st))(len:∀ vs H Q E,sp vs H Q E->vs.length=ps.length)
  (MA:∀ (eI:Value) (A:Around) (outer:List Env) (s:Shared) (H:Hp) (vs:List V) (Q:VK) (E:XK),mw k (A.deeper (envOfC qual (cE st) s.heap.objs.size f eI))->sp vs H Q E ->
   ∃ t,mv (EK i5 P w K mg base N qual (cE st) f eI A outer s H E).L8 (jS st) t/\t { nx:=fun _ H'=>Q .non H',rt:=Q } (start N vs) H):iF P w K mg base i5 (k+1) f fd ps sp:=by
 obtain⟨oc,od,kV,doc,pm,an,eI,ct,CL,rfl,lk,rg⟩:=F.ex
 refine ZT lk rg S len fun A outer s H vs Q E hr CM=>?_
 obtain⟨t,h,q⟩:=MA eI A outer s H vs Q E hr CM
 exact⟨t,h.L8,q⟩
theorem kc.binds{x qual:Str}{st:Stmt}{f:Addr}{fd:FuncData}{ps:List Str}(F:kc K x qual st f fd)
  (h:∀ (kV doc pm:Value) (an:Option Addr) (eI ct:Value) (us:List Value),us.length=ps.length->bindArgs (PySem.W.fnOf x qual (kC st) (jS st) (cE st) .none kV doc pm an eI ct) ⟨us,[]⟩=pure (ps.zip us)):Binds K fd ps []:=by
 obtain⟨oc,od,kV,doc,pm,an,eI,ct,CL,rfl,lk,rg⟩:=F.ex
 exact .all (h kV doc pm an eI ct)
theorem ot{x qual:Str}{st:Stmt}{f:Addr}{oc:Value}{od an:Option Addr}{CL:Array (Option Value)}{kV doc pm eI ct:Value}(l:K.lookup f=some ⟨oc,od,.func (PySem.W.fnOf x qual (kC st) (jS st) (cE st) .none kV doc pm an eI ct),CL⟩)
  (c:PySem.W.codeIn K eI qual=true) (k:PySem.W.keepIn K (.ref f)=true):kc K x qual st f (PySem.W.fnOf x qual (kC st) (jS st) (cE st) .none kV doc pm an eI ct):=⟨⟨oc,od,kV,doc,pm,an,eI,ct,CL,rfl,l,c⟩,k⟩
end
section
variable {X:Cx}
theorem pv (i:Nat) {x:Str} {pos:Pos} (hN:X.N[i]? = some x:=by rfl) (hv:O8 X.env.scope x:=by first|exact Or.inl rfl|exact Or.inr (Or.inl rfl)|exact Or.inr (Or.inr rfl)) (hd:(x == ("__debug__" : Str))=false:=by decide)
  (rg:(x == ("__classdict__" : Str))=false:=by decide):PE X (.Name x pos) (EG i):=U6 hN hv hd rg
theorem bi':i3 X (.builtin "len") (fun xs H Q=>∃ a kvs,xs=[V.ref a]/\H a=some (.dK kvs)/\Q (.int kvs.length) H):=by
 intro pins s σ H xs us Q I r h
 obtain⟨a,kvs,rfl,ha,q⟩:=h
 obtain⟨u,rfl,ru⟩:=vals1 r
 cases ru
 exact aE' I (.inl ha) fun t s' I'=>⟨.int kvs.length,H,I',⟨t,rfl⟩,q⟩
end
def aT(H H':Hp):Prop:=∀ b o,H b=some o->H' b=some o
theorem aT.refl(H:Hp):aT H H:=fun _ _ h=>h
theorem aT.trans{H H1 H2:Hp}(a:aT H H1)(b:aT H1 H2):aT H H2:=fun c o h=>b c o (a c o h)
theorem aT.free{H H':Hp}(e:aT H H'){l:Addr}(h:H' l=Option.none):H l=Option.none:=by
 cases q:H l with
 |none=>rfl
 |some o =>
  rw[e l o q] at h
  cases h
theorem aT.seq{K:PySem.W.Frag}{H H':Hp}{a:Addr}{xs:List V}(e:aT H H')(h:eK K H a xs):eK K H' a xs:=by
 rcases h with(h|⟨o,h⟩)|h
 ·exact .inl (.inl (e _ _ h))
 ·exact .inl (.inr ⟨o,e _ _ h⟩)
 ·exact .inr h
end L2
set_option maxHeartbeats 4000000
namespace L2
open PySem PySem.Spec PyProof.Rows
def oi(env:Env):List (Str × NameKind)->List (Str × Addr)->List (Str × Addr)
 |[],cs=>cs
 | (n,k) :: r,cs=>oi env r (if k == NameKind.free then (n,(env.cells.lookup n).getD 0) :: cs else cs)
theorem iB(env:Env):∀ (names:List (Str × NameKind)) (cs:List (Str × Addr)),(∀ y∈names,y.2=.free->∃ c,env.cells.lookup y.1=some c) ->
  (forIn names cs fun x r=>match x with
   | (name,kind)=>if (kind == NameKind.free)=true then do let a <- cellOf env name;pure (ForInStep.yield ((name,a) :: r)) else pure (ForInStep.yield r):Sem (List (Str × Addr)))=pure (oi env names cs)
 |[],cs,_=>rfl
 | (n,k) :: r,cs,h=>by
  rw[List.forIn_cons]
  have ih:=iB env r
  by_cases hk:k=.free
  ·subst hk
   obtain⟨c,e⟩:=h (n,.free) bX rfl
   have e:env.cells.lookup n=some c:=e
   have e2:cellOf env n=pure c:=by unfold cellOf;rw[e]
   have e3:oi env ((n,.free) :: r) cs=oi env r ((n,c) :: cs):=by
    show oi env r (if (NameKind.free == NameKind.free)=true then (n,(env.cells.lookup n).getD 0) :: cs else cs)=_
    rw[e];rfl
   rw[e3,<- ih ((n,c) :: cs) fun y hy=>h y (b5 _ hy)]
   simp only[beq_self_eq_true,if_true,e2]
   rfl
  ·have hb:(k == NameKind.free)=false:=by simpa using hk
   have e3:oi env ((n,k) :: r) cs=oi env r cs:=by
    show oi env r (if (k == NameKind.free)=true then _ else cs)=_
    rw[hb];rfl
   rw[e3,<- ih cs fun y hy=>h y (b5 _ hy)]
   simp only[hb,gE,if_false]
   rfl
theorem m_(h:∀ y∈scope.names,y.2=.free->∃ c,env.cells.lookup y.1=some c):closureFor scope env=pure (oi env scope.names []):=by
 have:=iB env scope.names [] h
 unfold closureFor
 rw[<- bind_pure (forIn scope.names [] _)] at this
 exact this
theorem nY:∀ {names:List (Str × NameKind)} {cs:List (Str × Addr)},(∀ y∈names,y.2=.free->∃ c,env.cells.lookup y.1=some c)->(∀ y d,cs.lookup y=some d->env.cells.lookup y=some d) ->
  (oi env names cs).lookup x=some c->env.cells.lookup x=some c
 |[],cs,_,h,e=>h x c e
 | (n,k) :: r,cs,hf,h,e=>by
  refine nY (names:=r) (fun y hy=>hf y (b5 _ hy)) ?_ e
  intro y d hd
  by_cases hk:k=.free
  ·subst hk
   obtain⟨c',e'⟩:=hf (n,.free) bX rfl
   have e':env.cells.lookup n=some c':=e'
   simp only[beq_self_eq_true,if_true,e',Option.getD_some,yA] at hd
   cases hb:y == n with
   |true=>rw[hb] at hd;have:y=n:=eq_of_beq hb;subst this;rw[e'];exact hd
   |false=>rw[hb] at hd;exact h y d hd
  ·have hb:(k == NameKind.free)=false:=by simpa using hk
   simp only[hb,gE,if_false] at hd
   exact h y d hd
theorem kW:∀ {names:List (Str × NameKind)} {cs:List (Str × Addr)},((x,NameKind.free)∈names\/∃ c,cs.lookup x=some c)->∃ c,(oi env names cs).lookup x=some c
 |[],cs,h=>by
  rcases h with h|h
  ·exact nomatch h
  ·exact h
 | (n,k) :: r,cs,h=>by
  refine kW (names:=r) ?_
  rcases h with h|⟨c,h⟩
  ·rcases cy.mp h with e|h
   ·cases e
    refine .inr ⟨(env.cells.lookup x).getD 0,?_⟩
    simp only[beq_self_eq_true,if_true,yA]
   ·exact .inl h
  ·refine .inr ?_
   by_cases hk:(k == NameKind.free)=true
   ·simp only[hk,if_true,yA]
    cases hb:x == n with
    |true=>exact⟨_,rfl⟩
    |false=>exact⟨c,h⟩
   ·simp only[hk,if_false]
    exact⟨c,h⟩
def bQ(X:Cx)(scope:Scope)(C:Addr)(N:List Str)(fp:List Addr)(ck:Shared)(cw:Hp):Cx :=
 { X with N:=N,iX:=ck,GP:=cw,env:=compEnvC scope (oi X.env scope.names []) C X.env,outer:=X.stack,stack:=X.stack,ex:=fp,fn:=fun _=>false,pn:=[],xe:=fun _ _=>False }
def wa(X:Cx)(ifs:List Expr)(t:TT):Prop :=
 ∀ (pins:List (Addr × Obj)) (s:Shared) (σ:St) (H:Hp) (Q:Bool->Hp->Prop),Inv X pins σ H s->t σ H Q ->
  wpAny (model X.prog X.w) X.A (forIn ifs true fun c r=>if r=true then do let ok <- isTrue c X.env (eval c X.env);pure (ForInStep.yield ok) else pure (ForInStep.yield r)) (TP X pins σ Q) X.xe s
def bj':TT:=fun _ H Q=>Q true H
theorem CT{X:Cx}:wa X [] bj':=fun _ _ _ H _ I h=>wpAny_tests_nil ⟨H,I,h⟩
theorem Ca{X:Cx}(h:PT X c t):wa X [c] t:=fun pins s σ H Q I hw=>wpAny_tests_one (h pins s σ H Q I hw)
theorem gn{R:Result->Shared->Prop}(I:Nat->Shared->Prop)(E:Value->Shared->Prop)
  (turn:∀ n s,I n s->wpAny (model prog w) A (pyNext it) (fun r eC=>match r with
   |none=>R (.ok .next) eC
   |some v=>wpAny (model prog w) A (letOwnedTupleGo target it v) (fun _ iX=>wpAny (model prog w) A (assign target env v) (fun _ EI =>
     wpAny (model prog w) A (forIn ifs true fun c r=>if r=true then do let ok <- isTrue c env (eval c env);pure (ForInStep.yield ok) else pure (ForInStep.yield r)) (fun ok ck =>
      if ok=true then wpAny (model prog w) A (eval elt env) (fun x V1 =>
       wpAny (model prog w) A (call (.builtin "list.append") [acc,x]) (fun _ V2=>∃ m,m<n/\I m V2) E V1) E ck
      else ∃ m,m<n/\I m ck) E EI) E iX) E eC) E s)
  (hE:∀ e s',E e s'->notedBy (model prog w) A env (fun e s'=>R (.error e) s') e s')
  (n:Nat) (h:I n s) :
  codeAny (model prog w) A (.compLoop (.ListComp elt [⟨target,iter,ifs,0⟩] scope pos) 0 it acc env) R s:=by
 refine codeAny_loop rfl I (fun n s hI=>?_) n h
 show wpAny _ A ((compTurn (.ListComp elt [⟨target,iter,ifs,0⟩] scope pos) 0 it acc env).onRaise (fun x=>do noteFrame x env;theTreesLotGoes x)) _ _ s
 refine wpAny_noted ?_
 rw[compTurn_list]
 refine sL (Q:=_) (E:=E) ?_ (fun _ _ q=>q) hE
 refine ah (wpAny_standAt (ah (sL (turn n s hI) (fun r eC PJ=>?_) fun _ _ h'=>h')))
 cases r with
 |none=>exact ay PJ
 |some v =>
  refine ah (sL PJ (fun _ iX h₀=>?_) fun _ _ h'=>h')
  refine ah (sL h₀ (fun _ EI bk'=>ah (sL bk' (fun ok ck V3=>?_) fun _ _ h'=>h')) fun _ _ h'=>h')
  cases ok with
  |false=>exact ay ⟨rfl,V3⟩
  |true =>
   exact ah (ah (sL V3 (fun x V1 bl'=>ah (sL bl' (fun _ V2 bm'=>ay (ay ⟨rfl,bm'⟩)) fun _ _ h'=>h')) fun _ _ h'=>h'))
def lH(tn:Nat)(ix:List Nat)(σ:St):St:=List.replicate tn none++ix.map fun j=>(σ[j]?).join
def p_(wi:TI)(g:TG)(tc:TT)(te:TE)(tn:Nat)(ix:List Nat):TE:=fun σ H Q=>wi σ H fun J H1=>∀ D,H1 D=none ->
 ∃ W:Nat->Nat->St->Hp->Prop,(∃ m,W 0 m (lH tn ix σ) (upd H1 D (.lst [])))/\∀ i m τ H,W i m τ H ->
  (J.stop i H/\Q (.ref D) H)\/(J.go i H/\∃ (N1:St->V->Hp->Prop) (N2:St->Hp->Prop),
   (∀ ly v H4,N1 ly v H4->∃ ys m',H4 D=some (.lst ys)/\ys.length<sizeLine/\m'<m/\W (i+1) m' ly (upd H4 D (.lst (ys++[v])))) /\
   (∀ ly H3,N2 ly H3->∃ m',m'<m/\W (i+1) m' ly H3) /\
   ∀ x H',J.nh i H x H'->g x τ H' fun ly H2=>tc ly H2 fun b H3=>if b=true then te ly H3 (N1 ly) else N2 ly H3)
section
variable {X:Cx}{scope:Scope}{tn cn:List Str}{ix:List Nat}
structure aO(X:Cx)(scope:Scope)(tn cn:List Str)(ix:List Nat):Prop where
 kind:scope.kind=.function
 R_:∀ y∈scope.names,y.2≠.cell
 free:∀ y∈scope.names,y.2=.free->X.env.scope.names.lookup y.1=some .cell\/X.env.scope.names.lookup y.1=some .free
 names:∀ y∈scope.names,y.2=.local->scope.names.lookup y.1=some .local
 len:ix.length=cn.length
 cap:∀ (k j:Nat),ix[k]? = some j->∃ y,cn[k]? = some y/\X.N[j]? = some y/\(X.env.scope.names.lookup y=some .cell\/X.env.scope.names.lookup y=some .free)/\(y,NameKind.free)∈scope.names /\
  ((relabel scope X.env).names.lookup y=some .cell\/(relabel scope X.env).names.lookup y=some .free)
 all:∀ x,(relabel scope X.env).names.lookup x=some .cell\/(relabel scope X.env).names.lookup x=some .free->(x,NameKind.free)∈scope.names
end
def MZ(scope:Scope)(env:Env)(C:Addr):List (Str × Addr):=cellsFrom (C+1) scope.names (oi env scope.names [])
theorem yH:∀ (names:List (Str × NameKind)) (n:Nat) (acc:List (Str × Addr)),(∀ y c,acc.lookup y=some c->c<n)->(∀ x y c,acc.lookup x=some c->acc.lookup y=some c->x=y) ->
  ∀ x y c,(cellsFrom n names acc).lookup x=some c->(cellsFrom n names acc).lookup y=some c->x=y
 |[],_,_,_,hi,x,y,c,h1,h2=>hi x y c h1 h2
 | (nm,k) :: r,n,acc,hb,hi,x,y,c,h1,h2=>by
  unfold cellsFrom at h1 h2
  split at h1
  ·rename_i hk
   rw[if_pos hk] at h2
   refine yH r (n+1) ((nm,n) :: acc) (fun y c e=>?_) (fun x y c e1 e2=>?_) x y c h1 h2
   ·rw[yA] at e
    cases hq:y == nm with
    |true=>rw[hq] at e;cases e;exact Nat.lt_succ_self _
    |false=>rw[hq] at e;exact qE (hb y c e)
   ·rw[yA] at e1 e2
    cases hq:x == nm with
    |true =>
     rw[hq] at e1;cases e1
     cases hz:y == nm with
     |true=>rw[eq_of_beq hq,eq_of_beq hz]
     |false=>rw[hz] at e2;exact absurd (hb y _ e2) (pf _)
    |false =>
     rw[hq] at e1
     cases hz:y == nm with
     |true=>rw[hz] at e2;cases e2;exact absurd (hb x _ e1) (pf _)
     |false=>rw[hz] at e2;exact hi x y c e1 e2
  ·rename_i hk
   rw[if_neg hk] at h2
   exact yH r n acc hb hi x y c h1 h2
theorem uO:∀ (names:List (Str × NameKind)) (n:Nat) (acc:List (Str × Addr)) (x:Str),(x,NameKind.cell)∉names->(cellsFrom n names acc).lookup x=acc.lookup x
 |[],_,_,_,_=>rfl
 | (nm,k) :: r,n,acc,x,h=>by
  unfold cellsFrom
  have hr:(x,NameKind.cell)∉r:=fun z=>h (b5 _ z)
  split
  ·rename_i hk
   rw[uO r _ _ x hr,yA]
   have:(x == nm)=false:=by
    cases hq:x == nm with
    |false=>rfl
    |true=>exact absurd (by rw[eq_of_beq hq,<- eq_of_beq hk];exact bX) h
   rw[this]
  ·exact uO r n acc x hr
theorem Aa:∀ (names:List (Str × NameKind)) (n:Nat) (acc:List (Str × Addr)) (x:Str) (c:Addr),(cellsFrom n names acc).lookup x=some c->n<=c\/acc.lookup x=some c
 |[],_,_,_,_,h=>.inr h
 | (nm,k) :: r,n,acc,x,c,h=>by
  unfold cellsFrom at h
  split at h
  ·rcases Aa r (n+1) _ x c h with z|z
   ·exact .inl (by lia)
   ·rw[yA] at z
    cases hq:x == nm with
    |true=>rw[hq] at z;cases z;exact .inl (bT _)
    |false=>rw[hq] at z;exact .inr z
  ·exact Aa r n acc x c h
theorem rO:∀ (names:List (Str × NameKind)) (n:Nat) (acc:List (Str × Addr)) (x:Str),(∃ c,acc.lookup x=some c)->∃ c,(cellsFrom n names acc).lookup x=some c
 |[],_,_,_,h=>h
 | (nm,k) :: r,n,acc,x,⟨c,h⟩=>by
  unfold cellsFrom
  split
  ·refine rO r (n+1) _ x ?_
   rw[yA]
   cases hq:x == nm with
   |true=>exact⟨_,rfl⟩
   |false=>exact⟨c,h⟩
  ·exact rO r n acc x ⟨c,h⟩
theorem uJ:∀ (names:List (Str × NameKind)) (n:Nat) (acc:List (Str × Addr)) (x:Str),(x,NameKind.cell)∈names->∃ c,(cellsFrom n names acc).lookup x=some c/\n<=c
 |[],_,_,_,h=>nomatch h
 | (nm,k) :: r,n,acc,x,h=>by
  unfold cellsFrom
  by_cases hr:(x,NameKind.cell)∈r
  ·split
   ·obtain⟨c,e,z⟩:=uJ r (n+1) ((nm,n) :: acc) x hr
    exact⟨c,e,by lia⟩
   ·exact uJ r n acc x hr
  ·rcases cy.mp h with e|z
   ·cases e
    rw[if_pos (by rfl),uO r _ _ _ hr]
    exact⟨n,by simp[yA],bT _⟩
   ·exact absurd z hr
theorem j_:∀ (names:List (Str × NameKind)) (h:Heap) (acc:List (Str × Addr)),(∀ x c,acc.lookup x=some c->∃ v,h.IsCell c v)->∀ x c,(cellsFrom h.objs.size names acc).lookup x=some c->∃ v,(pushCells h names).IsCell c v
 |[],_,_,hc,x,c,e=>hc x c e
 | (nm,k) :: r,h,acc,hc,x,c,e=>by
  unfold pushCells
  unfold cellsFrom at e
  split at e
  ·rename_i hk
   rw[if_pos hk]
   refine j_ r (h.push { cls:=.type "cell",data:=.cell none }) ((nm,h.objs.size) :: acc) (fun y d z=>?_) x c (by rw[FV];exact e)
   rw[yA] at z
   cases hq:y == nm with
   |true=>rw[hq] at z;cases z;exact⟨none,_,i9 _ rfl,rfl⟩
   |false =>
    rw[hq] at z
    obtain⟨v,o,ho,hd⟩:=hc y d z
    exact⟨v,o,eR _ ho,hd⟩
  ·rename_i hk
   rw[if_neg hk]
   exact j_ r h acc hc x c e
theorem dF
  (hc:∀ x c,cl.lookup x=some c->∃ v,s.heap.IsCell c v)
  (hQ:∀ h',h'.Ns s.heap.objs.size (fun _=>none)->(∀ b o,s.heap.get? b=some o->h'.get? b=some o)->(∀ x c,(cellsFrom (s.heap.objs.size+1) scope.names cl).lookup x=some c->∃ v,h'.IsCell c v) ->
   Q (newEnv scope s.heap.objs.size globals (cellsFrom (s.heap.objs.size+1) scope.names cl) qual none .none (some env) builtinsNs) { s with heap:=h' }) :
  wpAny M A (newFunctionEnv scope globals cl [] qual none .none (some env)) Q E s:=by
 simp only[newFunctionEnv,Option.isSome_some,if_true]
 refine ah (wpAny_alloc ?_)
 refine ah (wpAny_layCells _ (fun name kind cells=>by cases hkc:kind == NameKind.cell<;>simp[hkc]) _ _ _ _ ?_)
 rw[show({ s with heap:=s.heap.push { cls:=.type "dict",data:=.dict #[] } }:Shared).heap.objs.size=s.heap.objs.size+1 from FV ..]
 refine ah ?_
 rw[List.forIn_nil]
 refine ay (ay (hQ _ ((Heap.Ns.new s.heap (.type "dict")).keeps (pushCells_keeps _ _)) (fun b o e=>pushCells_keeps _ _ b o (eR _ e)) fun x c e=>?_))
 refine j_ scope.names (s.heap.push { cls:=.type "dict",data:=.dict #[] }) cl (fun y d z=>?_) x c (by rw[FV];exact e)
 obtain⟨v,o,ho,hd⟩:=hc y d z
 exact⟨v,o,eR _ ho,hd⟩
def aJ(X:Cx)(scope:Scope)(C:Addr)(N:List Str)(fp:List Addr)(ck:Shared)(cw:Hp):Cx :=
 { X with N:=N,iX:=ck,GP:=cw,env:=compEnvC scope (MZ scope X.env C) C X.env,outer:=X.stack,stack:=X.stack,ex:=fp,fn:=fun x=>scope.names.lookup x == some .cell,pn:=[],xe:=fun _ _=>False }
section
variable {X:Cx}{tg iter elt:Expr}{ifs:List Expr}{scope:Scope}{pos:Pos}{wi:TI}{g:TG}{tc:TT}{te:TE}{tn cn:List Str}{ix:List Nat}
structure e_(X:Cx)(scope:Scope)(tn cn:List Str)(ix:List Nat):Prop where
 kind:scope.kind=.function
 free:∀ y∈scope.names,y.2=.free->X.env.scope.names.lookup y.1=some .cell\/X.env.scope.names.lookup y.1=some .free
 names:∀ y∈scope.names,y.2=.local->scope.names.lookup y.1=some .local
 len:ix.length=cn.length
 cap:∀ (k j:Nat),ix[k]? = some j->∃ y,cn[k]? = some y/\X.N[j]? = some y/\(X.env.scope.names.lookup y=some .cell\/X.env.scope.names.lookup y=some .free)/\(y,NameKind.free)∈scope.names /\
  ((relabel scope X.env).names.lookup y=some .cell\/(relabel scope X.env).names.lookup y=some .free)/\(y,NameKind.cell)∉scope.names
 all:∀ x,(relabel scope X.env).names.lookup x=some .cell\/(relabel scope X.env).names.lookup x=some .free->(x,NameKind.free)∈scope.names\/(x,NameKind.cell)∈scope.names
theorem uX(O:e_ X scope tn cn ix)(I:Inv X pins σ H s)(hf:∀ b∈fp,xB X pins H b)(PK:∀ b∈fp,b<s.heap.objs.size)(hC:s.heap.objs.size<=C) :
  (aJ X scope C (tn++cn) fp s H).Ok:=by
 have pE:∀ y∈scope.names,y.2=.free->∃ c,X.env.cells.lookup y.1=some c:=fun y hy hk=>I.ok.has y.1 (O.free y hy hk)
 have sub:∀ x c,(oi X.env scope.names []).lookup x=some c->X.env.cells.lookup x=some c:=fun x c e=>nY pE (fun y d h=>by simp at h) e
 have clt:∀ x c,(oi X.env scope.names []).lookup x=some c->c<C+1:=fun x c e=>by
  obtain⟨v,hv⟩:=I.cell x c (sub x c e)
  exact qE (kX hv.lt hC)
 refine⟨I.ok.mod,O.kind,I.ok.glob,I.ok.blt,hC,yH _ _ _ clt fun x y c h1 h2=>I.ok.inj x y c (sub x c h1) (sub y c h2),fun x hx=>?_,fun x c h e=>?_,I.ok.hd,I.ok.frames,.inl rfl,fun b hb=>⟨?_,fun x c e=>?_⟩,
  I.bs,gx I.ok.Ct I.sz,fun b o e hb=>?_,fun b hb=>?_,I.stack,I.UQ⟩
 ·rcases O.all x hx with z|z
  ·exact rO _ _ _ _ (kW (.inl z))
  ·obtain⟨c,e,_⟩:=uJ scope.names (C+1) (oi X.env scope.names []) x z
   exact⟨c,e⟩
 ·have h:scope.names.lookup x=some .cell:=eq_of_beq h
  obtain⟨c',e',z⟩:=uJ scope.names (C+1) (oi X.env scope.names []) x (PySem.mem_of_lookup h)
  have e:(MZ scope X.env C).lookup x=some c:=e
  unfold MZ at e
  rw[e'] at e
  cases e
  exact gx hC (Ra z)
 ·exact fw (kX (PK b hb) hC)
 ·rcases Aa _ _ _ _ _ e with z|z
  ·exact GA (kX (PK b hb) (gx hC (Ra z)))
  ·exact(hf b hb).2.2.2.2.1 x c (sub x c z)
 ·rcases (hf b hb).2.2.2.1 with z|z
  ·exact I.ok.L4 b o e z
  ·exact absurd (kX (dS e) (gx I.ok.Ct z)) (pf _)
 ·intro hz
  rcases cy.mp (I.Rn b hz) with e|e
  ·exact(hf b hb).2.1 e
  ·exact(hf b hb).2.2.1 e
theorem qy{P:Value->Shared->Prop}(hc:X.calm=true)(hi:PI X tg iter wi)(O:e_ X scope tn cn ix)
  (hg:∀ C fp ck cw,PG (aJ X scope C (tn++cn) fp ck cw) tg g) (jI:∀ C fp ck cw,wa (aJ X scope C (tn++cn) fp ck cw) ifs tc) (he:∀ C fp ck cw,PE (aJ X scope C (tn++cn) fp ck cw) elt te)
  (hs:∀ x,foldedSetIterable iter X.env x=pure x) (I:Inv X pins σ H s) (h:p_ wi g tc te tn.length ix σ H Q)
  (fin:∀ (C D:Addr) (m:Str->Option Value) (H5:Hp) (s6:Shared) (r:Flow),Inv X pins σ H5 s6->s6.heap.Ns C m->H5 C=none->xB X pins H5 C->Q (.ref D) H5->compPost (model X.prog X.w) X.A X.xe use P (.ref D) C (.ok r) s6) :
  wpAny (model X.prog X.w) X.A (comprehension (.ListComp elt [⟨tg,iter,ifs,0⟩] scope pos) scope X.env V4 (newList []) false (eval iter X.env) use) P X.xe s:=by
 have pE:∀ y∈scope.names,y.2=.free->∃ c,X.env.cells.lookup y.1=some c:=fun y hy hk=>I.ok.has y.1 (O.free y hy hk)
 have sub:∀ x c,(oi X.env scope.names []).lookup x=some c->X.env.cells.lookup x=some c:=fun x c e=>nY pE (fun y d h=>by simp at h) e
 refine wpAny_comprehension_free (use:=use) rfl hs (m_ pE) O.kind O.names (cq (hi pins s σ H _ I h) fun v s1 h1=>cq h1 fun Ry s2 h2=>?_)
 obtain⟨it,fp,PL,J,H2,e,I2,T,vE,f2,h2⟩:=h2
 subst e
 obtain⟨W,⟨m0,w0⟩,turn⟩:=h2 s2.heap.objs.size (I2.bq.fresh (bT _))
 refine wpAny_newObj_type ?_
 have I3:Inv X pins σ (upd H2 s2.heap.objs.size (.lst [])) { s2 with heap:=s2.heap.push { cls:=.type "list",data:=.seq ([]:List Value).toArray } }:=I2.R0 (its:=[]) (t':=s2.toks) .nil (eh _)
 generalize hD:s2.heap.objs.size=D at *
 generalize PN:({ s2 with heap:=s2.heap.push { cls:=.type "list",data:=.seq ([]:List Value).toArray } }:Shared)=s3 at *
 have k23:∀ b o,s2.heap.get? b=some o->s3.heap.get? b=some o:=fun b o e=>by rw[<- PN];exact eR _ e
 have sz3:s3.heap.objs.size=D+1:=by rw[<- PN,<- hD];exact FV ..
 have f3:∀ b∈fp,xB X pins (upd H2 D (.lst [])) b:=fun b hb=>by
  obtain⟨f0,fr⟩:=f2 b hb
  obtain⟨o,ho,_⟩:=T.obj _ _ vE b hb
  refine⟨?_,fr⟩
  rw[fm (fw (by rw[<- hD];exact dS ho))]
  exact f0
 have vF:PL 0 s3.heap:=T.keep _ _ _ vE fun b hb o e=>k23 b o e
 have lt3:∀ b∈fp,b<s3.heap.objs.size:=fun b hb=>by
  obtain⟨o,ho,_⟩:=T.obj _ _ vF b hb
  exact dS ho
 refine dF (fun x c e=>I3.cell x c (sub x c e)) (fun PJ br' HL Sb=>?_)
 -- the block's context
 have PQ:=uX (C:=s3.heap.objs.size) O I3 f3 lt3 (bT _)
 have I4:Inv (aJ X scope s3.heap.objs.size (tn++cn) fp s3 (upd H2 D (.lst []))) [] (lH tn.length ix σ) (upd H2 D (.lst [])) { s3 with heap:=PJ }:=by
  refine⟨PQ,rfl,I3.bare,Un.kept HL,⟨_,br',fun i x v e1 e2 e3=>?_⟩,fun x c e=>?_,I3.bq.fresh (bT _),fun x c e=>(Aa _ _ _ _ _ e).elim (fun z=>I3.bq.fresh (Ra z)) fun z=>I3.xv x c (sub x c z),fun p hp=>absurd hp (by simp[aJ]),I3.bq.kept HL,?_⟩
  ·have gI:tn.length<=i:=by
    by_cases q:i<tn.length
    ·unfold lH at e2
     rw[BQ (by simpa using q),List.getElem?_replicate] at e2
     simp[q] at e2
    ·lia
   unfold lH at e2
   rw[w_ (by simpa using gI),List.length_replicate,nc] at e2
   have e1:(tn++cn)[i]? = some x:=e1
   rw[w_ gI] at e1
   cases q:ix[i-tn.length]? with
   |none=>rw[q] at e2;cases e2
   |some j =>
    rw[q] at e2
    obtain⟨y,c1,c2,c3,c4,c5,c6⟩:=O.cap _ _ q
    rw[c1] at e1;cases e1
    have e2:σ[j]?.join=some v:=Option.some.inj e2
    have ej:σ[j]? = some (some v):=by
     cases z:σ[j]? with
     |none=>rw[z] at e2;cases e2
     |some o=>rw[z] at e2;exact congrArg some e2
    obtain⟨m,hn,hl⟩:=I3.loc
    obtain⟨u,r,l⟩:=hl j x v c2 ej (c3.elim (fun z=>.inr (.inl z)) fun z=>.inr (.inr z))
    refine⟨u,r,.inr ⟨c5,?_⟩⟩
    rcases l with⟨hk,_⟩|⟨hk,c,GV,Sb⟩
    ·have hk:X.env.scope.names.lookup x=some .local:=hk
     rcases c3 with z|z
     ·rw[z] at hk;cases hk
     ·rw[z] at hk;cases hk
    ·obtain⟨c',xA⟩:=kW (env:=X.env) (cs:=[]) (Or.inl c4)
     have:=sub x c' xA
     rw[GV] at this;cases this
     obtain⟨o,ho,hd⟩:=Sb
     exact⟨c,(uO _ _ _ _ c6).trans xA,o,HL _ _ ho,hd⟩
  ·exact Sb x c e
  ·show(lH tn.length ix σ).length=(tn++cn).length
   unfold lH
   simp[O.len]
 -- from the block back to the body
 have back:∀ {τ:St} {H':Hp} {s':Shared},Inv (aJ X scope s3.heap.objs.size (tn++cn) fp s3 (upd H2 D (.lst []))) [] τ H' s'->Inv X pins σ H' s':=fun {τ H' s'} I' =>
  Inv.Yn (ch:=fp) I3 I'.os I'.base I'.bq I'.bare fun b hb=>by
   obtain⟨_,f1,_,f3',f4,f5⟩:=f3 b hb
   exact⟨f3',f1,f4,f5⟩
 have Sd:∀ {H':Hp},(∀ b∈fp,H' b=none)->∀ b∈fp,xB (aJ X scope s3.heap.objs.size (tn++cn) fp s3 (upd H2 D (.lst []))) [] H' b:=fun hn b hb =>
  ⟨hn b hb,(PQ.O_ b hb).1,PQ.L5 b hb,.inl hb,(PQ.O_ b hb).2,fun p hp=>absurd hp (by simp[aJ])⟩
 have loop:∀ s4:Shared,Inv (aJ X scope s3.heap.objs.size (tn++cn) fp s3 (upd H2 D (.lst []))) [] (lH tn.length ix σ) (upd H2 D (.lst [])) s4->PL 0 s4.heap ->
   codeAny (model X.prog X.w) X.A (.compLoop (.ListComp elt [⟨tg,iter,ifs,0⟩] scope pos) 0 (.ref it) (.ref D) (compEnvC scope (MZ scope X.env s3.heap.objs.size) s3.heap.objs.size X.env))
    (compPost (model X.prog X.w) X.A X.xe use P (.ref D) s3.heap.objs.size) s4:=by
  intro s4 I4 tP
  refine gn (fun n s'=>∃ i τ H',Inv (aJ X scope s3.heap.objs.size (tn++cn) fp s3 (upd H2 D (.lst []))) [] τ H' s'/\PL i s'.heap/\(∀ b∈fp,H' b=none)/\W i n τ H') (fun _ _=>False) ?_ (fun _ _ z=>z.elim) m0
   ⟨0,_,_,I4,tP,fun b hb=>(f3 b hb).1,w0⟩
  rintro n s5 ⟨i,τ,H5,I5,EH,Pl,w5⟩
  rcases turn i n τ H5 w5 with⟨stop,qn⟩|⟨go,N1,N2,hN1,ox,step⟩
  ·refine cq (T.done (aJ X scope s3.heap.objs.size (tn++cn) fp s3 (upd H2 D (.lst []))) rfl rfl rfl hc i [] s5 τ H5 (fun _ _=>False) I5 (Sd Pl) EH stop) fun r s6 cK=>?_
   obtain⟨hr,I6⟩:=cK
   subst hr
   have J6:=back I6
   obtain⟨m,hn,_⟩:=I6.loc
   exact fin _ D m H5 s6 _ J6 hn I6.free (I3.Rx (b:=s3.heap.objs.size) (H':=H5) (bT _) I6.free) qn
  ·refine cq (T.item (aJ X scope s3.heap.objs.size (tn++cn) fp s3 (upd H2 D (.lst []))) rfl rfl rfl hc i [] s5 τ H5 (fun _ _=>False) I5 (Sd Pl) EH go) fun r s6 cK=>?_
   obtain⟨u,hr,h6⟩:=cK
   subst hr
   refine cq h6 fun _ s7 cK=>?_
   obtain⟨x,H7,I7,r7,y7,Se,fr7⟩:=cK
   have I7':=I7.pinned (Sd fr7) (T.obj _ _ Se)
   refine cq (hg _ _ _ _ _ s7 τ H7 x u _ I7' r7 (step x H7 y7)) fun _ s8 cK=>?_
   obtain⟨HM,H8,I8,q8⟩:=cK
   refine cq (jI _ _ _ _ _ s8 HM H8 _ I8 q8) fun ok s9 cK=>?_
   obtain⟨H9,I9,q9⟩:=cK
   have again:∀ {s':Shared} {H':Hp} {m':Nat},Inv (aJ X scope s3.heap.objs.size (tn++cn) fp s3 (upd H2 D (.lst []))) ([]++L9 fp s7.heap) HM H' s'->m'<n->W (i+1) m' HM H' ->
     ∃ m,m<n/\∃ i τ H',Inv (aJ X scope s3.heap.objs.size (tn++cn) fp s3 (upd H2 D (.lst []))) [] τ H' s'/\PL i s'.heap/\(∀ b∈fp,H' b=none)/\W i m τ H':=fun {s' H' m'} J hm w'=>by
    refine⟨m',hm,i+1,HM,H',J.Pk,T.keep _ _ _ Se fun b hb o e=>(J.pin (b,o) (fz _ (fz _ (Pj hb e)))).1,fun b hb=>?_,w'⟩
    obtain⟨o,e,d⟩:=T.obj _ _ Se b hb
    exact(J.pin (b,o) (fz _ (fz _ (Pj hb e)))).2.1
   cases ok with
   |false =>
    rw[if_neg gy] at q9 ⊢
    obtain⟨m',hm,w'⟩:=ox _ _ q9
    exact again I9 hm w'
   |true =>
    rw[if_pos rfl] at q9 ⊢
    refine cq (he _ _ _ _ _ s9 HM H9 _ I9 q9) fun x9 s10 cv=>L2.fP cv fun v10 V5 I10 Sf q10=>?_
    obtain⟨ys,m',hH,hz,hm,w'⟩:=hN1 _ _ _ q10
    refine cq (R1 _ s10 HM V5 (.ref D) [v10] (.ref D) [x9] (fun _ H'=>H'=upd V5 D (.lst (ys++[v10]))) I10 rfl (.cons Sf .nil) ⟨D,ys,v10,rfl,rfl,hH,hz,rfl⟩) fun _ s11 cv=>L2.fP cv fun _ H11 I11 _ q11=>?_
    subst q11
    exact again I11 hm w'
 exact codeAny_compStart_list (loop _ I4 (T.keep _ _ _ vF fun b hb o e=>HL b o e)) (T.self _ 0 _ _ _ (T.keep _ _ _ vF fun b hb o e=>HL b o e) (loop _ I4 (T.keep _ _ _ vF fun b hb o e=>HL b o e)))
theorem t_(hc:X.calm=true)(hi:PI X tg iter wi)(O:e_ X scope tn cn ix)
  (hg:∀ C fp ck cw,PG (aJ X scope C (tn++cn) fp ck cw) tg g) (jI:∀ C fp ck cw,wa (aJ X scope C (tn++cn) fp ck cw) ifs tc) (he:∀ C fp ck cw,PE (aJ X scope C (tn++cn) fp ck cw) elt te)
  (hs:∀ x,foldedSetIterable iter X.env x=pure x:=by intro _;rfl):PE X (.ListComp elt [⟨tg,iter,ifs,0⟩] scope pos) (p_ wi g tc te tn.length ix):=by
 intro pins s σ H Q I h
 rw[eval_ListComp]
 refine qy (use:=none) (P:=EP X pins σ Q) hc hi O hg jI he hs I h fun C D m H5 s6 r J6 hn hf ⟨_,g1,_,g3,g4,g5⟩ qn=>⟨m,hn,fun h' PR=>⟨.ref D,H5,?_,rfl,qn⟩⟩
 exact J6.turned (t':=s6.toks) (fun b o hb e=>PR.extBut b o hb e) hf g1 g3 g4 g5
theorem xm:∀ (names:List (Str × NameKind)) (n:Nat) (acc:List (Str × Addr)),(∀ y∈names,y.2≠.cell)->cellsFrom n names acc=acc
 |[],_,_,_=>rfl
 | (nm,k) :: r,n,acc,h=>by
  unfold cellsFrom
  rw[if_neg fun z=>h (nm,k) bX (eq_of_beq z)]
  exact xm r n acc fun y hy=>h y (b5 _ hy)
theorem lU(O:aO X scope tn cn ix)(C:Addr)(N:List Str)(fp:List Addr)(s:Shared)(H:Hp):aJ X scope C N fp s H=bQ X scope C N fp s H:=by
 unfold aJ bQ MZ
 rw[xm _ _ _ O.R_]
 have:(fun x=>scope.names.lookup x == some NameKind.cell)=fun _=>false:=by
  funext x
  cases e:scope.names.lookup x with
  |none=>rfl
  |some k =>
   have:=O.R_ _ (PySem.mem_of_lookup e)
   cases k<;>simp_all
 rw[this]
theorem tM(O:aO X scope tn cn ix):e_ X scope tn cn ix :=
 ⟨O.kind,O.free,O.names,O.len,fun k j h=>by
  obtain⟨y,a,b,c,d,e⟩:=O.cap k j h
  exact⟨y,a,b,c,d,e,fun z=>O.R_ _ z rfl⟩,fun x h=>.inl (O.all x h)⟩
theorem Ak{V4:Pos}{use:Option (Value->Sem Unit)}{P:Value->Shared->Prop}(hc:X.calm=true)(hi:PI X tg iter wi)(O:aO X scope tn cn ix)
  (hg:∀ C fp ck cw,PG (bQ X scope C (tn++cn) fp ck cw) tg g) (jI:∀ C fp ck cw,wa (bQ X scope C (tn++cn) fp ck cw) ifs tc) (he:∀ C fp ck cw,PE (bQ X scope C (tn++cn) fp ck cw) elt te)
  (hs:∀ x,foldedSetIterable iter X.env x=pure x) {pins:List (Addr × Obj)} {s:Shared} {σ:St} {H:Hp} {Q:V->Hp->Prop} (I:Inv X pins σ H s) (h:p_ wi g tc te tn.length ix σ H Q)
  (fin:∀ (C D:Addr) (m:Str->Option Value) (H5:Hp) (s6:Shared) (r:Flow),Inv X pins σ H5 s6->s6.heap.Ns C m->H5 C=none->xB X pins H5 C->Q (.ref D) H5->compPost (model X.prog X.w) X.A X.xe use P (.ref D) C (.ok r) s6) :
  wpAny (model X.prog X.w) X.A (comprehension (.ListComp elt [⟨tg,iter,ifs,0⟩] scope pos) scope X.env V4 (newList []) false (eval iter X.env) use) P X.xe s :=
 qy hc hi (tM O) (fun C fp ck cw=>by rw[lU O];exact hg C fp ck cw) (fun C fp ck cw=>by rw[lU O];exact jI C fp ck cw) (fun C fp ck cw=>by rw[lU O];exact he C fp ck cw) hs I h fin
theorem xT(hc:X.calm=true)(hi:PI X tg iter wi)(O:aO X scope tn cn ix)
  (hg:∀ C fp ck cw,PG (bQ X scope C (tn++cn) fp ck cw) tg g) (jI:∀ C fp ck cw,wa (bQ X scope C (tn++cn) fp ck cw) ifs tc) (he:∀ C fp ck cw,PE (bQ X scope C (tn++cn) fp ck cw) elt te)
  (hs:∀ x,foldedSetIterable iter X.env x=pure x:=by intro _;rfl):PE X (.ListComp elt [⟨tg,iter,ifs,0⟩] scope pos) (p_ wi g tc te tn.length ix) :=
 t_ hc hi (tM O) (fun C fp ck cw=>by rw[lU O];exact hg C fp ck cw) (fun C fp ck cw=>by rw[lU O];exact jI C fp ck cw) (fun C fp ck cw=>by rw[lU O];exact he C fp ck cw) hs
theorem vq(hN:X.N.Nodup)(sf:X.N[i]? = some x)(hx:Loc X.env.scope x)(hc:X.calm=true)(hi:PI X tg iter wi)(O:aO X scope tn cn ix)
  (hg:∀ C fp ck cw,PG (bQ X scope C (tn++cn) fp ck cw) tg g) (jI:∀ C fp ck cw,wa (bQ X scope C (tn++cn) fp ck cw) ifs tc) (he:∀ C fp ck cw,PE (bQ X scope C (tn++cn) fp ck cw) elt te)
  (Sg:swapsWith (.ListComp elt [⟨tg,iter,ifs,0⟩] scope pos) (some (.Name x pos')) Sh.line X.env=pure true)
  (hs:∀ x,foldedSetIterable iter X.env x=pure x:=by intro _;rfl) (hf:X.fn x=true\/X.env.scope.names.lookup x=some .local:=by first|exact .inl rfl|exact .inr rfl|assumption) :
  PS X (.Assign [.Name x pos'] (.ListComp elt [⟨tg,iter,ifs,0⟩] scope pos) Sh) (Rv (p_ wi g tc te tn.length ix) (Rr i)):=by
 intro pins s σ H D0 I h
 rw[exec_Assign_Name_used _ _ _ _ Sg]
 refine ah (wpAny_standAt (ah ?_))
 show wpAny _ _ (do let _ <- comprehension (.ListComp elt [⟨tg,iter,ifs,0⟩] scope pos) scope X.env _ (newList []) false (eval iter X.env) (some (assign (.Name x pos') X.env))) _ _ s
 refine ah (sL (Ak (use:=some (assign (.Name x pos') X.env)) (P:=fun _ s'=>SP X pins D0 .next s') hc hi O hg jI he hs I h fun C D m H5 s6 r J6 hn DE ⟨_,g1,_,g3,g4,g5⟩ qn=>?_) (fun _ s' hq=>ay (ay hq)) fun _ _ e=>e)
 refine(show wpAny _ _ (assign (.Name x pos') X.env (.ref D)) _ _ s6 from wpAny_assign_Name (UY J6 hN sf hx (v:=.ref D) rfl (fun s7 I7 cK=>?_) hf))
 obtain⟨a,sb,ha⟩:=cK
 have hCa:C≠a:=by
  rcases ha with rfl|ha
  ·exact g1
  ·exact Ne.symm (g4 _ a ha)
 refine⟨m,hn.sameBut sb hCa,fun h' PR=>⟨_,H5,?_,qn⟩⟩
 exact I7.turned (t':=s7.toks) (fun b o hb e=>PR.extBut b o hb e) DE g1 g3 g4 g5
end
def HP (a b:String):Bool:=a == b || (a == "bool" && b == "int")
def Si (b:String):Bool:=["str", "int", "bool", "list", "tuple", "dict"].contains b
theorem jf (K:PySem.W.Frag) (a b:String) (ha:a∈["NoneType", "bool", "int", "str", "list", "tuple", "dict"]) (hb:b∈["str", "int", "bool", "list", "tuple", "dict"]):PySem.W.kitOne K (.type a) (.type b)=some (HP a b):=by
 simp only[cy,LH,or_false] at ha hb
 rcases ha with rfl|rfl|rfl|rfl|rfl|rfl|rfl<;>rcases hb with rfl|rfl|rfl|rfl|rfl|rfl<;>kernel_rfl
section
variable {X:Cx}
theorem dn.imp(h:dn X f r)(hi:∀ x y H Q,r' x y H Q->r x y H Q):dn X f r' :=
 fun pins s σ H x y v u Q I rx ry q=>h pins s σ H x y v u Q I rx ry (hi x y H Q q)
def Ju(K:PySem.W.Frag):R2:=fun x y H Q=>∃ l b xs zs,x=.ref l/\y=.ref b/\eK K H l xs/\eK K H b zs/\xs.length+zs.length<=sizeLine/\∀ p,H p=none->Q (.ref p) (upd H p (.lst (xs++zs)))
theorem En:dn X (binaryOp .Add) (Ju X.K):=by
 intro pins s σ H x y v u Q I rx ry h
 obtain⟨l,b,xs,zs,rfl,rfl,hH,hB,hz,q⟩:=h
 cases rx
 cases ry
 obtain⟨its,r,pl,z⟩:=I.list hH
 obtain⟨Pu,r2,pl2,z2⟩:=I.list hB
 have hl:=r.length
 have wc:=r2.length
 obtain⟨⟨cls,dd,data,sl⟩,ho,hc,n,hd⟩:=id pl.isList
 obtain⟨⟨RP,rq,data2,rz⟩,nv,xD,n2,hd2⟩:=id pl2.isList
 simp only at hc hd xD hd2
 subst hc hd xD hd2
 have ea:its.toArray++Pu.toArray=(its++Pu).toArray:=by simp
 refine concat_meets ⟨_,ho,rfl⟩ ⟨_,nv,rfl⟩ noFill_list_add seq_list_add PySem.F.slot_list_add PySem.F.entry_list_add (PySem.F.args_list_add_2 _ _) (list_addW l b its.toArray Pu.toArray n n2 dd rq sl rz (by simp only[gi];lia)) ⟨ho,nv,?_⟩
 rw[ea]
 exact⟨.ref _,_,I.R0 (t':=s.toks) (r.append r2) (by rw[pd];lia),rfl,q _ I.fresh⟩
def zQ(K:PySem.W.Frag):R2:=fun x y H Q=>match x,y with
 |.int i,.int j=>Q (.int (i+j)) H
 |.str i,.str j=>i.length+j.length<=sizeLine/\Q (.str (i++j)) H
 |.ref a,.ref b=>∃ xs zs,eK K H a xs/\eK K H b zs/\xs.length+zs.length<=sizeLine/\∀ p,H p=none->Q (.ref p) (upd H p (.lst (xs++zs)))
 |_,_=>False
theorem Ej:dn X (binaryOp .Add) (zQ X.K):=by
 refine(Zd.or (ZE.or En)).imp fun x y H Q h=>?_
 unfold zQ at h
 split at h
 ·exact .inl ⟨_,_,rfl,rfl,h⟩
 ·exact .inr (.inl ⟨_,_,rfl,rfl,h.1,h.2⟩)
 ·obtain⟨xs,zs,h1,h2,h3,h4⟩:=h
  exact .inr (.inr ⟨_,_,xs,zs,rfl,rfl,h1,h2,h3,h4⟩)
 ·exact h.elim
def Cz:R2:=fun x y H Q=>match x,y with
 |.int i,.int j=>Q (.int (i-j)) H
 |_,_=>False
theorem Dv:dn X (binaryOp .Sub) Cz:=Ze.imp fun x y H Q h=>by
 unfold Cz at h
 split at h
 ·exact⟨_,_,rfl,rfl,h⟩
 ·exact h.elim
def Fl:R2:=fun x y H Q=>match x,y with
 |.int i,.int j=>y6 i j/\Q (.int (i*j)) H
 |_,_=>False
theorem Ec:dn X (binaryOp .Mult) Fl:=Zf.imp fun x y H Q h=>by
 unfold Fl at h
 split at h
 ·exact⟨_,_,rfl,rfl,h.1,h.2⟩
 ·exact h.elim
def CK:R2:=fun x y H Q=>match x,y with
 |.int i,.int j=>(0<j/\j<1073741824)/\Q (.int (i / j)) H
 |_,_=>False
theorem Cw:dn X (binaryOp .FloorDiv) CK:=Zg.imp fun x y H Q h=>by
 unfold CK at h
 split at h
 ·exact⟨_,_,rfl,rfl,h.1,h.2⟩
 ·exact h.elim
def Fi:R2:=fun x y H Q=>match x,y with
 |.int i,.int j=>0<j/\Q (.int (i % j)) H
 |_,_=>False
theorem Dk:dn X (binaryOp .Mod) Fi:=Zh.imp fun x y H Q h=>by
 unfold Fi at h
 split at h
 ·exact⟨_,_,rfl,rfl,h.1,h.2⟩
 ·exact h.elim
def tS(x y:Str):Bool:=decide (x.cps.toList<y.cps.toList)
def Sj:R2:=fun x y H Q=>match x,y with
 |.int i,.int j=>Q (.bl (decide (i<j))) H
 |.str i,.str j=>Q (.bl (tS i j)) H
 |_,_=>False
theorem Ft:dn X (compareOp .Lt) Sj:=(Zq.or Zt).imp fun x y H Q h=>by
 unfold Sj at h
 split at h
 ·exact .inl ⟨_,_,rfl,rfl,h⟩
 ·exact .inr ⟨_,_,rfl,rfl,h⟩
 ·exact h.elim
def Sn:R2:=fun x y H Q=>match x,y with
 |.int i,.int j=>Q (.bl (decide (j<i))) H
 |_,_=>False
theorem Hf:dn X (compareOp .Gt) Sn:=Zr.imp fun x y H Q h=>by
 unfold Sn at h
 split at h
 ·exact⟨_,_,rfl,rfl,h⟩
 ·exact h.elim
def PX(K:PySem.W.Frag):List V->Hp->VK->Prop:=fun xs H Q=>match xs with
 |[.str y]=>y.length<=sizeLine/\Q (.int y.length) H
 |[.ref p]=>(∃ ys,eK K H p ys/\Q (.int ys.length) H)\/(∃ ys,ng K H p ys/\Q (.int ys.length) H)\/∃ kvs,H p=some (.dK kvs)/\Q (.int kvs.length) H
 |_=>False
theorem wU:i3 X (.builtin "len") (PX X.K):=by
 intro pins s σ H xs us Q I r h
 unfold PX at h
 split at h
 ·exact RG pins s σ H _ us Q I r ⟨_,_,rfl,⟨h.1,rfl⟩,h.2⟩
 ·rcases h with⟨ys,h1,h2⟩|⟨ys,h1,h2⟩|⟨kvs,h1,h2⟩
  ·exact RG pins s σ H _ us Q I r ⟨_,_,rfl,.inl ⟨ys,h1,rfl⟩,h2⟩
  ·exact RG pins s σ H _ us Q I r ⟨_,_,rfl,.inr ⟨ys,h1,rfl⟩,h2⟩
  ·exact bi' pins s σ H _ us Q I r ⟨_,kvs,rfl,h1,h2⟩
 ·exact h.elim
def PY(K:PySem.W.Frag):R2:=fun x y H Q=>match x,y with
 |.ref p,.int i=>(∃ xs v,eK K H p xs/\eW xs i=some v/\Q v H)\/∃ xs v,ng K H p xs/\eW xs i=some v/\Q v H
 |.str z,.int i=>z.length<=sizeLine/\∃ c,eW z.cps.toList i=some c/\Q (.str ⟨#[c]⟩) H
 |_,_=>False
theorem Bh:tN X (PY X.K):=by
 intro value slice pins s σ H x y v u Q I rx ry h hs
 refine af' value slice pins s σ H x y v u Q I rx ry ?_ hs
 unfold PY at h
 split at h
 ·rcases h with⟨xs,w,h1,h2,h3⟩|⟨xs,w,h1,h2,h3⟩
  ·exact .inl ⟨_,xs,_,w,rfl,rfl,h1,h2,h3⟩
  ·exact .inr (.inl ⟨_,xs,_,w,rfl,rfl,h1,h2,h3⟩)
 ·obtain⟨h1,c,h2,h3⟩:=h
  exact .inr (.inr ⟨_,_,c,rfl,rfl,h1,h2,h3⟩)
 ·exact h.elim
def xS(z:Str)(lo hi:Option Int):Str:=⟨((z.cps.toList.drop (HT.bI z.length 0 lo)).take (HT.bI z.length z.length hi-HT.bI z.length 0 lo)).toArray⟩
end
theorem yK(l:List Nat)(lo hi:Option Int)(h:((l.drop (HT.bI l.length 0 lo)).take (HT.bI l.length l.length hi-HT.bI l.length 0 lo)).length=l.length) :
  (l.drop (HT.bI l.length 0 lo)).take (HT.bI l.length l.length hi-HT.bI l.length 0 lo)=l:=by
 generalize HT.bI l.length 0 lo=a at *
 generalize HT.bI l.length l.length hi=b at *
 by_cases hl:l.length=0
 ·have:l=[]:=OG.mp hl
  subst this;simp
 ·rw[mr,AH] at h
  have h1:a=0:=by lia
  subst h1
  rw[List.drop_zero]
  exact K0 (by lia)
theorem vX(lo hi:Option Int)(n:Nat):Builtin.Str.strSliceIndices lo hi 1 n=(List.range (HT.bI n n hi-HT.bI n 0 lo)).map (HT.bI n 0 lo + ·):=by
 unfold Builtin.Str.strSliceIndices
 have e1:(match lo with|none=>(0:Int)|some i=>max 0 (min (if i<0 then i+n else i) n))=((HT.bI n 0 lo:Nat):Int):=by
  cases lo with
  |none=>simp[HT.bI]
  |some i =>
   simp only[HT.bI]
   by_cases h:i<0
   ·simp only[h,if_true]<;>lia
   ·simp only[h,if_false]<;>lia
 have e2:(match hi with|none=>(n:Int)|some i=>max 0 (min (if i<0 then i+n else i) n))=((HT.bI n n hi:Nat):Int):=by
  cases hi with
  |none=>simp[HT.bI]
  |some i =>
   simp only[HT.bI]
   by_cases h:i<0
   ·simp only[h,if_true]<;>lia
   ·simp only[h,if_false]<;>lia
 rw[<- sliceRange_one,<- e1,<- e2]
 simp only[show(1:Int)>0 by decide,if_true]
 cases lo<;>cases hi<;>rfl
section
variable {X:Cx}
theorem part_of(h:IsPart v o):∃ p:Option (Int × Tok),v=partValue p/\p.map (·.1)=o:=by
 cases h with
 |none=>exact⟨none,rfl,rfl⟩
 |int i t=>exact⟨some (i,t),rfl,rfl⟩
def Sq(K:PySem.W.Frag):V->Option Int->Option Int->Hp->VK->Prop:=fun x lo hi H Q=>match x with
 |.str z=>z.length<=sizeLine/\Q (.str (xS z lo hi)) H
 |.ref a=>∃ xs,eK K H a xs/\∀ p,H p=none->Q (.ref p) (upd H p (.lst (AY xs lo hi)))
 |_=>False
theorem G8:G0 X (fun x lo hi H Q=>∃ z,x=.str z/\z.length<=sizeLine/\Q (.str (xS z lo hi)) H):=by
 intro pins s σ H x v vl vu lo hi sl Q I rx hs pl pu h
 obtain⟨z,rfl,hz,q⟩:=h
 obtain⟨t,rfl⟩:=rx
 obtain⟨p1,rfl,e1⟩:=part_of pl
 obtain⟨p2,rfl,e2⟩:=part_of pu
 refine⟨"str",_,F.slot_str_getitem.lookup,typeIs_str s z t,wpAny_getItem_str_slice (l:=p1) (u:=p2) (st:=none) hs rfl ?_⟩
 have hl:z.cps.toList.length=z.length:=by simp[Str.length]
 have ep:slicePicked z p1 p2 none=(List.range (HT.bI z.length z.length hi-HT.bI z.length 0 lo)).map (HT.bI z.length 0 lo + ·):=by
  unfold slicePicked
  rw[e1,e2]
  exact vX lo hi z.length
 have ef:(slicePicked z p1 p2 none).filterMap (z.cps[·]?)=(z.cps.toList.drop (HT.bI z.length 0 lo)).take (HT.bI z.length z.length hi-HT.bI z.length 0 lo):=by
  rw[ep];exact pick_run z.cps _ _
 unfold sliceMade
 split
 ·rename_i hc
  have hw:(slicePicked z p1 p2 none).length=z.length:=by simpa using hc
  have:xS z lo hi=z:=by
   unfold xS
   have e3:((z.cps.toList.drop (HT.bI z.cps.toList.length 0 lo)).take (HT.bI z.cps.toList.length z.cps.toList.length hi-HT.bI z.cps.toList.length 0 lo)).length=z.cps.toList.length:=by
    rw[hl,mr,AH,hl]
    rw[ep,b4,Q8] at hw
    have h0:HT.bI z.length 0 lo<=z.length:=by
     cases lo with
     |none=>simp[HT.bI]
     |some i=>simp only[HT.bI];split<;>lia
    have h1:HT.bI z.length z.length hi<=z.length:=by
     cases hi with
     |none=>simp[HT.bI]
     |some i=>simp only[HT.bI];split<;>lia
    lia
   have:=yK z.cps.toList lo hi e3
   rw[hl] at this
   rw[this]
  rw[this] at q
  exact⟨.str z,H,I,⟨t,rfl⟩,q⟩
 ·rw[ef]
  exact⟨by
   show(xS z lo hi).length<=sizeLine
   unfold xS Str.length
   simp only[gi,mr,AH,hl]
   have:z.cps.toList.length=z.length:=hl
   lia,⟨.str (xS z lo hi),H,I.tok _,⟨_,rfl⟩,q⟩⟩
theorem Hr:G0 X (Sq X.K):=by
 intro pins s σ H x v vl vu lo hi sl Q I rx hs pl pu h
 unfold Sq at h
 split at h
 ·exact G8 pins s σ H _ v vl vu lo hi sl Q I rx hs pl pu ⟨_,rfl,h.1,h.2⟩
 ·obtain⟨xs,h1,h2⟩:=h
  exact aj' pins s σ H _ v vl vu lo hi sl Q I rx hs pl pu ⟨_,xs,rfl,h1,h2⟩
 ·exact h.elim
end
structure pL(J:It)(its:List V)(cond:Hp->Prop):Prop where
 go:∀ i H,cond H->i<its.length->J.go i H
 nh:∀ i H x H',cond H->i<its.length->J.nh i H x H'->H'=H/\its[i]? = some x
 stop:∀ H,cond H->J.stop its.length H
theorem z8(K:PySem.W.Frag)(a:Addr)(xs:List V):pL (Ph K a) xs (fun H=>eK K H a xs) where
 go:=fun i H h hi=>⟨xs,xs[i],h,by simp[hi]⟩
 nh:=fun i H x H' h _ y=>⟨y.1,y.2 xs h⟩
 stop:=fun H h=>⟨xs,h,bT _⟩
def yI(lo:Int)(n:Nat):List V:=(List.range n).map fun i=>.int (lo+(i:Nat))
theorem DG(lo:Int)(n:Nat):pL (og lo n) (yI lo n) (fun _=>True) where
 go:=fun i H _ h=>by simpa[yI,og] using h
 nh:=fun i H x H' _ hi h=>by
  have hi:i<n:=by simpa[yI] using hi
  obtain⟨rfl,rfl⟩:=h
  refine⟨rfl,?_⟩
  simp[yI,hi]
 stop:=fun H _=>by simp[yI,og]
def bD'(J:It)(g:TG)(tb:TS)(D:Ends)(σ:St)(H:Hp):Prop :=
 ∃ W:Nat->Nat->St->Hp->Prop,(∃ m,W 0 m σ H)/\∀ i m σ H,W i m σ H ->
   (J.stop i H/\D.nx σ H)\/(J.go i H/\∃ N:St->Hp->Prop,(∀ bE H',N bE H'->∃ m',m'<m/\W (i+1) m' bE H')/\∀ x H',J.nh i H x H'->g x σ H' fun ja H2=>tb { D with nx:=N,ct:=N,bk:=D.nx } ja H2)
theorem Ek(wi:TI)(g:TG)(tb:TS)(D:Ends)(σ:St)(H:Hp):Vg wi g tb D σ H=wi σ H fun J H1=>bD' J g tb D σ H1:=rfl
def Iz(J:It)(g:TG)(tc:TT)(te:TE)(τ0:St)(H1:Hp)(D:Addr)(Q:VK):Prop :=
 ∃ W:Nat->Nat->St->Hp->Prop,(∃ m,W 0 m τ0 (upd H1 D (.lst [])))/\∀ i m τ H,W i m τ H ->
  (J.stop i H/\Q (.ref D) H)\/(J.go i H/\∃ (N1:St->V->Hp->Prop) (N2:St->Hp->Prop),
   (∀ ly v H4,N1 ly v H4->∃ ys m',H4 D=some (.lst ys)/\ys.length<sizeLine/\m'<m/\W (i+1) m' ly (upd H4 D (.lst (ys++[v])))) /\
   (∀ ly H3,N2 ly H3->∃ m',m'<m/\W (i+1) m' ly H3) /\
   ∀ x H',J.nh i H x H'->g x τ H' fun ly H2=>tc ly H2 fun b H3=>if b=true then te ly H3 (N1 ly) else N2 ly H3)
theorem tL(wi:TI)(g:TG)(tc:TT)(te:TE)(tn:Nat)(ix:List Nat)(σ:St)(H:Hp)(Q:VK):p_ wi g tc te tn ix σ H Q=wi σ H fun J H1=>∀ D,H1 D=none->Iz J g tc te (lH tn ix σ) H1 D Q:=rfl
mutual
inductive Rep(K:PySem.W.Frag)(H:Hp):PyData->V->Prop
 |none:Rep K H .none .non
 |bool (b:Bool):Rep K H (.bool b) (.bl b)
 |int (i:Int):Rep K H (.int i) (.int i)
 |str (x:Str):Rep K H (.str x) (.str x)
 |list {a:Addr} {vs:List V} {ds:List PyData}:eK K H a vs->aI K H ds vs->Rep K H (.list ds) (.ref a)
 |tuple {a:Addr} {vs:List V} {ds:List PyData}:ng K H a vs->aI K H ds vs->Rep K H (.tuple ds) (.ref a)
inductive aI(K:PySem.W.Frag)(H:Hp):List PyData->List V->Prop
 |nil:aI K H [] []
 |cons {d:PyData} {v:V} {ds:List PyData} {vs:List V}:Rep K H d v->aI K H ds vs->aI K H (d :: ds) (v :: vs)
end
section
variable {X:Cx}{pins:List (Addr × Obj)}{σ:St}{H:Hp}{s:Shared}
mutual
theorem Rep.reads(I:Inv X pins σ H s):∀ {d:PyData} {v:V} {u:Value},Rep X.K H d v->RelV v u->∃ as,Reads s.heap u d as
 |_,_,_,.none,r=>by cases (show _=Value.none from r);exact⟨_,.none⟩
 |_,_,_,.bool b,r=>by cases (show _=Value.bool b from r);exact⟨_,.bool b⟩
 |_,_,_,.int i,r=>by obtain⟨t,e⟩:=r;subst e;exact⟨_,.int i t⟩
 |_,_,_,.str x,r=>by obtain⟨t,e⟩:=r;subst e;exact⟨_,.str x t⟩
 |_,_,_,.list h hs,r=>by
  cases r
  obtain⟨its,rv,pl,_⟩:=I.list h
  obtain⟨o,e,c,n,d⟩:=pl.isList
  obtain⟨as,q⟩:=aI.reads I hs rv
  exact⟨_,.list e c d q⟩
 |_,_,_,.tuple h hs,r=>by
  cases r
  obtain⟨its,rv,⟨o,e,c,n,d⟩,_⟩:=I.tuple h
  obtain⟨as,q⟩:=aI.reads I hs rv
  exact⟨_,.tuple e c d q⟩
theorem aI.reads(I:Inv X pins σ H s):∀ {ds:List PyData} {vs:List V} {us:List Value},aI X.K H ds vs->Vals vs us->∃ as,ReadsAll s.heap us ds as
 |_,_,_,.nil,.nil=>⟨_,.nil⟩
 |_,_,_,.cons h hs,.cons r rs=>by
  obtain⟨as,q⟩:=Rep.reads I h r
  obtain⟨bs,q'⟩:=aI.reads I hs rs
  exact⟨_,.cons q q'⟩
end
def Sr(K:PySem.W.Frag):R2:=fun x y H Q=>∃ d e,Rep K H d x/\Rep K H e y/\d.canLay0=true/\e.canLay0=true/\d.depth<=60/\Q (.bl (PyData.eqv d e)) H
def Ss(K:PySem.W.Frag):R2:=fun x y H Q=>∃ d e,Rep K H d x/\Rep K H e y/\d.canLay0=true/\e.canLay0=true/\d.depth<=60/\Q (.bl (!PyData.eqv d e)) H
theorem Ho(hu:X.A.units+64<cLine):dn X (compareOp .Eq) (Sr X.K):=by
 intro pins s σ H x y v u Q I rx ry h
 obtain⟨d,e,h1,h2,h3,h4,h5,q⟩:=h
 obtain⟨as,r1⟩:=h1.reads I rx
 obtain⟨bs,r2⟩:=h2.reads I ry
 exact PySem.SeqAt.rcAt_reads r1 r2 h3 h4 (by lia) X.prog X.w X.xe _ ⟨.bl _,H,I,rfl,q⟩
theorem Gn(hu:X.A.units+64<cLine):dn X (compareOp .NotEq) (Ss X.K):=by
 intro pins s σ H x y v u Q I rx ry h
 obtain⟨d,e,h1,h2,h3,h4,h5,q⟩:=h
 obtain⟨as,r1⟩:=h1.reads I rx
 obtain⟨bs,r2⟩:=h2.reads I ry
 exact PySem.SeqAt.rcNeAt_reads r1 r2 h3 h4 (by lia) X.prog X.w X.xe _ ⟨.bl _,H,I,rfl,q⟩
def PZ(K:PySem.W.Frag):R2:=fun x y H Q=>match x,y with
 |.int i,.int j=>Q (.bl (decide (i=j))) H
 |.str i,.str j=>Q (.bl (decide (i=j))) H
 |.bl i,.bl j=>Q (.bl (decide (i=j))) H
 |_,_=>Sr K x y H Q
theorem Gg(hu:X.A.units+64<cLine):dn X (compareOp .Eq) (PZ X.K):=(Zn.or (Ho hu)).imp fun x y H Q h=>by
 unfold PZ at h
 split at h
 ·refine .inl ⟨rfl,?_⟩;simpa using h
 ·refine .inl ⟨rfl,?_⟩;simpa using h
 ·refine .inl ⟨rfl,?_⟩;simpa using h
 ·exact .inr h
def P0(K:PySem.W.Frag):R2:=fun x y H Q=>match x,y with
 |.int i,.int j=>Q (.bl (!decide (i=j))) H
 |.str i,.str j=>Q (.bl (!decide (i=j))) H
 |.bl i,.bl j=>Q (.bl (!decide (i=j))) H
 |_,_=>Ss K x y H Q
theorem Gd(hu:X.A.units+64<cLine):dn X (compareOp .NotEq) (P0 X.K):=(Zo.or (Gn hu)).imp fun x y H Q h=>by
 unfold P0 at h
 split at h
 ·refine .inl ⟨rfl,?_⟩;simpa using h
 ·refine .inl ⟨rfl,?_⟩;simpa using h
 ·refine .inl ⟨rfl,?_⟩;simpa using h
 ·exact .inr h
end
end L2
namespace L2
open PySem PySem.Spec PyProof.Rows
def wd(sc:Scope)(names:List (Str × NameKind)):List (Str × NameKind):=names.map fun y=>if (y.2 == NameKind.free && sc.kind == .function && sc.names.lookup y.1 == some .cell)=true then (y.1,NameKind.cell) else (y.1,y.2)
def DF(o:Option NameKind):Bool:=o == some .cell || o == some .free
def Ds(sc scope:Scope)(N cn:List Str)(ix:List Nat):Bool :=
 scope.kind == .function && scope.names.all (fun y=>y.2 != .cell) && scope.names.all (fun y=>y.2 != .free || DF (sc.names.lookup y.1)) && scope.names.all (fun y=>y.2 != .local || scope.names.lookup y.1 == some .local) &&
 ix.length == cn.length && (List.range ix.length).all (fun k=>match ix[k]?,cn[k]? with
  |some j,some y=>N[j]? == some y && DF (sc.names.lookup y) && scope.names.contains (y,NameKind.free) && DF ((wd sc scope.names).lookup y)
  |_,_=>false) &&
 (wd sc scope.names).all (fun y=>!(y.2 == .cell || y.2 == .free) || scope.names.contains (y.1,NameKind.free))
theorem iC(h:DF o=true):o=some .cell\/o=some .free:=by
 unfold DF at h
 simpa using h
theorem aO.of{X:Cx}(lI:X.env.scope=sc)(hN:X.N=N)(h:Ds sc scope N cn ix=true):aO X scope tn cn ix:=by
 unfold Ds at h
 simp only[kr] at h
 obtain⟨⟨⟨⟨⟨⟨h1,h2⟩,h3⟩,h4⟩,h5⟩,h6⟩,h7⟩:=h
 rw[AI] at h2 h3 h4 h6 h7
 have M0:(relabel scope X.env).names=wd sc scope.names:=by
  unfold relabel wd
  rw[<- lI]
  rfl
 refine⟨by simpa using h1,fun y hy=>by simpa using h2 y hy,fun y hy hk=>?_,fun y hy hk=>?_,by simpa using h5,fun k j hk=>?_,fun x hx=>?_⟩
 ·have:=h3 y hy
  rw[hk] at this
  rw[lI]
  exact iC (by simpa using this)
 ·have:=h4 y hy
  rw[hk] at this
  simpa using this
 ·have fN:k<ix.length:=(i7.mp hk).1
  have:=h6 k (qB.mpr fN)
  rw[hk] at this
  cases e:cn[k]? with
  |none=>rw[e] at this;cases this
  |some y =>
   rw[e] at this
   simp only[kr] at this
   obtain⟨⟨⟨a1,a2⟩,a3⟩,a4⟩:=this
   refine⟨y,rfl,by rw[hN];simpa using a1,by rw[lI];exact iC a2,by simpa using a3,by rw[M0];exact iC a4⟩
 ·rw[M0] at hx
  have mem:∃ k,(x,k)∈wd sc scope.names/\(k=.cell\/k=.free):=by
   rcases hx with hx|hx
   ·exact⟨_,PySem.mem_of_lookup hx,.inl rfl⟩
   ·exact⟨_,PySem.mem_of_lookup hx,.inr rfl⟩
  obtain⟨k,hm,hk⟩:=mem
  have:=h7 _ hm
  rcases hk with rfl|rfl<;>simpa using this
structure fF(P:Program)(w:World)(K:PySem.W.Frag)(mg:Str->Option Value)(base:Heap)(k:Nat)(x:Str)(ps:List Str)(sp:Sp):Prop where
 ex:∃ (g:Addr) (fd:FuncData),mg x=some (.ref g)/\PySem.W.keepIn K (.ref g)=true/\Binds K fd ps []/\iF P w K mg base i5 k g fd ps sp
section
variable {X:Cx}{k:Nat}{x:Str}{ps:List Str}{sp:Sp}{p pos:Pos}{e:Expr}{es:List Expr}{t:TA}
theorem FJ (C:fF X.prog X.w X.K X.mg X.base k x ps sp) (hr:mw k X.A) (ha:PA X (e :: es) t) (hg:Gl X x:=by rfl) (rp:(x == ("__debug__" : Str))=false:=by decide) (he:starEach (e :: es) X.env=(false,eval e X.env) :: starEach es X.env:=by rfl)
  (nr:(backTo pos (starEach es X.env)).any (·.1)=false:=by rfl):PE X (.Call (.Name x p) (e :: es) [] pos) (RK sp [] E0 t):=by
 obtain⟨g,fd,hm,hk,hb,F⟩:=C.ex
 exact ZQ F hr hg hm hk hb .nil bh' ha rp he nr
end
theorem kc.pS{P:Program}{K:PySem.W.Frag}{st:Stmt}{ps:List Str}(F:kc K x qual st f fd)(hm:mg x=some (.ref f))
  (G:iF P w K mg base i5 k f fd ps sp)
  (h:∀ (kV doc pm:Value) (an:Option Addr) (eI ct:Value) (us:List Value),us.length=ps.length->bindArgs (PySem.W.fnOf x qual (kC st) (jS st) (cE st) .none kV doc pm an eI ct) ⟨us,[]⟩=pure (ps.zip us)):fF P w K mg base k x ps sp :=
 ⟨f,fd,hm,F.kp,F.binds h,G⟩
theorem xH:bootBuiltins "int" = some (.type "int"):=by decide +kernel
theorem Es:bootBuiltins "bool" = some (.type "bool"):=by decide +kernel
theorem wN:bootBuiltins "list" = some (.type "list"):=by decide +kernel
theorem n_:bootBuiltins "isinstance" = some (.builtin "isinstance"):=by decide +kernel
theorem oW:bootBuiltins "len" = some (.builtin "len"):=by decide +kernel
theorem DX {X:Cx} {T:String} (hm:X.mg x=none) (hv:bootBuiltins x=some (.type T)) (hg:Gl X x:=by rfl) (hn:x ≠ "__name__" := by decide) (hd:(x == ("__debug__" : Str))=false:=by decide):PE X (.Name x pos) (tC (.ty T)) :=
 Yt hg hm hv rfl hn hd
def HV(i j:Str):Bool:=!(Builtin.Str.occurrences j i 0 j.length 1).isEmpty
def EW(K:PySem.W.Frag)(neg:Bool):R2:=fun x y H Q=>match x,y with
 |.str i,.str j=>Q (.bl (if neg then !HV i j else HV i j)) H
 |_,.ref p=>(∃ o,mz H p x o/\Q (.bl (if neg then !o.isSome else o.isSome)) H)\/ML K neg x y H Q
 |_,_=>False
theorem Ga{X:Cx}(hu:X.A.units+64<cLine):dn X (compareOp .In) (EW X.K false):=by
 intro pins s σ H x y v u Q I rx ry h
 unfold EW at h
 split at h
 ·exact Zu pins s σ H _ _ v u Q I rx ry ⟨_,_,rfl,rfl,h⟩
 ·rcases h with⟨o,g,q⟩|h
  ·cases ry
   exact aB' (by lia) I g rx fun s3 I3=>⟨.bl o.isSome,H,I3,rfl,q⟩
  ·exact al' pins s σ H _ _ v u Q I rx ry h
 ·exact h.elim
theorem yU{X:Cx}(hu:X.A.units+64<cLine):dn X (compareOp .NotIn) (EW X.K true):=by
 intro pins s σ H x y v u Q I rx ry h
 unfold EW at h
 split at h
 ·exact Zw pins s σ H _ _ v u Q I rx ry ⟨_,_,rfl,rfl,h⟩
 ·rcases h with⟨o,g,q⟩|h
  ·cases ry
   exact aC' (by lia) I g rx fun s3 I3=>⟨.bl (!o.isSome),H,I3,rfl,q⟩
  ·exact am' pins s σ H _ _ v u Q I rx ry h
 ·exact h.elim
theorem aT.upd(h:aT H H')(hp:H' p=none):aT H (upd H' p o):=fun b u e=>by
 have e':=h b u e
 rw[fm (B9 e' hp)]
 exact e'
theorem aT.lst{K:PySem.W.Frag}(e:aT H H')(h:eK K H a xs):eK K H' a xs:=e.seq h
theorem aT.tup{K:PySem.W.Frag}(e:aT H H')(h:ng K H a xs):ng K H' a xs:=by
 rcases h with(h|⟨o,h⟩)|h
 ·exact .inl (.inl (e _ _ h))
 ·exact .inl (.inr ⟨o,e _ _ h⟩)
 ·exact .inr h
mutual
theorem Rep.same{K:PySem.W.Frag}(s:aT H H'):∀ {d:PyData} {v:V},Rep K H d v->Rep K H' d v
 |_,_,.none=>.none
 |_,_,.bool b=>.bool b
 |_,_,.int i=>.int i
 |_,_,.str x=>.str x
 |_,_,.list h hs=>.list (s.lst h) (aI.same s hs)
 |_,_,.tuple h hs=>.tuple (s.tup h) (aI.same s hs)
theorem aI.same{K:PySem.W.Frag}(s:aT H H'):∀ {ds:List PyData} {vs:List V},aI K H ds vs->aI K H' ds vs
 |_,_,.nil=>.nil
 |_,_,.cons h hs=>.cons (Rep.same s h) (aI.same s hs)
end
section
variable {X:Cx}{K:PySem.W.Frag}
theorem kIx(hK:X.K=K:=by rfl):tN X (PY K):=by subst hK;exact Bh
theorem tT(hu:X.A.units+64<cLine)(hK:X.K=K:=by rfl):dn X (compareOp .Eq) (PZ K):=by subst hK;exact Gg hu
theorem V6(hu:X.A.units+64<cLine)(hK:X.K=K:=by rfl):dn X (compareOp .NotEq) (P0 K):=by subst hK;exact Gd hu
theorem kB(hu:X.A.units+64<cLine)(hK:X.K=K:=by rfl):dn X (compareOp .In) (EW K false):=by subst hK;exact Ga hu
theorem BL(hu:X.A.units+64<cLine)(hK:X.K=K:=by rfl):dn X (compareOp .NotIn) (EW K true):=by subst hK;exact yU hu
end
theorem Mz{α:Type}{a:α}{p:α->Prop}:(∃ v,a=v/\p v)↔p a:=⟨fun⟨_,e,h⟩=>e ▸ h,fun h=>⟨a,rfl,h⟩⟩
end L2
namespace L2
open PySem PySem.Spec PyProof.Rows
abbrev Sv:=Array DictEntry
def sN(h:Heap)(d:Addr)(es:Sv)(ep:Nat):Prop:=∃ o,h.get? d=some o/\o.ExactDict/\o.data=.dict es ep
theorem sN.typ {s:Shared} {d:Addr} {es:Sv} {ep:Nat} (x:sN s.heap d es ep):s.TypeIs (.ref d) "dict" := let ⟨o,e,c,_⟩:=x;⟨o,e,c.1⟩
section
variable {prog:Program}{w:World}{A:Around}{E:Value->Shared->Prop}{s:Shared}{d it:Addr}{es:Sv}{ep i:Nat}
theorem zL{Q:Value->Shared->Prop}(lo:(d == sysModules)=false)(x:sN s.heap d es ep)
  (q:Q (.ref s.heap.objs.size) { s with heap:=s.heap.push { cls:=.type "dict_keyiterator",data:=.fields #[.ref d,.int 0 0,.int es.size 0,.int ep 0] } }):wpAny (model prog w) A (pyIter (.ref d)) Q E s:=by
 obtain⟨o,ho,hc,P1⟩:=id x
 refine wpAny_pyIter_slot x.typ F.slot_dict_iter (wpAny_call_entry F.slot_dict_iter x.typ F.entry_dict_iter ?_ (F.args_dict_iter_1 _))
 unfold Builtin.«dict.__iter__»
 refine ah ?_
 unfold Builtin.Dict.dictSlotNone
 refine ah (wpAny_notOrdered_dict x.typ ?_)
 refine(show wpAny _ _ (pure (Value.ref d)) _ _ s from ay ?_)
 refine(show wpAny _ _ (Builtin.Dict.showsAll d >>= _) _ _ s from ?_)
 unfold Builtin.Dict.showsAll
 rw[if_neg (by rw[lo];decide)]
 refine ah (ay (ah (wpAny_dictEntries ho P1 (ah (wpAny_dictEpoch ho P1 (ah (wpAny_newObj_type (ay ⟨_,rfl, "dict_keyiterator",_,⟨_,i9 _ rfl,rfl⟩,F.slot_dict_keyiterator_next.lookup,?_⟩))))))))
 simpa[rawInt] using q
theorem zN(hit:s.heap.IsKeyIter it d i es.size ep)(x:sN s.heap d es ep)(hx:i<es.size)
  (q:∀ h',h'.IsKeyIter it d (i+1) es.size ep->Heap.SameBut it s.heap h'->Q (some es[i].key) { s with heap:=h' }):wpAny (model prog w) A (pyNext (.ref it)) Q E s:=by
 obtain⟨o,ho,hc,hd⟩:=id hit
 obtain⟨od,Nc,rg,Nn⟩:=id x
 have ty:=hit.typeIs
 unfold pyNext
 refine ah (wpAny_attempt (wpAny_callSpecial?_slot (name:=Str.ofString "__next__") ty F.slot_dict_keyiterator_next (wpAny_call_entry F.slot_dict_keyiterator_next ty F.entry_dict_keyiterator_next ?_ (F.args_dict_keyiterator_next_1 _))))
 refine ah (ay (ah (ah ?_)))
 first|refine ah (wpAny_typeNameOfWhole_keyiter ty (ay ?_))|refine ah (wpAny_typeNameOf_keyiter ty (ay ?_))
 refine ah (wpAny_fieldsOf ho hd ?_)
 simp only[show Builtin.Dict_items.ownsTuple "dict_keyiterator" = false by decide,gE,if_false]
 refine(show wpAny _ _ (if (Value.ref d == Value.none)=true then _ else _) _ _ s from ?_)
 rw[if_neg (show ¬ ((Value.ref d == Value.none)=true) by intro h;cases h)]
 refine ah (ay (ah (wpAny_dictEntries Nc Nn ?_)))
 rw[if_neg (by intro h;simp at h)]
 refine ah (ay (ah (wpAny_dictEpoch Nc Nn ?_)))
 rw[if_neg (by intro h;simp at h)]
 refine ay ?_
 simp only[show ¬ ((i:Int)<0) by lia,if_false,GN,yT hx]
 refine ah ?_
 first|refine ah (wpAny_typeNameOfWhole_keyiter ty (ay ?_))|refine ah (wpAny_typeNameOf_keyiter ty (ay ?_))
 refine ah (wpAny_isOneOf_keyiter ty ?_)
 refine(show wpAny _ _ (setField (.ref it) 1 (rawInt ((i:Int)+1)) >>= _) _ _ s from ah (wpAny_setField ho hd (by simp) ?_))
 have V7:(s.heap.update it (Obj.mapFields (·.setIfInBounds 1 (rawInt ((i:Int)+1))))).IsKeyIter it d (i+1) es.size ep :=
  ⟨_,D5 _ ho (Obj.isFreed_of_fields (Obj.data_mapFields hd _)),(Obj.cls_mapFields ..).trans hc,by rw[Obj.data_mapFields hd];simp[rawInt]⟩
 refine ah (wpAny_holding (ah (wpAny_isOneOf_keyiter (s:={ s with heap:=s.heap.update it (Obj.mapFields (·.setIfInBounds 1 (rawInt ((i:Int)+1)))) }) V7.typeIs ?_)))
 refine(show wpAny _ _ (pure es[i].key) _ _ _ from ay (ay ⟨_,rfl,ay (q _ V7 (Heap.SameBut.update ..))⟩))
theorem zU(hh:A.handled=none)(hit:s.heap.IsKeyIter it d es.size es.size ep)(x:sN s.heap d es ep)(q:∀ h',Heap.ExtBut it s.heap h'->Q none { s with heap:=h' }) :
  wpAny (model prog w) A (pyNext (.ref it)) Q E s:=by
 obtain⟨o,ho,hc,hd⟩:=id hit
 obtain⟨od,Nc,rg,Nn⟩:=id x
 have ty:=hit.typeIs
 unfold pyNext
 refine ah (wpAny_attempt (wpAny_callSpecial?_slot (name:=Str.ofString "__next__") ty F.slot_dict_keyiterator_next (wpAny_call_entry F.slot_dict_keyiterator_next ty F.entry_dict_keyiterator_next ?_ (F.args_dict_keyiterator_next_1 _))))
 refine ah (ay (ah (ah ?_)))
 first|refine ah (wpAny_typeNameOfWhole_keyiter ty (ay ?_))|refine ah (wpAny_typeNameOf_keyiter ty (ay ?_))
 refine ah (wpAny_fieldsOf ho hd ?_)
 simp only[show Builtin.Dict_items.ownsTuple "dict_keyiterator" = false by decide,gE,if_false]
 refine(show wpAny _ _ (if (Value.ref d == Value.none)=true then _ else _) _ _ s from ?_)
 rw[if_neg (show ¬ ((Value.ref d == Value.none)=true) by intro h;cases h)]
 refine ah (ay (ah (wpAny_dictEntries Nc Nn ?_)))
 rw[if_neg (by intro h;simp at h)]
 refine ah (ay (ah (wpAny_dictEpoch Nc Nn ?_)))
 rw[if_neg (by intro h;simp at h)]
 refine ay ?_
 simp only[show ¬ ((es.size:Int)<0) by lia,if_false,GN,B6 (bT es.size)]
 refine ah ?_
 first|refine ah (wpAny_typeNameOfWhole_keyiter ty (ay ?_))|refine ah (wpAny_typeNameOf_keyiter ty (ay ?_))
 refine(show wpAny _ _ (setField (.ref it) 0 .none >>= _) _ _ s from ah (wpAny_setField ho hd (by simp) ?_))
 refine(show wpAny _ _ (newExc (.type "StopIteration") [] >>= _) _ _ _ from ah ?_)
 simp only[newExc,newTuple]
 refine ah (wpAny_newObj_type ?_ (by size_fits))
 refine ah (m:=firstArgMember _ _) (wpAny_of_eq (a:=Value.none) (by first|rfl|(simp only[firstArgMember];rfl)) (wpAny_newObj_type ?_ (by size_fits)))
 simp only[raiseNew]
 refine ah (wpAny_handled ?_)
 rw[show A.in1.handled=none from hh]
 refine ah (ay (wpAny_throw ?_))
 refine ah (wpAny_isInstance (b:=true) (T := "StopIteration") ⟨_,i9 _ rfl,rfl⟩ isSubtype_stop ?_)
 exact ay (q _ (((Heap.SameBut.update ..).extBut.push _).push _))
theorem sN.at(x:sN h d es ep)(e:∀ o,h.get? d=some o->h'.get? d=some o):sN h' d es ep:=let ⟨o,ho,r⟩:=x;⟨o,e o ho,r⟩
theorem sN.lt(x:sN h d es ep):d<h.objs.size:=let ⟨_,e,_⟩:=x;dS e
theorem xN(hh:A.handled=none)(I:Addr)(iL:d≠I):Walks prog w A I [I,d] [I] es.size (fun i v=>∃ e,es[i]? = some e/\v=e.key) (fun i h=>h.IsKeyIter I d i es.size ep/\sN h d es ep) where
 sub:=fun b hb=>by simp at hb;simp[hb]
 frame:=fun _ _ _ st hk=>⟨st.1.at fun o e=>hk I (by simp) o e,st.2.at fun o e=>hk d (by simp) o e⟩
 item:=fun i s Q E hi st hQ=>zN st.1 st.2 hi fun h' a b=>hQ _ h' s.toks ⟨es[i],by simp[hi],rfl⟩ ⟨a,st.2.at fun o e=>b.extBut d o iL e⟩ fun c o hb e=>b.extBut c o (fun h=>hb (by simp[h])) e
 done:=fun s Q E st hQ=>zU hh st.1 st.2 fun h' P2=>hQ h' s.toks fun b o hb e=>P2 b o (fun h=>hb (by simp[h])) e
 self:=fun _ _ _ _ st hQ=>wpAny_pyIter_keyiter st.1 hQ
theorem yP (lo:(d == sysModules)=false):PySem.W.KdlSrc prog w "dict" d d es.size (fun i v=>∃ e,es[i]? = some e/\v=e.key) (fun h=>sN h d es ep) where
 type:=fun _ x=>x.typ
 there:=fun _ x=>⟨x.lt,x.lt⟩
 keep:=fun _ _ x hk=>x.at fun o e=>hk d (.inl rfl) o e
 notList:=by decide
 notTuple:=by decide
 hint:=fun _ _ _ _ x hq=>PySem.W.kdl_hint_dict x.typ hq
 iter:=fun _ _ hh x=>⟨_,_,(fun _ _ hq=>zL lo x hq),xN hh _ (fw x.lt),⟨⟨_,i9 _ rfl,rfl,rfl⟩,x.at fun o e=>eR _ e⟩⟩
end
theorem Paired.n0{α β:Type}{R:α->β->Prop}{bs:List β}(h:Paired R [] bs):bs=[]:=by cases h;rfl
theorem Paired.c{α β:Type}{R:α->β->Prop}{a:α}{as:List α}{bs:List β}(h:Paired R (a :: as) bs):∃ b cs,bs=b :: cs/\R a b/\Paired R as cs:=by
 cases h with
 |cons r t=>exact⟨_,_,rfl,r,t⟩
def cL(H:Hp)(ys:List V)(ks:List (List Key)):Prop:=Paired (fun(v:V) (k:List Key)=>∃ b,v=.ref b/\H b=some (.tup (k.map kV))) ys ks
section
variable {X:Cx}
def tO:List V->Hp->VK->Prop:=fun xs H Q=>match xs with
 |[.ref p]=>∃ kvs,H p=some (.dT kvs)/\∀ ys l,cL H ys (kvs.map (·.1))->H l=none->Q (.ref l) (upd H l (.lst ys))
 |_=>False
theorem xn
  (h:Paired (fun(p:List Key × V) (q:List Key × Addr × Value)=>p.1=q.1/\H q.2.1=some (.tup (p.1.map kV))/\RelV p.2 q.2.2) kvs xs) :
  cL H (xs.map fun q=>.ref q.2.1) (kvs.map (·.1))/\Vals (xs.map fun q=>.ref q.2.1) ((xs.map (entryOfKey (tupleKind (iE prog w)))).map (·.key)):=by
 induction h with
 |nil=>exact⟨.nil,.nil⟩
 |cons r t ih=>exact⟨.cons ⟨_,rfl,r.2.1⟩ ih.1,.cons rfl ih.2⟩
theorem vP (hc:X.calm=true):i3 X (.type "list") tO:=by
 intro pins s σ H xs us Q I r h
 unfold tO at h
 split at h
 ·rename_i p
  obtain⟨kvs,e,q⟩:=h
  obtain⟨u,rfl,ru⟩:=Vals.one r
  cases ru
  obtain⟨z,y,ps,rel,o,es,ep,h1,h2,h3,h4,h5⟩:=(show fE X.prog X.w H s.heap p (.dT kvs) from I.bq p _ e)
  obtain⟨ta,va⟩:=xn (prog:=X.prog) (w:=X.w) rel
  have hlen:es.size=kvs.length:=by
   have:=congrArg List.length h4
   rw[y2,b4] at this
   rw[this];exact rel.length.symm
  refine PySem.W.kdl_call (yP (es:=es) (ep:=ep) y) (I.ok.hd hc) ⟨o,h1,h2,h3⟩ (by lia) fun h' tk acc c kp eo wm=>?_
  have hv:acc.toList=(ps.map (entryOfKey (tupleKind (iE X.prog X.w)))).map (·.key):=by
   apply AG
   intro i
   by_cases hi:i<es.size
   ·have hU:i<acc.size:=by rw[wm.1];exact hi
    obtain⟨en,e1,e2⟩:=wm.2 i acc[i] (by simp[hU])
    rw[<- h4,nc,kG,kG,e1]
    simp[hU,e2]
   ·rw[<- h4,nc,kG,kG,B6 (by rw[wm.1];exact D7 ‹_›),B6 (by exact D7 ‹_›)]
    rfl
  refine⟨.ref s.heap.objs.size,_,I.laid (t':=tk) kp (bT _) (show fE X.prog X.w _ h' _ (.lst (ps.map fun q=>.ref q.2.1)) from⟨?_,acc.toList,c,?_,?_⟩),rfl,q _ _ ta (I.bq.fresh (bT _))⟩
  ·rw[b4,<- rel.length];exact z
  ·rw[hv];exact va
  ·rw[O5];exact eo
 ·exact h.elim
end
end L2
namespace sj
open PySem PyProof.Rows
def R(r:Value->Int)(xs:Array Keyed)(i:Nat):Int:=match xs[i]? with
 |some p=>r p.1
 |none=>0
theorem cW(h:xs[i]? = ys[j]?):R r xs i=R r ys j:=by unfold R;rw[h]
def kL(prog:Program)(w:World)(A:Around)(s:Shared)(κ:SortKind)(r:Value->Int)(P:Value->Prop):Prop :=
 ∀ x y,P x->P y->∀ (Q:Bool->Shared->Prop) (E:Value->Shared->Prop),Q (decide (r x<r y)) s->wpAny (model prog w) A (keyLt' κ x y) Q E s
def AllP(P:Value->Prop)(xs:Array Keyed):Prop:=∀ p∈xs.toList,P p.1
theorem AllP.perm{P:Value->Prop}(h:AllP P xs)(hp:ys.Perm xs):AllP P ys:=fun p hm=>h p ((Rg.mp hp).mem_iff.mp hm)
theorem AllP.at{P:Value->Prop}{xs:Array Keyed}(h:AllP P xs){i:Nat}{p:Keyed}(e:xs[i]? = some p):P p.1:=h p (by
 obtain⟨hi,rfl⟩:=GL.mp e
 simp)
structure kM(lo hi:Nat)(st ae:SortSt):Prop where
 kind:kindOf ae=kindOf st
 failed:failedOf ae=failedOf st
 pend:pendingOf ae=pendingOf st
 perm:(arrOf ae).Perm (arrOf st)
 out:∀ k,k<lo\/hi<=k->(arrOf ae)[k]? = (arrOf st)[k]?
theorem kM.refl(lo hi:Nat)(st:SortSt):kM lo hi st st:=⟨rfl,rfl,rfl,Array.Perm.refl _,fun _ _=>rfl⟩
theorem kM.trans{lo hi:Nat}(h:kM lo hi a b)(g:kM lo hi b c):kM lo hi a c :=
 ⟨g.kind.trans h.kind,g.failed.trans h.failed,g.pend.trans h.pend,g.perm.trans h.perm,fun k hk=>(g.out k hk).trans (h.out k hk)⟩
theorem kM.mono{lo hi EX gI:Nat}(h:kM lo hi a b)(h1:EX<=lo)(h2:hi<=gI):kM EX gI a b :=
 ⟨h.kind,h.failed,h.pend,h.perm,fun k hk=>h.out k (by lia)⟩
theorem kM.size{lo hi:Nat}(h:kM lo hi a b):(arrOf b).size=(arrOf a).size:=h.perm.size_eq
def Up(r:Value->Int)(xs:Array Keyed)(lo hi:Nat):Prop:=∀ i j,lo<=i->i<=j->j<hi->R r xs i<=R r xs j
def Down(r:Value->Int)(xs:Array Keyed)(lo hi:Nat):Prop:=∀ i j,lo<=i->i<=j->j<hi->R r xs j<=R r xs i
theorem uD(hs:src<xs.size)(hd:d<=src)(k:Nat) :
  R r (bubble xs src d) k=if k=src-d then R r xs src else if src-d<k/\k<=src then R r xs (k-1) else R r xs k:=by
 have e:=getElem?_bubble hs d hd k
 by_cases h1:k=src-d
 ·rw[if_pos h1] at e ⊢;exact cW e
 ·rw[if_neg h1] at e ⊢
  by_cases h2:src-d<k/\k<=src
  ·rw[if_pos h2] at e ⊢;exact cW e
  ·rw[if_neg h2] at e ⊢;exact cW e
theorem oN(hj:j<=xs.size)(k:Nat) :
  R r (mirror xs i j ((j-i) / 2)) k=if i<=k/\k<j then R r xs (i+j-1-k) else R r xs k:=by
 have e:=getElem?_mirror_all (i:=i) hj k
 by_cases h1:i<=k/\k<j
 ·rw[if_pos h1] at e ⊢;exact cW e
 ·rw[if_neg h1] at e ⊢;exact cW e
theorem bJ(hj:j<=xs.size)(heq:∀ k,i<=k->k<j->R r xs k=R r xs (j-1))(k:Nat) :
  R r (mirror xs i j ((j-i) / 2)) k=R r xs k:=by
 rw[oN hj]
 split
 ·rw[heq _ (by lia) (by lia),heq k (by lia) (by lia)]
 ·rfl
section
variable {prog:Program}{w:World}{A:Around}{E:Value->Shared->Prop}{s:Shared}{κ:SortKind}{r:Value->Int}{P:Value->Prop}
theorem qx{st:SortSt}(C:kL prog w A s κ r P)(hk:kindOf st=κ)(hx:P x.1)(hy:P y.1)(h:Q (some (decide (r x.1<r y.1))) st) :
  wpS (model prog w) A E s (lt' x y) Q st:=by
 rw[lt'_eq]
 refine wpS_bind (wpS_get ?_)
 rw[hk]
 refine wpS_bind (wpS_lift (wpAny_attempt (C x.1 y.1 hx hy _ _ ⟨rfl,?_⟩)))
 exact wpS_pure h
theorem aH{st:SortSt}(hi:i<xs.size)(h:∀ p,xs[i]? = some p->Q p st):wpS (model prog w) A E s (elem' xs i) Q st:=by
 rw[elem'_eq,getElem?_pos xs i hi]
 exact wpS_pure (h _ (getElem?_pos xs i hi))
theorem lq{st:SortSt}{i j:Nat}{Q:Option Bool->SortSt->Prop}(C:kL prog w A s κ r P)(hk:kindOf st=κ)(hP:AllP P (arrOf st))(hi:i<(arrOf st).size)(hj:j<(arrOf st).size)
  (h:Q (some (decide (R r (arrOf st) i<R r (arrOf st) j))) st):wpS (model prog w) A E s (ltAt' i j) Q st:=by
 rw[ltAt'_eq]
 refine wpS_bind (wpS_get ?_)
 show wpS _ _ _ _ (do let x <- elem' (arrOf st) i;let y <- elem' (arrOf st) j;lt' x y) Q st
 refine wpS_bind (aH hi fun p ep=>wpS_bind (aH hj fun q eq=>qx C hk (hP.at ep) (hP.at eq) ?_))
 have e1:R r (arrOf st) i=r p.1:=by unfold R;rw[ep]
 have e2:R r (arrOf st) j=r q.1:=by unfold R;rw[eq]
 rw[<- e1,<- e2]
 exact h
theorem dB{st:SortSt}(h:Q () (setArr st (mirror (arrOf st) i j ((j-i) / 2)))) :
  wpS (model prog w) A E s (reverseSlice' i j) Q st:=by
 rw[reverseSlice'_eq];exact wpS_modify h
theorem gm{st:SortSt}(hj:j<=(arrOf st).size):kM i j st (setArr st (mirror (arrOf st) i j ((j-i) / 2))) :=
 ⟨rfl,rfl,rfl,mirror_perm _ _ _ _,fun k hk=>by
  have e:=getElem?_mirror_all (i:=i) hj k
  rw[if_neg (by lia)] at e
  exact e⟩
theorem vA{st:SortSt}{lo src d:Nat}(hs:src<(arrOf st).size)(hd:lo+d<=src):kM lo (src+1) st (setArr st (bubble (arrOf st) src d)) :=
 ⟨rfl,rfl,rfl,bubble_perm _ _ _,fun k hk=>by
  have e:=getElem?_bubble hs d (by walk_at "s4") k
  rw[if_neg (by lia),if_neg (by lia)] at e
  exact e⟩
theorem wpS_binarySort{st:SortSt}{lo n ok:Nat}(C:kL prog w A s κ r P)(hk:kindOf st=κ)(hP:AllP P (arrOf st))(hn:lo+n<=(arrOf st).size)(bq:ok<=n)(hs:Up r (arrOf st) lo (lo+ok))
  (h:∀ ae,kM lo (lo+n) st ae->Up r (arrOf ae) lo (lo+n)->Q true ae):wpS (model prog w) A E s (binarySort' lo n ok) Q st:=by
 rw[binarySort'_eq]
 refine wpS_bind (wpS_mono (wpS_forRange (I:=fun k c ae=>c=(none,())/\kM lo (lo+n) st ae/\Up r (arrOf ae) lo (lo+min k n))
  (Q:=fun c ae=>c=(none,())/\kM lo (lo+n) st ae/\Up r (arrOf ae) lo (lo+n)) ?step ?fin ?init) ?post)
 case post =>
  rintro c ae ⟨rfl,hV,gL⟩
  exact wpS_pure (h ae hV gL)
 case init =>
  refine⟨rfl,.refl _ _ _,fun i j hl hX hj=>?_⟩
  by_cases h1:ok=0
  ·have:i=j:=by lia
   subst this;exact pj _
  ·exact hs i j hl hX (by lia)
 case fin =>
  rintro c ae ⟨hc,hV,gL⟩
  refine⟨hc,hV,?_⟩
  rwa[show min (max (max ok 1) n) n=n by lia] at gL
 case step =>
  rintro k c ae hak hkn ⟨rfl,hV,gL⟩
  rw[show min k n=k by lia] at gL
  have hsz:=hV.size
  have fN:kindOf ae=κ:=hV.kind.trans hk
  have pT:=hP.perm hV.perm
  refine wpS_bind (wpS_mono (wpS_forRange (I:=fun x c x3=>x3=ae/\∃ l r',c=(none,l,r')/\l<=r'/\r'<=k/\r'-l<=k-x /\
    (∀ i,lo<=i->i<lo+l->R r (arrOf ae) i<=R r (arrOf ae) (lo+k))/\(∀ i,lo+r'<=i->i<lo+k->R r (arrOf ae) (lo+k)<R r (arrOf ae) i))
   (Q:=fun c x3=>x3=ae/\∃ l r',c=(none,l,r')/\l<=k /\
    (∀ i,lo<=i->i<lo+l->R r (arrOf ae) i<=R r (arrOf ae) (lo+k))/\(∀ i,lo+l<=i->i<lo+k->R r (arrOf ae) (lo+k)<R r (arrOf ae) i)) ?bG' ?bH' ?bI') ?bJ')
  case bI'=>exact⟨rfl,0,k,rfl,by lia,by lia,by lia,fun i _ hi=>by lia,fun i h1 h2=>by lia⟩
  case bH' =>
   rintro c x3 ⟨rfl,l,r',rfl,hlr,EZ,hm,DC,zi⟩
   have:l=r':=by lia
   subst this
   exact⟨rfl,l,l,rfl,EZ,DC,zi⟩
  case bG' =>
   rintro x c x3 _ hxk ⟨rfl,l,r',rfl,hlr,EZ,hm,DC,zi⟩
   dsimp only
   by_cases oy:l >= r'
   ·rw[if_pos oy]
    have:l=r':=by lia
    subst this
    exact wpS_pure ⟨rfl,l,l,rfl,EZ,DC,zi⟩
   ·rw[if_neg oy]
    refine wpS_bind (lq C fN pT (by lia) (by lia) ?_)
    by_cases ua:R r (arrOf x3) (lo+k)<R r (arrOf x3) (lo+(l+r') / 2)
    ·simp only[ua,decide_true,if_true]
     refine wpS_pure ⟨rfl,l,(l+r') / 2,rfl,by lia,by lia,by lia,DC,fun i h1 h2=>?_⟩
     exact Int.lt_of_lt_of_le ua (gL _ _ (by lia) h1 h2)
    ·simp only[ua,decide_false,gE,if_false]
     refine wpS_pure ⟨rfl,(l+r') / 2+1,r',rfl,by lia,by lia,by lia,fun i h0 h1=>?_,zi⟩
     exact vv (gL i (lo+(l+r') / 2) h0 (by lia) (by lia)) (Int.not_lt.mp ua)
  case bJ' =>
   rintro c x3 ⟨rfl,l,r',rfl,hlk,DC,zi⟩
   show wpS _ _ _ _ (do moveDown' (lo+k) (lo+l);pure (ForInStep.yield (none,()))) _ _
   rw[moveDown'_eq]
   have Sw:lo+k<(arrOf x3).size:=by lia
   refine wpS_bind (wpS_modify (wpS_pure ⟨rfl,hV.trans ((vA (lo:=lo) Sw (by lia)).mono (bT _) (by lia)),?_⟩))
   rw[show min (k+1) n=k+1 by lia]
   intro i j hl hX hj
   show R r (bubble (arrOf x3) (lo+k) (lo+k-(lo+l))) i<=R r (bubble (arrOf x3) (lo+k) (lo+k-(lo+l))) j
   rw[uD Sw (by lia),uD Sw (by lia),show lo+k-(lo+k-(lo+l))=lo+l by lia]
   repeat' split
   all_goals first
    | (exfalso;lia)
    |exact pj _
    |exact DC _ (by lia) (by lia)
    |exact AU (zi _ (by lia) (by lia))
    |exact gL _ _ (by lia) (by lia) (by lia)
end
def ascL(lo a nrem:Nat):StateT SortSt Sem AscSt :=
 forIn [a:nrem] ((none,a):AscSt) fun _ __s=>do
  let __x ← ltAt' (lo + __s.snd) (lo + __s.snd - 1)
  match __x with
  |some smaller=>if smaller=true then pure (ForInStep.done (none,__s.snd)) else pure (ForInStep.yield (none,__s.snd+1))
  |_=>pure (ForInStep.done (some none,__s.snd))
def qJ(lo n nrem:Nat):StateT SortSt Sem (Option Nat):=do
 reverseSlice' lo (lo+n)
 let __s ← ascL lo n nrem
 match __s.fst with
 |some r=>pure r
 |none=>pure (some __s.snd)
def Am(lo n nrem:Nat):StateT SortSt Sem DescSt :=
 forIn [n:nrem] ((none,n,0):DescSt) fun _ __s=>do
  let __x ← ltAt' (lo + __s.snd.fst) (lo + __s.snd.fst - 1)
  match __x with
  |some smaller =>
   if smaller=true then
    if __s.snd.snd>0 then do
     reverseSlice' (lo+__s.snd.fst-(__s.snd.snd+1)) (lo+__s.snd.fst)
     pure (ForInStep.yield (none,__s.snd.fst+1,0))
    else pure (ForInStep.yield (none,__s.snd.fst+1,0))
   else do
    let __x ← ltAt' (lo+__s.snd.fst - 1) (lo+__s.snd.fst)
    match __x with
    |some larger =>
     if larger=true then pure (ForInStep.done (none,__s.snd.fst,__s.snd.snd))
     else pure (ForInStep.yield (none,__s.snd.fst+1,__s.snd.snd+1))
    |_=>pure (ForInStep.done (some none,__s.snd.fst,__s.snd.snd))
  |_=>pure (ForInStep.done (some none,__s.snd.fst,__s.snd.snd))
def fJ(lo n nrem:Nat):StateT SortSt Sem (Option Nat):=do
 liftM (rule "list.sort.descending-run")
 let __s ← Am lo (n+1) nrem
 match __s.fst with
 |some r=>pure r
 |none =>
  if __s.snd.snd>0 then do
   reverseSlice' (lo+__s.snd.fst-(__s.snd.snd+1)) (lo+__s.snd.fst)
   qJ lo __s.snd.fst nrem
  else qJ lo __s.snd.fst nrem
theorem pD(lo nrem:Nat):countRun' lo nrem=(do
  let __s ← ascL lo 1 nrem
  match __s.fst with
  |some r=>pure r
  |none =>
   if (__s.snd == nrem)=true then pure (some __s.snd)
   else if __s.snd>1 then do
    let __x ← ltAt' lo (lo+__s.snd - 1)
    match __x with
    |some V8=>if V8=true then pure (some __s.snd) else do
      reverseSlice' lo (lo+__s.snd)
      fJ lo __s.snd nrem
    |_=>pure none
   else fJ lo __s.snd nrem):=by
 rw[countRun'_eq]
 dsimp only
 unfold fJ qJ Am ascL
 congr 1
 funext __s
 obtain⟨r,n⟩:=__s
 cases r with
 |some r=>rfl
 |none =>
  dsimp only
  split
  ·rfl
  ·split
   ·congr 1
    funext x
    cases x with
    |none=>rfl
    |some V8 =>
     dsimp only
     split
     ·rfl
     ·congr 1
      funext _r
      (congr 1;funext _u;congr 1;congr 1;funext s2;obtain⟨r2,n2,q2⟩:=s2;cases r2 with
       |some r2=>rfl
       |none=>(dsimp only;split;(congr 1;funext _v;(congr 1;funext _w;congr 1;(funext s3;obtain⟨r3,n3⟩:=s3;cases r3<;>rfl)));(congr 1;funext _w;congr 1;(funext s3;obtain⟨r3,n3⟩:=s3;cases r3<;>rfl))))
   ·(congr 1;funext _u;congr 1;congr 1;funext s2;obtain⟨r2,n2,q2⟩:=s2;cases r2 with
     |some r2=>rfl
     |none=>(dsimp only;split;(congr 1;funext _v;(congr 1;funext _w;congr 1;(funext s3;obtain⟨r3,n3⟩:=s3;cases r3<;>rfl)));(congr 1;funext _w;congr 1;(funext s3;obtain⟨r3,n3⟩:=s3;cases r3<;>rfl))))
section
variable {prog:Program}{w:World}{A:Around}{E:Value->Shared->Prop}{s:Shared}{κ:SortKind}{r:Value->Int}{P:Value->Prop}
theorem tE{st:SortSt}{lo a nrem:Nat}(C:kL prog w A s κ r P)(hk:kindOf st=κ)(hP:AllP P (arrOf st))(hn:lo+nrem<=(arrOf st).size)(ha:1<=a)(han:a<=nrem)
  (hs:Up r (arrOf st) lo (lo+a))
  (h:∀ n,a<=n->n<=nrem->Up r (arrOf st) lo (lo+n)->(n=nrem\/R r (arrOf st) (lo+n)<R r (arrOf st) (lo+n-1))->Q (none,n) st) :
  wpS (model prog w) A E s (ascL lo a nrem) Q st:=by
 unfold ascL
 refine wpS_forRange (I:=fun x c ae=>ae=st/\c=(none,x)/\Up r (arrOf st) lo (lo+x)) ?step ?fin ⟨rfl,rfl,hs⟩
 case fin =>
  rintro c ae ⟨rfl,rfl,gL⟩
  rw[show max a nrem=nrem by lia] at gL ⊢
  exact h nrem han (bT _) gL (.inl rfl)
 case step =>
  rintro x c ae Sx hxn ⟨rfl,rfl,gL⟩
  dsimp only
  refine wpS_bind (lq C hk hP (by lia) (by lia) ?_)
  by_cases ua:R r (arrOf ae) (lo+x)<R r (arrOf ae) (lo+x-1)
  ·simp only[ua,decide_true,if_true]
   exact wpS_pure (h x Sx (by lia) gL (.inr ua))
  ·simp only[ua,decide_false,gE,if_false]
   refine wpS_pure ⟨rfl,rfl,fun i j hl hX hj=>?_⟩
   by_cases Np:j<lo+x
   ·exact gL i j hl hX Np
   ·have oz:j=lo+x:=by lia
    subst oz
    by_cases gI:i=lo+x
    ·subst gI;exact pj _
    ·exact vv (gL i (lo+x-1) hl (by lia) (by lia)) (Int.not_lt.mp ua)
theorem lZ{st:SortSt}{lo n nrem:Nat}(C:kL prog w A s κ r P)(hk:kindOf st=κ)(hP:AllP P (arrOf st))(hn:lo+nrem<=(arrOf st).size)(h1:1<=n)(A5:n<=nrem)
  (hs:Down r (arrOf st) lo (lo+n)) (h:∀ m ae,kM lo (lo+nrem) st ae->1<=m->m<=nrem->Up r (arrOf ae) lo (lo+m)->Q (some m) ae) :
  wpS (model prog w) A E s (qJ lo n nrem) Q st:=by
 unfold qJ
 have hsz:lo+n<=(arrOf st).size:=by lia
 refine wpS_bind (dB ?_)
 have hV:=gm (i:=lo) hsz
 refine wpS_bind (tE C (hV.kind.trans hk) (hP.perm hV.perm) (by rw[hV.size];exact hn) h1 A5 ?_ fun m x5 ub A6 _=>wpS_pure (h m _ (hV.mono (bT _) (by lia)) (by lia) ub A6))
 intro i j hl hX hj
 show R r (mirror (arrOf st) lo (lo+n) ((lo+n-lo) / 2)) i<=R r (mirror (arrOf st) lo (lo+n) ((lo+n-lo) / 2)) j
 rw[oN hsz,oN hsz,if_pos (by lia),if_pos (by lia)]
 exact hs _ _ (by lia) (by lia) (by lia)
theorem wu{st:SortSt}{lo n nrem:Nat}(C:kL prog w A s κ r P)(hk:kindOf st=κ)(hP:AllP P (arrOf st))(hn:lo+nrem<=(arrOf st).size)(h1:1<=n)(A5:n<=nrem)
  (hs:Down r (arrOf st) lo (lo+n))
  (h:∀ m pV ae,kM lo (lo+nrem) st ae->n<=m->m<=nrem->Down r (arrOf ae) lo (lo+m)->pV+1<=m->(∀ i,lo+m-(pV+1)<=i->i<lo+m->R r (arrOf ae) i=R r (arrOf ae) (lo+m-1))->Q (none,m,pV) ae) :
  wpS (model prog w) A E s (Am lo n nrem) Q st:=by
 unfold Am
 refine wpS_forRange (I:=fun x c ae=>∃ pV,c=(none,x,pV)/\kM lo (lo+nrem) st ae/\Down r (arrOf ae) lo (lo+x)/\pV+1<=x /\
   (∀ i,lo+x-(pV+1)<=i->i<lo+x->R r (arrOf ae) i=R r (arrOf ae) (lo+x-1))) ?step ?fin ⟨0,rfl,.refl _ _ _,hs,by lia,fun i h1 h2=>by congr 1;lia⟩
 case fin =>
  rintro c ae ⟨pV,rfl,hV,gL,hq,he⟩
  rw[show max n nrem=nrem by lia] at gL hq he ⊢
  exact h nrem pV ae hV A5 (bT _) gL hq he
 case step =>
  rintro x c ae Sx hxn ⟨pV,rfl,hV,gL,hq,he⟩
  dsimp only
  have hz:=hV.size
  have hsz:lo+x<=(arrOf ae).size:=by lia
  have fN:=hV.kind.trans hk
  have pT:=hP.perm hV.perm
  refine wpS_bind (lq C fN pT (by lia) (by lia) ?_)
  by_cases ua:R r (arrOf ae) (lo+x)<R r (arrOf ae) (lo+x-1)
  ·simp only[ua,decide_true,if_true]
   have V9:∀ xs:Array Keyed,(∀ k,R r xs k=R r (arrOf ae) k)->Down r xs lo (lo+(x+1)):=by
    intro xs V_ i j hl hX hj
    rw[V_,V_]
    by_cases Np:j<lo+x
    ·exact gL i j hl hX Np
    ·have oz:j=lo+x:=by lia
     subst oz
     by_cases gI:i=lo+x
     ·subst gI;exact pj _
     ·exact vv (AU ua) (gL i (lo+x-1) hl (by lia) (by lia))
   by_cases Nq:pV>0
   ·rw[if_pos Nq]
    refine wpS_bind (dB (wpS_pure ⟨0,rfl,hV.trans ((gm hsz).mono (by lia) (by lia)),V9 _ (bJ hsz he),by lia,fun i h1 h2=>by congr 1;lia⟩))
   ·rw[if_neg Nq]
    exact wpS_pure ⟨0,rfl,hV,V9 _ (fun _=>rfl),by lia,fun i h1 h2=>by congr 1;lia⟩
  ·simp only[ua,decide_false,gE,if_false]
   refine wpS_bind (lq C fN pT (by lia) (by lia) ?_)
   by_cases Wa:R r (arrOf ae) (lo+x-1)<R r (arrOf ae) (lo+x)
   ·simp only[Wa,decide_true,if_true]
    exact wpS_pure (h x pV ae hV Sx (by lia) gL hq he)
   ·simp only[Wa,decide_false,gE,if_false]
    have Wb:R r (arrOf ae) (lo+x)=R r (arrOf ae) (lo+x-1):=by lia
    refine wpS_pure ⟨pV+1,rfl,hV,fun i j hl hX hj=>?_,by lia,fun i h1 h2=>?_⟩
    ·by_cases Np:j<lo+x
     ·exact gL i j hl hX Np
     ·have oz:j=lo+x:=by lia
      subst oz
      by_cases gI:i=lo+x
      ·subst gI;exact pj _
      ·rw[Wb];exact gL i (lo+x-1) hl (by lia) (by lia)
    ·rw[show lo+(x+1)-1=lo+x by lia]
     by_cases qa:i=lo+x
     ·subst qa;rfl
     ·rw[Wb];exact he i (by lia) (by lia)
theorem iy{st:SortSt}{lo n nrem:Nat}(C:kL prog w A s κ r P)(hk:kindOf st=κ)(hP:AllP P (arrOf st))(hn:lo+nrem<=(arrOf st).size)(A5:n+1<=nrem)
  (hs:Down r (arrOf st) lo (lo+(n+1))) (h:∀ m ae,kM lo (lo+nrem) st ae->1<=m->m<=nrem->Up r (arrOf ae) lo (lo+m)->Q (some m) ae) :
  wpS (model prog w) A E s (fJ lo n nrem) Q st:=by
 unfold fJ
 refine wpS_bind (wpS_lift (wpAny_rule ⟨rfl,?_⟩))
 refine wpS_bind (wu C hk hP hn (by lia) A5 hs fun m pV ae hV x5 ub gL hq he=>?_)
 dsimp only
 have hz:=hV.size
 have hsz:lo+m<=(arrOf ae).size:=by lia
 have fN:=hV.kind.trans hk
 have pT:=hP.perm hV.perm
 by_cases Nq:pV>0
 ·rw[if_pos Nq]
  have hW:=gm (i:=lo+m-(pV+1)) hsz
  refine wpS_bind (dB (lZ C (hW.kind.trans fN) (pT.perm hW.perm) (by rw[hW.size,hz];exact hn) (by lia) ub ?_ fun m2 vE Nr=>h m2 vE ((hV.trans (hW.mono (by lia) (by lia))).trans Nr)))
  intro i j hl hX hj
  show R r (mirror (arrOf ae) _ _ _) j<=R r (mirror (arrOf ae) _ _ _) i
  rw[bJ hsz he,bJ hsz he]
  exact gL i j hl hX hj
 ·rw[if_neg Nq]
  exact lZ C fN pT (by rw[hz];exact hn) (by lia) ub gL fun m2 vE Nr=>h m2 vE (hV.trans Nr)
theorem wpS_countRun{st:SortSt}{lo nrem:Nat}(C:kL prog w A s κ r P)(hk:kindOf st=κ)(hP:AllP P (arrOf st))(hn:lo+nrem<=(arrOf st).size)(h1:1<=nrem)
  (h:∀ m ae,kM lo (lo+nrem) st ae->1<=m->m<=nrem->Up r (arrOf ae) lo (lo+m)->Q (some m) ae) :
  wpS (model prog w) A E s (countRun' lo nrem) Q st:=by
 rw[pD]
 refine wpS_bind (tE C hk hP hn (bT 1) h1 (fun i j hl hX hj=>by
  have:i=j:=by lia
  subst this;exact pj _) fun n Wc HK lP HZ=>?_)
 dsimp only
 by_cases A5:n=nrem
 ·rw[if_pos (by simpa using A5)]
  exact wpS_pure (h n st (.refl _ _ _) Wc HK lP)
 ·rw[if_neg (by simpa using A5)]
  have dc:R r (arrOf st) (lo+n)<R r (arrOf st) (lo+n-1):=HZ.resolve_left A5
  by_cases Wd:n>1
  ·rw[if_pos Wd]
   refine wpS_bind (lq C hk hP (by lia) (by lia) ?_)
   by_cases Wg:R r (arrOf st) lo<R r (arrOf st) (lo+n-1)
   ·simp only[Wg,decide_true,if_true]
    exact wpS_pure (h n st (.refl _ _ _) Wc HK lP)
   ·simp only[Wg,decide_false,gE,if_false]
    have hsz:lo+n<=(arrOf st).size:=by lia
    have ny:∀ k,lo<=k->k<lo+n->R r (arrOf st) k=R r (arrOf st) (lo+n-1):=by
     intro k hl hk
     have a1:=lP lo k (by lia) hl hk
     have a2:=lP k (lo+n-1) hl (by lia) (by lia)
     lia
    have hW:=gm (i:=lo) hsz
    refine wpS_bind (dB (iy C (hW.kind.trans hk) (hP.perm hW.perm) (by rw[hW.size];exact hn) (by lia) ?_ fun m2 vE Nr=>h m2 vE ((hW.mono (bT _) (by lia)).trans Nr)))
    intro i j hl hX hj
    show R r (mirror (arrOf st) _ _ _) j<=R r (mirror (arrOf st) _ _ _) i
    rw[bJ hsz ny,bJ hsz ny]
    by_cases hjn:j<lo+n
    ·rw[ny i hl (by lia),ny j (by lia) hjn];exact pj _
    ·have oz:j=lo+n:=by lia
     subst oz
     by_cases gI:i=lo+n
     ·subst gI;exact pj _
     ·rw[ny i hl (by lia)];exact AU dc
  ·rw[if_neg Wd]
   have bO':n=1:=by lia
   subst bO'
   refine iy C hk hP hn (by lia) ?_ h
   intro i j hl hX hj
   by_cases gI:i=j
   ·subst gI;exact pj _
   ·have sf:i=lo:=by lia
    have Ic:j=lo+1:=by lia
    subst sf;subst Ic
    exact AU dc
end
def xU(left:Bool)(key:Keyed)(arr:Array Keyed)(base i:Nat):StateT SortSt Sem (Option Bool):=do
 let x ← elem' arr (base+i)
 if left then lt' x key else return (<- lt' key x).map (!·)
def jG:Bool->Keyed->Array Keyed->Nat->Nat->Nat->StateT SortSt Sem (Option Nat):=sortPriv% PySem.Builtin.gallop
section
variable {prog:Program}{w:World}{A:Around}{E:Value->Shared->Prop}{s:Shared}{κ:SortKind}{r:Value->Int}{P:Value->Prop}
def eS(r:Value->Int)(left:Bool)(key:Keyed)(arr:Array Keyed)(base i:Nat):Bool :=
 if left then decide (R r arr (base+i)<r key.1) else !decide (r key.1<R r arr (base+i))
theorem dY{st:SortSt}(C:kL prog w A s κ r P)(hk:kindOf st=κ)(hP:AllP P arr)(hy:P key.1)(hi:base+i<arr.size)
  (h:Q (some (eS r left key arr base i)) st):wpS (model prog w) A E s (xU left key arr base i) Q st:=by
 unfold xU
 refine wpS_bind (aH hi fun p ep=>?_)
 have e1:R r arr (base+i)=r p.1:=by unfold R;rw[ep]
 unfold eS at h
 rw[e1] at h
 cases left with
 |true =>
  simp only[if_true] at h ⊢
  exact qx C hk (hP.at ep) hy h
 |false =>
  simp only[gE,if_false] at h ⊢
  exact wpS_bind (qx C hk hy (hP.at ep) (wpS_pure h))
theorem Aj(hu:Up r arr base (base+n))(hX:i<=j)(hj:j<n)(h:eS r left key arr base j=true):eS r left key arr base i=true:=by
 have q:=hu (base+i) (base+j) (by lia) (by lia) (by lia)
 unfold eS at h ⊢
 cases left with
 |true=>simp only[if_true,decide_eq_true_eq] at h ⊢;lia
 |false=>simp only[gE,if_false,Bool.not_eq_true',decide_eq_false_iff_not] at h ⊢;lia
theorem cR{st:SortSt}{base n hint:Nat}(C:kL prog w A s κ r P)(hk:kindOf st=κ)(hP:AllP P arr)(hy:P key.1)(hn:base+n<=arr.size)(hh:hint<n)
  (hu:Up r arr base (base+n))
  (h:∀ k,k<=n->(∀ i,i<k->eS r left key arr base i=true)->(∀ i,k<=i->i<n->eS r left key arr base i=false)->Q (some k) st):wpS (model prog w) A E s (jG left key arr base n hint) Q st:=by
 have mono:∀ {i j},i<=j->j<n->eS r left key arr base j=true->eS r left key arr base i=true:=fun a b c=>Aj hu a b c
 have P4:∀ {i j},i<=j->j<n->eS r left key arr base i=false->eS r left key arr base j=false:=fun {i j} a b c=>by
  cases q:eS r left key arr base j with
  |false=>rfl
  |true=>rw[mono a b q] at c;cases c
 refine wpS_bind (dY C hk hP hy (by lia) ?_)
 dsimp only
 cases q0:eS r left key arr base hint with
 |true =>
  simp only[if_true]
  refine wpS_bind (wpS_mono (wpS_forRange (I:=fun x c ae=>ae=st/\∃ lst eP,c=(none,lst,eP)/\lst<eP/\lst<n-hint/\x+1<=eP/\eS r left key arr base (hint+lst)=true)
   (Q:=fun c ae=>ae=st/\∃ lst eP,c=(none,lst,eP)/\lst<eP/\lst<n-hint/\eS r left key arr base (hint+lst)=true/\(n-hint<=eP\/eS r left key arr base (hint+eP)=false)) ?step ?fin ?init) ?post)
  case init=>exact⟨rfl,0,1,rfl,by lia,by lia,by lia,q0⟩
  case fin =>
   rintro c ae ⟨rfl,lst,eP,rfl,h1,h2,h3,h4⟩
   exact⟨rfl,lst,eP,rfl,h1,h2,h4,.inl (by lia)⟩
  case step =>
   rintro x c ae _ hx ⟨rfl,lst,eP,rfl,h1,h2,h3,h4⟩
   dsimp only
   by_cases oy:eP >= n-hint
   ·rw[if_pos oy]
    exact wpS_pure ⟨rfl,lst,eP,rfl,h1,h2,h4,.inl oy⟩
   ·rw[if_neg oy]
    refine wpS_bind (dY C hk hP hy (by lia) ?_)
    cases q:eS r left key arr base (hint+eP) with
    |true =>
     simp only[O0,gE,if_false]
     exact wpS_pure ⟨rfl,_,_,rfl,by lia,by lia,by lia,q⟩
    |false =>
     simp only[Bool.not_false,if_true]
     exact wpS_pure ⟨rfl,lst,eP,rfl,h1,h2,h4,.inr q⟩
  case post =>
   rintro c ae ⟨rfl,lst,eP,rfl,h1,h2,h4,h5⟩
   dsimp only
   generalize ae=st at *
   have hl:∀ i,i<hint+lst+1->eS r left key arr base i=true:=fun i hi=>mono (j:=hint+lst) (by lia) (by lia) h4
   have zi:∀ i,hint+min eP (n-hint)<=i->i<n->eS r left key arr base i=false:=fun i hi aS=>by
    rcases h5 with h5|h5
    ·lia
    ·by_cases z:n-hint<=eP
     ·lia
     ·exact P4 (i:=hint+eP) (by lia) aS h5
   have Sy:hint+lst+1<=hint+min eP (n-hint):=by lia
   have Sz:hint+min eP (n-hint)<=n:=by lia
   generalize hint+lst+1=lo at *
   generalize hint+min eP (n-hint)=hi at *
   refine wpS_bind (wpS_mono (wpS_forRange (I:=fun x c ae=>ae=st/\∃ l u,c=(none,l,u)/\l<=u/\u<=n/\u-l<=n-x/\(∀ i,i<l->eS r left key arr base i=true)/\(∀ i,u<=i->i<n->eS r left key arr base i=false))
    (Q:=fun c ae=>ae=st/\∃ l,c=(none,l,l)/\l<=n/\(∀ i,i<l->eS r left key arr base i=true)/\(∀ i,l<=i->i<n->eS r left key arr base i=false)) ?bP' ?bQ' ?bR') ?postA)
   case bR'=>exact⟨rfl,lo,hi,rfl,Sy,Sz,by lia,hl,zi⟩
   case bQ' =>
    rintro c ae ⟨rfl,l,u,rfl,h1,h2,h3,h4,h5⟩
    have:l=u:=by lia
    subst this
    exact⟨rfl,l,rfl,h2,h4,h5⟩
   case bP' =>
    rintro x c ae _ hx ⟨rfl,l,u,rfl,h1,h2,h3,h4,h5⟩
    dsimp only
    by_cases oy:l >= u
    ·rw[if_pos oy]
     have:l=u:=by lia
     subst this
     exact wpS_pure ⟨rfl,l,rfl,h2,h4,h5⟩
    ·rw[if_neg oy]
     refine wpS_bind (dY C hk hP hy (by lia) ?_)
     cases q:eS r left key arr base (l+(u-l) / 2) with
     |true =>
      simp only[if_true]
      exact wpS_pure ⟨rfl,_,_,rfl,by lia,by lia,by lia,fun i hi=>mono (j:=l+(u-l) / 2) (by lia) (by lia) q,h5⟩
     |false =>
      simp only[gE,if_false]
      exact wpS_pure ⟨rfl,_,_,rfl,by lia,by lia,by lia,h4,fun i hi aS=>P4 (i:=l+(u-l) / 2) (by lia) aS q⟩
   case postA =>
    rintro c ae ⟨rfl,l,rfl,h2,h4,h5⟩
    exact wpS_pure (h l h2 h4 h5)
 |false =>
  simp only[gE,if_false]
  refine wpS_bind (wpS_mono (wpS_forRange (I:=fun x c ae=>ae=st/\∃ lst eP,c=(none,lst,eP)/\lst<eP/\lst<hint+1/\x+1<=eP/\eS r left key arr base (hint-lst)=false)
   (Q:=fun c ae=>ae=st/\∃ lst eP,c=(none,lst,eP)/\lst<eP/\lst<hint+1/\eS r left key arr base (hint-lst)=false/\(hint+1<=eP\/eS r left key arr base (hint-eP)=true)) ?bS' ?fin2 ?bT') ?bU')
  case bT'=>exact⟨rfl,0,1,rfl,by lia,by lia,by lia,q0⟩
  case fin2 =>
   rintro c ae ⟨rfl,lst,eP,rfl,h1,h2,h3,h4⟩
   exact⟨rfl,lst,eP,rfl,h1,h2,h4,.inl (by lia)⟩
  case bS' =>
   rintro x c ae _ hx ⟨rfl,lst,eP,rfl,h1,h2,h3,h4⟩
   dsimp only
   by_cases oy:eP >= hint+1
   ·rw[if_pos oy]
    exact wpS_pure ⟨rfl,lst,eP,rfl,h1,h2,h4,.inl oy⟩
   ·rw[if_neg oy]
    refine wpS_bind (dY C hk hP hy (by lia) ?_)
    cases q:eS r left key arr base (hint-eP) with
    |true =>
     simp only[if_true]
     exact wpS_pure ⟨rfl,lst,eP,rfl,h1,h2,h4,.inr q⟩
    |false =>
     simp only[gE,if_false]
     exact wpS_pure ⟨rfl,_,_,rfl,by lia,by lia,by lia,q⟩
  case bU' =>
   rintro c ae ⟨rfl,lst,eP,rfl,h1,h2,h4,h5⟩
   dsimp only
   generalize ae=st at *
   have hl:∀ i,i<hint+1-min eP (hint+1)->eS r left key arr base i=true:=fun i hi=>by
    rcases h5 with h5|h5
    ·lia
    ·by_cases z:hint+1<=eP
     ·lia
     ·exact mono (j:=hint-eP) (by lia) (by lia) h5
   have zi:∀ i,hint-lst<=i->i<n->eS r left key arr base i=false:=fun i hi aS=>P4 (i:=hint-lst) (by lia) aS h4
   have Sy:hint+1-min eP (hint+1)<=hint-lst:=by lia
   have Sz:hint-lst<=n:=by lia
   generalize hint+1-min eP (hint+1)=lo at *
   generalize hint-lst=hi at *
   refine wpS_bind (wpS_mono (wpS_forRange (I:=fun x c ae=>ae=st/\∃ l u,c=(none,l,u)/\l<=u/\u<=n/\u-l<=n-x/\(∀ i,i<l->eS r left key arr base i=true)/\(∀ i,u<=i->i<n->eS r left key arr base i=false))
    (Q:=fun c ae=>ae=st/\∃ l,c=(none,l,l)/\l<=n/\(∀ i,i<l->eS r left key arr base i=true)/\(∀ i,l<=i->i<n->eS r left key arr base i=false)) ?bV' ?bW' ?bX') ?bY')
   case bX'=>exact⟨rfl,lo,hi,rfl,Sy,Sz,by lia,hl,zi⟩
   case bW' =>
    rintro c ae ⟨rfl,l,u,rfl,h1,h2,h3,h4,h5⟩
    have:l=u:=by lia
    subst this
    exact⟨rfl,l,rfl,h2,h4,h5⟩
   case bV' =>
    rintro x c ae _ hx ⟨rfl,l,u,rfl,h1,h2,h3,h4,h5⟩
    dsimp only
    by_cases oy:l >= u
    ·rw[if_pos oy]
     have:l=u:=by lia
     subst this
     exact wpS_pure ⟨rfl,l,rfl,h2,h4,h5⟩
    ·rw[if_neg oy]
     refine wpS_bind (dY C hk hP hy (by lia) ?_)
     cases q:eS r left key arr base (l+(u-l) / 2) with
     |true =>
      simp only[if_true]
      exact wpS_pure ⟨rfl,_,_,rfl,by lia,by lia,by lia,fun i hi=>mono (j:=l+(u-l) / 2) (by lia) (by lia) q,h5⟩
     |false =>
      simp only[gE,if_false]
      exact wpS_pure ⟨rfl,_,_,rfl,by lia,by lia,by lia,h4,fun i hi aS=>P4 (i:=l+(u-l) / 2) (by lia) aS q⟩
   case bY' =>
    rintro c ae ⟨rfl,l,rfl,h2,h4,h5⟩
    exact wpS_pure (h l h2 h4 h5)
end
abbrev Le(r:Value->Int)(x y:Keyed):Prop:=r x.1<=r y.1
theorem nE(e:xs[i]? = some p):R r xs i=r p.1:=by unfold R;rw[e]
theorem HJ(h:i<xs.size):R r xs i=r xs[i].1:=nE (getElem?_pos xs i h)
structure MI(r:Value->Int)(a b out:Array Keyed)(ia ib:Nat):Prop where
 ha:ia<=a.size
 hb:ib<=b.size
 perm:out.toList.Perm (a.toList.take ia++b.toList.take ib)
 up:out.toList.Pairwise (Le r)
 la:∀ x∈out.toList,∀ i,ia<=i->i<a.size->r x.1<=R r a i
 lb:∀ x∈out.toList,∀ j,ib<=j->j<b.size->r x.1<=R r b j
section
variable {r:Value->Int}{a b out:Array Keyed}{ia ib:Nat}
theorem lX{α:Type}{l:List α}{i:Nat}{x:α}(h:l[i]? = some x):l.take (i+1)=l.take i++[x]:=by
 rw[B1,h];rfl
theorem MI.pH(M:MI r a b out ia ib)(hA:Up r a 0 a.size)(hB:Up r b 0 b.size){y:Keyed}(e:b[ib]? = some y)(hl:ia<a.size->R r b ib<=R r a ia):MI r a b (out.push y) ia (ib+1):=by
 have Wh:ib<b.size:=(GL.mp e).1
 have ey:=nE (r:=r) e
 refine⟨M.ha,Wh,?_,?_,?_,?_⟩
 ·rw[n9,lX (x:=y) (by simpa using e),<- xh]
  exact M.perm.append_right _
 ·rw[n9,FK]
  refine⟨M.up,by simp,fun x hx z hz=>?_⟩
  have:z=y:=by simpa using hz
  subst this
  show r x.1<=r z.1
  rw[<- ey]
  exact M.lb x hx ib (bT _) Wh
 ·intro x hx i hi Iq
  rw[n9] at hx
  rcases dy.mp hx with hx|hx
  ·exact M.la x hx i hi Iq
  ·have:x=y:=by simpa using hx
   subst this
   rw[<- ey]
   exact vv (hl (by walk_at "s1")) (hA ia i (eh _) hi Iq)
 ·intro x hx j hj Nt
  rw[n9] at hx
  rcases dy.mp hx with hx|hx
  ·exact M.lb x hx j (by exact kA ‹_›) Nt
  ·have:x=y:=by simpa using hx
   subst this
   rw[<- ey]
   exact hB ib j (eh _) (by exact kA ‹_›) Nt
theorem MI.qH(M:MI r a b out ia ib)(hA:Up r a 0 a.size)(hB:Up r b 0 b.size){y:Keyed}(e:a[ia]? = some y)(hl:ib<b.size->R r a ia<=R r b ib):MI r a b (out.push y) (ia+1) ib:=by
 have Iq:ia<a.size:=(GL.mp e).1
 have ey:=nE (r:=r) e
 refine⟨Iq,M.hb,?_,?_,?_,?_⟩
 ·rw[n9,lX (x:=y) (by simpa using e),xh]
  refine(M.perm.append_right [y]).trans ?_
  rw[xh]
  exact List.Perm.append_left _ QZ
 ·rw[n9,FK]
  refine⟨M.up,by simp,fun x hx z hz=>?_⟩
  have:z=y:=by simpa using hz
  subst this
  show r x.1<=r z.1
  rw[<- ey]
  exact M.la x hx ia (bT _) Iq
 ·intro x hx i hi hU
  rw[n9] at hx
  rcases dy.mp hx with hx|hx
  ·exact M.la x hx i (by exact kA ‹_›) hU
  ·have:x=y:=by simpa using hx
   subst this
   rw[<- ey]
   exact hA ia i (eh _) (by exact kA ‹_›) hU
 ·intro x hx j hj Nt
  rw[n9] at hx
  rcases dy.mp hx with hx|hx
  ·exact M.lb x hx j hj Nt
  ·have:x=y:=by simpa using hx
   subst this
   rw[<- ey]
   exact vv (hl (by walk_at "s1")) (hB ib j (eh _) hj Nt)
theorem fD{xs:Array Keyed}{i k:Nat}(h:i+k<xs.size):xs.extract i (i+(k+1))=(xs.extract i (i+k)).push xs[i+k]:=by
 apply LW.mp
 rw[n9]
 simp only[Rh,QQ]
 rw[show i+(k+1)-i=k+1 by exact Nat.add_sub_cancel_left ..,show i+k-i=k by exact Nat.add_sub_cancel_left ..,B1]
 congr 1
 rw[List.getElem?_drop]
 simp[h]
theorem MI.A7(hA:Up r a 0 a.size)(hB:Up r b 0 b.size):∀ (k:Nat) {out:Array Keyed} {ia:Nat},MI r a b out ia ib->ia+k<=a.size->(ib<b.size->∀ i,i<k->R r a (ia+i)<=R r b ib)->MI r a b (out++a.extract ia (ia+k)) (ia+k) ib
 |0,out,ia,M,h1,h2=>by
  have:a.extract ia (ia+0) = #[]:=O3 (by simp only[EB];lia)
  rw[this]
  simpa using M
 |k+1,out,ia,M,h1,h2=>by
  have q:=MI.A7 hA hB k M (by exact kA ‹_›) fun hb i hi=>h2 hb i (by exact qE ‹_›)
  have e:a[ia+k]? = some a[ia+k]:=getElem?_pos a (ia+k) (by assumption)
  have z:=q.qH hA hB e fun hb=>h2 hb k (by exact bT _)
  rw[fD (by assumption),Array.append_push]
  exact z
theorem MI.A8(hA:Up r a 0 a.size)(hB:Up r b 0 b.size):∀ (k:Nat) {out:Array Keyed} {ib:Nat},MI r a b out ia ib->ib+k<=b.size->(ia<a.size->∀ i,i<k->R r b (ib+i)<=R r a ia)->MI r a b (out++b.extract ib (ib+k)) ia (ib+k)
 |0,out,ib,M,h1,h2=>by
  have:b.extract ib (ib+0) = #[]:=O3 (by simp only[EB];lia)
  rw[this]
  simpa using M
 |k+1,out,ib,M,h1,h2=>by
  have q:=MI.A8 hA hB k M (by exact kA ‹_›) fun ha i hi=>h2 ha i (by exact qE ‹_›)
  have e:b[ib+k]? = some b[ib+k]:=getElem?_pos b (ib+k) (by assumption)
  have z:=q.pH hA hB e fun ha=>h2 ha k (by exact bT _)
  rw[fD (by assumption),Array.append_push]
  exact z
def cz(r:Value->Int)(a b out:Array Keyed):Prop:=out.toList.Perm (a.toList++b.toList)/\out.toList.Pairwise (Le r)
theorem MI.whole(M:MI r a b out a.size b.size):cz r a b out:=by
 refine⟨?_,M.up⟩
 have h:=M.perm
 rw[K0 (by simp),K0 (by simp)] at h
 exact h
theorem MI.IK(M:MI r a b out ia b.size)(hA:Up r a 0 a.size)(hB:Up r b 0 b.size):cz r a b (out++a.extract ia a.size++b.extract b.size b.size):=by
 have e:b.extract b.size b.size = #[]:=by simp
 rw[e,Ri]
 have ha:=M.ha
 have q:=MI.A7 hA hB (a.size-ia) M (by lia) fun hb=>absurd hb (pf _)
 rw[show ia+(a.size-ia)=a.size by exact LP ‹_›] at q
 exact q.whole
theorem MI.Ik(M:MI r a b out a.size ib)(hA:Up r a 0 a.size)(hB:Up r b 0 b.size):cz r a b (out++a.extract a.size a.size++b.extract ib b.size):=by
 have e:a.extract a.size a.size = #[]:=by simp
 rw[e,Ri]
 have hb:=M.hb
 have q:=MI.A8 hA hB (b.size-ib) M (by lia) fun ha=>absurd ha (pf _)
 rw[show ib+(b.size-ib)=b.size by exact LP ‹_›] at q
 exact q.whole
theorem MI.Iy(M:MI r a b out ia ib)(hA:Up r a 0 a.size)(hB:Up r b 0 b.size)(e:ib=b.size):cz r a b (out++a.extract ia a.size++b.extract ib b.size):=by subst e;exact M.IK hA hB
theorem MI.IA(M:MI r a b out ia ib)(hA:Up r a 0 a.size)(hB:Up r b 0 b.size)(e:ia=a.size):cz r a b (out++a.extract ia a.size++b.extract ib b.size):=by subst e;exact M.Ik hA hB
theorem MI.Jk(M:MI r a b out ia ib)(hA:Up r a 0 a.size)(hB:Up r b 0 b.size)(Iq:ia+1=a.size)(hg:∀ j,j<b.size->R r b j<=R r a ia):cz r a b (out++b.extract ib b.size++a.extract ia a.size):=by
 have hb:=M.hb
 have q:=MI.A8 hA hB (b.size-ib) M (by lia) fun ha i hi=>hg _ (by lia)
 rw[show ib+(b.size-ib)=b.size by exact LP ‹_›] at q
 have z:=MI.A7 hA hB (a.size-ia) q (by lia) fun hb=>absurd hb (pf _)
 rw[show ia+(a.size-ia)=a.size by lia] at z
 exact z.whole
theorem MI.start(hA:Up r a 0 a.size)(hB:Up r b 0 b.size):MI r a b #[] 0 0:=⟨eh _,eh _,by simp,by simp,fun x hx=>by simp at hx,fun x hx=>by simp at hx⟩
end
def bz:Nat->StateT SortSt Sem Unit:=sortPriv% PySem.Builtin.setMinGallop
def tW:Array Keyed->Array Keyed->StateT SortSt Sem (Array Keyed):=sortPriv% PySem.Builtin.mergeLo
def uf:Array Keyed->Array Keyed->StateT SortSt Sem (Array Keyed):=sortPriv% PySem.Builtin.mergeHi
theorem ji(g:Nat):bz g=modify fun s=>SortSt.mk' (kindOf s) (arrOf s) (pendingOf s) g (failedOf s):=rfl
def Mg(st ae:SortSt):Prop:=∃ g,ae=SortSt.mk' (kindOf st) (arrOf st) (pendingOf st) g (failedOf st)
theorem Mg.refl(st:SortSt):Mg st st:=⟨gallopOf st,rfl⟩
theorem Mg.kind{st ae:SortSt}(h:Mg st ae):kindOf ae=kindOf st:=by obtain⟨g,rfl⟩:=h;rfl
theorem Mg.set{st ae:SortSt}(h:Mg st ae)(g:Nat):Mg st (SortSt.mk' (kindOf ae) (arrOf ae) (pendingOf ae) g (failedOf ae)):=by obtain⟨g',rfl⟩:=h;exact⟨g,rfl⟩
section
variable {prog:Program}{w:World}{A:Around}{E:Value->Shared->Prop}{s:Shared}{r:Value->Int}
theorem ie{st:SortSt}(h:Q () (SortSt.mk' (kindOf st) (arrOf st) (pendingOf st) g (failedOf st))):wpS (model prog w) A E s (bz g) Q st:=by
 rw[ji];exact wpS_modify h
theorem yX(h:eS r false key arr base i=true):R r arr (base+i)<=r key.1:=by
 unfold eS at h;simp only[gE,if_false,Bool.not_eq_true',decide_eq_false_iff_not] at h;lia
theorem yc(h:eS r false key arr base i=false):r key.1<R r arr (base+i):=by
 unfold eS at h;simp only[gE,if_false,Bool.not_eq_false',decide_eq_true_eq] at h;exact h
theorem Dl(h:eS r true key arr base i=true):R r arr (base+i)<r key.1:=by
 unfold eS at h;simp only[if_true,decide_eq_true_eq] at h;exact h
theorem uE(h:eS r true key arr base i=false):r key.1<=R r arr (base+i):=by
 unfold eS at h;simp only[if_true,decide_eq_false_iff_not] at h;lia
end
theorem Mg.trans(h:Mg a b)(g:Mg b c):Mg a c:=by obtain⟨x,rfl⟩:=h;obtain⟨y,rfl⟩:=g;exact⟨y,rfl⟩
theorem Dd{K G:Prop}(pk:K)(h:K->G):G:=h pk
abbrev SM:=StateT SortSt Sem
abbrev L1:=Option (Array Keyed) × Array Keyed × Nat × Nat × Nat
abbrev E1:=Option (Array Keyed) × Array Keyed × Nat × Nat × Nat × Nat
abbrev L3:=Option (Array Keyed) × Array Keyed × Nat × Nat × Nat × Nat × Nat
def DH(a b out:Array Keyed)(ia ib:Nat):Array Keyed:=out++a.extract ia a.size++b.extract ib b.size
def Nu(a b out:Array Keyed)(ia ib:Nat):Array Keyed:=out++b.extract ib b.size++a.extract ia a.size
def SD(a b:Array Keyed)(mg ac bc ia ib:Nat)(out:Array Keyed):SM (ForInStep L3):=elem' a ia >>= fun p =>
 if (ia+1+1 == a.size)=true then pure (.done (some (Nu a b (out.push p) (ia+1) ib),out.push p,ia+1,ib,mg,ac,bc))
 else if (decide (ac<7) && decide (bc<7))=true then pure (.done (none,out.push p,ia+1,ib,mg,ac,bc)) else pure (.yield (none,out.push p,ia+1,ib,mg,ac,bc))
def E2(a b:Array Keyed)(mg ac bc ia ib:Nat)(out:Array Keyed):SM (ForInStep L3):=elem' a ia >>= fun p=>jG true p b ib (b.size-ib) 0 >>= fun x=>match x with
 |some k=>if k>0 then
   if (ib+k == b.size)=true then pure (.done (some (DH a b (out++b.extract ib (ib+k)) ia (ib+k)),out++b.extract ib (ib+k),ia,ib+k,mg,ac,k))
   else SD a b mg ac k ia (ib+k) (out++b.extract ib (ib+k))
  else SD a b mg ac k ia ib out
 |_=>pure (.done (some (DH a b out ia ib),out,ia,ib,mg,ac,bc))
def lo1(a b:Array Keyed)(mg ac bc ia ib:Nat)(out:Array Keyed):SM (ForInStep L3):=elem' b ib >>= fun p =>
 if (ib+1 == b.size)=true then pure (.done (some (DH a b (out.push p) ia (ib+1)),out.push p,ia,ib+1,mg,ac,bc)) else E2 a b mg ac bc ia (ib+1) (out.push p)
def SF(a b:Array Keyed)(mg ac bc ia ib:Nat)(out:Array Keyed):SM (ForInStep L3):=bz mg >>= fun _=>elem' b ib >>= fun p=>jG false p a ia (a.size-ia) 0 >>= fun x=>match x with
 |some k=>if k>0 then
   if (ia+k+1 == a.size)=true then pure (.done (some (Nu a b (out++a.extract ia (ia+k)) (ia+k) ib),out++a.extract ia (ia+k),ia+k,ib,mg,k,bc))
   else if (ia+k == a.size)=true then pure (.done (some (DH a b (out++a.extract ia (ia+k)) (ia+k) ib),out++a.extract ia (ia+k),ia+k,ib,mg,k,bc))
   else lo1 a b mg k bc (ia+k) ib (out++a.extract ia (ia+k))
  else lo1 a b mg k bc ia ib out
 |_=>pure (.done (some (DH a b out ia ib),out,ia,ib,mg,ac,bc))
def Wi(a b:Array Keyed)(_:Nat)(s:L3):SM (ForInStep L3) :=
 if s.2.2.2.2.1>1 then SF a b (s.2.2.2.2.1-1) s.2.2.2.2.2.1 s.2.2.2.2.2.2 s.2.2.1 s.2.2.2.1 s.2.1 else SF a b s.2.2.2.2.1 s.2.2.2.2.2.1 s.2.2.2.2.2.2 s.2.2.1 s.2.2.2.1 s.2.1
def Wj(a b:Array Keyed)(mg bc ia ib:Nat)(out:Array Keyed):SM (ForInStep E1):=elem' b ib >>= fun p =>
 if (ib+1 == b.size)=true then pure (.done (some (DH a b (out.push p) ia (ib+1)),out.push p,ia,ib+1,0,bc+1))
 else if bc+1 >= mg then pure (.done (none,out.push p,ia,ib+1,0,bc+1)) else pure (.yield (none,out.push p,ia,ib+1,0,bc+1))
def Wk(a b:Array Keyed)(mg ac ia ib:Nat)(out:Array Keyed):SM (ForInStep E1):=elem' a ia >>= fun p =>
 if (ia+1+1 == a.size)=true then pure (.done (some (Nu a b (out.push p) (ia+1) ib),out.push p,ia+1,ib,ac+1,0))
 else if ac+1 >= mg then pure (.done (none,out.push p,ia+1,ib,ac+1,0)) else pure (.yield (none,out.push p,ia+1,ib,ac+1,0))
def Wl(a b:Array Keyed)(mg:Nat)(_:Nat)(s:E1):SM (ForInStep E1):=elem' b s.2.2.2.1 >>= fun pb=>elem' a s.2.2.1 >>= fun pa=>lt' pb pa >>= fun x=>match x with
 |some w=>if w=true then Wj a b mg s.2.2.2.2.2 s.2.2.1 s.2.2.2.1 s.2.1 else Wk a b mg s.2.2.2.2.1 s.2.2.1 s.2.2.2.1 s.2.1
 |_=>pure (.done (some (DH a b s.2.1 s.2.2.1 s.2.2.2.1),s.2.1,s.2.2.1,s.2.2.2.1,s.2.2.2.2.1,s.2.2.2.2.2))
def Wm (a b:Array Keyed) (mg:Nat) (t:E1):SM (ForInStep L1):=(liftM (rule "list.sort.gallop"):SM Unit) >>= fun _ =>
 forIn [:a.size+b.size] ((none,t.2.1,t.2.2.1,t.2.2.2.1,mg+1,t.2.2.2.2.1,t.2.2.2.2.2):L3) (Wi a b) >>= fun u=>match u.1 with
 |some r=>pure (.done (some r,u.2.1,u.2.2.1,u.2.2.2.1,u.2.2.2.2.1))
 |none=>bz (u.2.2.2.2.1+1) >>= fun _=>pure (.yield (none,u.2.1,u.2.2.1,u.2.2.2.1,u.2.2.2.2.1+1))
def Wn(a b:Array Keyed)(_:Nat)(s:L1):SM (ForInStep L1):=forIn [:a.size+b.size] ((none,s.2.1,s.2.2.1,s.2.2.2.1,0,0):E1) (Wl a b s.2.2.2.2) >>= fun t=>match t.1 with
 |some r=>pure (.done (some r,t.2.1,t.2.2.1,t.2.2.2.1,s.2.2.2.2))
 |none=>Wm a b s.2.2.2.2 t
def loM (a b:Array Keyed):SM (Array Keyed):=(liftM (rule "list.sort.merge-lo"):SM Unit) >>= fun _=>elem' b 0 >>= fun y =>
 if (1 == b.size)=true then pure (DH a b #[y] 0 1)
 else if (0+1 == a.size)=true then pure (Nu a b #[y] 0 1)
 else get >>= fun st=>forIn [:a.size+b.size] ((none,#[y],0,1,gallopOf st):L1) (Wn a b) >>= fun t=>match t.1 with
 |some r=>pure r
 |none=>(liftM (unsupported (α:=Array Keyed) "internal:list.sort.merge-bound"):SM (Array Keyed))
set_option smartUnfolding false in
theorem uQ:tW=loM:=rfl
section
variable {prog:Program}{w:World}{A:Around}{E:Value->Shared->Prop}{s:Shared}{κ:SortKind}{r:Value->Int}{P:Value->Prop}{a b out:Array Keyed}{mg ac bc ia ib N:Nat}{st:SortSt}
structure MC(prog:Program)(w:World)(A:Around)(s:Shared)(κ:SortKind)(r:Value->Int)(P:Value->Prop)(a b:Array Keyed):Prop where
 C:kL prog w A s κ r P
 pa:AllP P a
 pb:AllP P b
 hA:Up r a 0 a.size
 hB:Up r b 0 b.size
 hl:∀ i,i<a.size->R r b 0<=R r a i
 hg:∀ j,j<b.size->R r b j<=R r a (a.size-1)
def HS(r:Value->Int)(a b:Array Keyed)(c:Option (Array Keyed) × β):Prop:=∃ out rest,c=(some out,rest)/\cz r a b out
def LY(r:Value->Int)(a b:Array Keyed)(N:Nat)(c:L3):Prop:=∃ out ia ib mg ac bc,c=(none,out,ia,ib,mg,ac,bc)/\MI r a b out ia ib/\ia+1<a.size/\ib<b.size/\N<=ia+ib
def LI(r:Value->Int)(a b:Array Keyed)(N:Nat)(c:E1):Prop:=∃ out ia ib ac bc,c=(none,out,ia,ib,ac,bc)/\MI r a b out ia ib/\ia+1<a.size/\ib<b.size/\N<=ia+ib
theorem MC.last(c:MC prog w A s κ r P a b)(M:MI r a b out ia ib)(z:ia+1=a.size):cz r a b (Nu a b out ia ib):=M.Jk c.hA c.hB z fun j hj=>by
 have:=c.hg j hj
 rwa[show a.size-1=ia by lia] at this
theorem Be(c:MC prog w A s κ r P a b)(M:MI r a b out ia ib)(h1:ia+1<a.size)(lt:R r a ia<=R r b ib)(h2:ib<b.size)(hN:N<=ia+ib)(D:∀ c,HS r a b c->Q (.done c) st)(Y:∀ c,LY r a b N c->Q (.done c) st/\Q (.yield c) st):wpS (model prog w) A E s (SD a b mg ac bc ia ib out) Q st:=by
 refine wpS_bind (aH (by lia) fun p e=>?_)
 have M2:=M.qH c.hA c.hB e fun _=>lt
 by_cases z:ia+1+1=a.size
 ·rw[if_pos (by simpa using z)]
  exact wpS_pure (D _ ⟨_,_,rfl,c.last M2 z⟩)
 ·rw[if_neg (by simpa using z)]
  have y:=Y _ ⟨_,_,_,mg,ac,bc,rfl,M2,by lia,h2,by lia⟩
  split
  ·exact wpS_pure y.1
  ·exact wpS_pure y.2
theorem HH(c:MC prog w A s κ r P a b)(hk:kindOf st=κ)(M:MI r a b out ia ib)(h1:ia+1<a.size)(h2:ib<b.size)(hN:N<=ia+ib)(D:∀ c,HS r a b c->Q (.done c) st)(Y:∀ c,LY r a b N c->Q (.done c) st/\Q (.yield c) st):wpS (model prog w) A E s (E2 a b mg ac bc ia ib out) Q st:=by
 refine wpS_bind (aH (by lia) fun p e=>wpS_bind (cR c.C hk c.pb (c.pa.at e) (by lia) (by lia) (fun i j u v w=>c.hB i j (by lia) v (by lia)) fun l IB wc IC=>?_))
 have ra:=nE (r:=r) e
 dsimp only
 have lt:ib+l<b.size->R r a ia<=R r b (ib+l):=fun z=>by have:=uE (IC l (bT _) (by lia));lia
 by_cases l0:l>0
 ·have M5:=MI.A8 c.hA c.hB l M (by lia) fun _ i hi=>by have:=Dl (wc i hi);lia
  rw[if_pos l0]
  by_cases z:ib+l=b.size
  ·rw[if_pos (by simpa using z)]
   exact wpS_pure (D _ ⟨_,_,rfl,M5.Iy c.hA c.hB z⟩)
  ·rw[if_neg (by simpa using z)]
   exact Be c M5 h1 (lt (by lia)) (by lia) (by lia) D Y
 ·rw[if_neg l0]
  obtain rfl:l=0:=by lia
  exact Be c M h1 (lt h2) h2 hN D Y
theorem Bb(c:MC prog w A s κ r P a b)(hk:kindOf st=κ)(M:MI r a b out ia ib)(h1:ia+1<a.size)(lt:R r b ib<=R r a ia)(h2:ib<b.size)(hN:N<=ia+ib)(D:∀ c,HS r a b c->Q (.done c) st)(Y:∀ c,LY r a b N c->Q (.done c) st/\Q (.yield c) st):wpS (model prog w) A E s (lo1 a b mg ac bc ia ib out) Q st:=by
 refine wpS_bind (aH h2 fun p e=>?_)
 have M4:=M.pH c.hA c.hB e fun _=>lt
 by_cases z:ib+1=b.size
 ·rw[if_pos (by simpa using z)]
  exact wpS_pure (D _ ⟨_,_,rfl,M4.Iy c.hA c.hB z⟩)
 ·rw[if_neg (by simpa using z)]
  exact HH c hk M4 h1 (by lia) (by lia) D Y
theorem G3(c:MC prog w A s κ r P a b)(hk:kindOf st=κ)(M:MI r a b out ia ib)(h1:ia+1<a.size)(h2:ib<b.size)(hN:N<=ia+ib)(D:∀ ae,Mg st ae->∀ c,HS r a b c->Q (.done c) ae)(Y:∀ ae,Mg st ae->∀ c,LY r a b N c->Q (.done c) ae/\Q (.yield c) ae):wpS (model prog w) A E s (SF a b mg ac bc ia ib out) Q st:=by
 have g:=(Mg.refl st).set mg
 refine wpS_bind (ie ?_)
 refine wpS_bind (aH h2 fun p e=>wpS_bind (cR c.C (g.kind.trans hk) c.pa (c.pb.at e) (by lia) (by lia) (fun i j u v w=>c.hA i j (by lia) v (by lia)) fun k Wo wo E3=>?_))
 have rb:=nE (r:=r) e
 dsimp only
 have lt:ia+k<a.size->R r b ib<=R r a (ia+k):=fun z=>by have:=yc (E3 k (bT _) (by lia));lia
 by_cases k0:k>0
 ·have M3:=MI.A7 c.hA c.hB k M (by lia) fun _ i hi=>by have:=yX (wo i hi);lia
  rw[if_pos k0]
  by_cases z:ia+k+1=a.size
  ·rw[if_pos (by simpa using z)]
   exact wpS_pure (D _ g _ ⟨_,_,rfl,c.last M3 z⟩)
  ·rw[if_neg (by simpa using z)]
   by_cases z2:ia+k=a.size
   ·rw[if_pos (by simpa using z2)]
    exact wpS_pure (D _ g _ ⟨_,_,rfl,M3.IA c.hA c.hB z2⟩)
   ·rw[if_neg (by simpa using z2)]
    exact Bb c (g.kind.trans hk) M3 (by lia) (lt (by lia)) h2 (by lia) (D _ g) (Y _ g)
 ·rw[if_neg k0]
  obtain rfl:k=0:=by lia
  exact Bb c (g.kind.trans hk) M h1 (lt (by lia)) h2 hN (D _ g) (Y _ g)
theorem Hy(c:MC prog w A s κ r P a b)(M:MI r a b out ia ib)(h1:ia+1<a.size)(lt:R r b ib<=R r a ia)(h2:ib<b.size)(hN:N<=ia+ib+1)(D:∀ c,HS r a b c->Q (.done c) st)(Y:∀ c,LI r a b N c->Q (.done c) st/\Q (.yield c) st):wpS (model prog w) A E s (Wj a b mg bc ia ib out) Q st:=by
 refine wpS_bind (aH h2 fun p e=>?_)
 have M2:=M.pH c.hA c.hB e fun _=>lt
 by_cases z:ib+1=b.size
 ·rw[if_pos (by simpa using z)]
  exact wpS_pure (D _ ⟨_,_,rfl,M2.Iy c.hA c.hB z⟩)
 ·rw[if_neg (by simpa using z)]
  have y:=Y _ ⟨_,_,_,0,bc+1,rfl,M2,h1,by lia,hN⟩
  split
  ·exact wpS_pure y.1
  ·exact wpS_pure y.2
theorem G9(c:MC prog w A s κ r P a b)(M:MI r a b out ia ib)(h1:ia+1<a.size)(lt:R r a ia<=R r b ib)(h2:ib<b.size)(hN:N<=ia+ib+1)(D:∀ c,HS r a b c->Q (.done c) st)(Y:∀ c,LI r a b N c->Q (.done c) st/\Q (.yield c) st):wpS (model prog w) A E s (Wk a b mg ac ia ib out) Q st:=by
 refine wpS_bind (aH (by lia) fun p e=>?_)
 have M2:=M.qH c.hA c.hB e fun _=>lt
 by_cases z:ia+1+1=a.size
 ·rw[if_pos (by simpa using z)]
  exact wpS_pure (D _ ⟨_,_,rfl,c.last M2 z⟩)
 ·rw[if_neg (by simpa using z)]
  have y:=Y _ ⟨_,_,_,ac+1,0,rfl,M2,by lia,h2,by lia⟩
  split
  ·exact wpS_pure y.1
  ·exact wpS_pure y.2
theorem Hu(c:MC prog w A s κ r P a b)(hk:kindOf st=κ)(M:MI r a b out ia ib)(h1:ia+1<a.size)(h2:ib<b.size)(hN:N<=ia+ib+1)(D:∀ c,HS r a b c->Q (.done c) st)(Y:∀ c,LI r a b N c->Q (.done c) st/\Q (.yield c) st):wpS (model prog w) A E s (Wl a b mg x (none,out,ia,ib,ac,bc)) Q st:=by
 refine wpS_bind (aH h2 fun pb eb=>wpS_bind (aH (show ia<a.size by lia) fun pa ea=>wpS_bind (qx c.C hk (c.pb.at eb) (c.pa.at ea) ?_)))
 have rb:R r b ib=r pb.1:=nE eb
 have ra:R r a ia=r pa.1:=nE ea
 dsimp only
 by_cases hw:r pb.1<r pa.1
 ·rw[if_pos (decide_eq_true hw)]
  exact Hy c M h1 (by lia) h2 hN D Y
 ·rw[if_neg (by simpa using hw)]
  exact G9 c M h1 (by lia) h2 hN D Y
theorem Gm(c:MC prog w A s κ r P a b)(hk:kindOf st=κ)(M:MI r a b out ia ib)(h1:ia+1<a.size)(h2:ib<b.size)(hN:N<=ia+ib)(D:∀ ae,Mg st ae->∀ c,HS r a b c->Q (.done c) ae)
  (Y:∀ ae,Mg st ae->∀ out ia ib mg,MI r a b out ia ib->ia+1<a.size->ib<b.size->N<=ia+ib->Q (.yield (none,out,ia,ib,mg)) ae):wpS (model prog w) A E s (Wm a b mg (none,out,ia,ib,ac,bc)) Q st:=by
 refine wpS_bind (wpS_lift (wpAny_rule ⟨rfl,?_⟩))
 refine wpS_bind (wpS_mono (wpS_forRange (I:=fun _ c ae=>Mg st ae/\LY r a b N c) (Q:=fun c ae=>Mg st ae/\(HS r a b c\/LY r a b N c)) ?step ?fin ⟨.refl st,_,_,_,_,_,_,rfl,M,h1,h2,hN⟩) ?post)
 case fin =>
  rintro c ae ⟨hm,q⟩
  exact⟨hm,.inr q⟩
 case step =>
  rintro y c1 A9 _ _ ⟨hm,out,ia,ib,mg,ac,bc,rfl,M,h1,h2,hN⟩
  unfold Wi
  dsimp only
  split<;>exact G3 c (hm.kind.trans hk) M h1 h2 hN (fun ae g c q=>⟨hm.trans g,.inl q⟩) fun ae g c q=>⟨⟨hm.trans g,.inr q⟩,hm.trans g,q⟩
 case post =>
  rintro c ae ⟨hm,⟨o,rest,rfl,hM⟩|⟨out,ia,ib,mg,ac,bc,rfl,M,h1,h2,hN⟩⟩
  ·exact wpS_pure (D _ hm _ ⟨_,_,rfl,hM⟩)
  ·exact wpS_bind (ie (wpS_pure (Y _ (hm.set _) _ _ _ _ M h1 h2 hN)))
theorem Hk(c:MC prog w A s κ r P a b)(hk:kindOf st=κ)(M:MI r a b out ia ib)(h1:ia+1<a.size)(h2:ib<b.size)(hN:N<=ia+ib)(D:∀ ae,Mg st ae->∀ c,HS r a b c->Q (.done c) ae)
  (Y:∀ ae,Mg st ae->∀ out ia ib mg,MI r a b out ia ib->ia+1<a.size->ib<b.size->N+1<=ia+ib->Q (.yield (none,out,ia,ib,mg)) ae):wpS (model prog w) A E s (Wn a b x (none,out,ia,ib,mg)) Q st:=by
 refine wpS_bind (wpS_mono (wpS_forRange (I:=fun y c ae=>ae=st/\LI r a b (N+y) c) (Q:=fun c ae=>ae=st/\(HS r a b c\/LI r a b (N+1) c)) ?step ?fin ⟨rfl,_,_,_,_,_,rfl,M,h1,h2,hN⟩) ?post)
 case fin =>
  rintro c ae ⟨rfl,o,ia',ib',ac,bc,rfl,M',q1,q2,q3⟩
  exact⟨rfl,.inr ⟨_,_,_,_,_,rfl,M',q1,q2,by lia⟩⟩
 case step =>
  rintro y c1 A9 _ hy ⟨rfl,o,ia',ib',ac,bc,rfl,M',q1,q2,q3⟩
  exact Hu (N:=N+y+1) c hk M' q1 q2 (by lia) (fun c q=>⟨rfl,.inl q⟩) fun c q=>by
   obtain⟨o,ia,ib,ac,bc,rfl,M,h1,h2,h3⟩:=q
   exact⟨⟨rfl,.inr ⟨_,_,_,_,_,rfl,M,h1,h2,by lia⟩⟩,rfl,_,_,_,_,_,rfl,M,h1,h2,by lia⟩
 case post =>
  rintro c1 ae ⟨rfl,⟨o,rest,rfl,hM⟩|⟨o,ia,ib,ac,bc,rfl,M',q1,q2,q3⟩⟩
  ·exact wpS_pure (D _ (.refl _) _ ⟨_,_,rfl,hM⟩)
  ·exact Gm c hk M' q1 q2 q3 D Y
theorem rJ{st:SortSt}(C:kL prog w A s κ r P)(hk:kindOf st=κ)(SG:AllP P a)(SJ:AllP P b)(hA:Up r a 0 a.size)(hB:Up r b 0 b.size)(na:1<=a.size)(nb:1<=b.size)
  (h0:R r b 0<=R r a 0) (hg:∀ j,j<b.size->R r b j<=R r a (a.size-1)) (h:∀ out ae,cz r a b out->Mg st ae->Q out ae):wpS (model prog w) A E s (tW a b) Q st:=by
 have c:MC prog w A s κ r P a b:=⟨C,SG,SJ,hA,hB,fun i hi=>vv h0 (hA 0 i (bT _) (eh _) hi),hg⟩
 rw[uQ]
 refine wpS_bind (wpS_lift (wpAny_rule ⟨rfl,?_⟩))
 refine wpS_bind (aH nb fun y0 e0=>?_)
 have M1:MI r a b #[y0] 0 1:=(MI.start hA hB).pH hA hB e0 fun _=>h0
 by_cases c1:1=b.size
 ·rw[if_pos (by simpa using c1)]
  exact wpS_pure (h _ _ (M1.Iy hA hB c1) (.refl st))
 ·rw[if_neg (by simpa using c1)]
  by_cases c2:0+1=a.size
  ·rw[if_pos (by simpa using c2)]
   exact wpS_pure (h _ _ (c.last M1 c2) (.refl st))
  ·rw[if_neg (by simpa using c2)]
   refine wpS_bind (wpS_get ?_)
   refine wpS_bind (wpS_mono (wpS_forRange (I:=fun x c ae=>Mg st ae/\∃ out ia ib mg,c=(none,out,ia,ib,mg)/\MI r a b out ia ib/\ia+1<a.size/\ib<b.size/\x+1<=ia+ib)
    (Q:=fun c ae=>Mg st ae/\HS r a b c) ?step ?fin ⟨.refl st,_,_,_,_,rfl,M1,by lia,by lia,by lia⟩) ?post)
   case fin =>
    rintro c ae ⟨_,out,ia,ib,mg,rfl,M,h1,h2,h3⟩
    lia
   case post =>
    rintro c ae ⟨hm,out,rest,rfl,hM⟩
    exact wpS_pure (h out ae hM hm)
   case step =>
    rintro x c1 A9 _ hx ⟨x5,out,ia,ib,mg,rfl,M,h1,h2,h3⟩
    exact Hk (N:=x+1) c (x5.kind.trans hk) M h1 h2 h3 (fun ae g c q=>⟨x5.trans g,q⟩) fun ae g out ia ib mg M h1 h2 h3=>⟨x5.trans g,_,_,_,_,rfl,M,h1,h2,h3⟩
end
abbrev Ge(r:Value->Int)(x y:Keyed):Prop:=r y.1<=r x.1
structure MH(r:Value->Int)(a b out:Array Keyed)(na nb:Nat):Prop where
 ha:na<=a.size
 hb:nb<=b.size
 perm:out.toList.Perm (a.toList.drop na++b.toList.drop nb)
 down:out.toList.Pairwise (Ge r)
 ga:∀ x∈out.toList,∀ i,i<na->R r a i<=r x.1
 gb:∀ x∈out.toList,∀ j,j<nb->R r b j<=r x.1
section
variable {r:Value->Int}{a b out:Array Keyed}{na nb:Nat}
theorem pZ{α:Type}{l:List α}{i:Nat}{x:α}(h0:0<i)(h:l[i-1]? = some x):l.drop (i-1)=x :: l.drop i:=by
 obtain⟨hi,e⟩:=i7.mp h
 rw[vt hi,e,show i-1+1=i by exact Nat.sub_add_cancel ‹_›]
theorem MH.qH(M:MH r a b out na nb)(hA:Up r a 0 a.size)(hB:Up r b 0 b.size)(h0:0<na){y:Keyed}(e:a[na-1]? = some y)(hl:0<nb->R r b (nb-1)<=R r a (na-1)):MH r a b (out.push y) (na-1) nb:=by
 have ey:=nE (r:=r) e
 have ha:=M.ha
 have hb:=M.hb
 refine⟨by lia,M.hb,?_,?_,?_,?_⟩
 ·rw[n9,pZ (x:=y) h0 (by simpa using e)]
  refine(M.perm.append_right [y]).trans ?_
  exact QZ
 ·rw[n9,FK]
  refine⟨M.down,by simp,fun x hx z hz=>?_⟩
  have:z=y:=by simpa using hz
  subst this
  show r z.1<=r x.1
  rw[<- ey]
  exact M.ga x hx (na-1) (by exact EA ‹_› Ee)
 ·intro x hx i hi
  rw[n9] at hx
  rcases dy.mp hx with hx|hx
  ·exact M.ga x hx i (by walk_at "s4")
  ·have:x=y:=by simpa using hx
   subst this
   rw[<- ey]
   exact hA i (na-1) (eh _) (by exact kA ‹_›) (by lia)
 ·intro x hx j hj
  rw[n9] at hx
  rcases dy.mp hx with hx|hx
  ·exact M.gb x hx j hj
  ·have:x=y:=by simpa using hx
   subst this
   rw[<- ey]
   exact vv (hB j (nb-1) (eh _) (by lia) (by lia)) (hl (by lia))
theorem MH.pH(M:MH r a b out na nb)(hA:Up r a 0 a.size)(hB:Up r b 0 b.size)(h0:0<nb){y:Keyed}(e:b[nb-1]? = some y)(hl:0<na->R r a (na-1)<=R r b (nb-1)):MH r a b (out.push y) na (nb-1):=by
 have ey:=nE (r:=r) e
 have ha:=M.ha
 have hb:=M.hb
 refine⟨M.ha,by lia,?_,?_,?_,?_⟩
 ·rw[n9,pZ (x:=y) h0 (by simpa using e)]
  refine(M.perm.append_right [y]).trans ?_
  rw[xh]
  exact List.Perm.append_left _ QZ
 ·rw[n9,FK]
  refine⟨M.down,by simp,fun x hx z hz=>?_⟩
  have:z=y:=by simpa using hz
  subst this
  show r z.1<=r x.1
  rw[<- ey]
  exact M.gb x hx (nb-1) (by exact EA ‹_› Ee)
 ·intro x hx i hi
  rw[n9] at hx
  rcases dy.mp hx with hx|hx
  ·exact M.ga x hx i hi
  ·have:x=y:=by simpa using hx
   subst this
   rw[<- ey]
   exact vv (hA i (na-1) (eh _) (by lia) (by lia)) (hl (by lia))
 ·intro x hx j hj
  rw[n9] at hx
  rcases dy.mp hx with hx|hx
  ·exact M.gb x hx j (by walk_at "s4")
  ·have:x=y:=by simpa using hx
   subst this
   rw[<- ey]
   exact hB j (nb-1) (eh _) (by exact kA ‹_›) (by lia)
theorem jy{xs:Array Keyed}{i n:Nat}(h:i<n)(hn:n<=xs.size):(xs.extract i n).reverse = #[xs[n-1]'(by lia)]++(xs.extract i (n-1)).reverse:=by
 obtain⟨k,rfl⟩:∃ k,n=i+(k+1):=⟨n-1-i,by lia⟩
 have e3:i+(k+1)-1=i+k:=by rfl
 simp only[e3]
 rw[fD (by assumption),Array.reverse_push]
theorem MH.A7(hA:Up r a 0 a.size)(hB:Up r b 0 b.size):∀ (k:Nat) {out:Array Keyed} {na p:Nat},MH r a b out na nb->p+k=na->(0<nb->∀ i,p<=i->i<na->R r b (nb-1)<=R r a i)->MH r a b (out++(a.extract p na).reverse) p nb
 |0,out,na,p,M,h1,h2=>by
  have:a.extract p na = #[]:=O3 (by simp only[EB];lia)
  have e:na=p:=by walk_at "s1"
  subst e
  rw[this]
  simpa using M
 |k+1,out,na,p,M,h1,h2=>by
  have ha:=M.ha
  have e:a[na-1]? = some (a[na-1]'(by lia)):=getElem?_pos a (na-1) (by lia)
  have q:=M.qH hA hB (by lia) e fun hb=>h2 hb _ (by lia) (by lia)
  have z:=MH.A7 hA hB k (p:=p) q (by lia) fun hb i kz hU=>h2 hb i kz (by walk_at "s4")
  rw[jy (by lia) ha,<- O6]
  simpa using z
theorem MH.A8(hA:Up r a 0 a.size)(hB:Up r b 0 b.size):∀ (k:Nat) {out:Array Keyed} {nb p:Nat},MH r a b out na nb->p+k=nb->(0<na->∀ i,p<=i->i<nb->R r a (na-1)<=R r b i)->MH r a b (out++(b.extract p nb).reverse) na p
 |0,out,nb,p,M,h1,h2=>by
  have:b.extract p nb = #[]:=O3 (by simp only[EB];lia)
  have e:nb=p:=by walk_at "s1"
  subst e
  rw[this]
  simpa using M
 |k+1,out,nb,p,M,h1,h2=>by
  have hb:=M.hb
  have e:b[nb-1]? = some (b[nb-1]'(by lia)):=getElem?_pos b (nb-1) (by lia)
  have q:=M.pH hA hB (by lia) e fun ha=>h2 ha _ (by lia) (by lia)
  have z:=MH.A8 hA hB k (p:=p) q (by lia) fun ha i kz hU=>h2 ha i kz (by walk_at "s4")
  rw[jy (by lia) hb,<- O6]
  simpa using z
theorem MH.whole(M:MH r a b out 0 0):cz r a b out.reverse:=by
 refine⟨?_,?_⟩
 ·have h:=M.perm
  rw[List.drop_zero,List.drop_zero] at h
  rw[Array.toList_reverse]
  exact(List.reverse_perm _).trans h
 ·rw[Array.toList_reverse,List.pairwise_reverse]
  exact M.down
theorem nJ(x y:Array Keyed):(x++y.reverse).reverse=y++x.reverse:=by
 apply LW.mp
 simp
theorem MH.IA(M:MH r a b out na nb)(hA:Up r a 0 a.size)(hB:Up r b 0 b.size)(e:na=0):cz r a b (a.extract 0 na++b.extract 0 nb++out.reverse):=by
 subst e
 have z:=MH.A8 hA hB nb (p:=0) M (by exact OW ..) fun ha=>absurd ha (pf _)
 have q:=z.whole
 rw[nJ] at q
 have e2:a.extract 0 0 = #[]:=by simp
 rw[e2,Array.empty_append]
 exact q
theorem MH.Iy(M:MH r a b out na nb)(hA:Up r a 0 a.size)(hB:Up r b 0 b.size)(e:nb=0):cz r a b (a.extract 0 na++b.extract 0 nb++out.reverse):=by
 subst e
 have z:=MH.A7 hA hB na (p:=0) M (by exact OW ..) fun hb=>absurd hb (pf _)
 have q:=z.whole
 rw[nJ] at q
 have e2:b.extract 0 0 = #[]:=by simp
 rw[e2,Ri]
 exact q
theorem MH.ud(M:MH r a b out na nb)(hA:Up r a 0 a.size)(hB:Up r b 0 b.size)(e:nb=1)(hl:∀ i,i<a.size->R r b 0<=R r a i):cz r a b (b.extract 0 nb++a.extract 0 na++out.reverse):=by
 subst e
 have ha:=M.ha
 have z:=MH.A7 hA hB na (p:=0) M (by exact OW ..) fun _ i _ hi=>hl i (by walk_at "s1")
 have z2:=MH.A8 hA hB 1 (p:=0) z (by exact OW ..) fun h=>absurd h (pf _)
 have q:=z2.whole
 rw[nJ,nJ] at q
 rw[O6]
 exact q
theorem MH.start:MH r a b #[] a.size b.size:=⟨bT _,bT _,by simp,by simp,fun x hx=>by simp at hx,fun x hx=>by simp at hx⟩
end
abbrev S1:=Option (Array Keyed) × Nat × Nat × Array Keyed × Nat
abbrev S2:=Option (Array Keyed) × Nat × Nat × Array Keyed × Nat × Nat
abbrev S3:=Option (Array Keyed) × Nat × Nat × Array Keyed × Nat × Nat × Nat
def DI(a b out:Array Keyed)(na nb:Nat):Array Keyed:=a.extract 0 na++b.extract 0 nb++out.reverse
def P5(a b out:Array Keyed)(na nb:Nat):Array Keyed:=b.extract 0 nb++a.extract 0 na++out.reverse
def SK(a b:Array Keyed)(mg ac bc na nb:Nat)(out:Array Keyed):SM (ForInStep S3):=elem' a (na-1) >>= fun p =>
 if (na-1 == 0)=true then pure (.done (some (DI a b (out.push p) (na-1) nb),na-1,nb,out.push p,mg,ac,bc))
 else if (decide (ac<7) && decide (bc<7))=true then pure (.done (none,na-1,nb,out.push p,mg,ac,bc)) else pure (.yield (none,na-1,nb,out.push p,mg,ac,bc))
def hU(a b:Array Keyed)(mg ac bc na nb:Nat)(out:Array Keyed):SM (ForInStep S3):=elem' a (na-1) >>= fun p=>jG true p b 0 nb (nb-1) >>= fun x=>match x with
 |some k=>if nb-k>0 then
   if (k == 1)=true then pure (.done (some (P5 a b (out++(b.extract k nb).reverse) na k),na,k,out++(b.extract k nb).reverse,mg,ac,nb-k))
   else if (k == 0)=true then pure (.done (some (DI a b (out++(b.extract k nb).reverse) na k),na,k,out++(b.extract k nb).reverse,mg,ac,nb-k))
   else SK a b mg ac (nb-k) na k (out++(b.extract k nb).reverse)
  else SK a b mg ac (nb-k) na nb out
 |_=>pure (.done (some (DI a b out na nb),na,nb,out,mg,ac,bc))
def kz(a b:Array Keyed)(mg ac bc na nb:Nat)(out:Array Keyed):SM (ForInStep S3):=elem' b (nb-1) >>= fun p =>
 if (nb-1 == 1)=true then pure (.done (some (P5 a b (out.push p) na (nb-1)),na,nb-1,out.push p,mg,ac,bc)) else hU a b mg ac bc na (nb-1) (out.push p)
def sf(a b:Array Keyed)(mg ac bc na nb:Nat)(out:Array Keyed):SM (ForInStep S3):=bz mg >>= fun _=>elem' b (nb-1) >>= fun p=>jG false p a 0 na (na-1) >>= fun x=>match x with
 |some k=>if na-k>0 then
   if (k == 0)=true then pure (.done (some (DI a b (out++(a.extract k na).reverse) k nb),k,nb,out++(a.extract k na).reverse,mg,na-k,bc))
   else kz a b mg (na-k) bc k nb (out++(a.extract k na).reverse)
  else kz a b mg (na-k) bc na nb out
 |_=>pure (.done (some (DI a b out na nb),na,nb,out,mg,ac,bc))
def Wq(a b:Array Keyed)(_:Nat)(s:S3):SM (ForInStep S3) :=
 if s.2.2.2.2.1>1 then sf a b (s.2.2.2.2.1-1) s.2.2.2.2.2.1 s.2.2.2.2.2.2 s.2.1 s.2.2.1 s.2.2.2.1 else sf a b s.2.2.2.2.1 s.2.2.2.2.2.1 s.2.2.2.2.2.2 s.2.1 s.2.2.1 s.2.2.2.1
def Wr(a b:Array Keyed)(mg ac na nb:Nat)(out:Array Keyed):SM (ForInStep S2):=elem' a (na-1) >>= fun p =>
 if (na-1 == 0)=true then pure (.done (some (DI a b (out.push p) (na-1) nb),na-1,nb,out.push p,ac+1,0))
 else if ac+1 >= mg then pure (.done (none,na-1,nb,out.push p,ac+1,0)) else pure (.yield (none,na-1,nb,out.push p,ac+1,0))
def Ws(a b:Array Keyed)(mg bc na nb:Nat)(out:Array Keyed):SM (ForInStep S2):=elem' b (nb-1) >>= fun p =>
 if (nb-1 == 1)=true then pure (.done (some (P5 a b (out.push p) na (nb-1)),na,nb-1,out.push p,0,bc+1))
 else if bc+1 >= mg then pure (.done (none,na,nb-1,out.push p,0,bc+1)) else pure (.yield (none,na,nb-1,out.push p,0,bc+1))
def Wt(a b:Array Keyed)(mg:Nat)(_:Nat)(s:S2):SM (ForInStep S2):=elem' b (s.2.2.1-1) >>= fun pb=>elem' a (s.2.1-1) >>= fun pa=>lt' pb pa >>= fun x=>match x with
 |some w=>if w=true then Wr a b mg s.2.2.2.2.1 s.2.1 s.2.2.1 s.2.2.2.1 else Ws a b mg s.2.2.2.2.2 s.2.1 s.2.2.1 s.2.2.2.1
 |_=>pure (.done (some (DI a b s.2.2.2.1 s.2.1 s.2.2.1),s.2.1,s.2.2.1,s.2.2.2.1,s.2.2.2.2.1,s.2.2.2.2.2))
def Wu (a b:Array Keyed) (mg:Nat) (t:S2):SM (ForInStep S1):=(liftM (rule "list.sort.gallop"):SM Unit) >>= fun _ =>
 forIn [:a.size+b.size] ((none,t.2.1,t.2.2.1,t.2.2.2.1,mg+1,t.2.2.2.2.1,t.2.2.2.2.2):S3) (Wq a b) >>= fun u=>match u.1 with
 |some r=>pure (.done (some r,u.2.1,u.2.2.1,u.2.2.2.1,u.2.2.2.2.1))
 |none=>bz (u.2.2.2.2.1+1) >>= fun _=>pure (.yield (none,u.2.1,u.2.2.1,u.2.2.2.1,u.2.2.2.2.1+1))
def Wv(a b:Array Keyed)(_:Nat)(s:S1):SM (ForInStep S1):=forIn [:a.size+b.size] ((none,s.2.1,s.2.2.1,s.2.2.2.1,0,0):S2) (Wt a b s.2.2.2.2) >>= fun t=>match t.1 with
 |some r=>pure (.done (some r,t.2.1,t.2.2.1,t.2.2.2.1,s.2.2.2.2))
 |none=>Wu a b s.2.2.2.2 t
def hiM (a b:Array Keyed):SM (Array Keyed):=(liftM (rule "list.sort.merge-hi"):SM Unit) >>= fun _=>elem' a (a.size-1) >>= fun y =>
 if (a.size-1 == 0)=true then pure (DI a b #[y] (a.size-1) b.size)
 else if (b.size == 1)=true then pure (P5 a b #[y] (a.size-1) b.size)
 else get >>= fun st=>forIn [:a.size+b.size] ((none,a.size-1,b.size,#[y],gallopOf st):S1) (Wv a b) >>= fun t=>match t.1 with
 |some r=>pure r
 |none=>(liftM (unsupported (α:=Array Keyed) "internal:list.sort.merge-bound"):SM (Array Keyed))
set_option smartUnfolding false in
theorem vC:uf=hiM:=rfl
section
variable {prog:Program}{w:World}{A:Around}{E:Value->Shared->Prop}{s:Shared}{κ:SortKind}{r:Value->Int}{P:Value->Prop}{a b out:Array Keyed}{mg ac bc na nb N:Nat}{st:SortSt}{Q:ForInStep S3->SortSt->Prop}
def HD(r:Value->Int)(a b:Array Keyed)(Q:ForInStep S3->SortSt->Prop)(st:SortSt):Prop:=∀ o rest,cz r a b o->Q (.done (some o,rest)) st
def HY(r:Value->Int)(a b:Array Keyed)(N:Nat)(Q:ForInStep S3->SortSt->Prop)(st:SortSt):Prop :=
 ∀ o na nb mg ac bc,MH r a b o na nb->1<=na->2<=nb->na+nb<=N->Q (.done (none,na,nb,o,mg,ac,bc)) st/\Q (.yield (none,na,nb,o,mg,ac,bc)) st
theorem Bw(c:MC prog w A s κ r P a b)(M:MH r a b out na nb)(h1:0<na)(lt:R r b (nb-1)<=R r a (na-1))(h2:2<=nb)(hN:na+nb<=N)(D:HD r a b Q st)(Y:HY r a b N Q st):wpS (model prog w) A E s (SK a b mg ac bc na nb out) Q st:=by
 have ha:=M.ha
 refine wpS_bind (aH (by lia) fun p e=>?_)
 have M2:=M.qH c.hA c.hB h1 e fun _=>lt
 by_cases z:na-1=0
 ·rw[if_pos (by simpa using z)]
  exact wpS_pure (D _ _ (M2.IA c.hA c.hB z))
 ·rw[if_neg (by simpa using z)]
  have y:=Y _ _ _ mg ac bc M2 (by lia) h2 (by lia)
  split
  ·exact wpS_pure y.1
  ·exact wpS_pure y.2
theorem Hd(c:MC prog w A s κ r P a b)(hk:kindOf st=κ)(M:MH r a b out na nb)(h1:0<na)(h2:2<=nb)(hN:na+nb<=N)(D:HD r a b Q st)(Y:HY r a b N Q st):wpS (model prog w) A E s (hU a b mg ac bc na nb out) Q st:=by
 have ha:=M.ha
 have hb:=M.hb
 refine wpS_bind (aH (by lia) fun p e=>wpS_bind (cR c.C hk c.pb (c.pa.at e) (by lia) (by lia) (fun i j u v w=>c.hB i j u v (by lia)) fun l IB wc IC=>?_))
 have ra:=nE (r:=r) e
 dsimp only
 have lt:0<l->R r b (l-1)<=R r a (na-1):=fun z=>by have:=Dl (wc (l-1) (by exact EA ‹_› Ee));rw[qS] at this;lia
 by_cases l0:nb-l>0
 ·have M5:=MH.A8 c.hA c.hB (nb-l) (p:=l) M (by exact LP ‹_›) fun _ i kz hU=>by have:=uE (IC i kz hU);rw[qS] at this;lia
  rw[if_pos l0]
  by_cases z4:l=1
  ·rw[if_pos (by simpa using z4)]
   exact wpS_pure (D _ _ (M5.ud c.hA c.hB z4 c.hl))
  ·rw[if_neg (by simpa using z4)]
   by_cases z6:l=0
   ·rw[if_pos (by simpa using z6)]
    exact wpS_pure (D _ _ (M5.Iy c.hA c.hB z6))
   ·rw[if_neg (by simpa using z6)]
    exact Bw c M5 h1 (lt (by lia)) (by lia) (by lia) D Y
 ·rw[if_neg l0]
  obtain rfl:l=nb:=by lia
  exact Bw c M h1 (lt (by exact Q_ ‹_›)) h2 hN D Y
theorem Bf(c:MC prog w A s κ r P a b)(hk:kindOf st=κ)(M:MH r a b out na nb)(h1:0<na)(h2:2<=nb)(lt:R r a (na-1)<=R r b (nb-1))(hN:na+nb<=N)(D:HD r a b Q st)(Y:HY r a b N Q st):wpS (model prog w) A E s (kz a b mg ac bc na nb out) Q st:=by
 have hb:=M.hb
 refine wpS_bind (aH (by lia) fun p e=>?_)
 have M4:=M.pH c.hA c.hB (by exact Q_ ‹_›) e fun _=>lt
 by_cases z:nb-1=1
 ·rw[if_pos (by simpa using z)]
  exact wpS_pure (D _ _ (M4.ud c.hA c.hB z c.hl))
 ·rw[if_neg (by simpa using z)]
  exact Hd c hk M4 h1 (by lia) (by lia) D Y
theorem Fw(c:MC prog w A s κ r P a b)(hk:kindOf st=κ)(M:MH r a b out na nb)(h1:0<na)(h2:2<=nb)(hN:na+nb<=N)(D:∀ ae,Mg st ae->HD r a b Q ae)(Y:∀ ae,Mg st ae->HY r a b N Q ae):wpS (model prog w) A E s (sf a b mg ac bc na nb out) Q st:=by
 have ha:=M.ha
 have hb:=M.hb
 have g:=(Mg.refl st).set mg
 refine wpS_bind (ie ?_)
 refine wpS_bind (aH (by lia) fun p e=>wpS_bind (cR c.C (g.kind.trans hk) c.pa (c.pb.at e) (by lia) (by exact EA ‹_› Ee) (fun i j u v w=>c.hA i j u v (by lia)) fun k Wo wo E3=>?_))
 have rb:=nE (r:=r) e
 dsimp only
 have lt:0<k->R r a (k-1)<=R r b (nb-1):=fun z=>by have:=yX (wo (k-1) (by exact EA ‹_› Ee));rw[qS] at this;lia
 by_cases k0:na-k>0
 ·have M3:=MH.A7 c.hA c.hB (na-k) (p:=k) M (by exact LP ‹_›) fun _ i kz hU=>by have:=yc (E3 i kz hU);rw[qS] at this;lia
  rw[if_pos k0]
  by_cases z:k=0
  ·rw[if_pos (by simpa using z)]
   exact wpS_pure (D _ g _ _ (M3.IA c.hA c.hB z))
  ·rw[if_neg (by simpa using z)]
   exact Bf c (g.kind.trans hk) M3 (by lia) h2 (lt (by lia)) (by lia) (D _ g) (Y _ g)
 ·rw[if_neg k0]
  obtain rfl:k=na:=by lia
  exact Bf c (g.kind.trans hk) M h1 h2 (lt h1) hN (D _ g) (Y _ g)
def HI(r:Value->Int)(a b:Array Keyed)(N:Nat)(c:S2):Prop:=∃ na nb out ac bc,c=(none,na,nb,out,ac,bc)/\MH r a b out na nb/\1<=na/\2<=nb/\na+nb<=N
theorem Gu{Q:ForInStep S2->SortSt->Prop}(c:MC prog w A s κ r P a b)(M:MH r a b out na nb)(h1:0<na)(lt:R r b (nb-1)<=R r a (na-1))(h2:2<=nb)(hN:na+nb<=N+1)(D:∀ c,HS r a b c->Q (.done c) st)(Y:∀ c,HI r a b N c->Q (.done c) st/\Q (.yield c) st):wpS (model prog w) A E s (Wr a b mg ac na nb out) Q st:=by
 have ha:=M.ha
 refine wpS_bind (aH (by lia) fun p e=>?_)
 have M2:=M.qH c.hA c.hB h1 e fun _=>lt
 by_cases z:na-1=0
 ·rw[if_pos (by simpa using z)]
  exact wpS_pure (D _ ⟨_,_,rfl,M2.IA c.hA c.hB z⟩)
 ·rw[if_neg (by simpa using z)]
  have y:=Y _ ⟨_,_,_,ac+1,0,rfl,M2,by lia,h2,by lia⟩
  split
  ·exact wpS_pure y.1
  ·exact wpS_pure y.2
theorem Fz{Q:ForInStep S2->SortSt->Prop}(c:MC prog w A s κ r P a b)(M:MH r a b out na nb)(h1:0<na)(lt:R r a (na-1)<=R r b (nb-1))(h2:2<=nb)(hN:na+nb<=N+1)(D:∀ c,HS r a b c->Q (.done c) st)(Y:∀ c,HI r a b N c->Q (.done c) st/\Q (.yield c) st):wpS (model prog w) A E s (Ws a b mg bc na nb out) Q st:=by
 have hb:=M.hb
 refine wpS_bind (aH (by lia) fun p e=>?_)
 have M2:=M.pH c.hA c.hB (by exact Q_ ‹_›) e fun _=>lt
 by_cases z:nb-1=1
 ·rw[if_pos (by simpa using z)]
  exact wpS_pure (D _ ⟨_,_,rfl,M2.ud c.hA c.hB z c.hl⟩)
 ·rw[if_neg (by simpa using z)]
  have y:=Y _ ⟨_,_,_,0,bc+1,rfl,M2,h1,by lia,by lia⟩
  split
  ·exact wpS_pure y.1
  ·exact wpS_pure y.2
theorem Gf{Q:ForInStep S2->SortSt->Prop}{x:Nat}(c:MC prog w A s κ r P a b)(hk:kindOf st=κ)(M:MH r a b out na nb)(h1:0<na)(h2:2<=nb)(hN:na+nb<=N+1)(D:∀ c,HS r a b c->Q (.done c) st)(Y:∀ c,HI r a b N c->Q (.done c) st/\Q (.yield c) st):wpS (model prog w) A E s (Wt a b mg x (none,na,nb,out,ac,bc)) Q st:=by
 have ha:=M.ha
 have hb:=M.hb
 refine wpS_bind (aH (show nb-1<b.size by lia) fun pb eb=>wpS_bind (aH (show na-1<a.size by lia) fun pa ea=>wpS_bind (qx c.C hk (c.pb.at eb) (c.pa.at ea) ?_)))
 have rb:R r b (nb-1)=r pb.1:=nE eb
 have ra:R r a (na-1)=r pa.1:=nE ea
 dsimp only
 by_cases hw:r pb.1<r pa.1
 ·rw[if_pos (decide_eq_true hw)]
  exact Gu c M h1 (by lia) h2 hN D Y
 ·rw[if_neg (by simpa using hw)]
  exact Fz c M h1 (by lia) h2 hN D Y
theorem Gb{Q:ForInStep S1->SortSt->Prop}(c:MC prog w A s κ r P a b)(hk:kindOf st=κ)(M:MH r a b out na nb)(h1:0<na)(h2:2<=nb)(hN:na+nb<=N)(D:∀ ae,Mg st ae->∀ c,HS r a b c->Q (.done c) ae)
  (Y:∀ ae,Mg st ae->∀ out na nb mg,MH r a b out na nb->1<=na->2<=nb->na+nb<=N->Q (.yield (none,na,nb,out,mg)) ae):wpS (model prog w) A E s (Wu a b mg (none,na,nb,out,ac,bc)) Q st:=by
 refine wpS_bind (wpS_lift (wpAny_rule ⟨rfl,?_⟩))
 refine wpS_bind (wpS_mono (wpS_forRange (I:=fun _ c ae=>Mg st ae/\∃ na nb out mg ac bc,c=(none,na,nb,out,mg,ac,bc)/\MH r a b out na nb/\1<=na/\2<=nb/\na+nb<=N)
  (Q:=fun c ae=>Mg st ae/\(HS r a b c\/∃ na nb out mg ac bc,c=(none,na,nb,out,mg,ac,bc)/\MH r a b out na nb/\1<=na/\2<=nb/\na+nb<=N)) ?step ?fin ⟨.refl st,_,_,_,_,_,_,rfl,M,h1,h2,hN⟩) ?post)
 case fin =>
  rintro c ae ⟨hm,q⟩
  exact⟨hm,.inr q⟩
 case step =>
  rintro y c1 A9 _ _ ⟨hm,na,nb,out,mg,ac,bc,rfl,M,h1,h2,hN⟩
  unfold Wq
  dsimp only
  split<;>exact Fw c (hm.kind.trans hk) M h1 h2 hN (fun ae g o rest hM=>⟨hm.trans g,.inl ⟨o,rest,rfl,hM⟩⟩) fun ae g o na nb mg ac bc M h1 h2 hN=>⟨⟨hm.trans g,.inr ⟨_,_,_,_,_,_,rfl,M,h1,h2,hN⟩⟩,hm.trans g,_,_,_,_,_,_,rfl,M,h1,h2,hN⟩
 case post =>
  rintro c ae ⟨hm,⟨o,rest,rfl,hM⟩|⟨na,nb,out,mg,ac,bc,rfl,M,h1,h2,hN⟩⟩
  ·exact wpS_pure (D _ hm _ ⟨_,_,rfl,hM⟩)
  ·exact wpS_bind (ie (wpS_pure (Y _ (hm.set _) _ _ _ _ M h1 h2 hN)))
theorem Hj{Q:ForInStep S1->SortSt->Prop}{x:Nat}(c:MC prog w A s κ r P a b)(hk:kindOf st=κ)(M:MH r a b out na nb)(h1:0<na)(h2:2<=nb)(hN:na+nb<=N+1)(D:∀ ae,Mg st ae->∀ c,HS r a b c->Q (.done c) ae)
  (Y:∀ ae,Mg st ae->∀ out na nb mg,MH r a b out na nb->1<=na->2<=nb->na+nb<=N->Q (.yield (none,na,nb,out,mg)) ae):wpS (model prog w) A E s (Wv a b x (none,na,nb,out,mg)) Q st:=by
 have ha:=M.ha
 have hb:=M.hb
 refine wpS_bind (wpS_mono (wpS_forRange (I:=fun y c ae=>ae=st/\HI r a b (N+1-y) c) (Q:=fun c ae=>ae=st/\(HS r a b c\/HI r a b N c)) ?step ?fin ⟨rfl,_,_,_,_,_,rfl,M,h1,h2,hN⟩) ?post)
 case fin =>
  rintro c ae ⟨rfl,na',nI,o,ac,bc,rfl,M',q1,q2,q3⟩
  exact⟨rfl,.inr ⟨_,_,_,_,_,rfl,M',q1,q2,by lia⟩⟩
 case step =>
  rintro y c1 A9 _ hy ⟨rfl,na',nI,o,ac,bc,rfl,M',q1,q2,q3⟩
  exact Gf (N:=N-y) c hk M' q1 q2 (by lia) (fun c q=>⟨rfl,.inl q⟩) fun c q=>by
   obtain⟨na,nb,o,ac,bc,rfl,M,h1,h2,h3⟩:=q
   exact⟨⟨rfl,.inr ⟨_,_,_,_,_,rfl,M,h1,h2,by walk_at "s4"⟩⟩,rfl,_,_,_,_,_,rfl,M,h1,h2,by lia⟩
 case post =>
  rintro c1 ae ⟨rfl,⟨o,rest,rfl,hM⟩|⟨na,nb,o,ac,bc,rfl,M',q1,q2,q3⟩⟩
  ·exact wpS_pure (D _ (.refl _) _ ⟨_,_,rfl,hM⟩)
  ·exact Gb c hk M' q1 q2 q3 D Y
theorem rA{st:SortSt}{a b:Array Keyed}{Q:Array Keyed->SortSt->Prop}(C:kL prog w A s κ r P)(hk:kindOf st=κ)(SG:AllP P a)(SJ:AllP P b)(hA:Up r a 0 a.size)(hB:Up r b 0 b.size)(na:1<=a.size)(nb:1<=b.size)
  (h0:R r b 0<=R r a 0) (hg:∀ j,j<b.size->R r b j<=R r a (a.size-1)) (h:∀ out ae,cz r a b out->Mg st ae->Q out ae):wpS (model prog w) A E s (uf a b) Q st:=by
 have c:MC prog w A s κ r P a b:=⟨C,SG,SJ,hA,hB,fun i hi=>vv h0 (hA 0 i (bT _) (eh _) hi),hg⟩
 rw[vC]
 refine wpS_bind (wpS_lift (wpAny_rule ⟨rfl,?_⟩))
 refine wpS_bind (aH (by exact EA ‹_› Ee) fun y0 e0=>?_)
 have M1:MH r a b #[y0] (a.size-1) b.size:=MH.start.qH hA hB na e0 fun _=>hg _ (by exact EA ‹_› Ee)
 by_cases c1:a.size-1=0
 ·rw[if_pos (by simpa using c1)]
  exact wpS_pure (h _ _ (M1.IA hA hB c1) (.refl st))
 ·rw[if_neg (by simpa using c1)]
  by_cases c2:b.size=1
  ·rw[if_pos (by simpa using c2)]
   exact wpS_pure (h _ _ (M1.ud hA hB c2 c.hl) (.refl st))
  ·rw[if_neg (by simpa using c2)]
   refine wpS_bind (wpS_get ?_)
   refine wpS_bind (wpS_mono (wpS_forRange (I:=fun x c ae=>Mg st ae/\∃ na nb out mg,c=(none,na,nb,out,mg)/\MH r a b out na nb/\1<=na/\2<=nb/\na+nb<=a.size+b.size-x)
    (Q:=fun c ae=>Mg st ae/\HS r a b c) ?step ?fin ⟨.refl st,_,_,_,_,rfl,M1,by lia,by lia,by lia⟩) ?post)
   case fin =>
    rintro c ae ⟨_,na,nb,out,mg,rfl,M,h1,h2,h3⟩
    lia
   case post =>
    rintro c ae ⟨hm,out,rest,rfl,hM⟩
    exact wpS_pure (h out ae hM hm)
   case step =>
    rintro x c1 A9 _ hx ⟨x5,na,nb,out,mg,rfl,M,h1,h2,h3⟩
    exact Hj (N:=a.size+b.size-(x+1)) c (x5.kind.trans hk) M h1 h2 (by lia) (fun ae g c q=>⟨x5.trans g,q⟩) fun ae g out na nb mg M h1 h2 h3=>⟨x5.trans g,_,_,_,_,rfl,M,h1,h2,h3⟩
end
def wr(p:Nat)(m:List Keyed)(n:Nat)(xs:Array Keyed):Array Keyed:=(m.zipIdx n).foldl (fun a (q:Keyed × Nat)=>a.setIfInBounds (p+q.2) q.1) xs
theorem ym(p:Nat):∀ (m:List Keyed) (n:Nat) (xs:Array Keyed),p+n+m.length<=xs.size->∀ k:Nat,(wr p m n xs)[k]? = if p+n<=k/\k<p+n+m.length then m[k-(p+n)]? else xs[k]?
 |[],n,xs,h,k=>by
  rw[if_neg (by simp only[OS];lia)];rfl
 |q :: m,n,xs,h,k=>by
  have ih:=ym p m (n+1) (xs.setIfInBounds (p+n) q) (by rw[Array.size_setIfInBounds];simp only[pe] at h;lia) k
  have e:wr p (q :: m) n xs=wr p m (n+1) (xs.setIfInBounds (p+n) q):=by unfold wr;rw[List.zipIdx_cons,List.foldl_cons]
  simp only[pe] at h ⊢
  rw[e,ih]
  by_cases h1:p+(n+1)<=k/\k<p+(n+1)+m.length
  ·rw[if_pos h1,if_pos (by lia),show k-(p+n)=(k-(p+(n+1)))+1 by lia,List.getElem?_cons_succ]
  ·rw[if_neg h1]
   by_cases h2:k=p+n
   ·subst h2
    rw[if_pos (by walk_at "s4"),Nat.sub_self,List.getElem?_cons_zero,Array.getElem?_setIfInBounds_self_of_lt (by lia)]
   ·rw[if_neg (by lia),Array.getElem?_setIfInBounds_ne (by walk_at "s1")]
theorem CZ(h:p+m.length<=xs.size):(wr p m 0 xs).toList=xs.toList.take p++m++xs.toList.drop (p+m.length):=by
 have hl:xs.toList.length=xs.size:=by simp
 apply AG
 intro k
 have e:=ym p m 0 xs h k
 rw[GB] at e
 rw[kG,e]
 by_cases h1:k<p
 ·rw[if_neg (by lia),xh,BQ (by rw[mr];lia),List.getElem?_take_of_lt h1,kG]
 ·by_cases h2:k<p+m.length
  ·rw[if_pos (by lia),xh,w_ (by rw[mr];lia),mr,show min p xs.toList.length=p by lia,BQ (by lia)]
  ·rw[if_neg (by lia),xh,w_ (by rw[mr];lia),mr,show min p xs.toList.length=p by lia,w_ (by lia),List.getElem?_drop,
    show p+m.length+(k-p-m.length)=k by lia,kG]
theorem Hi{p q:Nat}{xs:Array Keyed}(h:p<=q)(h2:q<=xs.size):xs.toList=xs.toList.take p++(xs.extract p q).toList++xs.toList.drop q:=by
 rw[Rh,QQ]
 have e1:xs.toList.take p++(xs.toList.drop p).take (q-p)=xs.toList.take q:=by
  rw[<- Lc p (xs.toList.take q),List.take_take,List.drop_take,Nat.min_eq_left h]
 rw[e1,Lc]
theorem El{p q:Nat}{m:List Keyed}{xs:Array Keyed}(h:p<=q)(h2:q<=xs.size)(hm:m.Perm (xs.extract p q).toList):(wr p m 0 xs).Perm xs:=by
 have hl:m.length=q-p:=by rw[hm.length_eq];simp;lia
 rw[Rg,CZ (by lia),show p+m.length=q by lia]
 have e:=Hi (xs:=xs) h h2
 exact(List.Perm.append_right _ (List.Perm.append_left _ hm)).trans (by rw[<- e])
def Runs(r:Value->Int)(xs:Array Keyed):List (Nat × Nat × Nat)->Nat->Nat->Prop
 |[],a,b=>a=b
 | (s,n,_) :: rest,a,b=>s=a/\1<=n/\Up r xs s (s+n)/\Runs r xs rest (s+n) b
section
variable {r:Value->Int}{xs ys:Array Keyed}
theorem Runs.le:∀ {ps:List (Nat × Nat × Nat)} {a b:Nat},Runs r xs ps a b->a+ps.length<=b
 |[],a,b,h=>by simp only[Runs] at h;simp;lia
 | (s,n,p) :: rest,a,b,h=>by
  obtain⟨rfl,h1,_,h3⟩:=h
  have:=Runs.le h3
  simp only[pe];lia
theorem Runs.append:∀ {ps qs:List (Nat × Nat × Nat)} {a b:Nat},Runs r xs (ps++qs) a b↔∃ c,Runs r xs ps a c/\Runs r xs qs c b
 |[],qs,a,b=>by simp[Runs]
 | (s,n,p) :: rest,qs,a,b=>by
  simp only[List.cons_append,Runs]
  constructor
  ·rintro⟨h1,h2,h3,h4⟩
   obtain⟨c,h5,h6⟩:=Runs.append.mp h4
   exact⟨c,⟨h1,h2,h3,h5⟩,h6⟩
  ·rintro⟨c,⟨h1,h2,h3,h5⟩,h6⟩
   exact⟨h1,h2,h3,Runs.append.mpr ⟨c,h5,h6⟩⟩
theorem Up.congr(h:Up r xs a b)(e:∀ k,a<=k->k<b->ys[k]? = xs[k]?):Up r ys a b:=fun i j h1 h2 h3=>by
 rw[cW (e i h1 (by lia)),cW (e j (by lia) h3)];exact h i j h1 h2 h3
theorem Runs.congr:∀ {ps:List (Nat × Nat × Nat)} {a b:Nat},Runs r xs ps a b->(∀ k,a<=k->k<b->ys[k]? = xs[k]?)->Runs r ys ps a b
 |[],a,b,h,_=>h
 | (s,n,p) :: rest,a,b,h,e=>by
  obtain⟨rfl,h1,h2,h3⟩:=h
  have l:=h3.le
  exact⟨rfl,h1,h2.congr fun k u v=>e k u (by lia),Runs.congr h3 fun k u v=>e k (by walk_at "s4") v⟩
theorem Up.glue(h1:Up r xs a b)(h2:Up r xs b c)(h:∀ i j,a<=i->i<b->b<=j->j<c->R r xs i<=R r xs j):Up r xs a c:=fun i j u v w=>by
 by_cases hj:j<b
 ·exact h1 i j u v hj
 ·by_cases hi:i<b
  ·exact h i j u hi (by lia) w
  ·exact h2 i j (by lia) v w
end
section
variable {prog:Program}{w:World}{A:Around}{E:Value->Shared->Prop}{s:Shared}{κ:SortKind}{r:Value->Int}{P:Value->Prop}
theorem AllP.extract(h:AllP P xs)(i j:Nat):AllP P (xs.extract i j):=fun p hp=>h p (by
 rw[Rh,QQ] at hp
 exact Q0 (LB hp))
theorem eE(h:i+k<j)(hj:j<=xs.size):R r (xs.extract i j) k=R r xs (i+k):=by
 apply cW
 rw[O4,if_pos (by lia)]
theorem Up.extract(h:Up r xs i j)(hX:i<=j)(hj:j<=xs.size):Up r (xs.extract i j) 0 (xs.extract i j).size:=fun a b _ h2 h3=>by
 have e:(xs.extract i j).size=j-i:=by simp only[EB];lia
 rw[e] at h3
 rw[eE (by lia) hj,eE (by lia) hj]
 exact h _ _ (by lia) (by lia) (by lia)
theorem vV(hz:sa+na+nb<=xs.size)(hk:k<na)(hnb:nI<=nb)(hA:Up r xs sa (sa+na))(hB:Up r xs (sa+na) (sa+na+nb))
  (lo1:∀ i,i<k->R r xs (sa+i)<=R r xs (sa+na)) (E2:R r xs (sa+na)<R r xs (sa+k)) (kz:∀ i,i<nI->R r xs (sa+na+i)<R r xs (sa+na-1)) (hU:∀ i,nI<=i->i<nb->R r xs (sa+na-1)<=R r xs (sa+na+i))
  (hm:cz r (xs.extract (sa+k) (sa+na)) (xs.extract (sa+na) (sa+na+nI)) m) :
  Up r (wr (sa+k) m.toList 0 xs) sa (sa+na+nb)/\(wr (sa+k) m.toList 0 xs).Perm xs/\∀ j,j<sa\/sa+na+nb<=j->(wr (sa+k) m.toList 0 xs)[j]? = xs[j]? := by
 obtain⟨mp,mu⟩:=hm
 have eab:(xs.extract (sa+k) (sa+na)).toList++(xs.extract (sa+na) (sa+na+nI)).toList=(xs.extract (sa+k) (sa+na+nI)).toList:=by
  rw[<- Array.toList_append,Array.extract_append_extract,show min (sa+k) (sa+na)=sa+k by lia,show max (sa+na) (sa+na+nI)=sa+na+nI by lia]
 rw[eab] at mp
 have ml:m.toList.length=na+nI-k:=by rw[mp.length_eq];simp;lia
 have hw:sa+k+m.toList.length<=xs.size:=by lia
 have get:=ym (sa+k) m.toList 0 xs (by lia)
 rw[GB,ml] at get
 -- every merged item is one of the fn'
 have mem:∀ (j:Nat) (p:Keyed),m.toList[j]? = some p->∃ i,sa+k<=i/\i<sa+na+nI/\r p.1=R r xs i:=fun j p e=>by
  have hp:p∈(xs.extract (sa+k) (sa+na+nI)).toList:=mp.mem_iff.mp (nX e)
  obtain⟨i,hi⟩:=List.getElem?_of_mem hp
  rw[kG,O4] at hi
  split at hi
  ·exact⟨sa+k+i,by lia,by lia,(nE hi).symm⟩
  ·cases hi
 have low:∀ i,sa+k<=i->i<sa+na+nI->R r xs (sa+na)<=R r xs i:=fun i h1 h2=>by
  by_cases h3:i<sa+na
  ·exact vv (AU E2) (hA (sa+k) i (by lia) h1 h3)
  ·exact hB (sa+na) i (bT _) (by lia) (by lia)
 have high:∀ i,sa+k<=i->i<sa+na+nI->R r xs i<=R r xs (sa+na-1):=fun i h1 h2=>by
  by_cases h3:i<sa+na
  ·exact hA i (sa+na-1) (by lia) (by lia) (by lia)
  ·have:=kz (i-(sa+na)) (by lia)
   rw[show sa+na+(i-(sa+na))=i by lia] at this
   lia
 have Ww:∀ j,j<na+nI-k->∃ i,sa+k<=i/\i<sa+na+nI/\R r (wr (sa+k) m.toList 0 xs) (sa+k+j)=R r xs i:=fun j hj=>by
  have e:=get (sa+k+j)
  rw[if_pos (by lia),show sa+k+j-(sa+k)=j by lia] at e
  have oz:j<m.toList.length:=by lia
  obtain⟨i,h1,h2,h3⟩:=mem j m.toList[j] (jv oz)
  rw[jv oz] at e
  exact⟨i,h1,h2,(nE e).trans h3⟩
 have IE:∀ j,j<sa+k\/sa+na+nI<=j->(wr (sa+k) m.toList 0 xs)[j]? = xs[j]? := fun j hj=>by
  have e:=get j
  rw[if_neg (by lia)] at e
  exact e
 refine⟨?_,El (by lia) (by lia) mp,fun j hj=>IE j (by lia)⟩
 have U1:Up r (wr (sa+k) m.toList 0 xs) sa (sa+k):=Up.congr (xs:=xs) (fun i j h1 h2 h3=>hA i j h1 h2 (by lia)) fun j h1 h2=>IE j (.inl h2)
 have U2:Up r (wr (sa+k) m.toList 0 xs) (sa+k) (sa+na+nI):=fun i j h1 h2 h3=>by
  have ei:=get i
  have ej:=get j
  rw[if_pos (by lia)] at ei ej
  have li:i-(sa+k)<m.toList.length:=by lia
  have lj:j-(sa+k)<m.toList.length:=by lia
  rw[jv li] at ei
  rw[jv lj] at ej
  rw[nE ei,nE ej]
  by_cases hX:i=j
  ·subst hX;exact pj _
  ·exact(xa.mp mu) _ _ li lj (by lia)
 have U3:Up r (wr (sa+k) m.toList 0 xs) (sa+na+nI) (sa+na+nb):=Up.congr (xs:=xs) (fun i j h1 h2 h3=>hB i j (by lia) h2 h3) fun j h1 h2=>IE j (.inr h1)
 refine(U1.glue U2 fun i j h1 h2 h3 h4=>?_).glue U3 fun i j h1 h2 h3 h4=>?_
 ·obtain⟨q,q1,q2,q3⟩:=Ww (j-(sa+k)) (by lia)
  rw[show sa+k+(j-(sa+k))=j by lia] at q3
  rw[q3,cW (IE i (.inl h2))]
  have:=lo1 (i-sa) (by lia)
  rw[show sa+(i-sa)=i by lia] at this
  exact vv this (low q q1 q2)
 ·have e2:=hU (j-(sa+na)) (by lia) (by lia)
  rw[show sa+na+(j-(sa+na))=j by lia] at e2
  rw[cW (IE j (.inr h3))]
  by_cases hi:i<sa+k
  ·rw[cW (IE i (.inl hi))]
   have:=lo1 (i-sa) (by lia)
   rw[show sa+(i-sa)=i by lia] at this
   have:=low (sa+na-1) (by lia) (by lia)
   lia
  ·obtain⟨q,q1,q2,q3⟩:=Ww (i-(sa+k)) (by lia)
   rw[show sa+k+(i-(sa+k))=i by lia] at q3
   rw[q3]
   exact vv (high q q1 q2) e2
structure St(r:Value->Int)(κ:SortKind)(eL:Array Keyed)(st:SortSt)(ps:List (Nat × Nat × Nat))(lo:Nat):Prop where
 kind:kindOf st=κ
 failed:failedOf st=none
 perm:(arrOf st).Perm eL
 pend:pendingOf st=ps.toArray
 runs:Runs r (arrOf st) ps 0 lo
theorem St.size{st:SortSt}{ps:List (Nat × Nat × Nat)}{lo:Nat}(h:St r κ eL st ps lo):(arrOf st).size=eL.size:=h.perm.size_eq
theorem zB{ps:List (Nat × Nat × Nat)}(h:i+1<ps.length):∃ pre x y post,ps=pre++x :: y :: post/\pre.length=i:=by
 refine⟨ps.take i,ps[i],ps[i+1],ps.drop (i+2),?_,by rw[mr];lia⟩
 rw[<- vt (by lia),<- vt (by lia),Lc]
theorem jW{st:SortSt}{ps:List (Nat × Nat × Nat)}{lo i:Nat}(C:kL prog w A s κ r P)(hP:AllP P eL)(H:St r κ eL st ps lo)(DC:lo<=eL.size)(hi:i+1<ps.length)
  (h:∀ ae gS,St r κ eL ae gS lo->gS.length+1=ps.length->gS≠[]->(∀ k,lo<=k->(arrOf ae)[k]? = (arrOf st)[k]?)->Q true ae):wpS (model prog w) A E s (mergeAt' i) Q st:=by
 obtain⟨pre,⟨sa,na,pa⟩,⟨sb,nb,pb⟩,post,rfl,DB⟩:=zB hi
 have hz:=H.size
 have pT:AllP P (arrOf st):=hP.perm H.perm
 obtain⟨c,Wx,SN⟩:=Runs.append.mp H.runs
 obtain⟨rfl,n1,u1,rfl,n2,u2,Wy⟩:=SN
 have le3:=Wy.le
 have le1:=Wx.le
 -- the new pending list
 have cf':((pendingOf st).setIfInBounds i (sa,na+nb,pa)).eraseIdxIfInBounds (i+1)=(pre++(sa,na+nb,pa) :: post).toArray:=by
  rw[H.pend]
  apply LW.mp
  simp[<- DB,List.eraseIdx_append_of_length_le]
 have new:∀ (xs:Array Keyed) (g:Nat),xs.Perm (arrOf st)->(∀ j,j<sa\/sa+na+nb<=j->xs[j]? = (arrOf st)[j]?)->Up r xs sa (sa+(na+nb)) ->
   St r κ eL (SortSt.mk' (kindOf st) xs (pre++(sa,na+nb,pa) :: post).toArray g (failedOf st)) (pre++(sa,na+nb,pa) :: post) lo:=fun xs g hp ho hu =>
  ⟨H.kind,H.failed,hp.trans H.perm,rfl,Runs.append.mpr ⟨sa,Wx.congr fun k _ hk=>ho k (.inl hk),rfl,by lia,hu,by
   rw[show sa+(na+nb)=sa+na+nb by lia]
   exact Wy.congr fun k hk _=>ho k (.inr hk)⟩⟩
 have len:(pre++(sa,na+nb,pa) :: post).length+1=(pre++(sa,na,pa) :: (sa+na,nb,pb) :: post).length:=by simp;lia
 have e0:(pendingOf st)[i]? = some (sa,na,pa):=by rw[H.pend,<- DB];simp
 have e1:(pendingOf st)[i+1]? = some (sa+na,nb,pb):=by rw[H.pend,<- DB];simp
 refine wpS_bind (wpS_get ?_)
 rw[e0,e1]
 dsimp only
 refine wpS_bind (wpS_modify (f:=fun _=>SortSt.mk' (kindOf st) (arrOf st) (((pendingOf st).setIfInBounds i (sa,na+nb,pa)).eraseIdxIfInBounds (i+1)) (gallopOf st) (failedOf st)) ?_)
 rw[cf']
 refine wpS_bind (aH (xs:=arrOf st) (by lia) fun kb Wz=>wpS_bind (cR (arr:=arrOf st) C H.kind pT (pT.at Wz) (by lia) (by lia) u1 fun k Wo wo E3=>?_))
 have rkb:=nE (r:=r) Wz
 dsimp only
 by_cases z:na-k=0
 ·rw[if_pos (by simpa using z)]
  refine wpS_pure (h _ _ (new (arrOf st) (gallopOf st) (Array.Perm.refl _) (fun _ _=>rfl) ?_) len (by simp) fun _ _=>rfl)
  rw[show sa+(na+nb)=sa+na+nb by lia]
  refine u1.glue u2 fun i j h1 h2 h3 h4=>?_
  have:=yX (wo (i-sa) (by lia))
  rw[show sa+(i-sa)=i by lia] at this
  have:=u2 (sa+na) j (bT _) h3 h4
  lia
 ·rw[if_neg (by simpa using z)]
  refine wpS_bind (aH (xs:=arrOf st) (by lia) fun ka WB=>wpS_bind (cR (arr:=arrOf st) C H.kind pT (pT.at WB) (by lia) (by lia) u2 fun l IB wc IC=>?_))
  have rka:=nE (r:=r) WB
  rw[show sa+k+(na-k)-1=sa+na-1 by lia] at rka
  dsimp only
  by_cases z2:l=0
  ·rw[if_pos (by simpa using z2)]
   refine wpS_pure (h _ _ (new (arrOf st) (gallopOf st) (Array.Perm.refl _) (fun _ _=>rfl) ?_) len (by simp) fun _ _=>rfl)
   rw[show sa+(na+nb)=sa+na+nb by lia]
   refine u1.glue u2 fun i j h1 h2 h3 h4=>?_
   have:=uE (IC (j-(sa+na)) (by lia) (by lia))
   rw[show sa+na+(j-(sa+na))=j by lia] at this
   have:=u1 i (sa+na-1) h1 (by lia) (by lia)
   lia
  ·rw[if_neg (by simpa using z2)]
   have lo1:∀ i,i<k->R r (arrOf st) (sa+i)<=R r (arrOf st) (sa+na):=fun i hi=>by have:=yX (wo i hi);lia
   have E2:R r (arrOf st) (sa+na)<R r (arrOf st) (sa+k):=by have:=yc (E3 k (bT _) (by lia));lia
   have kz:∀ i,i<l->R r (arrOf st) (sa+na+i)<R r (arrOf st) (sa+na-1):=fun i hi=>by have:=Dl (wc i hi);lia
   have hU:∀ i,l<=i->i<nb->R r (arrOf st) (sa+na-1)<=R r (arrOf st) (sa+na+i):=fun i h1 h2=>by have:=uE (IC i h1 h2);lia
   have sx:((arrOf st).extract (sa+k) (sa+na)).size=na-k:=by simp only[EB];lia
   have sy:((arrOf st).extract (sa+na) (sa+na+l)).size=l:=by simp only[EB];lia
   have ux:Up r ((arrOf st).extract (sa+k) (sa+na)) 0 ((arrOf st).extract (sa+k) (sa+na)).size:=Up.extract (fun i j h1 h2 h3=>u1 i j (by lia) h2 h3) (by lia) (by lia)
   have uy:Up r ((arrOf st).extract (sa+na) (sa+na+l)) 0 ((arrOf st).extract (sa+na) (sa+na+l)).size:=Up.extract (fun i j h1 h2 h3=>u2 i j h1 h2 (by lia)) (by lia) (by lia)
   have WC:R r ((arrOf st).extract (sa+na) (sa+na+l)) 0<=R r ((arrOf st).extract (sa+k) (sa+na)) 0:=by
    rw[eE (by lia) (by lia),eE (by lia) (by lia)]
    exact AU E2
   have WD:∀ j,j<((arrOf st).extract (sa+na) (sa+na+l)).size->R r ((arrOf st).extract (sa+na) (sa+na+l)) j<=R r ((arrOf st).extract (sa+k) (sa+na)) (((arrOf st).extract (sa+k) (sa+na)).size-1):=fun j hj=>by
    rw[sx,eE (by lia) (by lia),eE (by lia) (by lia),show sa+k+(na-k-1)=sa+na-1 by lia]
    exact AU (kz j (by lia))
   have fin:∀ out ae,cz r ((arrOf st).extract (sa+k) (sa+na)) ((arrOf st).extract (sa+na) (sa+na+l)) out->Mg (SortSt.mk' (kindOf st) (arrOf st) (pre++(sa,na+nb,pa) :: post).toArray (gallopOf st) (failedOf st)) ae ->
     Q true (SortSt.mk' (kindOf ae) (wr (sa+k) out.toList 0 (arrOf ae)) (pendingOf ae) (gallopOf ae) (failedOf ae)):=fun out ae hm hg=>by
    obtain⟨g,rfl⟩:=hg
    obtain⟨m1,m2,m3⟩:=vV (by lia) (by lia) IB u1 u2 lo1 E2 kz hU hm
    exact h _ _ (new _ g m2 m3 (by rw[show sa+(na+nb)=sa+na+nb by lia];exact m1)) len (by simp) fun k hk=>m3 k (.inr (by lia))
   have fin2:∀ out ae,cz r ((arrOf st).extract (sa+k) (sa+na)) ((arrOf st).extract (sa+na) (sa+na+l)) out->Mg (SortSt.mk' (kindOf st) (arrOf st) (pre++(sa,na+nb,pa) :: post).toArray (gallopOf st) (failedOf st)) ae ->
     failedOf ae=none:=fun out ae _ hg=>by
    obtain⟨g,rfl⟩:=hg
    exact H.failed
   by_cases z3:na-k<=l
   ·rw[if_pos z3]
    refine wpS_bind (rJ (a:=(arrOf st).extract (sa+k) (sa+na)) (b:=(arrOf st).extract (sa+na) (sa+na+l)) C H.kind (pT.extract _ _) (pT.extract _ _) ux uy (by lia) (by lia) WC WD fun out ae hm hg=>?_)
    refine wpS_bind (wpS_modify (wpS_bind (wpS_get ?_)))
    have f:=fin out ae hm hg
    have f2:=fin2 out ae hm hg
    refine wpS_pure ?_
    show Q (failedOf ae).isNone _
    rw[f2]
    exact f
   ·rw[if_neg z3]
    refine wpS_bind (rA (a:=(arrOf st).extract (sa+k) (sa+na)) (b:=(arrOf st).extract (sa+na) (sa+na+l)) C H.kind (pT.extract _ _) (pT.extract _ _) ux uy (by lia) (by lia) WC WD fun out ae hm hg=>?_)
    refine wpS_bind (wpS_modify (wpS_bind (wpS_get ?_)))
    have f:=fin out ae hm hg
    have f2:=fin2 out ae hm hg
    refine wpS_pure ?_
    show Q (failedOf ae).isNone _
    rw[f2]
    exact f
theorem Runs.modify(hf:∀ x,(f x).1=x.1/\(f x).2.1=x.2.1):∀ {ps:List (Nat × Nat × Nat)} {i a b:Nat},Runs r xs ps a b->Runs r xs (ps.modify i f) a b
 |[],_,_,_,h=>by simpa using h
 | (s,n,p) :: rest,0,a,b,h=>by
  obtain⟨h1,h2⟩:=hf (s,n,p)
  rw[List.modify_zero_cons]
  have e:f (s,n,p)=(s,n,(f (s,n,p)).2.2):=Prod.ext h1 (Prod.ext h2 rfl)
  rw[e]
  exact h
 | (s,n,p) :: rest,i+1,a,b,h=>by
  rw[List.modify_succ_cons]
  obtain⟨h1,h2,h3,h4⟩:=h
  exact⟨h1,h2,h3,Runs.modify hf h4⟩
theorem St.win{st ae:SortSt}{ps:List (Nat × Nat × Nat)}{lo hi:Nat}(H:St r κ eL st ps lo)(hw:kM lo hi st ae):St r κ eL ae ps lo :=
 ⟨hw.kind.trans H.kind,hw.failed.trans H.failed,hw.perm.trans H.perm,hw.pend.trans H.pend,H.runs.congr fun k _ hk=>hw.out k (.inl hk)⟩
theorem wpS_sortRuns{st:SortSt}(C:kL prog w A s κ r P)(hk:kindOf st=κ)(hP:AllP P (arrOf st))(hp:pendingOf st = #[])(hf:failedOf st=none)
  (h:∀ ae,(arrOf ae).Perm (arrOf st)->failedOf ae=none->Up r (arrOf ae) 0 (arrOf st).size->Q () ae):wpS (model prog w) A E s sortRuns' Q st:=by
 rw[sortRuns'_eq]
 refine wpS_bind (wpS_get ?_)
 dsimp only
 generalize ha:arrOf st=eL at *
 have H0:St r κ eL st [] 0:=⟨hk,hf,by rw[ha],by rw[hp],rfl⟩
 refine wpS_bind (wpS_mono (wpS_forRange (I:=fun x c ae=>∃ ps lo,c=(none,lo)/\St r κ eL ae ps lo/\lo<=eL.size/\x<=lo)
  (Q:=fun c ae=>∃ ps,c=(none,eL.size)/\St r κ eL ae ps eL.size) ?step ?fin ⟨[],0,rfl,H0,eh _,bT _⟩) ?post)
 case fin =>
  rintro c ae ⟨ps,lo,rfl,H,h1,h2⟩
  have:lo=eL.size:=by lia
  subst this
  exact⟨ps,rfl,H⟩
 case post =>
  rintro c ae ⟨ps,rfl,H⟩
  dsimp only
  have l0:=H.runs.le
  refine wpS_bind (wpS_mono (wpS_forRange (I:=fun y c ae=>c=(none,())/\∃ gS,St r κ eL ae gS eL.size/\gS.length+y<=eL.size)
   (Q:=fun c ae=>c=(none,())/\∃ gS,St r κ eL ae gS eL.size/\gS.length<=1) ?ch' ?ci' ⟨rfl,ps,H,by lia⟩) ?cj')
  case ci' =>
   rintro c ae ⟨rfl,gS,H',hl⟩
   exact⟨rfl,gS,H',by lia⟩
  case cj' =>
   rintro c ae ⟨rfl,gS,H',hl⟩
   refine wpS_pure (h ae H'.perm H'.failed ?_)
   have q:=H'.runs
   match gS,hl,q with
   |[],_,q =>
    have q:0=eL.size:=q
    intro i j _ _ hj
    lia
   |[(s',n',p')],_,q =>
    obtain⟨rfl,_,hu,e⟩:=q
    have e:0+n'=eL.size:=e
    rw[<- e]
    exact hu
  case ch' =>
   rintro y c A9 _ hy ⟨rfl,gS,H',hl⟩
   refine wpS_bind (wpS_get ?_)
   have ep:(pendingOf A9).size=gS.length:=by rw[H'.pend];simp
   by_cases z:(pendingOf A9).size<=1
   ·rw[if_pos z]
    exact wpS_pure ⟨rfl,gS,H',by lia⟩
   ·rw[if_neg z]
    refine wpS_bind (jW C hP H' (bT _) (by(repeat' split)<;>lia) fun vE ps2 H2 hlen _ _=>?_)
    rw[if_neg (by simp)]
    exact wpS_pure ⟨rfl,ps2,H2,by lia⟩
 case step =>
  rintro x c A9 _ hx ⟨ps,lo,rfl,H,h1,h2⟩
  dsimp only
  by_cases z:lo >= eL.size
  ·rw[if_pos z]
   have:lo=eL.size:=by lia
   subst this
   exact wpS_pure ⟨ps,rfl,H⟩
  ·rw[if_neg z]
   have hz:=H.size
   refine wpS_bind (wpS_countRun C H.kind (hP.perm H.perm) (by lia) (by lia) fun m vE hw x5 ub hu=>?_)
   have H2:=H.win hw
   dsimp only
   refine Dd (K:=?K) ?pk fun key=>?main
   case main =>
    by_cases z2:m<minRun' eL.size eL.size 0
    ·rw[if_pos z2]
     refine wpS_bind (wpS_lift (wpAny_rule ⟨rfl,?_⟩))
     refine wpS_bind (wpS_binarySort C H2.kind (hP.perm H2.perm) (by clear key;have:=H2.size;lia) (by clear key;lia) hu fun vF WH SQ=>?_)
     have H3:=H2.win WH
     rw[if_neg (by simp)]
     have b1:1<=min (eL.size-lo) (minRun' eL.size eL.size 0):=by clear key;lia
     have b2:lo+min (eL.size-lo) (minRun' eL.size eL.size 0)<=eL.size:=by clear key;lia
     clear WH
     generalize min (eL.size-lo) (minRun' eL.size eL.size 0)=nn at *
     revert nn vF
     exact key
    ·rw[if_neg z2]
     exact key _ H2 _ hu x5 (by lia)
   intro vF H3 nn SQ b1 b2
   refine wpS_bind (wpS_get ?_)
   have push:∀ (ae:SortSt) (gS:List (Nat × Nat × Nat)),St r κ eL ae gS lo->Up r (arrOf ae) lo (lo+nn)->∃ ps EX,((none:Option Unit),lo+nn)=(none,EX)/\St r κ eL (setPending ae ((pendingOf ae).push (lo,nn,0))) ps EX/\EX<=eL.size/\x+1<=EX:=fun ae gS G u =>
    ⟨gS++[(lo,nn,0)],lo+nn,rfl,⟨G.kind,G.failed,G.perm,by show(pendingOf ae).push _=_;rw[G.pend];simp,Runs.append.mpr ⟨lo,G.runs,rfl,b1,u,rfl⟩⟩,b2,by lia⟩
   cases hb:(pendingOf vF).back? with
   |none =>
    dsimp only
    exact wpS_bind (wpS_modify (wpS_pure (push vF ps H3 SQ)))
   |some t =>
    obtain⟨s1,n1,p1⟩:=t
    dsimp only
    generalize power' eL.size (2*s1+n1) (2*s1+n1+n1+nn) eL.size=pw
    refine wpS_bind (wpS_mono (wpS_forRange (I:=fun y c ae=>c=(none,())/\∃ gS,St r κ eL ae gS lo/\Up r (arrOf ae) lo (lo+nn))
     (Q:=fun c ae=>c=(none,())/\∃ gS,St r κ eL ae gS lo/\Up r (arrOf ae) lo (lo+nn)) ?_ (fun _ _ q=>q) ⟨rfl,ps,H3,SQ⟩) ?_)
    ·rintro y c tP _ hy ⟨rfl,gS,H4,Nv⟩
     refine wpS_bind (wpS_get ?_)
     have ep:(pendingOf tP).size=gS.length:=by rw[H4.pend];simp
     by_cases z3:(pendingOf tP).size>1
     ·rw[if_pos z3]
      have e4:(pendingOf tP)[(pendingOf tP).size-2]? = some ((pendingOf tP)[(pendingOf tP).size-2]'(by lia)):=getElem?_pos _ _ (by lia)
      rw[e4]
      generalize (pendingOf tP)[(pendingOf tP).size-2]'(by lia)=tt
      obtain⟨t1,t2,ck'⟩:=tt
      dsimp only
      by_cases z4:ck'<=pw
      ·rw[if_pos z4]
       exact wpS_pure ⟨rfl,gS,H4,Nv⟩
      ·rw[if_neg z4]
       refine wpS_bind (jW C hP H4 h1 (by lia) fun EH ps5 H5 hlen _ ke=>?_)
       rw[if_neg (by simp)]
       exact wpS_pure ⟨rfl,ps5,H5,Nv.congr fun k hk _=>ke k hk⟩
     ·rw[if_neg z3]
      exact wpS_pure ⟨rfl,gS,H4,Nv⟩
    ·rintro c tP ⟨rfl,gS,H4,Nv⟩
     dsimp only
     refine wpS_bind (wpS_modify (wpS_bind (wpS_modify (wpS_pure ?_))))
     refine push _ (gS.modify (gS.length-1) fun x=>(x.1,x.2.1,pw)) ⟨H4.kind,H4.failed,H4.perm,?_,Runs.modify (f:=fun x=>(x.1,x.2.1,pw)) (fun _=>⟨rfl,rfl⟩) H4.runs⟩ Nv
     show(pendingOf tP).modify ((pendingOf tP).size-1) (fun x=>(x.1,x.2.1,pw))=_
     rw[H4.pend]
     simp
def cZ (h:Heap) (a:Addr) (vs:List Value):Heap:=((h.update a (Obj.mapSeq fun _=>#[])).push (seqObj "tuple" vs.toArray 0)).push (seqObj "list" #[] 0)
theorem gG(hb:b≠a)(dc:b<h.objs.size):(cZ h a vs).get? b=h.get? b:=by
 unfold cZ
 rw[FU _ _ _ (by rw[size_push',D6];exact fw (qE dc)),
  FU _ _ _ (by rw[D6];exact fw dc),Q9 _ _ _ _ hb]
theorem sJ(hp:xs.Perm (pairsOf vs))(hs:Up r xs 0 vs.length):(xs.map (·.2)).toList.Perm vs/\(xs.map (·.2)).toList.Pairwise fun x y=>r x<=r y:=by
 have hl:xs.toList.Perm (vs.zip vs):=by rw[<- pairsOf_toList];exact Rg.mp hp
 have Nw:∀ p,p∈xs.toList->p.1=p.2:=fun p g9=>(mem_zip_self (hl.mem_iff.mp g9)).1
 have e:(xs.map (·.2)).toList=xs.toList.map (·.1):=by
  rw[Array.toList_map];exact D3 fun p g9=>(Nw p g9).symm
 have hsz:xs.size=vs.length:=by rw[hp.size_eq,pairsOf_size]
 rw[e]
 refine⟨?_,?_⟩
 ·have h1:=hl.map (·.1)
  rwa[LJ (bT _)] at h1
 ·rw[xa]
  intro i j hi hj hX
  have gI:i<xs.size:=by simpa using hi
  have oz:j<xs.size:=by simpa using hj
  have h1:=hs i j (eh _) (kA hX) (by lia)
  rw[HJ gI,HJ oz] at h1
  simpa using h1
theorem fW {F:PySem.Fin->Shared->Prop} (ho:s.heap.get? a=some (seqObj "list" vs.toArray n)) (hsz:vs.length<=sizeLine) (hP:∀ v∈vs,P v)
  (hk:2<=vs.length->∀ (Q:SortKind->Shared->Prop),Q κ { s with heap:=cZ s.heap a vs }->wpAny (model prog w) A (keyKind' vs.toArray) Q E { s with heap:=cZ s.heap a vs })
  (C:2<=vs.length->kL prog w A { s with heap:=cZ s.heap a vs } κ r P)
  (h:∀ out:Array Value,out.toList.Perm vs->(out.toList.Pairwise fun x y=>r x<=r y)->F (.done (.ret .none)) { s with heap:=sortedHeap s.heap a vs out }) :
  wpAny (model prog w) A (Builtin.«list.sort» ⟨[.ref a],[]⟩) F E s:=by
 rw[list_sort_plain]
 have ha:a<s.heap.objs.size:=dS ho
 refine ah (listItems_at ho rfl ?_)
 refine ah (listUpdate_at ho rfl ?_ (by simpa using hsz) (eh _))
 obtain⟨e1,sP⟩:∃ e1,(s.heap.update a (Obj.mapSeq fun _=>#[])).get? a=some (seqObj "list" #[] e1):=⟨_,get?_update_seq ho (fun _=>#[])⟩
 refine ah (seqEpoch_at sP rfl ?_)
 refine ah (wpAny_newTuple ?_ (by simpa using hsz))
 refine ah (wpAny_newList ?_ (eh _))
 refine wpAny_holding ?_
 have P6:(cZ s.heap a vs).get? a=some (seqObj "list" #[] e1):=by
  unfold cZ
  rw[FU _ _ _ (by rw[size_push',D6];exact fw (qE ha)),FU _ _ _ (by rw[D6];exact fw ha)]
  exact sP
 show wpAny (model prog w) A _ F E { s with heap:=cZ s.heap a vs }
 dsimp only
 have hvz:vs.toArray.size=vs.length:=by simp
 have fin:∀ ae:SortSt,(arrOf ae).Perm (pairsOf vs)->Up r (arrOf ae) 0 vs.length->F (.done (.ret .none)) { s with heap:=sortedHeap s.heap a vs ((arrOf ae).map (·.2)) }:=by
  intro ae hp hs
  obtain⟨h1,h2⟩:=sJ hp hs
  exact h _ h1 h2
 by_cases h2:vs.toArray.size<2
 ·rw[if_pos h2,if_pos h2]
  refine ah (ay ?_)
  rw[StateT.run_pure]
  refine ah (ay ?_)
  dsimp only
  refine ah (seqEpoch_at P6 rfl ?_)
  refine ah (listUpdate_at P6 rfl ?_ (eh _) (by rw[Array.size_map];show(pairsOf vs).size<=_;rw[pairsOf_size];lia))
  simp only[bne_self_eq_false,gE,if_false]
  refine ay (fin (SortSt.mk' general' (vs.toArray.zip vs.toArray) #[] 7 none) (Array.Perm.refl _) ?_)
  intro i j _ hX hj
  have:i=j:=by lia
  subst this;exact pj _
 ·rw[if_neg h2,if_neg h2]
  refine ah (hk (by lia) _ ?_)
  refine ah (sL (wpS_sortRuns (st:=SortSt.mk' κ (vs.toArray.zip vs.toArray) #[] 7 none)
   (Q:=fun _ ae=>(arrOf ae).Perm (pairsOf vs)/\failedOf ae=none/\Up r (arrOf ae) 0 vs.length)
   (C (by lia)) rfl (fun p hp=>?_) rfl rfl fun ae a1 a2 a3=>⟨a1,a2,?_⟩) ?_ fun _ _ e=>e)
  ·have g9:p∈(pairsOf vs).toList:=hp
   rw[pairsOf_toList] at g9
   exact hP _ (mem_zip_self g9).2
  ·have e:(arrOf (SortSt.mk' κ (vs.toArray.zip vs.toArray) #[] 7 none)).size=vs.length:=pairsOf_size vs
   rw[e] at a3
   exact a3
  ·rintro⟨⟨⟩,ae⟩ s' ⟨rfl,hp,hf,hs⟩
   dsimp only
   refine ah (seqEpoch_at P6 rfl ?_)
   refine ah (listUpdate_at P6 rfl ?_ (eh _) (by refine gx (LS ((Array.size_map ..).trans (hp.size_eq.trans (pairsOf_size _)))) ?_;lia))
   rw[hf]
   simp only[bne_self_eq_false,gE,if_false]
   exact ay (fin ae hp hs)
def gD (h:Heap) (vs:List Value):Heap:=((h.push (seqObj "list" #[] 0)).update h.objs.size (Obj.mapSeq (· ++ vs.toArray))).push (seqObj "list" vs.toArray 0)
theorem jJ(hb:h.get? b=some o):(cZ (gD h vs) (h.objs.size+1) vs).get? b=some o:=by
 have dc:b<h.objs.size:=dS hb
 have e:(gD h vs).get? b=some o:=by
  unfold gD
  rw[FU _ _ _ (by rw[D6,size_push'];exact fw (qE dc)),Q9 _ _ _ _ (fw dc),FU _ _ _ (fw dc)]
  exact hb
 rw[gG (fw (qE dc)) (dS e)]
 exact e
theorem wD(hl:s.heap.IsList l vs.toArray)(hsz:vs.length<=sizeLine)(hP:∀ v∈vs,P v)
  (hk:2<=vs.length->∀ (A':Around) (E':Value->Shared->Prop) (s':Shared),(∀ b o,s.heap.get? b=some o->s'.heap.get? b=some o)->∀ (Q:SortKind->Shared->Prop),Q κ s'->wpAny (model prog w) A' (keyKind' vs.toArray) Q E' s')
  (C:2<=vs.length->∀ (s':Shared),(∀ b o,s.heap.get? b=some o->s'.heap.get? b=some o)->kL prog w A.in1.in1 s' κ r P)
  (h:∀ (h':Heap) (out:List Value) (n:Nat),out.Perm vs->(out.Pairwise fun x y=>r x<=r y)->(∀ b o,s.heap.get? b=some o->h'.get? b=some o)->h'.get? (s.heap.objs.size+1)=some (seqObj "list" out.toArray n)->Q (.ref (s.heap.objs.size+1)) { s with heap:=h' }) :
  wpAny (model prog w) A (call (.builtin "sorted") [.ref l]) Q E s:=by
 refine Calls.call_function_entry kind_sorted plain_sorted entry_sorted (args_sorted1 _) ?_
 unfold Builtin.«sorted»
 refine ah (m:=checkCount "sorted" 1 1 _) (ay ?_)
 refine ah (collect_list hl ?_ hsz)
 refine ah (wpAny_newList ?_ (by simpa using hsz))
 have WK:((s.heap.push (seqObj "list" #[] 0)).update s.heap.objs.size (Obj.mapSeq (· ++ vs.toArray))).objs.size=s.heap.objs.size+1:=by
  rw[D6,size_push']
 have vx:(gD s.heap vs).get? (s.heap.objs.size+1)=some (seqObj "list" vs.toArray 0):=by
  unfold gD
  rw[<- WK];exact i9 _ rfl
 show wpAny _ _ _ _ _ { s with heap:=gD s.heap vs }
 rw[WK]
 refine ah (wpAny_holding (wpAny_call_entry slot_list_sort ⟨_,vx,rfl⟩ entry_list_sort (fW (r:=r) (s:={ s with heap:=gD s.heap vs }) vx hsz hP
  (fun h2=>hk h2 _ _ _ fun b o e=>jJ e) (fun h2=>?_) fun out a1 a2=>⟨_,rfl,?_⟩) (args_list_sort _)))
 ·exact C h2 _ fun b o e=>jJ e
 ·obtain⟨n,e⟩:=sortedAll_at s.heap vs out
  refine ay ⟨_,rfl,h (sortedAll s.heap vs out) out.toList n a1 a2 (fun b o e=>sortedAll_old e) (by rw[O5];exact e)⟩
end
end sj
namespace L2
open PySem PySem.Spec PyProof.Rows
def lS:Key->Key->Bool
 |.inl i,.inl j=>decide (i<j)
 |.inr x,.inr y=>tS x y
 |_,_=>false
def ft:List Key->List Key->Bool
 |a :: as,b :: bs=>if a=b then ft as bs else lS a b
 |_,_=>false
def mB:Key->Bool
 |.inl _=>true
 |.inr _=>false
def gu(k:List Key):List Bool:=k.map mB
theorem wV(x:Str):tS x x=false:=by unfold tS;simp[List.lt_irrefl]
theorem Az(h:tS x y=true)(g:tS y z=true):tS x z=true:=by
 unfold tS at *
 simp only[decide_eq_true_eq] at *
 exact List.lt_trans h g
theorem yS{x y:Str}(h:x.cps.toList=y.cps.toList):x=y:=by
 cases x;cases y
 simp only at h
 rw[LW.mp h]
theorem xQ{x y:Str}(h:tS x y=false)(g:tS y x=false):x=y:=by
 unfold tS at *
 simp only[decide_eq_false_iff_not] at *
 apply yS
 exact List.le_antisymm (List.not_lt.mp g) (List.not_lt.mp h)
theorem vY(a:Key):lS a a=false:=by cases a with|inl i=>simp[lS]|inr x=>exact wV x
theorem Gx(h:lS a b=true)(g:lS b c=true):lS a c=true:=by
 cases a<;>cases b<;>cases c<;>simp only[lS,decide_eq_true_eq] at *<;>first|lia|contradiction|exact Az h g
theorem Ed(e:mB a=mB b)(h:lS a b=false)(g:lS b a=false):a=b:=by
 cases a<;>cases b<;>simp only[lS,mB,decide_eq_false_iff_not] at *
 ·congr 1;lia
 ·cases e
 ·cases e
 ·congr 1;exact xQ h g
theorem qZ:∀ a:List Key,ft a a=false
 |[]=>rfl
 |a :: as=>by unfold ft;rw[if_pos rfl];exact qZ as
theorem tQ:∀ {a b c:List Key},ft a b=true->ft b c=true->ft a c=true
 |[],_,_,h,_=>by simp[ft] at h
 |_ :: _,[],_,h,_=>by simp[ft] at h
 |_ :: _,_ :: _,[],_,g=>by simp[ft] at g
 |a :: as,b :: bs,c :: cs,h,g=>by
  unfold ft at h g ⊢
  by_cases e1:a=b
  ·subst e1
   rw[if_pos rfl] at h
   by_cases e2:a=c
   ·subst e2
    rw[if_pos rfl] at g ⊢
    exact tQ h g
   ·rw[if_neg e2] at g ⊢
    exact g
  ·rw[if_neg e1] at h
   by_cases e2:b=c
   ·subst e2
    rw[if_neg e1]
    exact h
   ·rw[if_neg e2] at g
    have t:=Gx h g
    have ne:a≠c:=fun e=>by subst e;rw[vY] at t;cases t
    rw[if_neg ne]
    exact t
theorem jK:∀ {a b:List Key},gu a=gu b->ft a b=false->ft b a=false->a=b
 |[],[],_,_,_=>rfl
 |[],_ :: _,e,_,_=>by simp[gu] at e
 |_ :: _,[],e,_,_=>by simp[gu] at e
 |a :: as,b :: bs,e,h,g=>by
  simp only[gu,fi,List.cons.injEq] at e
  unfold ft at h g
  by_cases e1:a=b
  ·subst e1
   rw[if_pos rfl] at h g
   rw[jK (show gu as=gu bs from e.2) h g]
  ·rw[if_neg e1] at h
   rw[if_neg (Ne.symm e1)] at g
   exact absurd (Ed e.1 h g) e1
theorem count_le(p q:α->Bool):∀ (l:List α),(∀ x∈l,p x=true->q x=true)->l.countP p<=l.countP q
 |[],_=>bT _
 |x :: l,h=>by
  have ih:=count_le p q l fun y hy=>h y (b5 _ hy)
  have h1:=h x bX
  rw[FP,FP]
  cases hp:p x<;>cases hq:q x<;>simp_all<;>lia
theorem oG(p q:α->Bool)(a:α)(ha:p a=false)(hb:q a=true):∀ (l:List α),a∈l->(∀ x∈l,p x=true->q x=true)->l.countP p<l.countP q
 |[],m,_=>by cases m
 |x :: l,m,h=>by
  rw[FP,FP]
  rcases cy.mp m with rfl|m
  ·have:=count_le p q l fun y hy=>h y (b5 _ hy)
   rw[ha,hb];simp;lia
  ·have ih:=oG p q a ha hb l m fun y hy=>h y (b5 _ hy)
   have h1:=h x bX
   cases hp:p x<;>cases hq:q x<;>simp_all<;>lia
def ui(L:List (List Key))(k:List Key):Int:=(L.countP fun j=>ft j k:Nat)
theorem l_(e:gu a=gu b)(ma:a∈L):decide (ui L a<ui L b)=ft a b:=by
 unfold ui
 cases h:ft a b with
 |true =>
  have:=oG (fun j=>ft j a) (fun j=>ft j b) a (qZ a) h L ma fun x _ hx=>tQ hx h
  exact decide_eq_true (by lia)
 |false =>
  apply decide_eq_false
  cases g:ft b a with
  |false=>rw[jK e h g];lia
  |true =>
   have:=count_le (fun j=>ft j b) (fun j=>ft j a) L fun x _ hx=>tQ hx g
   lia
def SV:V->Option Key
 |.int i=>some (.inl i)
 |.str x=>some (.inr x)
 |_=>none
theorem Js(k:Key):SV (kV k)=some k:=by cases k<;>rfl
theorem Bm:∀ k:List Key,(k.map kV).filterMap SV=k
 |[]=>rfl
 |a :: as=>by rw[fi,LG,Js,Bm as]
def lJ(H:Hp):Value->List Key
 |.ref b=>match H b with
  |some (.tup xs)=>xs.filterMap SV
  |_=>[]
 |_=>[]
theorem cI(h:H b=some (.tup (k.map kV))):lJ H (.ref b)=k:=by
 simp only[lJ,h];exact Bm k
section
variable {prog:Program}{w:World}{A:Around}{E:Value->Shared->Prop}{s:Shared}{Q:Bool->Shared->Prop}
theorem Gz(ru:RelV (kV a) u)(rv:RelV (kV b) v)(e:mB a=mB b)(q:Q (lS a b) s):wpAny (model prog w) A (oneLt' false u v) Q E s:=by
 refine PySem.W.kat_one u v ?_
 cases a with
 |inl i =>
  cases b with
  |inr x=>cases e
  |inl j =>
   obtain⟨t,rfl⟩:=ru
   obtain⟨t',rfl⟩:=rv
   exact lt_int q
 |inr x =>
  cases b with
  |inl j=>cases e
  |inr y =>
   obtain⟨t,rfl⟩:=ru
   obtain⟨t',rfl⟩:=rv
   exact PySem.P.lt_str q
theorem Hv(ru:RelV (kV a) u)(rv:RelV (kV b) v)(e:mB a=mB b)(q:Q (decide (a=b)) s):wpAny (model prog w) A (eqBool u v) Q E s:=by
 cases a with
 |inl i =>
  cases b with
  |inr x=>cases e
  |inl j =>
   obtain⟨t,rfl⟩:=ru
   obtain⟨t',rfl⟩:=rv
   refine wpAny_eqBool_int ?_
   rw[<- UK];exact q
 |inr x =>
  cases b with
  |inl j=>cases e
  |inr y =>
   obtain⟨t,rfl⟩:=ru
   obtain⟨t',rfl⟩:=rv
   refine wpAny_eqBool_str ?_
   rw[<- UL];exact q
theorem zp(k m:List Key)(us vs:List Value)(i:Nat)(ha:Vals (k.map kV) us)(hb:Vals (m.map kV) vs)(e:gu k=gu m)(hf:fin=false)(q:Q (ft k m) s) :
  PySem.W.KatLex prog w A true fin Q (us.zip vs) i s:=by
 induction k generalizing m us vs i with
 |nil =>
  cases m with
  |cons b m=>simp[gu] at e
  |nil =>
   rw[Paired.n0 ha,Paired.n0 hb]
   subst hf
   exact PySem.W.kat_nil q
 |cons a k ih =>
  cases m with
  |nil=>simp[gu] at e
  |cons b m =>
   obtain⟨u,us,rfl,ra,rk⟩:=Paired.c ha
   obtain⟨v,vs,rfl,rb,rm⟩:=Paired.c hb
   simp only[gu,fi,List.cons.injEq] at e
   rw[AB]
   refine PySem.W.kat_cons (Hv ra rb e.1 (PySem.W.kat_go (fun h=>PySem.W.kat_yes ?_) (fun h=>PySem.W.kat_no ?_)))
   ·have h:=of_decide_eq_true h
    subst h
    unfold ft at q
    rw[if_pos rfl] at q
    exact ih m _ _ (i+1) rk rm e.2 q
   ·have h:=of_decide_eq_false h
    unfold ft at q
    rw[if_neg h] at q
    by_cases h0:i=0
    ·subst h0
     cases a with
     |inr x =>
      cases b with
      |inl j=>cases e.1
      |inr y =>
       obtain⟨t,rfl⟩:=ra
       obtain⟨t',rfl⟩:=rb
       exact oneLt_str q
     |inl i =>
      cases b with
      |inr x=>cases e.1
      |inl j =>
       obtain⟨t,rfl⟩:=ra
       obtain⟨t',rfl⟩:=rb
       exact oneLt_int q
    ·rw[show(true && i == 0)=false by simp[h0]]
     exact Gz ra rb e.1 q
end
section
variable {X:Cx}{pins:List (Addr × Obj)}{σ:St}{H:Hp}{s:Shared}
theorem Inv.tup(I:Inv X pins σ H s)(h:H b=some (.tup xs)):∃ its:List Value,Vals xs its/\IsTup s.heap b its.toArray:=(I.bq b _ h).2
theorem tV(I:Inv X pins σ H s)(kp:∀ b o,s.heap.get? b=some o->s'.heap.get? b=some o) :
  sj.kL X.prog X.w A s' (tuples' true) (fun v=>ui L (lJ H v)) (fun v=>∃ b k,v=.ref b/\H b=some (.tup (k.map kV))/\gu k=b0 :: sh/\k∈L):=by
 rintro x y ⟨b,k,rfl,hb,hk,mk⟩ ⟨c,m,rfl,hc,hm,mm⟩ Q E q
 obtain⟨us,ru,o,e1,c1,n1,d1⟩:=I.tup hb
 obtain⟨vs,rv,o',e2,c2,n2,d2⟩:=I.tup hc
 have SW:gu k=gu m:=hk.trans hm.symm
 simp only[cI hb,cI hc] at q
 rw[l_ SW mk] at q
 refine PySem.W.kat_lt (kp _ _ e1) d1 (kp _ _ e2) d2 (zp k m us vs 0 ru rv SW ?_ q)
 ·have h1:=ru.length
  have h2:=rv.length
  have h3:k.length=m.length:=by
   have:=congrArg List.length SW
   simpa[gu] using this
  simp only[b4] at h1 h2
  exact decide_eq_false (by simp only[gi];lia)
theorem kat_tups(I:Inv X pins σ H s){s':Shared}(kp:∀ b o,s.heap.get? b=some o->s'.heap.get? b=some o){b0:Bool}{sh:List Bool}{ys:List V}{ks:List (List Key)}{vs:List Value}(ht:cL H ys ks)(hv:Vals ys vs)(hs:∀ k∈ks,gu k=b0 :: sh) :
  ∃ fs:List Value,PySem.W.KatTups s'.heap vs fs/\fs.length=vs.length/\∀ f∈fs,(b0=true->∃ i t,f=Value.int i t)/\(b0=false->∃ x t,f=Value.str x t):=by
 induction ys generalizing ks vs with
 |nil =>
  rw[Paired.n0 hv]
  exact⟨[],.nil,rfl,by simp⟩
 |cons y ys ih =>
  obtain⟨k,ks,rfl,⟨b,rfl,hb⟩,t⟩:=Paired.c ht
  obtain⟨v,vs,rfl,rfl,rs⟩:=Paired.c hv
  obtain⟨fs,f1,f2,f3⟩:=ih t rs fun j hj=>hs j (b5 _ hj)
  have hk:=hs k bX
  obtain⟨us,ru,o,e1,c1,n1,d1⟩:=I.tup hb
  cases k with
  |nil=>simp[gu] at hk
  |cons a k =>
   obtain⟨u,us,rfl,ra,rr⟩:=Paired.c ru
   simp only[gu,fi,List.cons.injEq] at hk
   refine⟨u :: fs,.cons (kp _ _ e1) c1 d1 rfl f1,by simp[f2],fun f hf=>?_⟩
   rcases cy.mp hf with rfl|hf
   ·cases a with
    |inr x =>
     obtain⟨tk,rfl⟩:=ra
     exact⟨(fun z=>by rw[<- hk.1] at z;cases z),fun _=>⟨_,_,rfl⟩⟩
    |inl i =>
     obtain⟨tk,rfl⟩:=ra
     exact⟨fun _=>⟨_,_,rfl⟩,fun z=>by rw[<- hk.1] at z;cases z⟩
   ·exact f3 f hf
end
theorem cL.keys(h:cL H ys ks)(hv:Vals ys vs):vs.map (lJ H)=ks/\∀ v∈vs,∃ b k,v=.ref b/\H b=some (.tup (k.map kV))/\k∈ks:=by
 induction ys generalizing ks vs with
 |nil=>rw[Paired.n0 hv,show ks=[] from Paired.n0 h];exact⟨rfl,by simp⟩
 |cons y ys ih =>
  obtain⟨k,ks,rfl,⟨b,rfl,g⟩,t⟩:=Paired.c h
  obtain⟨v,vs,rfl,rfl,rs⟩:=Paired.c hv
  obtain⟨e,m⟩:=ih t rs
  refine⟨by rw[fi,cI g,e],fun v hv=>?_⟩
  rcases cy.mp hv with rfl|hv
  ·exact⟨b,k,rfl,g,bX⟩
  ·obtain⟨b',k',e1,e2,e3⟩:=m v hv
   exact⟨b',k',e1,e2,b5 _ e3⟩
theorem cL.of{H:Hp}{ks:List (List Key)}(vs:List Value)(h:∀ v∈vs,∃ b k,v=Value.ref b/\H b=some (.tup (k.map kV))/\k∈ks):∃ zs,cL H zs (vs.map (lJ H))/\Vals zs vs:=by
 induction vs with
 |nil=>exact⟨[],.nil,.nil⟩
 |cons v vs ih =>
  obtain⟨zs,a,c⟩:=ih fun u hu=>h u (b5 _ hu)
  obtain⟨b,k,rfl,e,_⟩:=h v bX
  exact⟨.ref b :: zs,.cons ⟨b,rfl,by rw[cI e];exact e⟩ a,.cons rfl c⟩
end L2
namespace sj
open PySem PyProof.Rows
section
variable {prog:Program}{w:World}{A:Around}{E:Value->Shared->Prop}{s:Shared}{κ:SortKind}{r:Value->Int}{P:Value->Prop}
theorem pX{T:String}{r d:Addr}{n:Nat}{P:Nat->Value->Prop}{OK:Heap->Prop}{R:Result->Shared->Prop}(K:PySem.W.KdlSrc prog w T r d n P OK)(hh:A.handled=none)(bq:OK s.heap)(hn:n<=sizeLine)
  (hR:∀ h' tk acc c,(∀ b o,s.heap.get? b=some o->h'.get? b=some o)->h'.get? s.heap.objs.size=some { cls:=.type "list",data:=.seq acc c }->ItemsOf P acc n->R (.ok (.ret (.ref s.heap.objs.size))) { s with heap:=h',toks:=tk }) :
  codeAny (model prog w) A (.builtin "proto.collect" ⟨[.ref r],[]⟩) R s:=by
 have WL:=K.there _ bq
 have hS:(s.heap.push { cls:=.type "list",data:=.seq ([]:List Value).toArray }).get? s.heap.objs.size=some { cls:=.type "list",data:=.seq ([]:List Value).toArray }:=i9 _ rfl
 refine codeAny_builtin F.entry_proto_collect ?_
 rw[Around.under_plainId F.plain_proto_collect _]
 show wpAny _ A.in1 (newList [] >>= fun l=>again (.builtin "list.__iadd__" ⟨[l,.ref r],[]⟩)) _ _ s
 refine ah (wpAny_newObj_type ?_)
 refine ay ⟨plainId_quiet F.plain_list_iadd _,codeAny_builtin F.entry_list_iadd ?_⟩
 rw[Around.under_plainId F.plain_list_iadd _]
 show wpAny _ A.in1 (Builtin.List.listExtendWith (.ref s.heap.objs.size) (.ref r) (.ref s.heap.objs.size)) _ _ _
 exact PySem.W.kdl_extend (R:=R) (s:={ s with heap:=s.heap.push { cls:=.type "list",data:=.seq ([]:List Value).toArray } }) K hh (K.keep _ _ bq fun b _ o e=>eR _ e) s.heap.objs.size (GA WL.1) (GA WL.2) _ 0 hS
  (fun h' tk x6 c' kp eo ia=>hR h' tk x6 c' (fun b o e=>kp b o (fw (dS e)) (eR _ e)) eo ia) hn
theorem jQ{T:String}{r d:Addr}{n:Nat}{P:Nat->Value->Prop}{OK:Heap->Prop}{Q:List Value->Shared->Prop}(K:PySem.W.KdlSrc prog w T r d n P OK)(hh:A.handled=none)(bq:OK s.heap)(hn:n<=sizeLine)
  (hQ:∀ h' tk acc,(∀ b o,s.heap.get? b=some o->h'.get? b=some o)->s.heap.objs.size<=h'.objs.size->ItemsOf P acc n->Q acc.toList { s with heap:=h',toks:=tk }):wpAny (model prog w) A (collect (.ref r)) Q E s:=by
 unfold collect
 refine ah (wpAny_runValue (pX K hh bq hn fun h' tk acc c kp eo ia=>?_))
 show wpAny _ A (load s.heap.objs.size >>= _) _ _ { s with heap:=h',toks:=tk }
 refine ah (wpAny_load eo ?_)
 exact ay (hQ h' tk acc kp (kA (dS eo)) ia)
theorem mK{R:List Value->Prop}
  (SX:∀ (A':Around) (E':Value->Shared->Prop) (Q':List Value->Shared->Prop),A'.handled=A.handled->(∀ vs h1 tk,R vs->(∀ b o,s.heap.get? b=some o->h1.get? b=some o)->s.heap.objs.size<=h1.objs.size->Q' vs { s with heap:=h1,toks:=tk })->wpAny (model prog w) A' (collect v) Q' E' s)
  (hsz:∀ vs,R vs->vs.length<=sizeLine) (hP:∀ vs,R vs->∀ v∈vs,P v)
  (hk:∀ vs,R vs->2<=vs.length->∀ (A':Around) (E':Value->Shared->Prop) (s':Shared),(∀ b o,s.heap.get? b=some o->s'.heap.get? b=some o)->∀ (Q:SortKind->Shared->Prop),Q κ s'->wpAny (model prog w) A' (keyKind' vs.toArray) Q E' s')
  (C:∀ (s':Shared),(∀ b o,s.heap.get? b=some o->s'.heap.get? b=some o)->kL prog w A.in1.in1 s' κ r P)
  (h:∀ (vs:List Value) (h':Heap) (a:Addr) (out:List Value) (n tk:Nat),R vs->out.Perm vs->(out.Pairwise fun x y=>r x<=r y)->(∀ b o,s.heap.get? b=some o->h'.get? b=some o)->s.heap.objs.size<=a->h'.get? a=some (seqObj "list" out.toArray n)->Q (.ref a) { s with heap:=h',toks:=tk }) :
  wpAny (model prog w) A (call (.builtin "sorted") [v]) Q E s:=by
 refine Calls.call_function_entry kind_sorted plain_sorted entry_sorted (args_sorted1 _) ?_
 unfold Builtin.«sorted»
 refine ah (m:=checkCount "sorted" 1 1 _) (ay ?_)
 refine ah (SX _ _ _ rfl fun vs h1 tk hR kp hz=>?_)
 have uj:=hsz vs hR
 refine ah (wpAny_newList ?_ (by simpa using uj))
 have vx:(h1.push (seqObj "list" vs.toArray 0)).get? h1.objs.size=some (seqObj "list" vs.toArray 0):=i9 _ rfl
 have old:∀ b o,s.heap.get? b=some o->(cZ (h1.push (seqObj "list" vs.toArray 0)) h1.objs.size vs).get? b=some o:=fun b o e=>by
  have dc:b<h1.objs.size:=dS (kp b o e)
  rw[gG (fw dc) (by rw[size_push'];exact qE dc)]
  exact eR _ (kp b o e)
 show wpAny _ _ _ _ _ { s with heap:=h1.push (seqObj "list" vs.toArray 0),toks:=tk }
 refine ah (wpAny_holding (wpAny_call_entry slot_list_sort ⟨_,vx,rfl⟩ entry_list_sort (fW (r:=r) (s:={ s with heap:=h1.push (seqObj "list" vs.toArray 0),toks:=tk }) vx uj (hP vs hR)
  (fun h2=>hk vs hR h2 _ _ _ old) (fun h2=>C _ old) fun out a1 a2=>⟨_,rfl,?_⟩) (args_list_sort _)))
 obtain⟨n,e⟩:=sortedHeap_at (out:=out) vx
 refine ay ⟨_,rfl,h vs _ h1.objs.size out.toList n tk hR a1 a2 (fun b o e=>?_) hz (by rw[O5];exact e)⟩
 have dc:b<h1.objs.size:=dS (kp b o e)
 rw[sortedHeap_old (fw dc) (by rw[size_push'];exact qE dc)]
 exact eR _ (kp b o e)
end
end sj
namespace L2
open PySem PySem.Spec PyProof.Rows
def gr:Value->List Key
 |.int i _=>[.inl i]
 |.str x _=>[.inr x]
 |_=>[]
theorem kI(h:RelV (kV k) v):gr v=[k]:=by
 cases k with
 |inl i=>obtain⟨t,rfl⟩:=h;rfl
 |inr x=>obtain⟨t,rfl⟩:=h;rfl
theorem rF:ft [a] [b]=lS a b:=by
 unfold ft
 by_cases e:a=b
 ·subst e;rw[if_pos rfl,vY];rfl
 ·rw[if_neg e]
theorem tX{prog:Program}{w:World}{A:Around}{s:Shared}{b:Bool}{L:List Key} :
  sj.kL prog w A s oneType' (fun v=>ui (L.map fun k=>[k]) (gr v)) (fun v=>∃ k,RelV (kV k) v/\mB k=b/\k∈L):=by
 rintro x y ⟨k,rk,ik,mk⟩ ⟨m,rm,im,mm⟩ Q E q
 simp only[kI rk,kI rm] at q
 rw[l_ (by simp[gu,ik,im]) (cc.mpr ⟨k,mk,rfl⟩),rF] at q
 rw[keyLt'_oneType]
 cases k with
 |inl i =>
  cases m with
  |inr y=>rw[<- im] at ik;cases ik
  |inl j =>
   obtain⟨t,rfl⟩:=rk
   obtain⟨u,rfl⟩:=rm
   exact oneLt_int q
 |inr x =>
  cases m with
  |inl y=>rw[<- im] at ik;cases ik
  |inr j =>
   obtain⟨t,rfl⟩:=rk
   obtain⟨u,rfl⟩:=rm
   exact oneLt_str q
theorem ints_of{ks:List Key}{vs:List Value}(r:Vals (ks.map kV) vs)(h:∀ k∈ks,mB k=true):∃ ns,IntsAre vs ns:=by
 induction ks generalizing vs with
 |nil=>rw[Paired.n0 r];exact⟨[],.nil⟩
 |cons k ks ih =>
  obtain⟨v,vs,rfl,r,rs⟩:=Paired.c r
  obtain⟨ns,q⟩:=ih rs fun j hj=>h j (b5 _ hj)
  have:=h k bX
  cases k with
  |inr x=>cases this
  |inl i=>obtain⟨t,rfl⟩:=r;exact⟨_,.cons i t q⟩
theorem Df{ks:List Key}{vs:List Value}(r:Vals (ks.map kV) vs)(h:∀ k∈ks,mB k=false):∃ ns,StrsAre vs ns:=by
 induction ks generalizing vs with
 |nil=>rw[Paired.n0 r];exact⟨[],.nil⟩
 |cons k ks ih =>
  obtain⟨v,vs,rfl,r,rs⟩:=Paired.c r
  obtain⟨ns,q⟩:=ih rs fun j hj=>h j (b5 _ hj)
  have:=h k bX
  cases k with
  |inl x=>cases this
  |inr i=>obtain⟨t,rfl⟩:=r;exact⟨_,.cons i t q⟩
theorem qp{prog:Program}{w:World}{A:Around}{E:Value->Shared->Prop}{s:Shared}{b:Bool}{ks:List Key}{vs:List Value}(r:Vals (ks.map kV) vs)(h:∀ k∈ks,mB k=b)(h2:2<=vs.length){Q:SortKind->Shared->Prop}(q:Q oneType' s) :
  wpAny (model prog w) A (keyKind' vs.toArray) Q E s:=by
 match vs,h2 with
 |v1 :: v2 :: vs,_ =>
  cases b with
  |true=>obtain⟨ns,hI⟩:=ints_of r h;rw[keyKind_ints hI];exact ay q
  |false=>obtain⟨ns,hI⟩:=Df r h;rw[keyKind_strs hI];exact ay q
theorem mem_keys{ks:List Key}{vs:List Value}(r:Vals (ks.map kV) vs)(v:Value)(h:v∈vs):∃ k,RelV (kV k) v/\k∈ks:=by
 induction ks generalizing vs with
 |nil=>rw[Paired.n0 r] at h;cases h
 |cons k ks ih =>
  obtain⟨u,vs,rfl,r,rs⟩:=Paired.c r
  rcases cy.mp h with rfl|h
  ·exact⟨k,r,bX⟩
  ·obtain⟨j,a,b⟩:=ih rs h
   exact⟨j,a,b5 _ b⟩
theorem keys_map{ks:List Key}{vs:List Value}(r:Vals (ks.map kV) vs):vs.map gr=ks.map fun k=>[k]:=by
 induction ks generalizing vs with
 |nil=>rw[Paired.n0 r];rfl
 |cons k ks ih =>
  obtain⟨u,vs,rfl,r,rs⟩:=Paired.c r
  rw[fi,fi,kI r,ih rs]
theorem kj{ks:List Key}(vs:List Value)(h:∀ v∈vs,∃ k,RelV (kV k) v/\k∈ks):∃ ms:List Key,Vals (ms.map kV) vs:=by
 induction vs with
 |nil=>exact⟨[],.nil⟩
 |cons v vs ih =>
  obtain⟨ms,r⟩:=ih fun u hu=>h u (b5 _ hu)
  obtain⟨k,rk,_⟩:=h v bX
  exact⟨k :: ms,.cons rk r⟩
theorem pR:∀ {ms ks:List Key},(ms.map fun k=>[k]).Perm (ks.map fun k=>[k])->ms.Perm ks:=fun {ms ks} h=>by
 have:=h.map (fun l:List Key=>l.head?)
 simp only[fA] at this
 have e:∀ l:List Key,l.map ((fun l:List Key=>l.head?) ∘ fun k=>[k])=l.map some:=fun l=>D3 fun _ _=>rfl
 rw[e,e] at this
 have:=this.filterMap id
 simpa using this
section
variable {X:Cx}
def uc(K:PySem.W.Frag):List V->Hp->VK->Prop:=fun xs H Q=>match xs with
 |[.ref p]=>∃ ks b,(eK K H p (ks.map kV)\/∃ kvs,H p=some (.dK kvs)/\ks=kvs.map (·.1))/\(∀ k∈ks,mB k=b) /\
   ∀ (ms:List Key) (l:Addr),ms.Perm ks->(ms.Pairwise fun a b=>lS b a=false)->H l=none->Q (.ref l) (upd H l (.lst (ms.map kV)))
 |_=>False
theorem vD (hc:X.calm=true):i3 X (.builtin "sorted") (uc X.K):=by
 intro pins s σ H xs us Q I r h
 unfold uc at h
 split at h
 ·rename_i p
  obtain⟨ks,b,hl,hb,q⟩:=h
  obtain⟨u,rfl,ru⟩:=Vals.one r
  cases ru
  have hsz:ks.length<=sizeLine:=by
   rcases hl with hl|⟨kvs,e,rfl⟩
   ·obtain⟨vs,rv,pl,hz⟩:=I.list hl
    simpa using hz
   ·obtain⟨z,_⟩:=(show fE X.prog X.w H s.heap p (.dK kvs) from I.bq p _ e)
    simpa using z
  refine sj.mK (κ:=oneType') (R:=fun vs=>Vals (ks.map kV) vs) (r:=fun v=>ui (ks.map fun k=>[k]) (gr v)) (P:=fun v=>∃ k,RelV (kV k) v/\mB k=b/\k∈ks) (fun A' E' Q' hA hQ=>?_) (fun vs rv=>?_) (fun vs rv v hv=>?_)
   (fun vs rv h2 A' E' s' kp Q' q'=>qp rv hb h2 q') (fun s' kp=>tX) fun vs h' a out n tk rv pm pw kp ha eo=>?_
  ·rcases hl with hl|⟨kvs,e,rfl⟩
   ·obtain⟨vs,rv,pl,hz⟩:=I.list hl
    refine collect_list pl.isList (hQ vs _ s.toks rv (fun b o e=>?_) ?_) (by have:=rv.length;lia)
    ·rw[Q9 _ _ _ _ (fw (dS e))]
     exact eR _ e
    ·rw[D6,size_push'];exact LV _
   ·obtain⟨z,y,vs,rel,dd⟩:=(show fE X.prog X.w H s.heap p (.dK kvs) from I.bq p _ e)
    obtain⟨ep,da⟩:=dd.dictAt
    have hlen:vs.length=kvs.length:=rel.length.symm
    refine sj.jQ (PySem.W.kdl_dict (knd:=iE X.prog X.w) (kvs:=vs) (ep:=ep) y) (hA.trans (I.ok.hd hc)) da (by lia) fun h' tk acc kp hz wm=>hQ _ h' tk ?_ kp hz
    have go:∀ {l1:List (Key × V)} {l2:List (Key × Value)} (ac:List Value),KV l1 l2->ac.length=l2.length->(∀ (i:Nat) (v:Value),ac[i]? = some v->∃ k x,l2[i]? = some (k,x)/\B8 k v=true)->Vals ((l1.map (·.1)).map kV) ac:=by
     intro l1 l2 ac rl
     induction rl generalizing ac with
     |nil=>intro hl _;cases ac with
      |nil=>exact .nil
      |cons _ _=>cases hl
     |@cons p1 q1 l1 l2 r1 rs ih =>
      intro hl hi
      cases ac with
      |nil=>cases hl
      |cons v ac =>
       obtain⟨k,x,e1,e2⟩:=hi 0 v rfl
       simp only[List.getElem?_cons_zero,Option.some.injEq] at e1
       subst e1
       refine .cons ?_ (ih ac (by simpa using hl) fun i v h=>hi (i+1) v (by simpa using h))
       have SY:p1.1=k:=r1.1
       show RelV (kV p1.1) v
       rw[SY]
       rcases xl e2 with⟨i,t,rfl,rfl⟩|⟨x,t,rfl,rfl⟩<;>exact⟨t,rfl⟩
    exact go acc.toList rel (by rw[y2];exact wm.1) fun i v h=>wm.2 i v (by simpa using h)
  ·have:=rv.length
   rw[b4] at this
   lia
  ·obtain⟨k,rk,mk⟩:=mem_keys rv v hv
   exact⟨k,rk,hb k mk,mk⟩
  ·obtain⟨ms,rm⟩:=kj (ks:=ks) out fun v hv=>mem_keys rv v (pm.mem_iff.mp hv)
   have pk:ms.Perm ks:=pR (by rw[<- keys_map rm,<- keys_map rv];exact pm.map _)
   refine⟨.ref a,_,I.laid (a:=a) (t':=tk) kp ha (show fE X.prog X.w _ h' _ (.lst (ms.map kV)) from⟨by rw[b4,pk.length_eq];exact hsz,out,n,rm,eo⟩),rfl,q ms _ pk ?_ (I.bq.fresh ha)⟩
   have Nx:(out.map gr).Pairwise fun x y=>ui (ks.map fun k=>[k]) x<=ui (ks.map fun k=>[k]) y:=ki.mpr pw
   rw[keys_map rm,ki] at Nx
   refine Nx.imp_of_mem fun {x y} mx my hle=>?_
   have mx:=pk.mem_iff.mp mx
   have my:=pk.mem_iff.mp my
   rw[<- rF,<- l_ (L:=ks.map fun k=>[k]) (by simp[gu,hb x mx,hb y my]) (cc.mpr ⟨y,my,rfl⟩)]
   exact decide_eq_false (by lia)
 ·exact h.elim
end
end L2
namespace L2.Q
open PySem PySem.Spec PyProof.Rows
inductive D where
 |non|bl (b:Bool)|int (i:Int)|str (x:Str)
 |list (xs:List D)|tup (xs:List D)|dK (kvs:List (Key × D))|dT (kvs:List (List Key × D))
mutual
/-- nothing in it can be changed -/
def D.flat:D->Bool
 |.list _=>false
 |.dK _=>false
 |.dT _=>false
 |.tup xs=>cx xs
 |_=>true
def cx:List D->Bool
 |[]=>true
 |x :: xs=>x.flat && cx xs
end
theorem jH:∀ {xs:List D},cx xs=true↔∀ x∈xs,x.flat=true
 |[]=>by simp[cx]
 |x :: xs=>by simp[cx,jH (xs:=xs)]
theorem fH:cx (xs++ys)=(cx xs && cx ys):=by
 induction xs with
 |nil=>simp[cx]
 |cons x xs ih=>simp[cx,ih,Bool.and_assoc]
def x8:Key->Bool
 |.inl _=>true
 |.inr x=>decide (x.length<=sizeLine)
def P7(kvs:List (Key × D)):Prop:=kvs.length<=sizeLine/\∀ p∈kvs,x8 p.1=true
def P8(kvs:List (List Key × D)):Prop:=kvs.length<=sizeLine/\∀ p∈kvs,p.1.length<=sizeLine/\∀ k∈p.1,x8 k=true
mutual
inductive Rep(K:PySem.W.Frag)(H:Hp):D->V->Prop
 |non:Rep K H .non .non
 |bl (b:Bool):Rep K H (.bl b) (.bl b)
 |int (i:Int):Rep K H (.int i) (.int i)
 |str {x:Str}:x.length<=sizeLine->Rep K H (.str x) (.str x)
 |list {a:Addr} {vs:List V} {ds:List D}:vs.length<=sizeLine->eK K H a vs->aI K H ds vs->Rep K H (.list ds) (.ref a)
 |tup {a:Addr} {vs:List V} {ds:List D}:vs.length<=sizeLine->H a=some (.tup vs)->aI K H ds vs->Rep K H (.tup ds) (.ref a)
 |dK {a:Addr} {vs:List V} {kvs:List (Key × D)}:P7 kvs->H a=some (.dK ((kvs.map (·.1)).zip vs))->aI K H (kvs.map (·.2)) vs->Rep K H (.dK kvs) (.ref a)
 |dT {a:Addr} {vs:List V} {kvs:List (List Key × D)}:P8 kvs->H a=some (.dT ((kvs.map (·.1)).zip vs))->aI K H (kvs.map (·.2)) vs->Rep K H (.dT kvs) (.ref a)
inductive aI(K:PySem.W.Frag)(H:Hp):List D->List V->Prop
 |nil:aI K H [] []
 |cons {d:D} {v:V} {ds:List D} {vs:List V}:Rep K H d v->aI K H ds vs->aI K H (d :: ds) (v :: vs)
end
theorem Rep.ind{K:PySem.W.Frag}{H:Hp}{m1:D->V->Prop}{m2:List D->List V->Prop}(h0:m1 .non .non)(hb:∀ b,m1 (.bl b) (.bl b))(hi:∀ i,m1 (.int i) (.int i))(hs:∀ x,x.length<=sizeLine->m1 (.str x) (.str x))
  (hl:∀ a vs ds,vs.length<=sizeLine->eK K H a vs->aI K H ds vs->m2 ds vs->m1 (.list ds) (.ref a)) (ht:∀ a vs ds,vs.length<=sizeLine->H a=some (.tup vs)->aI K H ds vs->m2 ds vs->m1 (.tup ds) (.ref a))
  (hk:∀ a vs kvs,P7 kvs->H a=some (.dK ((kvs.map (·.1)).zip vs))->aI K H (kvs.map (·.2)) vs->m2 (kvs.map (·.2)) vs->m1 (.dK kvs) (.ref a)) (hT:∀ a vs kvs,P8 kvs->H a=some (.dT ((kvs.map (·.1)).zip vs))->aI K H (kvs.map (·.2)) vs->m2 (kvs.map (·.2)) vs->m1 (.dT kvs) (.ref a))
  (hn:m2 [] []) (hc:∀ d v ds vs,Rep K H d v->aI K H ds vs->m1 d v->m2 ds vs->m2 (d :: ds) (v :: vs)):(∀ {d v},Rep K H d v->m1 d v)/\∀ {ds vs},aI K H ds vs->m2 ds vs :=
 ⟨fun r=>Rep.rec (motive_1:=fun d v _=>m1 d v) (motive_2:=fun ds vs _=>m2 ds vs) h0 hb hi (fun h=>hs _ h) (fun z s r ih=>hl _ _ _ z s r ih) (fun z s r ih=>ht _ _ _ z s r ih) (fun z s r ih=>hk _ _ _ z s r ih) (fun z s r ih=>hT _ _ _ z s r ih) hn (fun r s a b=>hc _ _ _ _ r s a b) r,
  fun r=>aI.rec (motive_1:=fun d v _=>m1 d v) (motive_2:=fun ds vs _=>m2 ds vs) h0 hb hi (fun h=>hs _ h) (fun z s r ih=>hl _ _ _ z s r ih) (fun z s r ih=>ht _ _ _ z s r ih) (fun z s r ih=>hk _ _ _ z s r ih) (fun z s r ih=>hT _ _ _ z s r ih) hn (fun r s a b=>hc _ _ _ _ r s a b) r⟩
theorem Rep.GR{K:PySem.W.Frag}(s:aT H H'):(∀ {d:D} {v:V},Rep K H d v->Rep K H' d v)/\∀ {ds:List D} {vs:List V},aI K H ds vs->aI K H' ds vs :=
 Rep.ind .non .bl .int (fun _ h=>.str h) (fun _ _ _ z h _ ih=>.list z (s.lst h) ih) (fun _ _ _ z h _ ih=>.tup z (s _ _ h) ih) (fun _ _ _ kk h _ ih=>.dK kk (s _ _ h) ih) (fun _ _ _ kk h _ ih=>.dT kk (s _ _ h) ih) .nil fun _ _ _ _ _ _ a b=>.cons a b
theorem Rep.same{K:PySem.W.Frag}(s:aT H H')(r:Rep K H d v):Rep K H' d v:=(Rep.GR s).1 r
theorem aI.same{K:PySem.W.Frag}(s:aT H H')(r:aI K H ds vs):aI K H' ds vs:=(Rep.GR s).2 r
theorem aI.ind{K:PySem.W.Frag}{H:Hp}{m:List D->List V->Prop}(hn:m [] [])(hc:∀ d v ds vs,Rep K H d v->aI K H ds vs->m ds vs->m (d :: ds) (v :: vs)):∀ {ds vs},aI K H ds vs->m ds vs :=
 fun r=>(Rep.ind (m1:=fun _ _=>True) (m2:=m) trivial (fun _=>trivial) (fun _=>trivial) (fun _ _=>trivial) (fun _ _ _ _ _ _ _=>trivial) (fun _ _ _ _ _ _ _=>trivial) (fun _ _ _ _ _ _ _=>trivial) (fun _ _ _ _ _ _ _=>trivial) hn fun d v ds vs r s _ b=>hc d v ds vs r s b).2 r
theorem aI.length{K:PySem.W.Frag}(r:aI K H ds vs):ds.length=vs.length :=
 aI.ind (m:=fun ds vs=>ds.length=vs.length) rfl (fun _ _ _ _ _ _ ih=>by rw[pe,pe,ih]) r
theorem aI.append{K:PySem.W.Frag}(r:aI K H ds vs)(t:aI K H es ws):aI K H (ds++es) (vs++ws) :=
 aI.ind (m:=fun ds vs=>aI K H (ds++es) (vs++ws)) t (fun _ _ _ _ h _ ih=>.cons h ih) r
theorem aI.get{K:PySem.W.Frag}{H:Hp}{ds:List D}{vs:List V}{i:Nat}{d:D}(r:aI K H ds vs)(e:ds[i]? = some d):∃ v,vs[i]? = some v/\Rep K H d v :=
 aI.ind (m:=fun ds vs=>∀ i d,ds[i]? = some d->∃ v,vs[i]? = some v/\Rep K H d v) (fun i d e=>by simp at e) (fun _ _ _ _ h _ ih i d e=>by
  cases i with
  |zero=>simp at e;subst e;exact⟨_,rfl,h⟩
  |succ i =>
   obtain⟨v,e1,r⟩:=ih i d (by simpa using e)
   exact⟨v,by simpa using e1,r⟩) r i d e
theorem aI.WM{K:PySem.W.Frag}{H:Hp}{ds:List D}{vs:List V}{i:Nat}{v:V}(r:aI K H ds vs)(e:vs[i]? = some v):∃ d,ds[i]? = some d/\Rep K H d v :=
 aI.ind (m:=fun ds vs=>∀ i v,vs[i]? = some v->∃ d,ds[i]? = some d/\Rep K H d v) (fun i d e=>by simp at e) (fun _ _ _ _ h _ ih i d e=>by
  cases i with
  |zero=>simp at e;subst e;exact⟨_,rfl,h⟩
  |succ i =>
   obtain⟨v,e1,r⟩:=ih i d (by simpa using e)
   exact⟨v,by simpa using e1,r⟩) r i v e
theorem aI.drop{K:PySem.W.Frag}(n:Nat)(r:aI K H ds vs):aI K H (ds.drop n) (vs.drop n) :=
 aI.ind (m:=fun ds vs=>∀ n,aI K H (ds.drop n) (vs.drop n)) (fun n=>by rw[List.drop_nil,List.drop_nil];exact .nil) (fun _ _ _ _ h hs ih n=>by
  cases n with
  |zero=>exact .cons h hs
  |succ n=>exact ih n) r n
theorem aI.n0{K:PySem.W.Frag}(h:aI K H [] vs):vs=[]:=by cases h;rfl
theorem aI.c{K:PySem.W.Frag}(h:aI K H (d :: ds) vs):∃ u us,vs=u :: us/\Rep K H d u/\aI K H ds us:=by
 cases h with
 |cons r rs=>exact⟨_,_,rfl,r,rs⟩
theorem aI.take{K:PySem.W.Frag}(n:Nat)(r:aI K H ds vs):aI K H (ds.take n) (vs.take n) :=
 aI.ind (m:=fun ds vs=>∀ n,aI K H (ds.take n) (vs.take n)) (fun n=>by rw[List.take_nil,List.take_nil];exact .nil) (fun _ _ _ _ h hs ih n=>by
  cases n with
  |zero=>exact .nil
  |succ n=>exact .cons h (ih n)) r n
mutual
/-- what is owned: a tree whose lists and fs' stand at As,ft' fu';its leaves shared (fl: and flat) -/
inductive bP(K:PySem.W.Frag)(Hs H:Hp)(fl:Bool):D->V->List Addr->Prop
 |sh {d:D} {v:V}:(fl=true->d.flat=true)->Rep K Hs d v->bP K Hs H fl d v []
 |list {a:Addr} {vs:List V} {ds:List D} {As:List Addr}:vs.length<=sizeLine->H a=some (.lst vs)->az K Hs H fl ds vs As->bP K Hs H fl (.list ds) (.ref a) (a :: As)
 |tup {a:Addr} {vs:List V} {ds:List D} {As:List Addr}:vs.length<=sizeLine->Hs a=some (.tup vs)->cx ds=false->az K Hs H fl ds vs As->bP K Hs H fl (.tup ds) (.ref a) As
 |dK {a:Addr} {vs:List V} {kvs:List (Key × D)} {As:List Addr}:P7 kvs->H a=some (.dK ((kvs.map (·.1)).zip vs))->az K Hs H fl (kvs.map (·.2)) vs As->bP K Hs H fl (.dK kvs) (.ref a) (a :: As)
 |dT {a:Addr} {vs:List V} {kvs:List (List Key × D)} {As:List Addr}:P8 kvs->H a=some (.dT ((kvs.map (·.1)).zip vs))->az K Hs H fl (kvs.map (·.2)) vs As->bP K Hs H fl (.dT kvs) (.ref a) (a :: As)
inductive az(K:PySem.W.Frag)(Hs H:Hp)(fl:Bool):List D->List V->List Addr->Prop
 |nil:az K Hs H fl [] [] []
 |cons {d:D} {v:V} {ds:List D} {vs:List V} {As Bs:List Addr}:bP K Hs H fl d v As->az K Hs H fl ds vs Bs->az K Hs H fl (d :: ds) (v :: vs) (As++Bs)
end
def Own(H:Hp)(a:Addr):Prop:=(∃ vs,H a=some (.lst vs))\/(∃ kvs,H a=some (.dK kvs))\/∃ kvs,H a=some (.dT kvs)
section
variable {K:PySem.W.Frag}{Hs av H H':Hp}{fl:Bool}
theorem Own.ne(h:Own H a):H a≠none:=by
 rcases h with⟨_,e⟩|⟨_,e⟩|⟨_,e⟩<;>rw[e]<;>exact fun z=>nomatch z
theorem Own.By(h:Own H a):H a≠some (.tup vs):=by
 rcases h with⟨_,e⟩|⟨_,e⟩|⟨_,e⟩<;>rw[e]<;>exact fun z=>nomatch z
theorem bP.ind{m1:D->V->List Addr->Prop}{m2:List D->List V->List Addr->Prop}(hs:∀ d v,(fl=true->d.flat=true)->Rep K Hs d v->m1 d v [])
  (hl:∀ a vs ds As,vs.length<=sizeLine->H a=some (.lst vs)->az K Hs H fl ds vs As->m2 ds vs As->m1 (.list ds) (.ref a) (a :: As)) (ht:∀ a vs ds As,vs.length<=sizeLine->Hs a=some (.tup vs)->cx ds=false->az K Hs H fl ds vs As->m2 ds vs As->m1 (.tup ds) (.ref a) As)
  (hk:∀ a vs kvs As,P7 kvs->H a=some (.dK ((kvs.map (·.1)).zip vs))->az K Hs H fl (kvs.map (·.2)) vs As->m2 (kvs.map (·.2)) vs As->m1 (.dK kvs) (.ref a) (a :: As)) (hT:∀ a vs kvs As,P8 kvs->H a=some (.dT ((kvs.map (·.1)).zip vs))->az K Hs H fl (kvs.map (·.2)) vs As->m2 (kvs.map (·.2)) vs As->m1 (.dT kvs) (.ref a) (a :: As))
  (hn:m2 [] [] []) (hc:∀ d v ds vs As Bs,bP K Hs H fl d v As->az K Hs H fl ds vs Bs->m1 d v As->m2 ds vs Bs->m2 (d :: ds) (v :: vs) (As++Bs)):(∀ {d v As},bP K Hs H fl d v As->m1 d v As)/\∀ {ds vs As},az K Hs H fl ds vs As->m2 ds vs As :=
 ⟨fun r=>bP.rec (motive_1:=fun d v As _=>m1 d v As) (motive_2:=fun ds vs As _=>m2 ds vs As) (fun f r=>hs _ _ f r) (fun z s r ih=>hl _ _ _ _ z s r ih) (fun z s n r ih=>ht _ _ _ _ z s n r ih) (fun z s r ih=>hk _ _ _ _ z s r ih) (fun z s r ih=>hT _ _ _ _ z s r ih) hn (fun r s a b=>hc _ _ _ _ _ _ r s a b) r,
  fun r=>az.rec (motive_1:=fun d v As _=>m1 d v As) (motive_2:=fun ds vs As _=>m2 ds vs As) (fun f r=>hs _ _ f r) (fun z s r ih=>hl _ _ _ _ z s r ih) (fun z s n r ih=>ht _ _ _ _ z s n r ih) (fun z s r ih=>hk _ _ _ _ z s r ih) (fun z s r ih=>hT _ _ _ _ z s r ih) hn (fun r s a b=>hc _ _ _ _ _ _ r s a b) r⟩
theorem zk{a:Addr}{p:Prop}(h:a∈([]:List Addr)):p:=absurd h LH
theorem bP.WN:(∀ {d:D} {v:V} {As:List Addr},bP K Hs H fl d v As->∀ a∈As,Own H a)/\∀ {ds:List D} {vs:List V} {As:List Addr},az K Hs H fl ds vs As->∀ a∈As,Own H a :=
 bP.ind (m1:=fun _ _ As=>∀ a∈As,Own H a) (m2:=fun _ _ As=>∀ a∈As,Own H a) (fun _ _ _ _ a h=>zk h) (fun _ _ _ _ _ e _ ih a h=>(cy.mp h).elim (fun z=>z ▸ .inl ⟨_,e⟩) (ih a)) (fun _ _ _ _ _ _ _ _ ih=>ih)
  (fun _ _ _ _ _ e _ ih a h=>(cy.mp h).elim (fun z=>z ▸ .inr (.inl ⟨_,e⟩)) (ih a)) (fun _ _ _ _ _ e _ ih a h=>(cy.mp h).elim (fun z=>z ▸ .inr (.inr ⟨_,e⟩)) (ih a)) (fun a h=>zk h) fun _ _ _ _ _ _ _ _ i1 i2 a h=>(dy.mp h).elim (i1 a) (i2 a)
theorem bP.own(r:bP K Hs H fl d v As):∀ a∈As,Own H a:=bP.WN.1 r
theorem az.own(r:az K Hs H fl ds vs As):∀ a∈As,Own H a:=bP.WN.2 r
theorem bP.Hw(s:aT Hs av):(∀ {d:D} {v:V} {As:List Addr},bP K Hs H fl d v As->(∀ a∈As,H' a=H a)->bP K av H' fl d v As)/\∀ {ds:List D} {vs:List V} {As:List Addr},az K Hs H fl ds vs As->(∀ a∈As,H' a=H a)->az K av H' fl ds vs As :=
 bP.ind (m1:=fun d v As=>(∀ a∈As,H' a=H a)->bP K av H' fl d v As) (m2:=fun ds vs As=>(∀ a∈As,H' a=H a)->az K av H' fl ds vs As) (fun _ _ f r _=>.sh f (r.same s))
  (fun _ _ _ _ z e _ ih k=>.list z ((k _ bX).trans e) (ih fun a h=>k a (b5 _ h))) (fun _ _ _ _ z e n _ ih k=>.tup z (s _ _ e) n (ih k)) (fun _ _ _ _ z e _ ih k=>.dK z ((k _ bX).trans e) (ih fun a h=>k a (b5 _ h)))
  (fun _ _ _ _ z e _ ih k=>.dT z ((k _ bX).trans e) (ih fun a h=>k a (b5 _ h))) (fun _=>.nil) fun _ _ _ _ _ _ _ _ i1 i2 k=>.cons (i1 fun a h=>k a (kS _ h)) (i2 fun a h=>k a (fz _ h))
theorem bP.fq(s:aT Hs av)(r:bP K Hs H fl d v As)(k:∀ a∈As,H' a=H a):bP K av H' fl d v As:=(bP.Hw s).1 r k
theorem az.fq(s:aT Hs av)(r:az K Hs H fl ds vs As)(k:∀ a∈As,H' a=H a):az K av H' fl ds vs As:=(bP.Hw s).2 r k
theorem bP.grow(s:aT Hs av)(t:aT H H')(r:bP K Hs H fl d v As):bP K av H' fl d v As :=
 r.fq s fun a h=>by
  cases e:H a with
  |none=>exact absurd e (r.own a h).ne
  |some o=>exact t a o e
theorem az.grow(s:aT Hs av)(t:aT H H')(r:az K Hs H fl ds vs As):az K av H' fl ds vs As :=
 r.fq s fun a h=>by
  cases e:H a with
  |none=>exact absurd e (r.own a h).ne
  |some o=>exact t a o e
theorem bP.rep2{G:Hp}(s:aT Hs G):(∀ {d:D} {v:V} {As:List Addr},bP K Hs H fl d v As->(∀ a∈As,G a=H a)->Rep K G d v)/\∀ {ds:List D} {vs:List V} {As:List Addr},az K Hs H fl ds vs As->(∀ a∈As,G a=H a)->aI K G ds vs :=
 bP.ind (m1:=fun d v As=>(∀ a∈As,G a=H a)->Rep K G d v) (m2:=fun ds vs As=>(∀ a∈As,G a=H a)->aI K G ds vs) (fun _ _ _ r _=>r.same s)
  (fun _ _ _ _ z e _ ih k=>.list z (.inl (.inl ((k _ bX).trans e))) (ih fun a h=>k a (b5 _ h))) (fun _ _ _ _ z e n _ ih k=>.tup z (s _ _ e) (ih k)) (fun _ _ _ _ z e _ ih k=>.dK z ((k _ bX).trans e) (ih fun a h=>k a (b5 _ h)))
  (fun _ _ _ _ z e _ ih k=>.dT z ((k _ bX).trans e) (ih fun a h=>k a (b5 _ h))) (fun _=>.nil) fun _ _ _ _ _ _ _ _ i1 i2 k=>.cons (i1 fun a h=>k a (kS _ h)) (i2 fun a h=>k a (fz _ h))
theorem bP.rep(s:aT Hs G)(r:bP K Hs H fl d v As)(k:∀ a∈As,G a=H a):Rep K G d v:=(bP.rep2 s).1 r k
theorem az.reps(s:aT Hs G)(r:az K Hs H fl ds vs As)(k:∀ a∈As,G a=H a):aI K G ds vs:=(bP.rep2 s).2 r k
theorem Rep.xj(t:∀ a vs,H a=some (.tup vs)->G a=some (.tup vs)):(∀ {d:D} {v:V},Rep K H d v->d.flat=true->Rep K G d v)/\∀ {ds:List D} {vs:List V},aI K H ds vs->cx ds=true->aI K G ds vs :=
 Rep.ind (m1:=fun d v=>d.flat=true->Rep K G d v) (m2:=fun ds vs=>cx ds=true->aI K G ds vs) (fun _=>.non) (fun b _=>.bl b) (fun i _=>.int i) (fun _ h _=>.str h) (fun _ _ _ _ _ _ _ f=>by simp[D.flat] at f) (fun _ _ _ z e _ ih f=>.tup z (t _ _ e) (ih (by simpa[D.flat] using f)))
  (fun _ _ _ _ _ _ _ f=>by simp[D.flat] at f) (fun _ _ _ _ _ _ _ f=>by simp[D.flat] at f) (fun _=>.nil) fun _ _ _ _ _ _ i1 i2 f=>by
   simp only[cx,kr] at f
   exact .cons (i1 f.1) (i2 f.2)
theorem Rep.gw(t:∀ a vs,H a=some (.tup vs)->G a=some (.tup vs))(r:Rep K H d v)(f:d.flat=true):Rep K G d v:=(Rep.xj t).1 r f
theorem aI.gw(t:∀ a vs,H a=some (.tup vs)->G a=some (.tup vs))(r:aI K H ds vs)(f:cx ds=true):aI K G ds vs:=(Rep.xj t).2 r f
theorem aI.owned(r:aI K Hs ds vs)(f:cx ds=true):az K Hs H fl ds vs [] :=
 aI.ind (m:=fun ds vs=>cx ds=true->az K Hs H fl ds vs []) (fun _=>.nil) (fun _ _ _ _ h _ ih f=>by
  simp only[cx,kr] at f
  exact .cons (As:=[]) (.sh (fun _=>f.1) h) (ih f.2)) r f
theorem aI.Hh(r:aI K Hs ds vs):az K Hs H false ds vs [] :=
 aI.ind (m:=fun ds vs=>az K Hs H false ds vs []) .nil (fun _ _ _ _ h _ ih=>.cons (As:=[]) (.sh (fun z=>Bool.noConfusion z) h) ih) r
theorem bP.WQ:(∀ {d:D} {v:V} {As:List Addr},bP K Hs H fl d v As->bP K Hs H false d v As)/\∀ {ds:List D} {vs:List V} {As:List Addr},az K Hs H fl ds vs As->az K Hs H false ds vs As :=
 bP.ind (fun _ _ _ r=>.sh (fun z=>Bool.noConfusion z) r) (fun _ _ _ _ z e _ ih=>.list z e ih) (fun _ _ _ _ z e n _ ih=>.tup z e n ih) (fun _ _ _ _ z e _ ih=>.dK z e ih) (fun _ _ _ _ z e _ ih=>.dT z e ih) .nil fun _ _ _ _ _ _ _ _ a b=>.cons a b
theorem bP.P9(r:bP K Hs H fl d v As):bP K Hs H false d v As:=bP.WQ.1 r
theorem az.P9(r:az K Hs H fl ds vs As):az K Hs H false ds vs As:=bP.WQ.2 r
theorem bP.Ez(t:∀ a vs,Hs a=some (.tup vs)->G a=some (.tup vs)):(∀ {d:D} {v:V} {As:List Addr},bP K Hs H true d v As->bP K G H true d v As)/\∀ {ds:List D} {vs:List V} {As:List Addr},az K Hs H true ds vs As->az K G H true ds vs As :=
 bP.ind (fun _ _ f r=>.sh f (r.gw t (f rfl))) (fun _ _ _ _ z e _ ih=>.list z e ih) (fun _ _ _ _ z e n _ ih=>.tup z (t _ _ e) n ih) (fun _ _ _ _ z e _ ih=>.dK z e ih) (fun _ _ _ _ z e _ ih=>.dT z e ih) .nil fun _ _ _ _ _ _ _ _ a b=>.cons a b
theorem bP.leaves(t:∀ a vs,Hs a=some (.tup vs)->G a=some (.tup vs))(r:bP K Hs H true d v As):bP K G H true d v As:=(bP.Ez t).1 r
theorem az.ind{m:List D->List V->List Addr->Prop}(hn:m [] [] [])(hc:∀ d v ds vs As Bs,bP K Hs H fl d v As->az K Hs H fl ds vs Bs->m ds vs Bs->m (d :: ds) (v :: vs) (As++Bs)):∀ {ds vs As},az K Hs H fl ds vs As->m ds vs As :=
 fun r=>(bP.ind (m1:=fun _ _ _=>True) (m2:=m) (fun _ _ _ _=>trivial) (fun _ _ _ _ _ _ _ _=>trivial) (fun _ _ _ _ _ _ _ _ _=>trivial) (fun _ _ _ _ _ _ _ _=>trivial) (fun _ _ _ _ _ _ _ _=>trivial) hn fun d v ds vs As Bs r s _ b=>hc d v ds vs As Bs r s b).2 r
theorem az.append(r:az K Hs H fl ds vs As)(t:az K Hs H fl es ws Bs):az K Hs H fl (ds++es) (vs++ws) (As++Bs) :=
 az.ind (m:=fun ds vs As=>az K Hs H fl (ds++es) (vs++ws) (As++Bs)) t (fun _ _ _ _ _ _ h _ ih=>by
  rw[xh]
  exact .cons h ih) r
theorem az.n0(h:az K Hs H fl [] vs As):vs=[]/\As=[]:=by cases h;exact⟨rfl,rfl⟩
theorem az.c(h:az K Hs H fl (d :: ds) vs As):∃ u us A B,vs=u :: us/\As=A++B/\bP K Hs H fl d u A/\az K Hs H fl ds us B:=by
 cases h with
 |cons r rs=>exact⟨_,_,_,_,rfl,rfl,r,rs⟩
theorem az.length(r:az K Hs H fl ds vs As):ds.length=vs.length :=
 az.ind (m:=fun ds vs _=>ds.length=vs.length) rfl (fun _ _ _ _ _ _ _ _ ih=>by rw[pe,pe,ih]) r
end
inductive Sl where
 /-- shared;owned;owned and walked by a loop just now (at a) -/
 |sh (d:D)|ow (fl:Bool) (d:D)|lk (a:Addr) (fl:Bool) (d:D)
 /-- an exception,at a -/
 |xc (a:Addr)
abbrev Env:=List (Option Sl)
inductive SR(K:PySem.W.Frag)(Hs H:Hp):Env->St->List Addr->Prop
 |nil:SR K Hs H [] [] []
 |non {ρ:Env} {σ:St} {ag:List Addr} {o:Option V}:SR K Hs H ρ σ ag->SR K Hs H (none :: ρ) (o :: σ) ag
 |sh {ρ:Env} {σ:St} {ag:List Addr} {d:D} {v:V}:Rep K Hs d v->SR K Hs H ρ σ ag->SR K Hs H (some (.sh d) :: ρ) (some v :: σ) ag
 |xc {ρ:Env} {σ:St} {ag:List Addr} {a:Addr}:SR K Hs H ρ σ ag->SR K Hs H (some (.xc a) :: ρ) (some (.ref a) :: σ) ag
 |ow {ρ:Env} {σ:St} {ag As:List Addr} {fl:Bool} {d:D} {v:V}:As≠[]->bP K Hs H fl d v As->SR K Hs H ρ σ ag->SR K Hs H (some (.ow fl d) :: ρ) (some v :: σ) (As++ag)
 |lk {ρ:Env} {σ:St} {ag As:List Addr} {a:Addr} {fl:Bool} {d:D}:As≠[]->bP K Hs H fl d (.ref a) As->SR K Hs H ρ σ ag->SR K Hs H (some (.lk a fl d) :: ρ) (some (.ref a) :: σ) (As++ag)
structure Wf(Hs H:Hp):Prop where
 sub:aT Hs H
 ku:∀ a vs,H a=some (.tup vs)->Hs a=some (.tup vs)
structure dE(K:PySem.W.Frag)(Hs:Hp)(ρ:Env)(σ:St)(H:Hp)(ag:List Addr):Prop where
 sr:SR K Hs H ρ σ ag
 wf:Wf Hs H
 sQ:ag.Nodup
 own:∀ a∈ag,Hs a=none
structure eJ(Hs H av H':Hp):Prop where
 all:aT H H'
 sh:aT Hs av
 wf:Wf av H'
 new:∀ a,av a≠none->Hs a≠none\/H a=none
section
variable {K:PySem.W.Frag}{Hs H av H' WR WU:Hp}
theorem eJ.refl(w:Wf Hs H):eJ Hs H Hs H:=⟨aT.refl _,aT.refl _,w,fun _ h=>.inl h⟩
theorem eJ.trans(a:eJ Hs H av H')(b:eJ av H' WR WU):eJ Hs H WR WU :=
 ⟨a.all.trans b.all,a.sh.trans b.sh,b.wf,fun c h=>by
  rcases b.new c h with h|h
  ·exact a.new c h
  ·exact .inr (a.all.free h)⟩
theorem eJ.lP(g:eJ Hs H av H')(h:Hs a=none)(h':H a≠none):av a=none:=by
 cases e:av a with
 |none=>rfl
 |some o =>
  rcases g.new a (by rw[e];exact fun z=>nomatch z) with z|z
  ·exact absurd h z
  ·exact absurd z h'
theorem SR.own{ρ:Env}{σ:St}{ag:List Addr}(s:SR K Hs H ρ σ ag):∀ a∈ag,Own H a:=by
 induction s with
 |nil=>exact fun a h=>zk h
 |non _ ih=>exact ih
 |sh _ _ ih=>exact ih
 |xc _ ih=>exact ih
 |ow _ r _ ih=>exact fun a h=>(dy.mp h).elim (r.own a) (ih a)
 |lk _ r _ ih=>exact fun a h=>(dy.mp h).elim (r.own a) (ih a)
theorem SR.fq(s:aT Hs av)(r:SR K Hs H ρ σ ag):(∀ a∈ag,H' a=H a)->SR K av H' ρ σ ag:=by
 induction r with
 |nil=>exact fun _=>.nil
 |non _ ih=>exact fun k=>.non (ih k)
 |sh h _ ih=>exact fun k=>.sh (h.same s) (ih k)
 |xc _ ih=>exact fun k=>.xc (ih k)
 |ow ne h _ ih=>exact fun k=>.ow ne (h.fq s fun a m=>k a (kS _ m)) (ih fun a m=>k a (fz _ m))
 |lk ne h _ ih=>exact fun k=>.lk ne (h.fq s fun a m=>k a (kS _ m)) (ih fun a m=>k a (fz _ m))
theorem dE.grow(r:dE K Hs ρ σ H ag)(g:eJ Hs H av H'):dE K av ρ σ H' ag :=
 ⟨r.sr.fq g.sh fun a h=>by
  cases e:H a with
  |none=>exact absurd e (r.sr.own a h).ne
  |some o=>exact g.all a o e,g.wf,r.sQ,fun a h=>g.lP (r.own a h) (r.sr.own a h).ne⟩
def zm(K:PySem.W.Frag)(Hs H:Hp)(ag:List Addr)(sl:Sl)(v:V):Prop:=match sl with
 |.sh d=>Rep K Hs d v
 |.ow fl d=>∃ As,As≠[]/\bP K Hs H fl d v As/\∀ a∈As,a∈ag
 |.lk a fl d=>∃ As,As≠[]/\bP K Hs H fl d v As/\v=.ref a/\∀ a∈As,a∈ag
 |.xc a=>v=.ref a
theorem zm.mono(h:zm K Hs H ag sl v)(m:∀ a∈ag,a∈b6):zm K Hs H b6 sl v:=by
 cases sl with
 |sh d=>exact h
 |xc a=>exact h
 |ow fl d =>
  obtain⟨As,ne,r,q⟩:=h
  exact⟨As,ne,r,fun a ha=>m a (q a ha)⟩
 |lk a fl d =>
  obtain⟨As,ne,r,e,q⟩:=h
  exact⟨As,ne,r,e,fun a ha=>m a (q a ha)⟩
theorem SR.get{ρ:Env}{σ:St}{ag:List Addr}{i:Nat}{sl:Sl}(s:SR K Hs H ρ σ ag)(e:ρ[i]? = some (some sl)):∃ v,σ[i]? = some (some v)/\zm K Hs H ag sl v:=by
 induction s generalizing i with
 |nil=>simp at e
 |non s ih =>
  cases i with
  |zero=>simp at e
  |succ i=>exact ih e
 |sh r s ih =>
  cases i with
  |zero=>simp at e;subst e;exact⟨_,rfl,r⟩
  |succ i=>exact ih e
 |xc s ih =>
  cases i with
  |zero=>simp at e;subst e;exact⟨_,rfl,rfl⟩
  |succ i=>exact ih e
 |ow ne r s ih =>
  cases i with
  |zero=>simp at e;subst e;exact⟨_,rfl,_,ne,r,fun a m=>kS _ m⟩
  |succ i =>
   obtain⟨v,e1,h⟩:=ih e
   exact⟨v,e1,h.mono fun a m=>fz _ m⟩
 |lk ne r s ih =>
  cases i with
  |zero=>simp at e;subst e;exact⟨_,rfl,_,ne,r,rfl,fun a m=>kS _ m⟩
  |succ i =>
   obtain⟨v,e1,h⟩:=ih e
   exact⟨v,e1,h.mono fun a m=>fz _ m⟩
end
inductive Md where
 |sh|ow (fl:Bool)|bo
def RM(K:PySem.W.Frag)(Hs H:Hp):Md->D->V->List Addr->Prop
 |.sh,d,v,As=>As=[]/\Rep K Hs d v
 |.ow fl,d,v,As=>bP K Hs H fl d v As/\As≠[]
 |.bo,d,v,As=>As=[]/\Rep K H d v
inductive zo(K:PySem.W.Frag)(Hs H:Hp):List (Md × D)->List V->List Addr->Prop
 |nil:zo K Hs H [] [] []
 |cons {m:Md} {d:D} {v:V} {ps:List (Md × D)} {vs:List V} {As Bs:List Addr}:RM K Hs H m d v As->zo K Hs H ps vs Bs->zo K Hs H ((m,d) :: ps) (v :: vs) (As++Bs)
section
variable {K:PySem.W.Frag}{Hs H av H':Hp}
theorem RM.own{m:Md}{d:D}{v:V}{As:List Addr}(r:RM K Hs H m d v As):∀ a∈As,Own H a:=by
 cases m with
 |sh=>obtain⟨rfl,_⟩:=r;exact fun a h=>zk h
 |ow fl=>exact bP.own r.1
 |bo=>obtain⟨rfl,_⟩:=r;exact fun a h=>zk h
theorem RM.grow(r:RM K Hs H m d v As)(g:eJ Hs H av H'):RM K av H' m d v As:=by
 cases m with
 |sh=>exact⟨r.1,r.2.same g.sh⟩
 |ow fl=>exact⟨bP.grow g.sh g.all r.1,r.2⟩
 |bo=>exact⟨r.1,r.2.same g.all⟩
theorem RM.rep(w:Wf Hs H)(r:RM K Hs H m d v As):Rep K H d v:=by
 cases m with
 |sh=>exact r.2.same w.sub
 |ow fl=>exact bP.rep w.sub r.1 fun _ _=>rfl
 |bo=>exact r.2
theorem RM.flat(w:Wf Hs H)(r:RM K Hs H m d v As)(f:d.flat=true):Rep K Hs d v:=(r.rep w).gw w.ku f
theorem zo.reps(w:Wf Hs H){ps:List (Md × D)}(r:zo K Hs H ps vs As):aI K H (ps.map (·.2)) vs:=by
 induction r with
 |nil=>exact .nil
 |cons r _ ih=>exact .cons (r.rep w) ih
end
abbrev WE:=Env->(Md->D->Prop)->Prop
abbrev WT:=Env->(Bool->Prop)->Prop
abbrev WA:=Env->(List (Md × D)->Prop)->Prop
structure nT where
 nx:Env->Prop
 rt:Md->D->Prop
 bk:Env->Prop:=fun _=>False
 ct:Env->Prop:=fun _=>False
abbrev WS:=nT->Env->Prop
def cN(av H:Hp)(As:List Addr):Prop:=As.Nodup/\∀ a∈As,av a=none/\H a=none
def mE(K:PySem.W.Frag)(t:WE):TE:=fun σ H Qv=>∃ Hs ρ ag Q,dE K Hs ρ σ H ag/\t ρ Q /\
 ∀ v H' av m d As,eJ Hs H av H'->RM K av H' m d v As->cN av H As->Q m d->Qv v H'
def zt(K:PySem.W.Frag)(t:WT):TT:=fun σ H Qv=>∃ Hs ρ ag Q,dE K Hs ρ σ H ag/\t ρ Q/\∀ b H' av,eJ Hs H av H'->Q b->Qv b H'
def WV(K:PySem.W.Frag)(t:WA):TA:=fun σ H Qv=>∃ Hs ρ ag Q,dE K Hs ρ σ H ag/\t ρ Q /\
 ∀ vs H' av ps As,eJ Hs H av H'->zo K av H' ps vs As->cN av H As->Q ps->Qv vs H'
def zv(K:PySem.W.Frag)(L:Str->Hp->Prop)(t:WS):TS:=fun D σ H=>∃ Hs ρ ag E,dE K Hs ρ σ H ag/\t E ρ /\
 (∀ bE H' av bp b6,aT Hs av->dE K av bp bE H' b6->E.nx bp->D.nx bE H') /\
 (∀ bE H' av bp b6,aT Hs av->dE K av bp bE H' b6->E.bk bp->D.bk bE H') /\
 (∀ bE H' av bp b6,aT Hs av->dE K av bp bE H' b6->E.ct bp->D.ct bE H') /\
 (∀ v H' av m d As,aT Hs av->Wf av H'->RM K av H' m d v As->As.Nodup->(∀ a∈As,av a=none)->E.rt m d->D.rt v H') /\
 ∀ n H',aT Hs H'->E.rt (.ow false) (.str n)->L n H'
theorem nM{K:PySem.W.Frag}{L:Str->Hp->Prop}{t:WS}{D:Ends}{σ:St}{H:Hp}{G:Prop}(x:zv K L t D σ H)(k:∀ Hs ρ ag E,dE K Hs ρ σ H ag->t E ρ ->
 (∀ bE H' av bp b6,aT Hs av->dE K av bp bE H' b6->E.nx bp->D.nx bE H') ->
 (∀ bE H' av bp b6,aT Hs av->dE K av bp bE H' b6->E.bk bp->D.bk bE H') ->
 (∀ bE H' av bp b6,aT Hs av->dE K av bp bE H' b6->E.ct bp->D.ct bE H') ->
 (∀ v H' av m d As,aT Hs av->Wf av H'->RM K av H' m d v As->As.Nodup->(∀ a∈As,av a=none)->E.rt m d->D.rt v H') ->
 (∀ n H',aT Hs H'->E.rt (.ow false) (.str n)->L n H')->G):G :=
 by
 obtain⟨Hs,ρ,ag,E,sr,h,k1,k2,k3,k4,kx⟩:=x
 exact k Hs ρ ag E sr h k1 k2 k3 k4 kx
theorem dO{K:PySem.W.Frag}{L:Str->Hp->Prop}{t:WS}{D:Ends}{σ:St}{H:Hp}{G:Prop}(x:zv K L t D σ H)(k:∀ Hs ρ ag E,dE K Hs ρ σ H ag->t E ρ ->
 (∀ bE H' av bp b6,aT Hs av->dE K av bp bE H' b6->E.nx bp->D.nx bE H') ->
 (∀ bE H' av bp b6,aT Hs av->dE K av bp bE H' b6->E.bk bp->D.bk bE H') ->
 (∀ bE H' av bp b6,aT Hs av->dE K av bp bE H' b6->E.ct bp->D.ct bE H') ->
 (∀ v H' av m d As,aT Hs av->Wf av H'->RM K av H' m d v As->As.Nodup->(∀ a∈As,av a=none)->E.rt m d->D.rt v H')->G):G :=
 nM x fun Hs ρ ag E sr h k1 k2 k3 k4 _=>k Hs ρ ag E sr h k1 k2 k3 k4
theorem iN{α β γ δ:Type _}{A B C:α->β->γ->δ->Prop}{G:Prop}(x:∃ a b c d,A a b c d/\B a b c d/\C a b c d)(k:∀ a b c d,A a b c d->B a b c d->C a b c d->G):G :=
 by
 obtain⟨a,b,c,d,p,q,r⟩:=x
 exact k a b c d p q r
abbrev QE(X:Cx)(K:PySem.W.Frag)(e:Expr)(t:WE):Prop:=PE X e (mE K t)
abbrev QT(X:Cx)(K:PySem.W.Frag)(e:Expr)(t:WT):Prop:=PT X e (zt K t)
abbrev QW(X:Cx)(K:PySem.W.Frag)(e:Expr)(t:WT):Prop:=PW X e (zt K t)
abbrev QA(X:Cx)(K:PySem.W.Frag)(es:List Expr)(t:WA):Prop:=PA X es (WV K t)
abbrev QS(X:Cx)(K:PySem.W.Frag)(L:Str->Hp->Prop)(st:Stmt)(t:WS):Prop:=PS X st (zv K L t)
abbrev zC(X:Cx)(K:PySem.W.Frag)(L:Str->Hp->Prop)(st:List Stmt)(t:WS):Prop:=mv X st (zv K L t)
abbrev L0:Str->Hp->Prop:=fun _ _=>True
end L2.Q
namespace L2.Q
open PySem PySem.Spec PyProof.Rows
structure Kt{α:Type}(f:α->Prop):Type where
def bS{α:Type}(a:α){f:α->Prop}(_:Kt f):Prop:=f a
mutual
def D.py:D->PyData
 |.non=>.none
 |.bl b=>.bool b
 |.int i=>.int i
 |.str x=>.str x
 |.list xs=>.list (kN xs)
 |.tup xs=>.tuple (kN xs)
 |.dK _=>.none
 |.dT _=>.none
def kN:List D->List PyData
 |[]=>[]
 |x :: xs=>x.py :: kN xs
end
def cf:Nat->D->Bool
 |_,.non=>true
 |_,.bl _=>true
 |_,.int _=>true
 |_,.str x=>PyData.strOk x
 |n+1,.list xs=>xs.all (cf n)
 |n+1,.tup xs=>xs.all (cf n)
 |_,_=>false
def fI(x y:D):Bool:=PyData.eqv x.py y.py
def D.ty:D->String
 |.non => "NoneType"
 |.bl _ => "bool"
 |.int _ => "int"
 |.str _ => "str"
 |.list _ => "list"
 |.tup _ => "tuple"
 |.dK _ => "dict"
 |.dT _ => "dict"
def D.key1:D->Option Key
 |.int i=>some (.inl i)
 |.str x=>some (.inr x)
 |_=>none
def eX:List D->Option (List Key)
 |[]=>some []
 |x :: xs=>match x.key1,eX xs with
  |some k,some ks=>some (k :: ks)
  |_,_=>none
section
variable {κ:Type}[DecidableEq κ]{β:Type}
def fv(kvs:List (κ × β))(k:κ):Option β:=(kvs.find? fun kv=>decide (kv.1=k)).map (·.2)
def kD(kvs:List (κ × β))(k:κ)(v:β):List (κ × β) :=
 if (kvs.any fun kv=>decide (kv.1=k))=true then kvs.map (fun kv=>if kv.1=k then (kv.1,v) else kv) else kvs++[(k,v)]
end
theorem Rep.S0{K:PySem.W.Frag}:(∀ {d:D} {v:V},Rep K H d v->∀ n,cf n d=true->L2.Rep K H d.py v)/\∀ {ds:List D} {vs:List V},aI K H ds vs->∀ n,(∀ d∈ds,cf n d=true)->L2.aI K H (kN ds) vs :=
 Rep.ind (m1:=fun d v=>∀ n,cf n d=true->L2.Rep K H d.py v) (m2:=fun ds vs=>∀ n,(∀ d∈ds,cf n d=true)->L2.aI K H (kN ds) vs) (fun _ _=>.none) (fun b _ _=>.bool b) (fun i _ _=>.int i) (fun _ _ _ _=>.str _)
  (fun _ _ _ _ h _ ih n o=>by
   cases n with
   |zero=>simp[cf] at o
   |succ n=>exact .list h (ih n (by simpa[cf] using o)))
  (fun _ _ _ _ h _ ih n o=>by
   cases n with
   |zero=>simp[cf] at o
   |succ n=>exact .tuple (.inl (.inl h)) (ih n (by simpa[cf] using o)))
  (fun _ _ _ _ _ _ _ n o=>by cases n<;>simp[cf] at o) (fun _ _ _ _ _ _ _ n o=>by cases n<;>simp[cf] at o) (fun _ _=>.nil)
  fun _ _ _ _ _ _ i1 i2 n o=>.cons (i1 n (o _ bX)) (i2 n fun d m=>o d (b5 _ m))
theorem Rep.l2{K:PySem.W.Frag}(r:Rep K H d v)(o:cf n d=true):L2.Rep K H d.py v:=Rep.S0.1 r n o
theorem yL(ih:∀ d,cf n d=true->d.py.canLay0=true/\d.py.depth<=n)(xs:List D)(h:∀ x∈xs,cf n x=true):PyData.canLayAll0 (kN xs)=true/\PyData.depthAll (kN xs)<=n:=by
 induction xs with
 |nil=>exact⟨rfl,eh _⟩
 |cons x xs S4 =>
  have h1:=ih x (h x bX)
  have h2:=S4 fun y hy=>h y (b5 _ hy)
  simp only[kN,PyData.canLayAll0,PyData.depthAll,h1.1,h2.1,Bool.and_self,true_and]
  lia
theorem gA(n:Nat):∀ (d:D),cf n d=true->d.py.canLay0=true/\d.py.depth<=n:=by
 have st:∀ (n:Nat) (x:Str),cf n (.str x)=true->(D.str x).py.canLay0=true/\(D.str x).py.depth<=n:=fun n x h=>by
  have h:PyData.strOk x=true:=by cases n<;>simpa[cf] using h
  exact⟨by simpa[D.py,PyData.canLay0] using h,eh _⟩
 induction n with
 |zero =>
  intro d h
  cases d with
  |str x=>exact st _ x h
  |non=>exact⟨rfl,eh _⟩
  |bl _=>exact⟨rfl,eh _⟩
  |int _=>exact⟨rfl,eh _⟩
  |_=>simp[cf] at h
 |succ n ih =>
  intro d h
  cases d with
  |str x=>exact st _ x h
  |non=>exact⟨rfl,eh _⟩
  |bl _=>exact⟨rfl,eh _⟩
  |int _=>exact⟨rfl,eh _⟩
  |list xs =>
   have h:∀ x∈xs,cf n x=true:=by simpa[cf] using h
   have:=yL ih xs h
   simp only[D.py,PyData.canLay0,PyData.depth]
   exact⟨this.1,by lia⟩
  |tup xs =>
   have h:∀ x∈xs,cf n x=true:=by simpa[cf] using h
   have:=yL ih xs h
   simp only[D.py,PyData.canLay0,PyData.depth]
   exact⟨this.1,by lia⟩
  |dK _=>simp[cf] at h
  |dT _=>simp[cf] at h
mutual
def D.nb:D->Bool
 |.bl _=>false
 |.list xs=>oB xs
 |.tup xs=>oB xs
 |.dK _=>false
 |.dT _=>false
 |_=>true
def oB:List D->Bool
 |[]=>true
 |x :: xs=>x.nb && oB xs
end
mutual
theorem fc:∀ (x y:D),x.nb=true->y.nb=true->(fI x y=true↔x=y)
 |.non,y,_,hy=>by cases y<;>simp_all [fI,D.py,PyData.eqv,D.nb]
 |.bl _,y,hx,_=>by simp[D.nb] at hx
 |.int i,y,_,hy=>by cases y<;>simp_all [fI,D.py,PyData.eqv,D.nb]
 |.str i,y,_,hy=>by cases y<;>simp_all [fI,D.py,PyData.eqv,D.nb]
 |.dK _,y,hx,_=>by simp[D.nb] at hx
 |.dT _,y,hx,_=>by simp[D.nb] at hx
 |.list xs,y,hx,hy=>by
  cases y with
  |list ys =>
   have:=mZ xs ys (by simpa[D.nb] using hx) (by simpa[D.nb] using hy)
   simp only[fI,D.py,PyData.eqv,D.list.injEq]
   exact this
  |_=>simp_all [fI,D.py,PyData.eqv,D.nb]
 |.tup xs,y,hx,hy=>by
  cases y with
  |tup ys =>
   have:=mZ xs ys (by simpa[D.nb] using hx) (by simpa[D.nb] using hy)
   simp only[fI,D.py,PyData.eqv,D.tup.injEq]
   exact this
  |_=>simp_all [fI,D.py,PyData.eqv,D.nb]
theorem mZ:∀ (xs ys:List D),oB xs=true->oB ys=true->(PyData.eqvAll (kN xs) (kN ys)=true↔xs=ys)
 |[],[],_,_=>by simp[kN,PyData.eqvAll]
 |[],_ :: _,_,_=>by simp[kN,PyData.eqvAll]
 |_ :: _,[],_,_=>by simp[kN,PyData.eqvAll]
 |x :: xs,y :: ys,hx,hy=>by
  simp only[oB,kr] at hx hy
  have h1:=fc x y hx.1 hy.1
  have h2:=mZ xs ys hx.2 hy.2
  simp only[kN,PyData.eqvAll,kr,List.cons.injEq]
  exact and_congr h1 h2
end
section
variable {K:PySem.W.Frag}{H:Hp}
theorem Rep.key(r:Rep K H d v)(h:d.key1=some k):v=kV k:=by
 cases r<;>simp[D.key1] at h<;>subst h<;>rfl
theorem aI.keys(r:aI K H ds vs)(h:eX ds=some ks):vs=ks.map kV:=by
 induction ds generalizing vs ks with
 |nil=>simp[eX] at h;subst h;exact r.n0
 |cons d ds ih =>
  obtain⟨u,us,rfl,r,rs⟩:=r.c
  unfold eX at h
  cases e1:d.key1 with
  |none=>rw[e1] at h;simp at h
  |some k =>
   cases e2:eX ds with
   |none=>rw[e1,e2] at h;simp at h
   |some dr =>
    rw[e1,e2] at h
    simp at h
    subst h
    rw[fi,r.key e1,ih rs e2]
theorem Rep.oj(r:Rep K H (.tup ds) v)(h:eX ds=some ks):∃ b,v=.ref b/\H b=some (.tup (ks.map kV)):=by
 cases r with
 |tup _ e rs=>exact⟨_,rfl,by rw[e,rs.keys h]⟩
end
section
variable {κ:Type}[DecidableEq κ]{K:PySem.W.Frag}{H:Hp}
theorem zip_get{k:κ}{kvs:List (κ × D)}{vs:List V}(h:aI K H (kvs.map (·.2)) vs):match fv kvs k with
  |some d=>∃ v,rX ((kvs.map (·.1)).zip vs) k=some v/\Rep K H d v
  |none=>rX ((kvs.map (·.1)).zip vs) k=none:=by
 induction kvs generalizing vs with
 |nil=>rfl
 |cons p kvs ih =>
  obtain⟨u,us,rfl,r,rs⟩:=aI.c (d:=p.2) h
  by_cases e:p.1=k
  ·have e1:fv (p :: kvs) k=some p.2:=by simp[fv,e]
   rw[e1]
   exact⟨_,by simp only[fi,AB];exact PB e,r⟩
  ·have e1:fv (p :: kvs) k=fv kvs k:=by simp[fv,e]
   rw[e1]
   have:=ih rs
   simp only[fi,AB,PC (p:=(p.1,_)) e]
   exact this
theorem Cu{k:κ}{kvs:List (κ × D)}{vs:List V}(h:kvs.length=vs.length):((kvs.map (·.1)).zip vs).any (fun kv=>decide (kv.1=k))=kvs.any fun kv=>decide (kv.1=k):=by
 induction kvs generalizing vs with
 |nil=>rfl
 |cons p kvs ih =>
  cases vs with
  |nil=>simp at h
  |cons v vs =>
   simp only[fi,AB,AR]
   rw[ih (vs:=vs) (by simpa using h)]
end
section
variable {K:PySem.W.Frag}{Hs H:Hp}
theorem Ny(w:Wf Hs H)(hp:H p=none)(ho:∀ vs,o≠.tup vs):eJ Hs H Hs (upd H p o) :=
 ⟨(aT.refl H).upd hp,aT.refl _,⟨w.sub.upd hp,fun a vs e=>by
  by_cases h:a=p
  ·subst h;rw[gX] at e;exact absurd (Option.some.inj e) (ho vs)
  ·rw[fm h] at e;exact w.ku a vs e⟩,fun _ h=>.inl h⟩
theorem WW(w:Wf Hs H)(hp:H p=none):eJ Hs H (upd Hs p (.tup vs)) (upd H p (.tup vs)) :=
 ⟨(aT.refl H).upd hp,(aT.refl Hs).upd (w.sub.free hp),⟨fun a o e=>by
  by_cases h:a=p
  ·subst h;rw[gX] at e ⊢;exact e
  ·rw[fm h] at e ⊢;exact w.sub a o e,fun a vs e=>by
  by_cases h:a=p
  ·subst h;rw[gX] at e ⊢;exact e
  ·rw[fm h] at e ⊢;exact w.ku a vs e⟩,fun a h=>by
  by_cases e:a=p
  ·subst e;exact .inr hp
  ·rw[fm e] at h;exact .inl h⟩
theorem cN.nil:cN Hs H []:=⟨n5,fun a h=>nomatch h⟩
theorem cN.of(s:aT H H')(f:cN Hs H' As):cN Hs H As:=⟨f.1,fun a h=>⟨(f.2 a h).1,s.free (f.2 a h).2⟩⟩
abbrev Fin(K:PySem.W.Frag)(Hs H:Hp)(Qd:Md->D->Prop)(Qv:VK):Prop:=∀ v H' av m d As,eJ Hs H av H'->RM K av H' m d v As->cN av H As->Qd m d->Qv v H'
theorem Fin.after(f:Fin K Hs H Qd Qv)(g:eJ Hs H av H'):Fin K av H' Qd Qv:=fun v H2 aw m d As g2 r fr q=>f v H2 aw m d As (g.trans g2) r (fr.of g.all) q
theorem Fin.sh(f:Fin K Hs H Qd Qv)(w:Wf Hs H)(r:Rep K Hs d v)(q:Qd .sh d):Qv v H:=f v H Hs .sh d [] (eJ.refl w) ⟨rfl,r⟩ cN.nil q
theorem Fin.flat(f:Fin K Hs H Qd Qv)(w:Wf Hs H)(r:Rep K H d v)(hf:d.flat=true)(q:Qd .sh d):Qv v H:=f.sh w (r.gw w.ku hf) q
theorem Fin.bo(f:Fin K Hs H Qd Qv)(w:Wf Hs H)(r:Rep K H d v)(q:Qd .bo d):Qv v H:=f v H Hs .bo d [] (eJ.refl w) ⟨rfl,r⟩ cN.nil q
def kP(m:Md)(d:D):Md:=match m with
 |.sh=>.sh
 |_=>bif d.flat then .sh else .bo
theorem Fin.kP(f:Fin K Hs H Qd Qv)(w:Wf Hs H)(r:Rep K H d v)(rs:m=.sh->Rep K Hs d v)(q:Qd (kP m d) d):Qv v H:=by
 cases m with
 |sh=>exact f.sh w (rs rfl) q
 |ow fl =>
  cases hf:d.flat with
  |true=>exact f.flat w r hf (by simpa[Q.kP,hf] using q)
  |false=>exact f.bo w r (by simpa[Q.kP,hf] using q)
 |bo =>
  cases hf:d.flat with
  |true=>exact f.flat w r hf (by simpa[Q.kP,hf] using q)
  |false=>exact f.bo w r (by simpa[Q.kP,hf] using q)
theorem Fin.lst(f:Fin K Hs H Qd Qv)(w:Wf Hs H)(hz:ds.length<=sizeLine)(r:aI K H ds vs)(hf:cx ds=true)(q:Qd (.ow true) (.list ds)):∀ p,H p=none->Qv (.ref p) (upd H p (.lst vs)):=fun p hp =>
 f _ _ Hs (.ow true) (.list ds) [p] (Ny w hp fun _ z=>nomatch z) ⟨.list (by rw[<- r.length];exact hz) gX ((r.gw w.ku hf).owned hf),by simp⟩ ⟨by simp,fun a h=>by
  obtain rfl:a=p:=by simpa using h
  exact⟨w.sub.free hp,hp⟩⟩ q
theorem Fin.Nz(f:Fin K Hs H Qd Qv)(w:Wf Hs H)(hz:ds.length<=sizeLine)(r:aI K Hs ds vs)(q:Qd (.ow false) (.list ds)):∀ p,H p=none->Qv (.ref p) (upd H p (.lst vs)):=fun p hp =>
 f _ _ Hs (.ow false) (.list ds) [p] (Ny w hp fun _ z=>nomatch z) ⟨.list (by rw[<- r.length];exact hz) gX r.Hh,by simp⟩ ⟨by simp,fun a h=>by
  obtain rfl:a=p:=by simpa using h
  exact⟨w.sub.free hp,hp⟩⟩ q
theorem Fin.tup(f:Fin K Hs H Qd Qv)(w:Wf Hs H)(hz:ds.length<=sizeLine)(r:aI K H ds vs)(hf:cx ds=true)(q:Qd .sh (.tup ds)):∀ p,H p=none->Qv (.ref p) (upd H p (.tup vs)):=fun p hp =>
 f _ _ (upd Hs p (.tup vs)) .sh (.tup ds) [] (WW w hp) ⟨rfl,.tup (by rw[<- r.length];exact hz) gX ((r.gw w.ku hf).same ((aT.refl Hs).upd (w.sub.free hp)))⟩ cN.nil q
end
section
variable {X:Cx}{K:PySem.W.Frag}
theorem PE.imp(h:PE X e te)(i:∀ σ H Q,uk σ H Q->te σ H Q):PE X e uk:=fun pins s σ H Q I q=>h pins s σ H Q I (i σ H Q q)
theorem PT.imp(h:PT X e te)(i:∀ σ H Q,uk σ H Q->te σ H Q):PT X e uk:=fun pins s σ H Q I q=>h pins s σ H Q I (i σ H Q q)
theorem PW.imp(h:PW X e te)(i:∀ σ H Q,uk σ H Q->te σ H Q):PW X e uk:=fun wh pins s σ H Q I q=>h wh pins s σ H Q I (i σ H Q q)
theorem PA.imp(h:PA X e te)(i:∀ σ H Q,uk σ H Q->te σ H Q):PA X e uk:=fun p pins s σ H Q I q=>h p pins s σ H Q I (i σ H Q q)
def NB:Option (Option Sl)->(Md->D->Prop)->Prop
 |some (some (.sh d)),Q=>Q .sh d
 |some (some (.ow _ d)),Q=>Q .bo d
 |some (some (.lk _ _ d)),Q=>Q .bo d
 |_,_=>False
def ai(i:Nat):WE:=fun ρ Q=>NB ρ[i]? Q
theorem Jd(h:PE X e (EG i)):QE X K e (ai i):=by
 refine PE.imp h fun σ H Qv hx=>iN hx fun Hs ρ ag Q sr h f=>?_
 unfold ai at h
 cases e:ρ[i]? with
 |none=>rw[e] at h;exact h.elim
 |some o =>
  cases o with
  |none=>rw[e] at h;exact h.elim
  |some sl =>
   obtain⟨v,e1,r⟩:=sr.sr.get e
   rw[e] at h
   cases sl with
   |sh d=>exact⟨v,e1,Fin.sh f sr.wf r h⟩
   |xc a=>exact h.elim
   |ow fl d =>
    obtain⟨As,_,r,_⟩:=r
    exact⟨v,e1,Fin.bo f sr.wf (r.rep sr.wf.sub fun _ _=>rfl) h⟩
   |lk a fl d =>
    obtain⟨As,_,r,_⟩:=r
    exact⟨v,e1,Fin.bo f sr.wf (r.rep sr.wf.sub fun _ _=>rfl) h⟩
theorem qv (i:Nat) (hN:X.N[i]? = some x:=by rfl) (hv:O8 X.env.scope x:=by first|exact Or.inl rfl|exact Or.inr (Or.inl rfl)|exact Or.inr (Or.inr rfl)) (hd:(x == ("__debug__" : Str))=false:=by decide)
  (rg:(x == ("__classdict__" : Str))=false:=by decide):QE X K (.Name x pos) (ai i):=Jd (U6 hN hv hd rg)
def wC(d:D):WE:=fun _ Q=>Q .sh d
theorem Av(h:PE X e (tC v))(r:∀ H,Rep K H d v):QE X K e (wC d) :=
 PE.imp h fun σ H Qv hx=>iN hx fun Hs ρ ag Q sr h f=>Fin.sh f sr.wf (r _) h
theorem ao{i j pos}:QE X K (.Constant (.int i) j pos) (wC (.int i)):=Av Yo fun _=>.int i
theorem vH{i j pos}(h:i.length<=sizeLine:=by decide):QE X K (.Constant (.str i) j pos) (wC (.str i)):=Av Yr fun _=>.str h
theorem zD{i j pos}:QE X K (.Constant (.bool i) j pos) (wC (.bl i)):=Av Yp fun _=>.bl i
theorem CP{j pos}:QE X K (.Constant .none j pos) (wC .non):=Av Yq fun _=>.non
abbrev W2:=Md->D->Md->D->(Md->D->Prop)->Prop
abbrev W1:=Md->D->(Md->D->Prop)->Prop
def kQ(K:PySem.W.Frag)(r:R2)(f:W2):Prop:=∀ Hs H m x v As n y u Bs Qd Qv,Wf Hs H->RM K Hs H m x v As->RM K Hs H n y u Bs->f m x n y Qd->Fin K Hs H Qd Qv->r v u H Qv
def P_(K:PySem.W.Frag)(r:V->Hp->VK->Prop)(f:W1):Prop:=∀ Hs H m x v As Qd Qv,Wf Hs H->RM K Hs H m x v As->f m x Qd->Fin K Hs H Qd Qv->r v H Qv
def aC(f:W2)(ta tb:WE):WE:=fun ρ Q=>ta ρ fun m x=>tb ρ fun n y=>f m x n y Q
def h9(f:W1)(ta:WE):WE:=fun ρ Q=>ta ρ fun m x=>f m x Q
variable {a b:Expr}{ta tb:WE}{pos:Pos}
theorem jB(br:kQ K r f)(σ:St)(H:Hp)(Qv:VK)(h:mE K (aC f ta tb) σ H Qv):Mb r (mE K ta) (mE K tb) σ H Qv:=by
 obtain⟨Hs,ρ,ag,Q,sr,h,fin⟩:=h
 refine⟨Hs,ρ,ag,_,sr,h,fun v H1 ax m x As g1 r1 f1 q1=>⟨ax,ρ,ag,_,sr.grow g1,q1,fun u H2 aw n y Bs g2 r2 f2 q2=>?_⟩⟩
 exact br aw H2 m x v As n y u Bs Q Qv g2.wf (r1.grow g2) r2 q2 (Fin.after fin (g1.trans g2))
theorem IG(ho:dn X (binaryOp op) r)(br:kQ K r f)(ha:QE X K a ta)(hb:QE X K b tb):QE X K (.BinOp a op b pos) (aC f ta tb):=PE.imp (Za ho ha hb) (jB br)
theorem cm'(ho:Pm X (unaryOp op) r)(br:P_ K r f)(ha:QE X K a ta):QE X K (.UnaryOp op a pos) (h9 f ta):=by
 refine PE.imp (Zb ho ha) fun σ H Qv hx=>iN hx fun Hs ρ ag Q sr h fin=>?_
 exact⟨Hs,ρ,ag,_,sr,h,fun v H1 ax m x As g1 r1 f1 q1=>br ax H1 m x v As Q Qv g1.wf r1 q1 (Fin.after fin g1)⟩
theorem Ab(ho:dn X (compareOp op) r)(br:kQ K r f)(ha:QE X K a ta)(hb:QE X K b tb)(hm:behindInMarks op b=false):QE X K (.Compare a [op] [b] pos) (aC f ta tb):=PE.imp (Zx ho ha hb hm) (jB br)
def wB(t:WE):WT:=fun ρ Q=>t ρ fun _ x=>match x with
 |.bl b=>Q b
 |_=>False
theorem zW(σ:St)(H:Hp)(Qv:Bool->Hp->Prop)(h:zt K (wB t) σ H Qv):Vp (mE K t) σ H Qv:=by
 obtain⟨Hs,ρ,ag,Q,sr,h,fin⟩:=h
 refine⟨Hs,ρ,ag,_,sr,h,fun v H1 ax m x As g1 r1 f1 q1=>?_⟩
 have r:=r1.rep g1.wf
 cases r with
 |bl b=>exact⟨b,rfl,fin b H1 ax g1 q1⟩
 |_=>exact q1.elim
theorem sY(h:mE K t σ H Q)(i:∀ v H',Q v H'->Q' v H'):mE K t σ H Q':=by
 obtain⟨Hs,ρ,ag,Qd,sr,h,fin⟩:=h
 exact⟨Hs,ρ,ag,Qd,sr,h,fun v H1 ax m x As g1 r1 f1 q1=>i _ _ (fin v H1 ax m x As g1 r1 f1 q1)⟩
theorem bu(ho:dn X (compareOp op) r)(br:kQ K r f)(ha:QE X K a ta)(hb:QE X K b tb)(hm:behindInMarks op b=false):QT X K (.Compare a [op] [b] pos) (wB (aC f ta tb)):=by
 refine PT.imp (Zy ho ha hb hm) fun σ H Qv h=>?_
 obtain⟨Hs,ρ,ag,Q,sr,h,fin⟩:=h
 refine jB br σ H _ ⟨Hs,ρ,ag,_,sr,h,fun v H1 ax m x As g1 r1 f1 q1=>?_⟩
 have r:=r1.rep g1.wf
 cases r with
 |bl b=>exact⟨b,rfl,fin b H1 ax g1 q1⟩
 |_=>exact q1.elim
theorem GJ(h:QE X K a t)(he:∀ whole,isTrue a X.env whole=(do let v <- whole;standAt a.pos;holding [v] (truthy v)):=by intro _;rfl):QT X K a (wB t):=PT.imp (Yu h he) zW
end
end L2.Q
namespace L2.Q
open PySem PySem.Spec PyProof.Rows
section
variable {X:Cx}{K:PySem.W.Frag}{a b c:Expr}{ta tb:WE}{pos:Pos}
def Qa(t u:WT):WT:=fun ρ Q=>t ρ fun c=>if c=true then u ρ Q else Q false
def NC(t u:WT):WT:=fun ρ Q=>t ρ fun c=>if c=true then Q true else u ρ Q
def S5(t:WT):WT:=fun ρ Q=>t ρ fun c=>Q (!c)
variable {tA tB:WT}{rest:List Expr}
theorem mU{t u:WT}{f:Bool->TT}{σ:St}{H:Hp}{Qv:Bool->Hp->Prop}{G:Bool->(Bool->Prop)->Env->Prop}
  (h:zt K (fun ρ Q=>t ρ fun c=>G c Q ρ) σ H Qv)
  (i:∀ c H1 ax ρ ag Q,dE K ax ρ σ H1 ag->G c Q ρ->(∀ b H' av,eJ ax H1 av H'->Q b->Qv b H')->f c σ H1 Qv):zt K t σ H fun c H1=>f c σ H1 Qv:=by
 obtain⟨Hs,ρ,ag,Q,sr,h,fin⟩:=h
 exact⟨Hs,ρ,ag,_,sr,h,fun c H1 ax g1 q1=>i c H1 ax ρ ag Q (sr.grow g1) q1 fun b H' av g2=>fin b H' av (g1.trans g2)⟩
theorem xg(ha:QT X K a tA):QW X K (.BoolOp .And [a] pos) tA:=pw_and1 ha
theorem BJ(ha:QT X K a tA):QW X K (.BoolOp .Or [a] pos) tA:=pw_or1 ha
theorem Bk(ha:QT X K a tA)(hb:QW X K (.BoolOp .And (b :: rest) pos) tB):QW X K (.BoolOp .And (a :: b :: rest) pos) (Qa tA tB):=by
 refine PW.imp (pw_and ha hb) fun σ H Qv h=>?_
 refine mU (u:=tB) (f:=fun c σ H1 Q=>if c=true then zt K tB σ H1 Q else Q false H1) h fun c H1 ax ρ ag Q sr q fin=>?_
 cases c with
 |true=>exact⟨ax,ρ,ag,Q,sr,q,fin⟩
 |false=>exact fin false H1 ax (eJ.refl sr.wf) q
theorem Ep(ha:QT X K a tA)(hb:QW X K (.BoolOp .Or (b :: rest) pos) tB):QW X K (.BoolOp .Or (a :: b :: rest) pos) (NC tA tB):=by
 refine PW.imp (pw_or ha hb) fun σ H Qv h=>?_
 refine mU (u:=tB) (f:=fun c σ H1 Q=>if c=true then Q true H1 else zt K tB σ H1 Q) h fun c H1 ax ρ ag Q sr q fin=>?_
 cases c with
 |true=>exact fin true H1 ax (eJ.refl sr.wf) q
 |false=>exact⟨ax,ρ,ag,Q,sr,q,fin⟩
theorem Qb(h:QW X K a tA):QT X K a tA:=h _
theorem G4(ha:QT X K a tA):QT X K (.UnaryOp .Not a pos) (S5 tA):=by
 refine PT.imp (Yy ha) fun σ H Qv h=>?_
 exact mU (u:=tA) (f:=fun c σ H1 Q=>Q (!c) H1) h fun c H1 ax ρ ag Q sr q fin=>fin _ H1 ax (eJ.refl sr.wf) q
def zT(ta tb:WE):WE:=fun ρ Q=>ta ρ fun _ x=>match x with
 |.bl c=>if c=true then tb ρ Q else Q .sh (.bl false)
 |_=>False
def Qc(ta tb:WE):WE:=fun ρ Q=>ta ρ fun _ x=>match x with
 |.bl c=>if c=true then Q .sh (.bl true) else tb ρ Q
 |_=>False
theorem Ht{op}(h:QE X K a ta):QE X K (.BoolOp op [a] pos) ta:=YC h
theorem IV(ha:QE X K a ta)(hb:QE X K (.BoolOp .And (b :: rest) pos) tb):QE X K (.BoolOp .And (a :: b :: rest) pos) (zT ta tb):=by
 refine PE.imp (YD ha hb) fun σ H Qv hx=>iN hx fun Hs ρ ag Q sr h fin=>?_
 refine⟨Hs,ρ,ag,_,sr,h,fun v H1 ax m x As g1 r1 f1 q1=>?_⟩
 have r:=r1.rep g1.wf
 cases r with
 |bl c =>
  refine⟨c,rfl,?_⟩
  cases c with
  |true=>exact⟨ax,ρ,ag,Q,sr.grow g1,q1,Fin.after fin g1⟩
  |false=>exact Fin.sh (Fin.after fin g1) g1.wf (.bl false) q1
 |_=>exact q1.elim
theorem cn'(ha:QE X K a ta)(hb:QE X K (.BoolOp .Or (b :: rest) pos) tb):QE X K (.BoolOp .Or (a :: b :: rest) pos) (Qc ta tb):=by
 refine PE.imp (YF ha hb) fun σ H Qv hx=>iN hx fun Hs ρ ag Q sr h fin=>?_
 refine⟨Hs,ρ,ag,_,sr,h,fun v H1 ax m x As g1 r1 f1 q1=>?_⟩
 have r:=r1.rep g1.wf
 cases r with
 |bl c =>
  refine⟨c,rfl,?_⟩
  cases c with
  |true=>exact Fin.sh (Fin.after fin g1) g1.wf (.bl true) q1
  |false=>exact⟨ax,ρ,ag,Q,sr.grow g1,q1,Fin.after fin g1⟩
 |_=>exact q1.elim
def S6(t:WT)(ta tb:WE):WE:=fun ρ Q=>t ρ fun c=>if c=true then ta ρ Q else tb ρ Q
theorem co'(hc:QT X K c tA)(ha:QE X K a ta)(hb:QE X K b tb):QE X K (.IfExp c a b pos) (S6 tA ta tb):=by
 refine PE.imp (YH hc ha hb) fun σ H Qv hx=>iN hx fun Hs ρ ag Q sr h fin=>?_
 refine⟨Hs,ρ,ag,_,sr,h,fun k H1 ax g1 q1=>?_⟩
 cases k with
 |true=>exact⟨ax,ρ,ag,Q,sr.grow g1,q1,Fin.after fin g1⟩
 |false=>exact⟨ax,ρ,ag,Q,sr.grow g1,q1,Fin.after fin g1⟩
def Qe:D->Option Bool
 |.non=>some false
 |.bl b=>some b
 |.int i=>some (i != 0)
 |.str x=>some ((x.length:Int) != 0)
 |.list xs=>some !xs.isEmpty
 |.tup xs=>some !xs.isEmpty
 |.dK kvs=>some !kvs.isEmpty
 |.dT kvs=>none
def S7(t:WE):WT:=fun ρ Q=>t ρ fun _ x=>∃ b,Qe x=some b/\Q b
end
def fR:W2:=fun m x n y Q=>match x,y with
 |.int i,.int j=>Q .sh (.int (i+j))
 |.str i,.str j=>i.length+j.length<=sizeLine/\Q .sh (.str (i++j))
 |.list xs,.list ys=>xs.length+ys.length<=sizeLine/\((cx xs=true/\cx ys=true/\Q (.ow true) (.list (xs++ys)))\/(m=.sh/\n=.sh/\Q (.ow false) (.list (xs++ys))))
 |.tup xs,.tup ys=>xs≠[]/\xs.length+ys.length<=sizeLine/\cx xs=true/\cx ys=true/\Q .sh (.tup (xs++ys))
 |_,_=>False
def IH(P:Int->Int->(Md->D->Prop)->Prop):W2:=fun _ x _ y Q=>match x,y with
 |.int i,.int j=>P i j Q
 |_,_=>False
def WX(P:Int->Int->(Md->D->Prop)->Prop)(S:Str->Str->(Md->D->Prop)->Prop):W2:=fun _ x _ y Q=>match x,y with
 |.int i,.int j=>P i j Q
 |.str i,.str j=>S i j Q
 |_,_=>False
def Qf:W2:=IH fun i j Q=>Q .sh (.int (i-j))
def oC:W2:=IH fun i j Q=>y6 i j/\Q .sh (.int (i*j))
def DJ:W2:=IH fun i j Q=>(0<j/\j<1073741824)/\Q .sh (.int (i / j))
def wq:W2:=IH fun i j Q=>0<j/\Q .sh (.int (i % j))
def Qg:W2:=WX (fun i j Q=>Q .sh (.bl (decide (i<j)))) fun i j Q=>Q .sh (.bl (tS i j))
def S8:W2:=IH fun i j Q=>Q .sh (.bl (decide (j<i)))
def mG:W2:=fun _ x _ y Q=>match x,y with
 |.int i,.int j=>Q .sh (.bl (decide (i=j)))
 |.str i,.str j=>Q .sh (.bl (decide (i=j)))
 |.bl i,.bl j=>Q .sh (.bl (decide (i=j)))
 |_,_=>cf 12 x=true/\cf 12 y=true/\Q .sh (.bl (fI x y))
def DL:W2:=fun _ x _ y Q=>match x,y with
 |.int i,.int j=>Q .sh (.bl (!decide (i=j)))
 |.str i,.str j=>Q .sh (.bl (!decide (i=j)))
 |.bl i,.bl j=>Q .sh (.bl (!decide (i=j)))
 |_,_=>cf 12 x=true/\cf 12 y=true/\Q .sh (.bl (!fI x y))
def D.Qh:D->Bool
 |.non=>true
 |_=>false
def S9:W2:=fun _ x _ y Q=>match y with
 |.non=>Q .sh (.bl x.Qh)
 |_=>False
def eV:D->Bool
 |.non=>true
 |.bl _=>true
 |.int _=>true
 |.str _=>true
 |_=>false
def inD(x:D)(ys:List D):Bool:=ys.any fun y=>fI y x
def wt(neg:Bool):W2:=fun _ x _ y Q=>match y with
 |.str j=>match x with
  |.str i=>Q .sh (.bl (if neg then !HV i j else HV i j))
  |_=>False
 |.list ys=>eV x=true/\ys.all eV=true/\Q .sh (.bl (if neg then !inD x ys else inD x ys))
 |.tup ys=>eV x=true/\ys.all eV=true/\Q .sh (.bl (if neg then !inD x ys else inD x ys))
 |.dK kvs=>∃ k,x.key1=some k/\Q .sh (.bl (if neg then !(fv kvs k).isSome else (fv kvs k).isSome))
 |.dT kvs=>match x with
  |.tup xs=>∃ ks,eX xs=some ks/\Q .sh (.bl (if neg then !(fv kvs ks).isSome else (fv kvs ks).isSome))
  |_=>False
 |_=>False
section
variable {K:PySem.W.Frag}
theorem Dm(f:Fin K Hs H Qd Qv)(w:Wf Hs H)(h:x.length<=sizeLine)(q:Qd .sh (.str x)):Qv (.str x) H:=f.sh w (.str h) q
theorem di(i j:Str):(i++j).length=i.length+j.length:=by
 show((i++j).cps.size)=_
 show(i.cps++j.cps).size=_
 simp[Str.length]
theorem HN:kQ K (fun x y H Q=>zQ K x y H Q\/RQ K x y H Q) fR:=by
 intro Hs H m x v As n y u Bs Qd Qv w rx ry h f
 have r1:=rx.rep w
 have r2:=ry.rep w
 unfold fR at h
 cases r1 with
 |int i=>cases r2 with
  |int j=>exact .inl (f.sh w (.int _) h)
  |_=>exact h.elim
 |str hi=>cases r2 with
  |str hj=>exact .inl ⟨h.1,Dm f w (by rw[di];exact h.1) h.2⟩
  |_=>exact h.elim
 |list z1 s1 q1=>cases r2 with
  |list z2 s2 q2 =>
   have l1:=q1.length
   have l2:=q2.length
   have hz:=h.1
   rcases h.2 with⟨f1,f2,q⟩|⟨rfl,rfl,q⟩
   ·refine .inl ⟨_,_,s1,s2,by lia,?_⟩
    exact f.lst w (by rw[pd];exact hz) (q1.append q2) (by rw[fH,f1,f2];rfl) q
   ·obtain⟨_,rx⟩:=rx
    obtain⟨_,ry⟩:=ry
    cases rx with
    |list z1' s1' II=>cases ry with
     |list z2' s2' WY =>
      have l1:=II.length
      have l2:=WY.length
      refine .inl ⟨_,_,aT.seq w.sub s1',aT.seq w.sub s2',by lia,?_⟩
      exact f.Nz w (by rw[pd];exact hz) (II.append WY) q
  |_=>exact h.elim
 |tup t1 s1 q1=>cases r2 with
  |tup t2 s2 q2 =>
   have l1:=q1.length
   have l2:=q2.length
   obtain⟨iL,hz,f1,f2,q⟩:=h
   refine .inr ⟨_,_,_,_,rfl,rfl,.inl (.inl s1),.inl (.inl s2),?_,by lia,?_⟩
   ·intro e
    subst e
    exact iL (OG.mp l1)
   ·refine⟨fun e=>?_,fun _=>f.tup w (by rw[pd];exact hz) (q1.append q2) (by rw[fH,f1,f2];rfl) q⟩
    subst e
    cases q2
    rw[n4] at q
    exact f.flat w (.tup t1 s1 q1) (by simpa[D.flat] using f1) q
  |_=>exact h.elim
 |_=>exact h.elim
theorem GQ{H:Hp}{x y:D}{v u:V}{m n:Md}{P:Int->Int->(Md->D->Prop)->Prop}{S:Str->Str->(Md->D->Prop)->Prop}{Q:Md->D->Prop}{G:Prop}(r1:Rep K H x v)(r2:Rep K H y u)(h:WX P S m x n y Q)(k:∀ i j,v=.int i->u=.int j->P i j Q->G)(ks:∀ i j,v=.str i->u=.str j->S i j Q->G):G:=by
 cases r1 with
 |int i=>cases r2 with
  |int j=>exact k i j rfl rfl h
  |_=>exact h.elim
 |str hi=>cases r2 with
  |str hj=>exact ks _ _ rfl rfl h
  |_=>exact h.elim
 |_=>exact h.elim
theorem jx{H:Hp}{x y:D}{v u:V}{m n:Md}{P:Int->Int->(Md->D->Prop)->Prop}{Q:Md->D->Prop}{G:Prop}(r1:Rep K H x v)(r2:Rep K H y u)(h:IH P m x n y Q)(k:∀ i j,v=.int i->u=.int j->P i j Q->G):G:=by
 cases r1 with
 |int i=>cases r2 with
  |int j=>exact k i j rfl rfl h
  |_=>exact h.elim
 |_=>exact h.elim
theorem Hb:kQ K Cz Qf:=by
 intro Hs H m x v As n y u Bs Qd Qv w rx ry h f
 exact jx (rx.rep w) (ry.rep w) h fun i j e1 e2 q=>by
  subst e1 e2
  exact f.sh w (.int _) q
theorem Hq:kQ K Fl oC:=by
 intro Hs H m x v As n y u Bs Qd Qv w rx ry h f
 exact jx (rx.rep w) (ry.rep w) h fun i j e1 e2 q=>by
  subst e1 e2
  exact⟨q.1,f.sh w (.int _) q.2⟩
theorem Hx:kQ K CK DJ:=by
 intro Hs H m x v As n y u Bs Qd Qv w rx ry h f
 exact jx (rx.rep w) (ry.rep w) h fun i j e1 e2 q=>by
  subst e1 e2
  exact⟨q.1,f.sh w (.int _) q.2⟩
theorem G7:kQ K Fi wq:=by
 intro Hs H m x v As n y u Bs Qd Qv w rx ry h f
 exact jx (rx.rep w) (ry.rep w) h fun i j e1 e2 q=>by
  subst e1 e2
  exact⟨q.1,f.sh w (.int _) q.2⟩
theorem Jj:kQ K Sn S8:=by
 intro Hs H m x v As n y u Bs Qd Qv w rx ry h f
 exact jx (rx.rep w) (ry.rep w) h fun i j e1 e2 q=>by
  subst e1 e2
  exact f.sh w (.bl _) q
theorem Jg:kQ K Sj Qg:=by
 intro Hs H m x v As n y u Bs Qd Qv w rx ry h f
 exact GQ (rx.rep w) (ry.rep w) h (fun i j e1 e2 q=>by
  subst e1 e2
  exact f.sh w (.bl _) q) fun i j e1 e2 q=>by
  subst e1 e2
  exact f.sh w (.bl _) q
theorem eq_data(w:Wf Hs H)(rx:Rep K H x v)(ry:Rep K H y u)(f:Fin K Hs H Qd Qv)(h:cf 12 x=true/\cf 12 y=true/\Qd .sh (.bl (fI x y))):Sr K v u H Qv:=by
 obtain⟨h1,h2,q⟩:=h
 have l1:=gA 12 x h1
 have l2:=gA 12 y h2
 exact⟨x.py,y.py,rx.l2 h1,ry.l2 h2,l1.1,l2.1,by lia,f.sh w (.bl _) q⟩
theorem ne_data(w:Wf Hs H)(rx:Rep K H x v)(ry:Rep K H y u)(f:Fin K Hs H Qd Qv)(h:cf 12 x=true/\cf 12 y=true/\Qd .sh (.bl (!fI x y))):Ss K v u H Qv:=by
 obtain⟨h1,h2,q⟩:=h
 have l1:=gA 12 x h1
 have l2:=gA 12 y h2
 exact⟨x.py,y.py,rx.l2 h1,ry.l2 h2,l1.1,l2.1,by lia,f.sh w (.bl _) q⟩
theorem iR:kQ K (PZ K) mG:=by
 intro Hs H m x v As n y u Bs Qd Qv w rx ry h f
 have r1:=rx.rep w
 have r2:=ry.rep w
 have d:=fun h=>eq_data (Qd:=Qd) (Qv:=Qv) w r1 r2 f h
 cases r1 with
 |int i=>cases r2 with
  |int j=>exact f.sh w (.bl _) h
  |_=>exact d h
 |str i=>cases r2 with
  |str j=>exact f.sh w (.bl _) h
  |_=>exact d h
 |bl i=>cases r2 with
  |bl j=>exact f.sh w (.bl _) h
  |_=>exact d h
 |_=>exact d h
theorem FW:kQ K (P0 K) DL:=by
 intro Hs H m x v As n y u Bs Qd Qv w rx ry h f
 have r1:=rx.rep w
 have r2:=ry.rep w
 have d:=fun h=>ne_data (Qd:=Qd) (Qv:=Qv) w r1 r2 f h
 cases r1 with
 |int i=>cases r2 with
  |int j=>exact f.sh w (.bl _) h
  |_=>exact d h
 |str i=>cases r2 with
  |str j=>exact f.sh w (.bl _) h
  |_=>exact d h
 |bl i=>cases r2 with
  |bl j=>exact f.sh w (.bl _) h
  |_=>exact d h
 |_=>exact d h
theorem Ce(r:Rep K H x v):decide (v=V.non)=x.Qh:=by
 cases r<;>first|rfl|exact decide_eq_false (fun z=>nomatch z)
theorem Gi:kQ K (fun x y H Q=>y=.non/\Q (.bl (decide (x=.non))) H) S9:=by
 intro Hs H m x v As n y u Bs Qd Qv w rx ry h f
 have r1:=rx.rep w
 have r2:=ry.rep w
 have e:=Ce r1
 cases r2 with
 |non=>exact⟨rfl,by rw[e];exact f.sh w (.bl _) h⟩
 |_=>exact h.elim
theorem jC(r:Rep K H x v)(h:eV x=true):y9 v=true:=by
 cases r<;>first|rfl|(simp[eV] at h)
theorem Cd(r:Rep K H x v)(s:Rep K H y u)(h:eV x=true)(g:eV y=true):AZ v u=fI x y:=by
 cases r<;>simp[eV] at h<;>cases s<;>simp[eV] at g<;>rfl
theorem Hz(r:Rep K H x v)(h:eV x=true)(rs:aI K H ys us)(g:ys.all eV=true):us.all y9=true/\Py v us=inD x ys:=by
 induction ys generalizing us with
 |nil=>rw[rs.n0];exact⟨rfl,rfl⟩
 |cons y ys ih =>
  obtain⟨u,us,rfl,s,ss⟩:=rs.c
  simp only[AQ,kr] at g
  obtain⟨e1,e2⟩:=ih ss g.2
  refine⟨by simp only[AQ,jC s g.1,e1,Bool.and_self],?_⟩
  unfold Py inD at *
  rw[AR,AR,e2,Cd s r g.1 h]
theorem pQ{κ:Type}[DecidableEq κ]{H:Hp}{k:κ}{kvs:List (κ × D)}{vs:List V}(r:aI K H (kvs.map (·.2)) vs):(rX ((kvs.map (·.1)).zip vs) k).isSome=(fv kvs k).isSome:=by
 have:=zip_get (k:=k) r
 split at this
 ·rename_i e
  obtain⟨v,e1,_⟩:=this
  rw[e1,e];rfl
 ·rename_i e
  rw[this,e];rfl
theorem uW{neg:Bool}:kQ K (EW K neg) (wt neg):=by
 intro Hs H m x v As n y u Bs Qd Qv w rx ry h f
 have r1:=rx.rep w
 have r2:=ry.rep w
 cases r2 with
 |str j=>cases r1 with
  |str i=>exact f.sh w (.bl _) h
  |_=>exact h.elim
 |list z s q =>
  obtain⟨h1,h2,h3⟩:=h
  obtain⟨e1,e2⟩:=Hz r1 h1 q h2
  have h4:=jC r1 h1
  have g:ML K neg v (.ref _) H Qv:=⟨_,_,rfl,.inl s,h4,e1,by rw[e2];exact f.sh w (.bl _) h3⟩
  cases r1<;>exact .inr g
 |tup _ s q =>
  obtain⟨h1,h2,h3⟩:=h
  obtain⟨e1,e2⟩:=Hz r1 h1 q h2
  have h4:=jC r1 h1
  have g:ML K neg v (.ref _) H Qv:=⟨_,_,rfl,.inr (.inl (.inl s)),h4,e1,by rw[e2];exact f.sh w (.bl _) h3⟩
  cases r1<;>exact .inr g
 |dK kk e q =>
  obtain⟨k,hk,h3⟩:=h
  have ev:=r1.key hk
  subst ev
  have eg:=pQ (k:=k) q
  cases k<;>exact .inl ⟨_,mz.k e,by rw[eg];exact f.sh w (.bl _) h3⟩
 |dT kk e q =>
  cases r1 with
  |tup t1 e1 q1 =>
   obtain⟨ks,hk,h3⟩:=h
   obtain⟨b,eb,e2⟩:=Rep.oj (.tup t1 e1 q1) hk
   cases eb
   have eg:=pQ (k:=ks) q
   exact .inl ⟨_,mz.t e e2,by rw[eg];exact f.sh w (.bl _) h3⟩
  |_=>exact h.elim
 |_=>exact h.elim
end
section
variable {X:Cx}{K:PySem.W.Frag}{a b:Expr}{ta tb:WE}{pos:Pos}
theorem Jm(hK:X.K=K:=by rfl):dn X (binaryOp .Add) (fun x y H Q=>zQ K x y H Q\/RQ K x y H Q):=by subst hK;exact Ej.or Z9
theorem cg(ha:QE X K a ta)(hb:QE X K b tb)(hK:X.K=K:=by rfl):QE X K (.BinOp a .Add b pos) (aC fR ta tb):=IG (Jm hK) HN ha hb
theorem IW(ha:QE X K a ta)(hb:QE X K b tb):QE X K (.BinOp a .Sub b pos) (aC Qf ta tb):=IG Dv Hb ha hb
theorem gR(ha:QE X K a ta)(hb:QE X K b tb):QE X K (.BinOp a .Mult b pos) (aC oC ta tb):=IG Ec Hq ha hb
theorem wG(ha:QE X K a ta)(hb:QE X K b tb):QE X K (.BinOp a .FloorDiv b pos) (aC DJ ta tb):=IG Cw Hx ha hb
theorem nP(ha:QE X K a ta)(hb:QE X K b tb):QE X K (.BinOp a .Mod b pos) (aC wq ta tb):=IG Dk G7 ha hb
def ND:W1:=fun _ x Q=>match x with
 |.int i=>Q .sh (.int (-i))
 |_=>False
theorem HF:P_ K (rU fun i=>.int (-i)) ND:=by
 intro Hs H m x v As Qd Qv w rx h f
 have r1:=rx.rep w
 cases r1 with
 |int i=>exact⟨i,rfl,f.sh w (.int _) h⟩
 |_=>exact h.elim
theorem Gq(ha:QE X K a ta):QE X K (.UnaryOp .USub a pos) (h9 ND ta):=cm' Zj HF ha
end
def df:WA:=fun _ Q=>Q []
def ak(te:WE)(t:WA):WA:=fun ρ Q=>te ρ fun m x=>t ρ fun ps=>Q ((m,x) :: ps)
def zI:Md × D->Bool
 | (.sh,_)=>true
 | (_,d)=>d.flat
def IJ:Md × D->Bool
 | (.bo,d)=>d.flat
 |_=>true
def E4:Md × D->Bool
 | (.ow true,_)=>true
 | (_,d)=>d.flat
def Eu(ps:List (Md × D)):Md:=bif ps.all zI then .sh else bif ps.all IJ then .ow (ps.all E4) else .bo
def Ef(ps:List (Md × D)):Md:=bif ps.all IJ then .ow (ps.all E4) else .bo
def wx(t:WA):WE:=fun ρ Q=>t ρ fun ps=>ps.length<=sizeLine/\Q (Eu ps) (.tup (ps.map (·.2)))
def sR(t:WA):WE:=fun ρ Q=>t ρ fun ps=>ps.length<=sizeLine/\Q (Ef ps) (.list (ps.map (·.2)))
section
variable {X:Cx}{K:PySem.W.Frag}{e:Expr}{es:List Expr}{te:WE}{t:WA}{pos:Pos}{Hs H:Hp}
theorem aB:QA X K [] df:=PA.imp vT fun σ H Qv hx=>iN hx fun Hs ρ ag Q sr h f=>f [] H Hs [] [] (eJ.refl sr.wf) .nil cN.nil h
theorem cN.app(f1:cN ax H As)(o:∀ a∈As,H1 a≠none)(f2:cN aw H1 Bs)(s:aT H H1)(k:∀ a,ax a=none->H1 a≠none->aw a=none):cN aw H (As++Bs) :=
 ⟨iS.mpr ⟨f1.1,f2.1,fun a ha b hb e=>by subst e;exact o a ha (f2.2 a hb).2⟩,fun a h=>by
  rcases dy.mp h with h|h
  ·exact⟨k a (f1.2 a h).1 (o a h),(f1.2 a h).2⟩
  ·exact⟨(f2.2 a h).1,s.free (f2.2 a h).2⟩⟩
theorem aa(ha:QE X K e te)(hr:QA X K es t)(hs:starEach (e :: es) X.env=(false,eval e X.env) :: starEach es X.env:=by rfl):QA X K (e :: es) (ak te t):=by
 refine PA.imp (rh ha hr hs) fun σ H Qv hx=>iN hx fun Hs ρ ag Q sr h f=>?_
 refine⟨Hs,ρ,ag,_,sr,h,fun v H1 ax m x As g1 r1 f1 q1=>⟨ax,ρ,ag,_,sr.grow g1,q1,fun vs H2 aw ps Bs g2 r2 f2 q2=>?_⟩⟩
 exact f (v :: vs) H2 aw _ _ (g1.trans g2) (.cons (r1.grow g2) r2) (f1.app (fun a h=>(r1.own a h).ne) f2 g1.all fun a h1 h2=>g2.lP h1 h2) q2
theorem zo.sh(w:Wf Hs H){ps:List (Md × D)}(r:zo K Hs H ps vs As):ps.all zI=true->aI K Hs (ps.map (·.2)) vs:=by
 induction r with
 |nil=>exact fun _=>.nil
 |@cons m d v ps vs As Bs r rs ih =>
  intro h
  simp only[AQ,kr] at h
  refine .cons ?_ (ih h.2)
  cases m with
  |sh=>exact r.2
  |ow fl=>exact r.flat w h.1
  |bo=>exact r.flat w h.1
theorem zo.ow(w:Wf Hs H){ps:List (Md × D)}(r:zo K Hs H ps vs As):ps.all IJ=true->(fl=true->ps.all E4=true)->∃ Bs,Bs.Sublist As/\(ps.all zI=false->Bs≠[])/\az K Hs H fl (ps.map (·.2)) vs Bs:=by
 induction r with
 |nil=>exact fun _ _=>⟨[],B3 _,(fun z=>Bool.noConfusion z),.nil⟩
 |@cons m d v ps vs A1 Cs r rs ih =>
  intro h hf
  simp only[AQ,kr] at h hf
  obtain⟨Bs,sb,ne,q⟩:=ih h.2 fun z=>(hf z).2
  have sk:([]++Bs).Sublist (A1++Cs):=by simpa using sb.trans (oq _ _)
  have AV:d.flat=true->zI (m,d)=true->∃ Bs,Bs.Sublist (A1++Cs)/\(((m,d) :: ps).all zI=false->Bs≠[])/\az K Hs H fl (((m,d) :: ps).map (·.2)) (v :: vs) Bs:=fun hd ho =>
   ⟨[]++Bs,sk,fun z=>ne (by rw[AQ,ho] at z;simpa using z),.cons (.sh (fun _=>hd) (r.flat w hd)) q⟩
  cases m with
  |sh=>exact⟨[]++Bs,sk,fun z=>ne (by simpa[zI] using z),.cons (.sh (fun z=>(hf z).1) r.2) q⟩
  |bo=>exact AV h.1 h.1
  |ow b =>
   cases hd:d.flat with
   |true=>exact AV hd hd
   |false =>
    refine⟨A1++Bs,sb.append_left _,fun _ z=>r.2 (K2.mp z).1,.cons ?_ q⟩
    cases fl with
    |false=>exact bP.P9 r.1
    |true =>
     have:=(hf rfl).1
     cases b with
     |true=>exact r.1
     |false=>simp[E4,hd] at this
theorem ur:∀ {ps:List (Md × D)},cx (ps.map (·.2))=true->ps.all zI=true
 |[],_=>rfl
 | (m,d) :: ps,h=>by
  simp only[fi,cx,kr] at h
  simp only[AQ,kr]
  exact⟨by cases m<;>simp[zI,h.1],ur h.2⟩
theorem lB{x1}(h:QA X K es t):QE X K (.Tuple es x1 pos) (wx t):=by
 refine PE.imp (ZL h) fun σ H Qv hx=>iN hx fun Hs ρ ag Q sr h f=>?_
 refine⟨Hs,ρ,ag,_,sr,h,fun vs H1 ax ps As g1 r1 f1 q1=>?_⟩
 obtain⟨hz,q⟩:=q1
 have rl:=(r1.reps g1.wf)
 have hl:=rl.length
 rw[b4] at hl
 refine⟨by lia,fun p hp=>?_⟩
 have g2:=WW (vs:=vs) g1.wf hp
 have fin:=Fin.after f g1
 unfold Eu at q
 cases h1:ps.all zI with
 |true =>
  rw[h1] at q
  exact fin _ _ _ .sh _ [] g2 ⟨rfl,.tup (by lia) gX ((r1.sh g1.wf h1).same g2.sh)⟩ cN.nil q
 |false =>
  rw[h1] at q
  cases h2:ps.all IJ with
  |false =>
   rw[h2] at q
   exact fin _ _ _ .bo _ [] g2 ⟨rfl,.tup (by lia) gX (rl.same g2.all)⟩ cN.nil q
  |true =>
   rw[h2] at q
   obtain⟨Bs,sb,nz,ro⟩:=r1.ow (fl:=ps.all E4) g1.wf h2 fun z=>z
   have iL:cx (ps.map (·.2))=false:=by
    cases hf:cx (ps.map (·.2)) with
    |false=>rfl
    |true=>rw[ur hf] at h1;cases h1
   have own:=ro.own
   refine f _ _ _ (.ow _) _ Bs (g1.trans g2) ⟨.tup (by lia) gX iL (ro.grow g2.sh g2.all),nz h1⟩ ⟨sb.nodup f1.1,fun a ha=>⟨?_,(f1.2 a (sb.subset ha)).2⟩⟩ q
   exact g2.lP (f1.2 a (sb.subset ha)).1 (own a ha).ne
theorem jq(h:QA X K es t):QE X K (.List es pos) (sR t):=by
 refine PE.imp (ZM h) fun σ H Qv hx=>iN hx fun Hs ρ ag Q sr h f=>?_
 refine⟨Hs,ρ,ag,_,sr,h,fun vs H1 ax ps As g1 r1 f1 q1=>?_⟩
 obtain⟨hz,q⟩:=q1
 have rl:=(r1.reps g1.wf)
 have hl:=rl.length
 rw[b4] at hl
 refine⟨by lia,fun p hp=>?_⟩
 have g2:=Ny (o:=.lst vs) g1.wf hp fun _ z=>nomatch z
 have fin:=Fin.after f g1
 unfold Ef at q
 cases h2:ps.all IJ with
 |false =>
  rw[h2] at q
  exact fin _ _ _ .bo _ [] g2 ⟨rfl,.list (by lia) (.inl (.inl gX)) (rl.same g2.all)⟩ cN.nil q
 |true =>
  rw[h2] at q
  obtain⟨Bs,sb,nz,ro⟩:=r1.ow (fl:=ps.all E4) g1.wf h2 fun z=>z
  have own:=ro.own
  refine f _ _ _ (.ow _) _ (p :: Bs) (g1.trans g2) ⟨.list (by lia) gX (ro.grow g2.sh g2.all),by simp⟩ ⟨iA.mpr ⟨fun m=>(own p m).ne hp,sb.nodup f1.1⟩,fun a ha=>?_⟩ q
  rcases cy.mp ha with rfl|ha
  ·exact⟨g1.wf.sub.free hp,g1.all.free hp⟩
  ·exact⟨g2.lP (f1.2 a (sb.subset ha)).1 (own a ha).ne,(f1.2 a (sb.subset ha)).2⟩
end
theorem aI.eW{K:PySem.W.Frag}(r:aI K H ds vs)(h:eW ds i=some d):∃ v,L2.eW vs i=some v/\Rep K H d v:=by
 unfold L2.eW at *
 rw[<- r.length]
 cases e:ll ds.length i with
 |none=>rw[e] at h;cases h
 |some j =>
  rw[e] at h
  exact r.get h
def eT:W2:=fun m x _ y Q=>match x with
 |.list xs=>match y with
  |.int i=>∃ d,eW xs i=some d/\bS d (f:=fun d=>Q (kP m d) d) ⟨⟩
  |_=>False
 |.tup xs=>match y with
  |.int i=>∃ d,eW xs i=some d/\bS d (f:=fun d=>Q (kP m d) d) ⟨⟩
  |_=>False
 |.str z=>match y with
  |.int i=>∃ c,eW z.cps.toList i=some c/\Q .sh (.str ⟨#[c]⟩)
  |_=>False
 |.dK kvs=>∃ k d,y.key1=some k/\fv kvs k=some d/\bS d (f:=fun d=>Q (kP m d) d) ⟨⟩
 |.dT kvs=>match y with
  |.tup ys=>∃ ks d,eX ys=some ks/\fv kvs ks=some d/\bS d (f:=fun d=>Q (kP m d) d) ⟨⟩
  |_=>False
 |_=>False
def S_(K:PySem.W.Frag):R2:=fun x y H Q=>PY K x y H Q\/∃ a v,x=.ref a/\mz H a y (some v)/\Q v H
theorem Ex(c:Nat):(⟨#[c]⟩:Str).length<=sizeLine:=by show 1<=sizeLine;decide
theorem RM.here{K:PySem.W.Frag}(w:Wf Hs H)(r:RM K Hs H m d v As):(m=.sh/\Rep K Hs d v)\/(m≠.sh/\Rep K H d v):=by
 cases m with
 |sh=>exact .inl ⟨rfl,r.2⟩
 |ow fl=>exact .inr ⟨(fun z=>nomatch z),r.rep w⟩
 |bo=>exact .inr ⟨(fun z=>nomatch z),r.2⟩
section
variable {X:Cx}{K:PySem.W.Frag}
theorem Jq:kQ K (S_ K) eT:=by
 intro Hs H m x v As n y u Bs Qd Qv w rx ry h f
 have r2:=ry.rep w
 have core:∀ G:Hp,aT G H->(∀ d v,Rep K G d v->Rep K H d v/\(m=.sh->Rep K Hs d v))->Rep K G x v->S_ K v u H Qv:=by
  intro G sg up r1
  cases r1 with
  |list z s q =>
   cases r2 with
   |int i =>
    obtain⟨d,e,h⟩:=h
    obtain⟨v',e',r'⟩:=q.eW e
    obtain⟨u1,u2⟩:=up _ _ r'
    exact .inl (.inl ⟨_,v',aT.seq sg s,e',f.kP w u1 u2 h⟩)
   |_=>exact h.elim
  |tup _ s q =>
   cases r2 with
   |int i =>
    obtain⟨d,e,h⟩:=h
    obtain⟨v',e',r'⟩:=q.eW e
    obtain⟨u1,u2⟩:=up _ _ r'
    exact .inl (.inr ⟨_,v',.inl (.inl (sg _ _ s)),e',f.kP w u1 u2 h⟩)
   |_=>exact h.elim
  |str hz =>
   cases r2 with
   |int i =>
    obtain⟨c,e,h⟩:=h
    exact .inl ⟨hz,c,e,f.sh w (.str (Ex c)) h⟩
   |_=>exact h.elim
  |dK kk s q =>
   obtain⟨k,d,hk,hg,h⟩:=h
   have ev:=r2.key hk
   subst ev
   have z:=zip_get (k:=k) q
   rw[hg] at z
   obtain⟨v',e',r'⟩:=z
   obtain⟨u1,u2⟩:=up _ _ r'
   exact .inr ⟨_,v',rfl,by rw[<- e'];exact mz.k (sg _ _ s),f.kP w u1 u2 h⟩
  |dT kk s q =>
   cases r2 with
   |tup t2 e2 q2 =>
    obtain⟨ks,d,hk,hg,h⟩:=h
    obtain⟨b,eb,e3⟩:=Rep.oj (.tup t2 e2 q2) hk
    cases eb
    have z:=zip_get (k:=ks) q
    rw[hg] at z
    obtain⟨v',e',r'⟩:=z
    obtain⟨u1,u2⟩:=up _ _ r'
    exact .inr ⟨_,v',rfl,by rw[<- e'];exact mz.t (sg _ _ s) e3,f.kP w u1 u2 h⟩
   |_=>exact h.elim
  |_=>exact h.elim
 rcases rx.here w with⟨hm,r⟩|⟨hm,r⟩
 ·exact core Hs w.sub (fun d v q=>And.intro (q.same w.sub) fun _=>q) r
 ·exact core H (aT.refl H) (fun d v q=>And.intro q fun z=>absurd z hm) r
theorem WZ(hu:X.A.units+64<cLine)(hK:X.K=K:=by rfl):tN X (S_ K):=by
 subst hK
 refine tN.or Bh ?_
 intro value slice pins s σ H x y v u Q I rx ry h hs
 obtain⟨a,w,rfl,g,q⟩:=h
 cases rx
 exact tail_any (aF' I g) F.slot_dict_getitem.lookup (az' (by lia) I g ry fun w' s3 I3 kK=>⟨w,H,I3,kK,q⟩) hs
variable {a b:Expr}{ta tb:WE}{pos:Pos}
theorem fS(hu:X.A.units+64<cLine)(ha:QE X K a ta)(hb:QE X K b tb)(hs:Pw b:=by exact fun _ _=>rfl)(hK:X.K=K:=by rfl):QE X K (.Subscript a b pos) (aC eT ta tb):=PE.imp (RW (WZ hu hK) ha hb hs) (jB Jq)
end
def om(xs:List α)(lo hi:Option Int):List α:=(xs.drop (HT.bI xs.length 0 lo)).take (HT.bI xs.length xs.length hi-HT.bI xs.length 0 lo)
abbrev WO:=Env->(Option Int->Prop)->Prop
def wL(t:WE):WO:=fun ρ Q=>t ρ fun _ x=>match x with
 |.int i=>Q (some i)
 |_=>False
def NF(m:Md)(x:D)(lo hi:Option Int)(Q:Md->D->Prop):Prop:=match x with
 |.str z=>Q .sh (.str (xS z lo hi))
 |.list xs=>(cx xs=true/\Q (.ow true) (.list (om xs lo hi)))\/(m=.sh/\Q (.ow false) (.list (om xs lo hi)))
 |.tup xs=>cx xs=true/\¬ (HT.bI xs.length 0 lo=0/\HT.bI xs.length xs.length hi=xs.length)/\Q .sh (.tup (om xs lo hi))
 |_=>False
def Ta(te:WE)(tl th:WO):WE:=fun ρ Q=>te ρ fun m x=>tl ρ fun lo=>th ρ fun hi=>NF m x lo hi Q
def tpO(K:PySem.W.Frag)(t:WO):TO:=fun σ H Qv=>∃ Hs ρ ag Q,dE K Hs ρ σ H ag/\t ρ Q/\∀ o H' av,eJ Hs H av H'->Q o->Qv o H'
abbrev QO(X:Cx)(K:PySem.W.Frag)(e:Option Expr)(t:WO):Prop:=PO X e (tpO K t)
theorem Ao(z:Str)(lo hi:Option Int):(xS z lo hi).length<=z.length:=by
 unfold xS Str.length
 simp only[gi,mr,AH,y2]
 lia
theorem nj(xs:List α)(lo hi:Option Int):(om xs lo hi).length<=xs.length:=by
 unfold om
 rw[mr,AH]
 lia
theorem qd{lo hi:Option Int}(h:cx xs=true):cx (om xs lo hi)=true:=by
 rw[jH] at *
 intro x hx
 exact h x (Q0 (LB hx))
section
variable {X:Cx}{K:PySem.W.Frag}{e:Expr}{lo hi:Option Expr}{te:WE}{tl th:WO}{pos p2:Pos}
theorem yz(h:QE X K e te):QO X K (some e) (wL te):=fun pins s σ H Q I hh=>Z5 h pins s σ H Q I (by
 obtain⟨Hs,ρ,ag,Qd,sr,h,f⟩:=hh
 refine⟨Hs,ρ,ag,_,sr,h,fun v H1 ax m x As g1 r1 f1 q1=>?_⟩
 have r:=r1.rep g1.wf
 cases r with
 |int i=>exact⟨i,rfl,f _ H1 ax g1 q1⟩
 |_=>exact q1.elim)
theorem jU{lo hi:Option Int}(r:aI K H ds vs):aI K H (om ds lo hi) (AY vs lo hi):=by
 unfold om AY
 rw[r.length]
 exact(r.drop _).take _
theorem ct'(hK:X.K=K:=by rfl):G0 X (fun x lo hi H Q=>Sq K x lo hi H Q\/VD K x lo hi H Q):=by
 subst hK
 intro pins s σ H x v vl vu lo hi sl Q I rx hs pl pu h
 rcases h with h|h
 ·exact Hr pins s σ H x v vl vu lo hi sl Q I rx hs pl pu h
 ·exact Z8 pins s σ H x v vl vu lo hi sl Q I rx hs pl pu h
theorem DP(he:QE X K e te)(hl:QO X K lo tl)(hh:QO X K hi th)(hK:X.K=K:=by rfl):QE X K (.Subscript e (.Slice lo hi none p2) pos) (Ta te tl th):=by
 refine PE.imp (Z7 (ct' hK) he hl hh) fun σ H Qv hx=>iN hx fun Hs ρ ag Q sr h f=>?_
 refine⟨Hs,ρ,ag,_,sr,h,fun v H1 ax m x As g1 r1 f1 q1=>⟨ax,ρ,ag,_,sr.grow g1,q1,fun l H2 aw g2 q2=>⟨aw,ρ,ag,_,(sr.grow g1).grow g2,q2,fun u H3 dv g3 q3=>?_⟩⟩⟩
 have r3:=(r1.grow g2).grow g3
 have fin:Fin K dv H3 Q Qv:=Fin.after f ((g1.trans g2).trans g3)
 have rr:=r3.rep g3.wf
 cases rr with
 |str hz=>exact .inl ⟨hz,fin.sh g3.wf (.str (gx (Ao _ _ _) hz)) q3⟩
 |list z s q =>
  have hz:=q.length
  rcases q3 with⟨hf,q3⟩|⟨rfl,q3⟩
  ·exact .inl ⟨_,s,fin.lst g3.wf (gx (nj _ _ _) (by lia)) (jU q) (qd hf) q3⟩
  ·obtain⟨_,r3⟩:=r3
   cases r3 with
   |list z' s' q' =>
    have hz:=q'.length
    exact .inl ⟨_,aT.seq g3.wf.sub s',fin.Nz g3.wf (gx (nj _ _ _) (by lia)) (jU q') q3⟩
 |tup z s q =>
  have hz:=q.length
  obtain⟨hf,hn,q3⟩:=q3
  exact .inr ⟨_,_,rfl,.inl (.inl s),by rw[<- hz];exact hn,fin.tup g3.wf (gx (nj _ _ _) (by lia)) (jU q) (qd hf) q3⟩
 |_=>exact q3.elim
end
def ya:W1:=fun _ x Q=>match x with
 |.str z=>Q .sh (.int z.length)
 |.list xs=>Q .sh (.int xs.length)
 |.tup xs=>Q .sh (.int xs.length)
 |.dK kvs=>Q .sh (.int kvs.length)
 |.dT kvs=>Q .sh (.int kvs.length)
 |_=>False
def NH(T:String):W1:=fun _ x Q=>Q .sh (.bl (HP x.ty T))
def zS(K:PySem.W.Frag)(r:List V->Hp->VK->Prop)(f:W1):Prop:=∀ Hs H m x v As Qd Qv,Wf Hs H->RM K Hs H m x v As->f m x Qd->Fin K Hs H Qd Qv->r [v] H Qv
section
variable {X:Cx}{K:PySem.W.Frag}{e:Expr}{te:WE}{pos p:Pos}{x:Str}{id T:String}
theorem lY(br:zS K r f)(σ:St)(H:Hp)(Qv:VK)(h:mE K (h9 f te) σ H Qv):RL r (Vt (mE K te) Vs) σ H Qv:=by
 obtain⟨Hs,ρ,ag,Q,sr,h,fin⟩:=h
 exact⟨Hs,ρ,ag,_,sr,h,fun v H1 ax m x As g1 r1 f1 q1=>br ax H1 m x v As Q Qv g1.wf r1 q1 (Fin.after fin g1)⟩
theorem eO(hc:i3 X (.builtin id) r)(br:zS K r f)(hg:Gl X x)(hm:X.mg x=none)(hv:bootBuiltins x=some (.builtin id))(he:QE X K e te)
  (hs:starEach [e] X.env=(false,eval e X.env) :: starEach [] X.env:=by rfl) (hn:x ≠ "__name__" := by decide) (rp:(x == ("__debug__" : Str))=false:=by decide):QE X K (.Call (.Name x p) [e] [] pos) (h9 f te) :=
 PE.imp (RN hc hg hm hv (rh he vT hs) hn rp hs) (lY br)
theorem uw(hc:i3 X (.type T) r)(br:zS K r f)(hg:Gl X x)(hm:X.mg x=none)(hv:bootBuiltins x=some (.type T))(he:QE X K e te)
  (hs:starEach [e] X.env=(false,eval e X.env) :: starEach [] X.env:=by rfl) (hn:x ≠ "__name__" := by decide) (rp:(x == ("__debug__" : Str))=false:=by decide):QE X K (.Call (.Name x p) [e] [] pos) (h9 f te) :=
 PE.imp (ZV hc hg hm hv (rh he vT hs) hn rp hs) (lY br)
theorem CQ(hd:(d == sysModules)=false)(x:sN s.heap d es ep)(IL:(es.size:Int)<2 ^ 63)
  (h:∀ t t',Q (.int es.size t) { s with toks:=t' }):wpAny (model prog w) A (call (.builtin "len") [.ref d]) Q E s:=by
 refine Calls.call_function_entry kind_len plain_len entry_len (args_len1 _) ?_
 have mt:MeetsIn prog w (Builtin.«dict.__len__» ⟨[.ref d],[]⟩) (fun _ R s=>sN s.heap d es ep/\R (.ok (.ret (.int es.size s.toks))) { s with toks:=s.toks+1 }):=.of_wp fun A R s cK=>by
  obtain⟨hm,h⟩:=cK
  obtain⟨o,ho,hc,P1⟩:=hm
  show wpAny _ _ (dictSize d >>= _) _ _ s
  unfold dictSize
  refine ah (ah (wpAny_dictEntries ho P1 (ay ?_)))
  show wpAny _ _ (Builtin.Dict.pendingCount d >>= _) _ _ s
  refine ah (wpAny_pendingCount_other hd ?_)
  refine wpAny_ret_mkInt ?_
  rw[GB];exact h
 unfold Builtin.«len»
 refine ah (m:=oneArg "len" _) (ay ?_)
 refine ah (m:=callSpecial? (.ref d) (Str.ofString "__len__")) (wpAny_callSpecial?_slot (name:=Str.ofString "__len__") x.typ F.slot_dict_len
  (call_meetsIn F.slot_dict_len x.typ F.entry_dict_len (F.args_dict_len_1 _) mt ⟨x,?_⟩))
 show wpAny _ _ _ _ _ { s with toks:=s.toks+1 }
 refine ah (wpAny_holding (ay ?_))
 refine ah (wpAny_letGo ?_)
 show wpAny _ _ (if ((es.size:Nat):Int)<0 then _ else _) _ _ _
 rw[if_neg (by lia)]
 show wpAny _ _ (if ((es.size:Nat):Int) >= 2 ^ 63 then _ else _) _ _ _
 rw[if_neg (by lia)]
 exact ah (wpAny_mkInt (ay ⟨_,rfl,h _ _⟩))
theorem dR (hK:X.K=K:=by rfl):i3 X (.builtin "len") (fun xs H Q=>PX K xs H Q\/∃ a kvs,xs=[.ref a]/\H a=some (.dT kvs)/\Q (.int kvs.length) H):=by
 subst hK
 intro pins s σ H xs us Q I r h
 rcases h with h|⟨a,kvs,rfl,ha,q⟩
 ·exact wU pins s σ H xs us Q I r h
 ·obtain⟨u,rfl,ru⟩:=Vals.one r
  cases ru
  obtain⟨z,hd,ys,rel,o,es,ep,h1,h2,h3,h4,h5⟩:=(show fE X.prog X.w H s.heap a (.dT kvs) from I.bq a _ ha)
  have hl:es.size=kvs.length:=by
   have:=congrArg List.length h4
   rw[y2,b4] at this
   rw[this];exact rel.length.symm
  exact CQ hd ⟨o,h1,h2,h3⟩ (by rw[sizeLine_eq] at z;lia) fun t t'=>⟨.int kvs.length,H,I.tok _,⟨t,by rw[hl]⟩,q⟩
theorem qi:zS K (fun xs H Q=>PX K xs H Q\/∃ a kvs,xs=[.ref a]/\H a=some (.dT kvs)/\Q (.int kvs.length) H) ya:=by
 intro Hs H m x v As Qd Qv w rx h f
 have r1:=rx.rep w
 cases r1 with
 |str hz=>exact .inl ⟨hz,f.sh w (.int _) h⟩
 |list z s q=>exact .inl (.inl ⟨_,s,by rw[<- q.length];exact f.sh w (.int _) h⟩)
 |tup _ s q=>exact .inl (.inr (.inl ⟨_,.inl (.inl s),by rw[<- q.length];exact f.sh w (.int _) h⟩))
 |dK kk s q=>exact .inl (.inr (.inr ⟨_,s,by
   have:=q.length
   rw[b4] at this
   rw[OU,b4,<- this,OX]
   exact f.sh w (.int _) h⟩))
 |dT kk s q=>exact .inr ⟨_,_,rfl,s,by
   have:=q.length
   rw[b4] at this
   rw[OU,b4,<- this,OX]
   exact f.sh w (.int _) h⟩
 |_=>exact h.elim
end
section
variable {X:Cx}{K:PySem.W.Frag}{e e2:Expr}{te:WE}{pos p:Pos}{T:String}
theorem yx (hK:X.K=K:=by rfl):i3 X (.builtin "isinstance") (fun xs H Q=>∃ x d T,xs=[x,.ty T]/\Rep K H d x/\Si T=true/\Q (.bl (HP d.ty T)) H):=by
 subst hK
 intro pins s σ H xs us Q I r h
 obtain⟨x,d,T,rfl,rd,hT,q⟩:=h
 obtain⟨u,v,rfl,ru,rv⟩:=Vals.two r
 obtain rfl:v=Value.type T:=rv
 have hb:T∈["str", "int", "bool", "list", "tuple", "dict"]:=by simpa[Si] using hT
 have fin:∀ tk,EP X pins σ Q (.bool (HP d.ty T)) { s with toks:=tk }:=fun tk=>⟨.bl (HP d.ty T),H,I.tok tk,rfl,q⟩
 cases rd with
 |non=>exact EJ I ru .non (jf X.K _ T (by simp) hb) fin
 |bl b=>exact EJ I ru (.bl b) (jf X.K _ T (by simp) hb) fin
 |int i=>exact EJ I ru (.int i) (jf X.K _ T (by simp) hb) fin
 |str y=>exact EJ I ru (.str _) (jf X.K _ T (by simp) hb) fin
 |list z s' q' =>
  cases ru
  obtain⟨its,_,pl,_⟩:=I.list s'
  obtain⟨o,h1,h2,_⟩:=pl.isList
  exact PySem.W.kia_one PySem.W.kitx_list I.kB ⟨o,h1,h2⟩ (jf X.K "list" T (by simp) hb) (fun z=>nomatch z) fin
 |tup _ s' q'=>exact EJ I ru (.tup s') (jf X.K _ T (by simp) hb) fin
 |dK _ s' q'=>exact EJ I ru (.dK s') (jf X.K _ T (by simp) hb) fin
 |dT _ s' q'=>exact EJ I ru (.dT s') (jf X.K _ T (by simp) hb) fin
theorem D_ (hm:X.mg "isinstance" = none) (he:QE X K e te) (ht:PE X e2 (tC (.ty T))) (hT:Si T=true:=by rfl) (hg:Gl X "isinstance" := by rfl) (hK:X.K=K:=by rfl)
  (hs:starEach (e :: [e2]) X.env=(false,eval e X.env) :: starEach [e2] X.env:=by rfl) (sq:starEach (e2 :: []) X.env=(false,eval e2 X.env) :: starEach [] X.env:=by rfl) (nr:(backTo pos (starEach [e2] X.env)).any (·.1)=false:=by rfl) :
  QE X K (.Call (.Name "isinstance" p) [e,e2] [] pos) (h9 (NH T) te):=by
 refine PE.imp (RN (yx hK) hg hm n_ (rh he (rh ht vT sq) hs) (by decide) (by decide) hs nr) fun σ H Qv hx=>iN hx fun Hs ρ ag Q sr h f=>?_
 refine⟨Hs,ρ,ag,_,sr,h,fun v H1 ax m x As g1 r1 f1 q1=>⟨v,x,T,rfl,r1.rep g1.wf,hT,Fin.sh (Fin.after f g1) g1.wf (.bl _) q1⟩⟩
theorem Et(r:Rep K H d v)(h:Qe d=some b):RD K v H b:=by
 cases r with
 |non=>cases h;rfl
 |bl b=>cases h;rfl
 |int i=>cases h;rfl
 |str hz =>
  cases h
  exact⟨hz,rfl⟩
 |list z s q =>
  cases h
  refine .inl ⟨_,s,?_⟩
  cases q<;>rfl
 |tup _ s q =>
  cases h
  refine .inr (.inl ⟨_,.inl (.inl s),?_⟩)
  cases q<;>rfl
 |@dK _ _ kvs _ s q =>
  cases h
  refine .inr (.inr ⟨_,s,?_⟩)
  cases kvs with
  |nil=>rfl
  |cons p kvs =>
   simp only[fi] at q ⊢
   cases q
   rfl
 |dT _ s q=>cases h
theorem Ff(ha:QE X K e te)(he:∀ whole,isTrue e X.env whole=(do let v <- whole;standAt e.pos;holding [v] (truthy v)):=by intro _;rfl)(hK:X.K=K:=by rfl):QT X K e (S7 te):=by
 subst hK
 refine PT.imp (ZD ha he) fun σ H Qv hx=>iN hx fun Hs ρ ag Q sr h f=>?_
 refine⟨Hs,ρ,ag,_,sr,h,fun v H1 ax m x As g1 r1 f1 q1=>?_⟩
 obtain⟨b,hb,q⟩:=q1
 exact⟨b,Et (r1.rep g1.wf) hb,f b H1 ax g1 q⟩
end
def lT:Key->D
 |.inl i=>.int i
 |.inr x=>.str x
def wz:W1:=fun m x Q=>match x with
 |.list xs=>(cx xs=true/\Q (.ow true) (.list xs))\/(m=.sh/\Q (.ow false) (.list xs))
 |.tup xs=>(cx xs=true/\Q (.ow true) (.list xs))\/(m=.sh/\Q (.ow false) (.list xs))
 |.dT kvs=>Q (.ow true) (.list (kvs.map fun kv=>.tup (kv.1.map lT)))
 |_=>False
section
variable {X:Cx}{K:PySem.W.Frag}
theorem iw:∀ {ks:List Key},(∀ k∈ks,x8 k=true)->aI K H (ks.map lT) (ks.map kV)
 |[],_=>.nil
 |k :: ks,h=>by
  refine .cons ?_ (iw fun j m=>h j (b5 _ m))
  have:=h k bX
  cases k with
  |inl i=>exact .int i
  |inr x=>exact .str (by simpa[x8] using this)
theorem fU:∀ (ks:List Key),cx (ks.map lT)=true
 |[]=>rfl
 |k :: ks=>by simp only[fi,cx,fU ks,O1];cases k<;>rfl
theorem nG(t:cL H ys ks)(h:∀ l∈ks,l.length<=sizeLine/\∀ k∈l,x8 k=true):aI K H (ks.map fun l=>.tup (l.map lT)) ys:=by
 induction ys generalizing ks with
 |nil=>rw[show ks=[] from Paired.n0 t];exact .nil
 |cons y ys ih =>
  obtain⟨k,ks,rfl,⟨b,rfl,e⟩,t2⟩:=Paired.c t
  exact .cons (.tup (by rw[b4];exact(h _ bX).1) e (iw (h _ bX).2)) (ih t2 fun l m=>h l (b5 _ m))
theorem g_:∀ (ks:List (List Key)),cx (ks.map fun l=>.tup (l.map lT))=true
 |[]=>rfl
 |l :: ks=>by simp only[fi,cx,g_ ks,O1,D.flat,fU]
theorem vU (hc:X.calm=true:=by rfl) (hK:X.K=K:=by rfl):i3 X (.type "list") (fun xs H Q=>(∃ p ys,xs=[.ref p]/\(eK K H p ys\/ng K H p ys)/\∀ l,H l=none->Q (.ref l) (upd H l (.lst ys)))\/tO xs H Q):=by
 subst hK;exact an'.or (vP hc)
theorem BX:zS K (fun xs H Q=>(∃ p ys,xs=[.ref p]/\(eK K H p ys\/ng K H p ys)/\∀ l,H l=none->Q (.ref l) (upd H l (.lst ys)))\/tO xs H Q) wz:=by
 intro Hs H m x v As Qd Qv w rx h f
 have r1:=rx.rep w
 cases r1 with
 |list z s q =>
  have hl:=q.length
  rcases h with⟨hf,h⟩|⟨rfl,h⟩
  ·exact .inl ⟨_,_,rfl,.inl s,f.lst w (by lia) q hf h⟩
  ·obtain⟨_,rx⟩:=rx
   cases rx with
   |list z' s' q' =>
    have hl:=q'.length
    exact .inl ⟨_,_,rfl,.inl (aT.seq w.sub s'),f.Nz w (by lia) q' h⟩
 |tup z s q =>
  have hl:=q.length
  rcases h with⟨hf,h⟩|⟨rfl,h⟩
  ·exact .inl ⟨_,_,rfl,.inr (.inl (.inl s)),f.lst w (by lia) q hf h⟩
  ·obtain⟨_,rx⟩:=rx
   cases rx with
   |tup z' s' q' =>
    have hl:=q'.length
    exact .inl ⟨_,_,rfl,.inr (.inl (.inl (w.sub _ _ s'))),f.Nz w (by lia) q' h⟩
 |@dT _ vs kvs kk s q =>
  refine .inr ⟨_,s,fun ys l ht hl=>?_⟩
  have hlen:=q.length
  rw[b4] at hlen
  have e:((kvs.map (·.1)).zip vs).map (·.1)=kvs.map (·.1):=LJ (by rw[b4];exact LS hlen)
  rw[e] at ht
  have rr:=nG (K:=K) ht (fun l m=>by
   obtain⟨p,hp,rfl⟩:=cc.mp m
   exact kk.2 p hp)
  have ff:=g_ (kvs.map (·.1))
  rw[fA] at rr ff
  exact f.lst w (by rw[b4];exact kk.1) rr ff h l hl
 |_=>exact h.elim
end
section
variable {K:PySem.W.Frag}{Hs H:Hp}
theorem SR.yg(r:Rep K Hs d v)(i:Nat)(s:SR K Hs H ρ σ ag):∃ b6,b6.Sublist ag/\SR K Hs H (ρ.set i (some (.sh d))) (σ.set i (some v)) b6:=by
 induction s generalizing i with
 |nil=>exact⟨[],B3 _,.nil⟩
 |non s ih =>
  cases i with
  |zero=>exact⟨_,List.Sublist.refl _,.sh r s⟩
  |succ i=>obtain⟨t,a,b⟩:=ih i;exact⟨t,a,.non b⟩
 |sh q s ih =>
  cases i with
  |zero=>exact⟨_,List.Sublist.refl _,.sh r s⟩
  |succ i=>obtain⟨t,a,b⟩:=ih i;exact⟨t,a,.sh q b⟩
 |xc s ih =>
  cases i with
  |zero=>exact⟨_,List.Sublist.refl _,.sh r s⟩
  |succ i=>obtain⟨t,a,b⟩:=ih i;exact⟨t,a,.xc b⟩
 |ow ne q s ih =>
  cases i with
  |zero=>exact⟨_,oq _ _,.sh r s⟩
  |succ i=>obtain⟨t,a,b⟩:=ih i;exact⟨_,a.append_left _,.ow ne q b⟩
 |lk ne q s ih =>
  cases i with
  |zero=>exact⟨_,oq _ _,.sh r s⟩
  |succ i=>obtain⟨t,a,b⟩:=ih i;exact⟨_,a.append_left _,.lk ne q b⟩
theorem qD{As ag:List Addr}(nd:As.Nodup)(n:ag.Nodup)(dj:∀ a∈As,a∉ag):(As++ag).Nodup:=iS.mpr ⟨nd,n,fun a ha b hb e=>dj a ha (e ▸ hb)⟩
theorem gh{As ag B t:List Addr}(n:(B++ag).Nodup)(dj:∀ a∈As,a∉B++ag)(a:t.Nodup)(b:∀ x∈t,x∈ag\/x∈As):(B++t).Nodup/\∀ x∈B++t,x∈B++ag\/x∈As:=by
 obtain⟨n1,n2,n3⟩:=iS.mp n
 refine⟨iS.mpr ⟨n1,a,fun x hx y hy e=>?_⟩,fun x hx=>?_⟩
 ·subst e
  rcases b x hy with z|z
  ·exact n3 x hx x z rfl
  ·exact dj x z (kS _ hx)
 ·rcases dy.mp hx with z|z
  ·exact .inl (kS _ z)
  ·exact(b x z).imp (fun z=>fz _ z) fun z=>z
theorem SR.wy{d:D}{v:V}{fl:Bool}{As:List Addr}(ne:As≠[])(r:bP K Hs H fl d v As)(nd:As.Nodup){ρ:Env}{σ:St}{ag:List Addr}(i:Nat)(s:SR K Hs H ρ σ ag):ag.Nodup->(∀ a∈As,a∉ag) ->
  ∃ b6,b6.Nodup/\(∀ a∈b6,a∈ag\/a∈As)/\SR K Hs H (ρ.set i (some (.ow fl d))) (σ.set i (some v)) b6:=by
 induction s generalizing i with
 |nil=>exact fun n _=>⟨[],n5,(fun a h=>zk h),.nil⟩
 |non s ih =>
  intro n dj
  cases i with
  |zero=>exact⟨_,qD nd n dj,fun a h=>(dy.mp h).symm,.ow ne r s⟩
  |succ i=>obtain⟨t,a,b,c⟩:=ih i n dj;exact⟨t,a,b,.non c⟩
 |sh q s ih =>
  intro n dj
  cases i with
  |zero=>exact⟨_,qD nd n dj,fun a h=>(dy.mp h).symm,.ow ne r s⟩
  |succ i=>obtain⟨t,a,b,c⟩:=ih i n dj;exact⟨t,a,b,.sh q c⟩
 |xc s ih =>
  intro n dj
  cases i with
  |zero=>exact⟨_,qD nd n dj,fun a h=>(dy.mp h).symm,.ow ne r s⟩
  |succ i=>obtain⟨t,a,b,c⟩:=ih i n dj;exact⟨t,a,b,.xc c⟩
 |ow ne' q s ih =>
  intro n dj
  obtain⟨n1,n2,n3⟩:=iS.mp n
  have NJ:=fun a ha m=>dj a ha (fz _ m)
  cases i with
  |zero=>exact⟨_,qD nd n2 NJ,fun a h=>(dy.mp h).symm.imp (fun z=>fz _ z) fun z=>z,.ow ne r s⟩
  |succ i=>obtain⟨t,a,b,c⟩:=ih i n2 NJ;exact⟨_,(gh n dj a b).1,(gh n dj a b).2,.ow ne' q c⟩
 |lk ne' q s ih =>
  intro n dj
  obtain⟨n1,n2,n3⟩:=iS.mp n
  have NJ:=fun a ha m=>dj a ha (fz _ m)
  cases i with
  |zero=>exact⟨_,qD nd n2 NJ,fun a h=>(dy.mp h).symm.imp (fun z=>fz _ z) fun z=>z,.ow ne r s⟩
  |succ i=>obtain⟨t,a,b,c⟩:=ih i n2 NJ;exact⟨_,(gh n dj a b).1,(gh n dj a b).2,.lk ne' q c⟩
def asg:Md->D->Option Sl
 |.sh,d=>some (.sh d)
 |.ow fl,d=>some (.ow fl d)
 |.bo,d=>bif d.flat then some (.sh d) else none
theorem dE.set(i:Nat)(s:dE K Hs ρ σ H ag)(r:RM K Hs H m d v As)(nd:As.Nodup)(dj:∀ a∈As,Hs a=none/\a∉ag)(e:asg m d=some sl) :
  ∃ b6,dE K Hs (ρ.set i (some sl)) (σ.set i (some v)) H b6:=by
 have W0:Rep K Hs d v->∃ b6,dE K Hs (ρ.set i (some (.sh d))) (σ.set i (some v)) H b6:=fun r=>by
  obtain⟨t,a,b⟩:=s.sr.yg r i
  exact⟨t,b,s.wf,a.nodup s.sQ,fun x hx=>s.own x (a.subset hx)⟩
 cases m with
 |sh=>cases e;exact W0 r.2
 |ow fl =>
  cases e
  obtain⟨t,a,b,c⟩:=SR.wy r.2 r.1 nd i s.sr s.sQ fun a ha=>(dj a ha).2
  exact⟨t,c,s.wf,a,fun x hx=>(b x hx).elim (s.own x) fun z=>(dj x z).1⟩
 |bo =>
  cases hf:d.flat with
  |true =>
   simp only[asg,hf,cond_true,Option.some.injEq] at e
   subst e
   exact W0 (r.flat s.wf hf)
  |false=>simp[asg,hf] at e
end
section
variable {X:Cx}{K:PySem.W.Frag}{e c:Expr}{te:WE}{tc:WT}{pos:Pos}{st:Stmt}{a b rest:List Stmt}{t u:WS}
theorem PS.imp{te uk:TS}(h:PS X st te)(i:∀ D σ H,uk D σ H->te D σ H):PS X st uk:=fun pins s σ H D I q=>h pins s σ H D I (i D σ H q)
theorem mv.imp{te uk:TS}(h:mv X a te)(i:∀ D σ H,uk D σ H->te D σ H):mv X a uk:=fun pins s σ H D I q=>h pins s σ H D I (i D σ H q)
def eY:WS:=fun E ρ=>E.nx ρ
def cp(t u:WS):WS:=fun E ρ=>t { E with nx:=u E } ρ
def nK(te:WE):WS:=fun E ρ=>te ρ E.rt
def dQ(i:Nat)(te:WE):WS:=fun E ρ=>te ρ fun m d=>match asg m d with
 |some sl=>E.nx (ρ.set i (some sl))
 |none=>False
def oo(c:WT)(t u:WS):WS:=fun E ρ=>c ρ fun b=>if b=true then t E ρ else u E ρ
theorem bH:zC X K L [] eY:=mv.imp YM fun D σ H hx=>dO hx fun Hs ρ ag E sr h k1 _ _ _=>k1 σ H Hs ρ ag (aT.refl _) sr h
theorem Ae{D:Ends}(h:zv K L (cp t u) D σ H):U8 (zv K L t) (zv K L u) D σ H:=by
 obtain⟨Hs,ρ,ag,E,sr,h,k1,k2,k3,k4,kx⟩:=h
 refine⟨Hs,ρ,ag,{ E with nx:=u E },sr,h,fun bE H' av bp b6 s Tb q=>?_,k2,k3,k4,kx⟩
 exact⟨av,bp,b6,E,Tb,q,fun ja H2 aw fe dz s2=>k1 ja H2 aw fe dz (s.trans s2),fun ja H2 aw fe dz s2=>k2 ja H2 aw fe dz (s.trans s2),fun ja H2 aw fe dz s2=>k3 ja H2 aw fe dz (s.trans s2),
  fun v H2 aw m d As s2=>k4 v H2 aw m d As (s.trans s2),fun n H2 s2=>kx n H2 (s.trans s2)⟩
theorem aj(h1:QS X K L st t)(h2:zC X K L rest u):zC X K L (st :: rest) (cp t u):=mv.imp (U9 h1 h2) fun D σ H h=>Ae h
theorem au(h1:QS X K L st t):zC X K L [st] t:=U_ h1
theorem cJ(he:QE X K e te):QS X K L (.Return (some e) pos) (nK te):=PS.imp (Va he) fun D σ H hx=>dO hx fun Hs ρ ag E sr h k1 k2 k3 k4 =>
 ⟨Hs,ρ,ag,_,sr,h,fun v H1 ax m d As g1 r1 f1 q1=>k4 v H1 ax m d As g1.sh g1.wf r1 f1.1 (fun a ha=>(f1.2 a ha).1) q1⟩
def vm(i:Nat):WS:=fun E ρ=>match ρ[i]? with
 |some (some (.sh d))=>E.rt .sh d
 |some (some (.ow fl d))=>E.rt (.ow fl) d
 |_=>False
theorem SR.at{ρ:Env}{σ:St}{ag:List Addr}{i:Nat}{fl:Bool}{d:D}{Hs H:Hp}(s:SR K Hs H ρ σ ag)(e:ρ[i]? = some (some (.ow fl d))):∃ v As,σ[i]? = some (some v)/\As≠[]/\bP K Hs H fl d v As/\As.Sublist ag:=by
 induction s generalizing i with
 |nil=>simp at e
 |non s ih =>
  cases i with
  |zero=>simp at e
  |succ i=>exact ih e
 |sh r s ih =>
  cases i with
  |zero=>simp at e
  |succ i=>exact ih e
 |xc s ih =>
  cases i with
  |zero=>simp at e
  |succ i=>exact ih e
 |ow ne r s ih =>
  cases i with
  |zero=>simp at e;obtain⟨rfl,rfl⟩:=e;exact⟨_,_,rfl,ne,r,KW _ _⟩
  |succ i =>
   obtain⟨v,As,a,b,c,d⟩:=ih e
   exact⟨v,As,a,b,c,d.trans (oq _ _)⟩
 |lk ne r s ih =>
  cases i with
  |zero=>simp at e
  |succ i =>
   obtain⟨v,As,a,b,c,d⟩:=ih e
   exact⟨v,As,a,b,c,d.trans (oq _ _)⟩
theorem rC{i:Nat}(he:PE X e (EG i)):QS X K L (.Return (some e) pos) (vm i):=PS.imp (Va he) fun D σ H hx=>dO hx fun Hs ρ ag E sr h k1 k2 k3 k4=>by
 unfold vm at h
 split at h
 ·rename_i d e1
  obtain⟨v,e2,r⟩:=sr.sr.get e1
  exact⟨v,e2,k4 v H Hs .sh d [] (aT.refl _) sr.wf ⟨rfl,r⟩ n5 (fun a ha=>nomatch ha) h⟩
 ·rename_i fl d e1
  obtain⟨v,As,e2,ne,r,sb⟩:=sr.sr.at e1
  exact⟨v,e2,k4 v H Hs (.ow fl) d As (aT.refl _) sr.wf ⟨r,ne⟩ (sb.nodup sr.sQ) (fun a ha=>sr.own a (sb.subset ha)) h⟩
 ·exact h.elim
theorem aF{i:Nat}{x:Str}{pos':Pos}(hN:X.N.Nodup)(hi:X.N[i]? = some x)(hx:Loc X.env.scope x)(he:QE X K e te)(hs:swapsWith e (some (.Name x pos')) pos.line X.env=pure false:=by rfl)
  (hf:X.fn x=true\/X.env.scope.names.lookup x=some .local:=by first|exact .inl rfl|exact .inr rfl|assumption):QS X K L (.Assign [.Name x pos'] e pos) (dQ i te):=PS.imp (Rw hN hi hx he hs hf) fun D σ H hx=>dO hx fun Hs ρ ag E sr h k1 k2 k3 k4=>by
 refine⟨Hs,ρ,ag,_,sr,h,fun v H1 ax m d As g1 r1 f1 q1=>?_⟩
 have q1:match asg m d with
  |some sl=>E.nx (ρ.set i (some sl))
  |none=>False:=q1
 cases e:asg m d with
 |none=>rw[e] at q1;exact q1.elim
 |some sl =>
  rw[e] at q1
  obtain⟨b6,s'⟩:=(sr.grow g1).set i r1 f1.1 (fun a ha=>⟨(f1.2 a ha).1,fun m=>(sr.sr.own a m).ne (f1.2 a ha).2⟩) e
  exact k1 _ H1 ax _ b6 g1.sh s' q1
theorem gq(hc:QT X K c tc)(ha:zC X K L a t)(hb:zC X K L b u):QS X K L (.If c a b pos) (oo tc t u):=PS.imp (YS hc ha hb) fun D σ H hx=>nM hx fun Hs ρ ag E sr h k1 k2 k3 k4 kx=>by
 refine⟨Hs,ρ,ag,_,sr,h,fun k H1 ax g1 q1=>?_⟩
 have W3:∀ bE H' av bp b6,aT ax av->dE K av bp bE H' b6->E.nx bp->D.nx bE H':=fun ja H2 aw fe dz s2=>k1 ja H2 aw fe dz (g1.sh.trans s2)
 have W4:∀ bE H' av bp b6,aT ax av->dE K av bp bE H' b6->E.bk bp->D.bk bE H':=fun ja H2 aw fe dz s2=>k2 ja H2 aw fe dz (g1.sh.trans s2)
 have W5:∀ bE H' av bp b6,aT ax av->dE K av bp bE H' b6->E.ct bp->D.ct bE H':=fun ja H2 aw fe dz s2=>k3 ja H2 aw fe dz (g1.sh.trans s2)
 cases k with
 |true=>exact⟨ax,ρ,ag,E,sr.grow g1,q1,W3,W4,W5,(fun v H2 aw m d As s2=>k4 v H2 aw m d As (g1.sh.trans s2)),fun n H2 s2=>kx n H2 (g1.sh.trans s2)⟩
 |false=>exact⟨ax,ρ,ag,E,sr.grow g1,q1,W3,W4,W5,(fun v H2 aw m d As s2=>k4 v H2 aw m d As (g1.sh.trans s2)),fun n H2 s2=>kx n H2 (g1.sh.trans s2)⟩
def sT(Hs H:Hp)(As:List Addr):Hp:=fun a=>if a∈As then H a else Hs a
theorem gQ(n:∀ a∈As,Hs a=none):aT Hs (sT Hs H As):=fun a o e=>by
 unfold sT
 rw[if_neg fun m=>by rw[n a m] at e;cases e]
 exact e
theorem xX(w:Wf Hs H)(o:∀ a∈As,Own H a):Wf (sT Hs H As) H:=⟨fun a u e=>by
  unfold sT at e
  by_cases m:a∈As
  ·rw[if_pos m] at e;exact e
  ·rw[if_neg m] at e;exact w.sub a u e,fun a vs e=>by
  unfold sT
  rw[if_neg fun m=>(o a m).By e]
  exact w.ku a vs e⟩
def NK:Sl->Sl
 |.sh d=>.sh d
 |.ow _ d=>.sh d
 |.lk a fl d=>.lk a fl d
 |.xc a=>.xc a
def NM:Sl->Sl
 |.sh d=>.sh d
 |.ow _ d=>.sh d
 |.lk _ _ d=>.sh d
 |.xc a=>.xc a
def NP(i:Nat)(ρ:Env):Env:=match ρ[i]? with
 |some (some sl)=>ρ.set i (some (NK sl))
 |_=>ρ
theorem oE{As ag B t:List Addr}(n:(B++ag).Nodup)(a:As.Sublist ag)(c:∀ x∈As,x∉t):∀ x∈As,x∉B++t:=fun x hx m=>by
 obtain⟨n1,n2,n3⟩:=iS.mp n
 rcases dy.mp m with z|z
 ·exact n3 x z x (a.subset hx) rfl
 ·exact c x hx z
theorem SR.oa(i:Nat)(s:SR K Hs H ρ σ ag):ρ[i]? = some (some (.ow fl d))->ag.Nodup ->
  ∃ (As b6:List Addr),As.Sublist ag/\b6.Sublist ag/\(∀ a∈As,a∉b6)/\∀ av,aT Hs av->(∀ a∈As,av a=H a)->SR K av H (ρ.set i (some (.sh d))) σ b6:=by
 induction s generalizing i with
 |nil=>intro e;simp at e
 |non q ih =>
  intro e n
  cases i with
  |zero=>simp at e
  |succ i =>
   obtain⟨As,t,a,b,c,d⟩:=ih i e n
   exact⟨As,t,a,b,c,fun av s k=>.non (d av s k)⟩
 |sh r q ih =>
  intro e n
  cases i with
  |zero=>simp at e
  |succ i =>
   obtain⟨As,t,a,b,c,d⟩:=ih i e n
   exact⟨As,t,a,b,c,fun av s k=>.sh (r.same s) (d av s k)⟩
 |xc q ih =>
  intro e n
  cases i with
  |zero=>simp at e
  |succ i =>
   obtain⟨As,t,a,b,c,d⟩:=ih i e n
   exact⟨As,t,a,b,c,fun av s k=>.xc (d av s k)⟩
 |ow ne r q ih =>
  intro e n
  obtain⟨n1,n2,n3⟩:=iS.mp n
  cases i with
  |zero =>
   simp at e
   obtain⟨rfl,rfl⟩:=e
   exact⟨_,_,KW _ _,oq _ _,fun a h m=>n3 a h a m rfl,fun av s k=>.sh (r.rep s k) (q.fq s fun _ _=>rfl)⟩
  |succ i =>
   obtain⟨As,t,a,b,c,d⟩:=ih i e n2
   exact⟨As,_,a.trans (oq _ _),b.append_left _,oE n a c,fun av s k=>.ow ne (r.fq s fun _ _=>rfl) (d av s k)⟩
 |lk ne r q ih =>
  intro e n
  obtain⟨n1,n2,n3⟩:=iS.mp n
  cases i with
  |zero=>simp at e
  |succ i =>
   obtain⟨As,t,a,b,c,d⟩:=ih i e n2
   exact⟨As,_,a.trans (oq _ _),b.append_left _,oE n a c,fun av s k=>.lk ne (r.fq s fun _ _=>rfl) (d av s k)⟩
theorem dE.oa(i:Nat)(s:dE K Hs ρ σ H ag):∃ av b6,aT Hs av/\dE K av (NP i ρ) σ H b6:=by
 unfold NP
 split
 ·rename_i sl e
  have keep:NK sl=sl->∃ av b6,aT Hs av/\dE K av (ρ.set i (some (NK sl))) σ H b6:=fun hs=>by
   have e2:ρ.set i (some (NK sl))=ρ:=by
    apply AG
    intro j
    rw[List.getElem?_set]
    by_cases h:i=j
    ·subst h
     rw[if_pos rfl,e]
     have:i<ρ.length:=(i7.mp e).1
     simp[this,hs]
    ·rw[if_neg h]
   rw[e2]
   exact⟨Hs,ag,aT.refl _,s⟩
  cases sl with
  |sh d=>exact keep rfl
  |xc a=>exact keep rfl
  |lk a fl d=>exact keep rfl
  |ow fl d =>
   obtain⟨As,t,a,b,c,g⟩:=SR.oa i s.sr e s.sQ
   have hn:∀ a∈As,Hs a=none:=fun x hx=>s.own x (a.subset hx)
   have ho:∀ a∈As,Own H a:=fun x hx=>s.sr.own x (a.subset hx)
   refine⟨sT Hs H As,t,gQ hn,g _ (gQ hn) fun x hx=>by unfold sT;rw[if_pos hx],xX s.wf ho,b.nodup s.sQ,fun x hx=>?_⟩
   unfold sT
   rw[if_neg fun m=>c x m hx]
   exact s.own x (b.subset hx)
 ·exact⟨Hs,ag,aT.refl _,s⟩
def nL(i:Nat)(t:WS):WS:=fun E ρ=>t E (NP i ρ)
theorem zy{D:Ends}(h:zv K L (nL i t) D σ H):zv K L t D σ H:=by
 obtain⟨Hs,ρ,ag,E,sr,h,k1,k2,k3,k4,kx⟩:=h
 obtain⟨av,b6,s,Tb⟩:=sr.oa i
 exact⟨av,_,b6,E,Tb,h,fun ja H2 aw fe dz s2=>k1 ja H2 aw fe dz (s.trans s2),fun ja H2 aw fe dz s2=>k2 ja H2 aw fe dz (s.trans s2),fun ja H2 aw fe dz s2=>k3 ja H2 aw fe dz (s.trans s2),
  fun v H2 aw m d As s2=>k4 v H2 aw m d As (s.trans s2),fun n H2 s2=>kx n H2 (s.trans s2)⟩
theorem cO(i:Nat)(h:QS X K L st t):QS X K L st (nL i t):=PS.imp h fun D σ H h=>zy h
def kZ(ax H1 av H':Hp):Hp:=fun a=>match H' a with
 |some (.tup vs)=>some (.tup vs)
 |_=>match H1 a with
  |none=>av a
  |some _=>ax a
theorem fC(w:Wf ax H1)(s:aT H1 av)(w':Wf av H'):eJ ax H1 (kZ ax H1 av H') H':=by
 have sa:aT H1 H':=s.trans w'.sub
 have tp:∀ a vs,H' a=some (.tup vs)->kZ ax H1 av H' a=some (.tup vs):=fun a vs e=>by unfold kZ;rw[e]
 have nt:∀ a,(∀ vs,H' a≠some (.tup vs))->kZ ax H1 av H' a=match H1 a with
  |none=>av a
  |some _=>ax a:=fun a h=>by
  unfold kZ
  split
  ·rename_i vs e;exact absurd e (h vs)
  ·rfl
 refine⟨sa,fun a o e=>?_,⟨fun a o e=>?_,tp⟩,fun a h=>?_⟩
 ·have e1:=w.sub a o e
  have e2:=sa a o e1
  by_cases ht:∃ vs,o=.tup vs
  ·obtain⟨vs,rfl⟩:=ht
   exact tp a vs e2
  ·rw[nt a fun vs z=>ht ⟨vs,by rw[e2] at z;exact Option.some.inj z⟩,e1]
   exact e
 ·by_cases ht:∃ vs,H' a=some (.tup vs)
  ·obtain⟨vs,z⟩:=ht
   rw[tp a vs z] at e
   rw[z];exact e
  ·rw[nt a fun vs z=>ht ⟨vs,z⟩] at e
   cases q:H1 a with
   |none=>rw[q] at e;exact w'.sub a o e
   |some u =>
    rw[q] at e
    have:=w.sub a o e
    exact sa a o this
 ·cases q:H1 a with
  |none=>exact .inr rfl
  |some u =>
   refine .inl ?_
   by_cases ht:∃ vs,H' a=some (.tup vs)
   ·obtain⟨vs,z⟩:=ht
    have:=sa a u q
    rw[z] at this
    cases this
    rw[w.ku a vs q]
    exact fun z=>nomatch z
   ·rw[nt a fun vs z=>ht ⟨vs,z⟩,q] at h
    exact h
theorem wW{ax H1 av H':Hp}{a:Addr}(s:aT H1 av)(h:av a=none)(o:Own H' a):kZ ax H1 av H' a=none/\H1 a=none:=by
 have h1:=s.free h
 refine⟨?_,h1⟩
 unfold kZ
 split
 ·rename_i vs e;exact absurd e o.By
 ·rw[h1];exact h
def DM:Md->D->Md
 |.ow true,_=>.ow true
 |_,d=>bif d.flat then .sh else .bo
theorem oO(w:Wf ax H1)(s:aT H1 av)(w':Wf av H')(r:RM K av H' m d v As)(nd:As.Nodup)(own:∀ a∈As,av a=none) :
  ∃ fh,RM K (kZ ax H1 av H') H' (DM m d) d v fh/\cN (kZ ax H1 av H') H1 fh:=by
 have g:=fC w s w'
 have other:∃ fh,RM K (kZ ax H1 av H') H' (bif d.flat then .sh else .bo) d v fh/\cN (kZ ax H1 av H') H1 fh:=by
  cases hf:d.flat with
  |true=>exact⟨[],⟨rfl,(r.rep w').gw g.wf.ku hf⟩,cN.nil⟩
  |false=>exact⟨[],⟨rfl,r.rep w'⟩,cN.nil⟩
 cases m with
 |sh=>exact other
 |bo=>exact other
 |ow fl =>
  cases fl with
  |false=>exact other
  |true=>exact⟨As,⟨bP.leaves (fun a vs e=>g.wf.ku a vs (w'.sub _ _ e)) r.1,r.2⟩,nd,fun a h=>wW s (own a h) (r.own a h)⟩
abbrev kE:=List D->(Md->D->Prop)->Prop
def aA(K:PySem.W.Frag)(sp:kE):Sp:=fun vs H Qv _=>∃ ds Qd,aI K H ds vs/\sp ds Qd /\
 ∀ v H' av m d As,aT H av->Wf av H'->RM K av H' m d v As->As.Nodup->(∀ a∈As,av a=none)->Qd m d->Qv v H'
def bh(n:Nat)(ds:List D):Env:=ds.map (fun d=>some (.sh d))++List.replicate (n-ds.length) none
theorem SR.start(r:aI K H ds vs):SR K H H (ds.map (fun d=>some (.sh d))++List.replicate n none) (vs.map some++List.replicate n none) []:=by
 induction ds generalizing vs with
 |nil =>
  rw[r.n0]
  induction n with
  |zero=>exact .nil
  |succ n ih=>exact .non ih
 |cons d ds ih =>
  obtain⟨u,us,rfl,r,rs⟩:=r.c
  exact .sh r (ih rs)
theorem yr(h:aA K sp vs H Qv E)(hp:∀ ds Q,sp ds Q->t { nx:=fun _=>Q .sh .non,rt:=Q } (bh N.length ds)) :
  zv K L0 t { nx:=fun _ H'=>Qv .non H',rt:=Qv } (start N vs) H:=by
 obtain⟨ds,Qd,rs,hs,fin⟩:=h
 have hl:=rs.length
 refine⟨H,bh N.length ds,[],{ nx:=fun _=>Qd .sh .non,rt:=Qd },⟨?_,⟨aT.refl _,fun _ _ e=>e⟩,n5,fun a h=>nomatch h⟩,hp ds Qd hs,?_,?_,?_,?_,fun _ _ _ _=>trivial⟩
 ·unfold bh start
  rw[hl]
  exact SR.start rs
 ·exact fun bE H' av bp b6 s sr q=>fin .non H' av .sh .non [] s sr.wf ⟨rfl,.non⟩ n5 (fun a h=>nomatch h) q
 ·exact fun bE H' av bp b6 s sr q=>q.elim
 ·exact fun bE H' av bp b6 s sr q=>q.elim
 ·exact fun v H' av m d As s w r nd own q=>fin v H' av m d As s w r nd own q
theorem oD.ok{P:Program}{st:Stmt}{N ps:List Str}(F:kc K x qual st f fd)(S:lh N ps (cE st))(len:∀ ds Q,sp ds Q->ds.length=ps.length)
  (MA:∀ (eI:Value) (A:Around) (outer:List PySem.Env) (s:Shared) (H:Hp) (E:XK),mw k (A.deeper (envOfC qual (cE st) s.heap.objs.size f eI))->zC (EK i5 P w K mg base N qual (cE st) f eI A outer s H E).L8 K L0 (jS st) t)
  (hp:∀ ds Q,sp ds Q->t { nx:=fun _=>Q .sh .non,rt:=Q } (bh N.length ds)):iF P w K mg base i5 (k+1) f fd ps (aA K sp) :=
 F.ok S (fun vs H Q E ⟨ds,Qd,rs,hs,_⟩=>by rw[<- rs.length];exact len ds Qd hs) fun eI A outer s H vs Q E hr hs=>⟨_,MA eI A outer s H E hr,yr hs hp⟩
def aV(sp:kE)(t:WA):WE:=fun ρ Q=>t ρ fun ps=>sp (ps.map (·.2)) fun m d=>bS (m,d) (f:=fun p=>Q (DM p.1 p.2) p.2) ⟨⟩
theorem xr{sp:kE}{t:WA}{σ:St}{H:Hp}{Qv:VK}{E:XK}(h:mE K (aV sp t) σ H Qv):RK (aA K sp) [] E (WV K t) σ H Qv:=by
 obtain⟨Hs,ρ,ag,Q,sr,h,f⟩:=h
 refine⟨Hs,ρ,ag,_,sr,h,fun vs H1 ax ps As g1 r1 f1 q1=>?_⟩
 refine⟨_,_,by rw[n4];exact r1.reps g1.wf,q1,fun v H' av m d As s w r nd own q=>?_⟩
 obtain⟨fh,r',fr⟩:=oO g1.wf s w r nd own
 exact Fin.after f g1 v H' _ (DM m d) d fh (fC g1.wf s w) r' fr q
theorem a_ {k:Nat} {x:Str} {ps:List Str} {sp:kE} {p:Pos} {es:List Expr} {t:WA} (C:fF X.prog X.w X.K X.mg X.base k x ps (aA K sp)) (hr:mw k X.A) (ha:QA X K (e :: es) t) (hg:Gl X x:=by rfl) (rp:(x == ("__debug__" : Str))=false:=by decide) (he:starEach (e :: es) X.env=(false,eval e X.env) :: starEach es X.env:=by rfl)
  (nr:(backTo pos (starEach es X.env)).any (·.1)=false:=by rfl):QE X K (.Call (.Name x p) (e :: es) [] pos) (aV sp t):=PE.imp (FJ C hr ha hg rp he nr) fun σ H Qv h=>xr h
end
abbrev WG:=D->Env->(Env->Prop)->Prop
def Tc(K:PySem.W.Frag)(g:WG):TG:=fun v σ H Qv=>∃ Hs ρ ag d Q,dE K Hs ρ σ H ag/\Rep K Hs d v/\g d ρ Q/\∀ bE bp b6,dE K Hs bp bE H b6->(∀ a∈b6,a∈ag)->Q bp->Qv bE H
abbrev QG(X:Cx)(K:PySem.W.Frag)(e:Expr)(g:WG):Prop:=PG X e (Tc K g)
def gN(i:Nat):WG:=fun d ρ Q=>Q (ρ.set i (some (.sh d)))
abbrev E5:=List D->Env->(Env->Prop)->Prop
def cu'(K:PySem.W.Frag)(g:E5):CD:=fun vs σ H Qv=>∃ Hs ρ ag ds Q,dE K Hs ρ σ H ag/\aI K Hs ds vs/\g ds ρ Q/\∀ bE bp b6,dE K Hs bp bE H b6->(∀ a∈b6,a∈ag)->Q bp->Qv bE H
abbrev Qi(X:Cx)(K:PySem.W.Frag)(es:List Expr)(g:E5):Prop:=y3 X es (cu' K g)
def rW:E5:=fun ds ρ Q=>ds=[]/\Q ρ
def dJ(g:WG)(gs:E5):E5:=fun ds ρ Q=>match ds with
 |d :: ds=>g d ρ fun bp=>gs ds bp Q
 |[]=>False
def gT(n:Nat)(gs:E5):WG:=fun d ρ Q=>match d with
 |.tup ds=>ds.length=n/\gs ds ρ Q
 |_=>False
section
variable {X:Cx}{K:PySem.W.Frag}{e:Expr}{es:List Expr}{g:WG}{gs:E5}{pos:Pos}
theorem PG.imp(h:PG X e t)(i:∀ v σ H Q,t' v σ H Q->t v σ H Q):PG X e t':=fun pins s σ H v u Q I r q=>h pins s σ H v u Q I r (i v σ H Q q)
theorem y3.imp(h:y3 X es t)(i:∀ v σ H Q,t' v σ H Q->t v σ H Q):y3 X es t':=fun pins s σ H v u Q I r q=>h pins s σ H v u Q I r (i v σ H Q q)
theorem dE.Aq(i:Nat)(s:dE K Hs ρ σ H ag)(r:Rep K Hs d v):∃ b6,(∀ a∈b6,a∈ag)/\dE K Hs (ρ.set i (some (.sh d))) (σ.set i (some v)) H b6:=by
 obtain⟨t,a,b⟩:=s.sr.yg r i
 exact⟨t,fun x hx=>a.subset hx,b,s.wf,a.nodup s.sQ,fun x hx=>s.own x (a.subset hx)⟩
theorem aD(hN:X.N.Nodup)(hi:X.N[i]? = some x)(hx:Loc X.env.scope x)(hf:X.fn x=true\/X.env.scope.names.lookup x=some .local:=by first|exact .inl rfl|exact .inr rfl|assumption):QG X K (.Name x pos) (gN i) :=
 PG.imp (Rt hN hi hx hf) fun v σ H Qv cK=>by
  obtain⟨Hs,ρ,ag,d,Q,sr,r,h,k⟩:=cK
  obtain⟨t,m,s⟩:=sr.Aq i r
  exact k _ _ t s m h
theorem nu:Qi X K [] rW:=y3.imp Vb fun v σ H Qv cK=>by
 obtain⟨Hs,ρ,ag,ds,Q,sr,r,h,k⟩:=cK
 obtain⟨rfl,h⟩:=h
 cases r
 exact⟨rfl,k σ ρ ag sr (fun _ z=>z) h⟩
theorem cu(h1:QG X K e g)(h2:Qi X K es gs)(hs:(assignEach (e :: es) X.env).map (·.2)=assign e X.env :: (assignEach es X.env).map (·.2):=by rfl):Qi X K (e :: es) (dJ g gs) :=
 y3.imp (Ru h1 h2 hs) fun v σ H Qv cK=>by
  obtain⟨Hs,ρ,ag,ds,Q,sr,r,h,k⟩:=cK
  cases r with
  |nil=>exact h.elim
  |cons r rs=>exact⟨_,_,rfl,Hs,ρ,ag,_,_,sr,r,h,fun ja fe dz fT m2 q2=>⟨Hs,fe,dz,_,Q,fT,rs,q2,fun pz yb Td Te m3=>k pz yb Td Te fun a h=>m2 a (m3 a h)⟩⟩
theorem ue(hc:X.calm=true)(h:Qi X K es gs)(hn:(assignEach es X.env).length=n:=by rfl)(kH:(assignEach es X.env).findIdx? (·.1)=none:=by rfl):QG X K (.Tuple es k pos) (gT n gs) :=
 PG.imp (Vc hc h hn kH) fun v σ H Qv cK=>by
  obtain⟨Hs,ρ,ag,d,Q,sr,r,h,k⟩:=cK
  cases r with
  |tup z e rs=>exact⟨_,_,rfl,.inl (.inl (sr.wf.sub _ _ e)),by rw[<- rs.length];exact h.1,Hs,ρ,ag,_,Q,sr,rs,h.2,k⟩
  |_=>exact h.elim
end
abbrev WI:=Env->(List D->Prop)->Prop
structure qO(K:PySem.W.Frag)(J:It)(ds:List D)(C:Hp->Hp->Prop):Prop where
 go:∀ i Hs H,C Hs H->Wf Hs H->i<ds.length->J.go i H
 nh:∀ i Hs H x H' d,C Hs H->Wf Hs H->ds[i]? = some d->J.nh i H x H'->∃ av,eJ Hs H av H'/\Rep K av d x
 stop:∀ Hs H,C Hs H->Wf Hs H->J.stop ds.length H
abbrev wK(K:PySem.W.Frag)(Hs:Hp)(J:It)(ds:List D):Prop:=qO K J ds fun G _=>aT Hs G
section
variable {K:PySem.W.Frag}{Hs:Hp}{J:It}{ds:List D}{C C':Hp->Hp->Prop}{a:Addr}
theorem qO.imp(S:qO K J ds C)(h:∀ Hs H,C' Hs H->C Hs H):qO K J ds C':=⟨fun i Hs H c=>S.go i Hs H (h _ _ c),fun i Hs H x H' d c=>S.nh i Hs H x H' d (h _ _ c),fun Hs H c=>S.stop Hs H (h _ _ c)⟩
theorem qO.seq(rs:aI K Hs ds vs)(S:pL J vs fun H=>aT Hs H):wK K Hs J ds where
 go:=fun i G H s w h=>S.go i H (s.trans w.sub) (by rw[<- rs.length];exact h)
 nh:=fun i G H x H' d s w h y=>by
  have hi:i<ds.length:=by
   rcases D9 i ds.length with q|q
   ·exact q
   ·rw[sM q] at h;cases h
  obtain⟨e,z⟩:=S.nh i H x H' (s.trans w.sub) (by rw[<- rs.length];exact hi) y
  subst e
  obtain⟨d',ed,rd⟩:=rs.WM z
  rw[h] at ed;cases ed
  exact⟨G,eJ.refl w,rd.same s⟩
 stop:=fun G H s w=>by rw[rs.length];exact S.stop H (s.trans w.sub)
abbrev Bg(K:PySem.W.Frag)(a:Addr)(ds:List D)(C:Hp->Hp->Prop):Prop:=∀ Hs H,C Hs H->Wf Hs H->∃ vs,eK K H a vs/\aI K Hs ds vs
theorem qO.list(h:Bg K a ds C):qO K (Ph K a) ds C where
 go:=fun i G H c w hi=>by
  obtain⟨vs,q,rs⟩:=h G H c w
  exact⟨vs,vs[i]'(by rw[<- rs.length];exact hi),q,by simp⟩
 nh:=fun i G H x H' d c w hd y=>by
  obtain⟨vs,q,rs⟩:=h G H c w
  obtain⟨rfl,y⟩:=y
  obtain⟨d',ed,rd⟩:=rs.WM (y vs q)
  rw[hd] at ed;cases ed
  exact⟨G,eJ.refl w,rd⟩
 stop:=fun G H c w=>by
  obtain⟨vs,q,rs⟩:=h G H c w
  exact⟨vs,q,by rw[rs.length];exact bT _⟩
theorem xx(s:eK K Hs a vs)(rs:aI K Hs ds vs):Bg K a ds fun G _=>aT Hs G:=fun G H c w=>⟨vs,aT.seq (c.trans w.sub) s,rs.same c⟩
end
def tpI(K:PySem.W.Frag)(wi:WI):TI:=fun σ H R=>∃ Hs ρ ag Q,dE K Hs ρ σ H ag/\wi ρ Q/\∀ J H' av ds,eJ Hs H av H'->wK K av J ds->ds.length<=sizeLine->Q ds->R J H'
abbrev QI(X:Cx)(K:PySem.W.Frag)(tg iter:Expr)(wi:WI):Prop:=PI X tg iter (tpI K wi)
def qN:Md->Prop
 |.bo=>False
 |_=>True
def gB(te:WE):WI:=fun ρ Q=>te ρ fun m d=>qN m/\match d with
 |.list xs=>Q xs
 |_=>False
def qj(lo:Int)(n:Nat):List D:=(List.range n).map fun i=>.int (lo+(i:Nat))
def b_(te:WE):WI:=fun ρ Q=>te ρ fun _ d=>match d with
 |.int j=>j<=16777216/\-(2 ^ 62)<=j/\Q (qj 0 j.toNat)
 |_=>False
section
variable {X:Cx}{K:PySem.W.Frag}{e e2 tg:Expr}{te IQ:WE}{pos p:Pos}
theorem PI.imp(h:PI X tg iter t)(i:∀ σ H R,t' σ H R->t σ H R):PI X tg iter t':=fun pins s σ H R I q=>h pins s σ H R I (i σ H R q)
theorem pL.imp{J:It}(s:pL J vs c)(h:∀ H,c' H->c H):pL J vs c':=⟨fun i H q=>s.go i H (h H q),fun i H x H' q=>s.nh i H x H' (h H q),fun H q=>s.stop H (h H q)⟩
theorem RM.Dh(g:eJ Hs H ax H1)(r:RM K ax H1 m d v As)(f:cN ax H As)(h:qN m):∃ aw,eJ Hs H aw H1/\Rep K aw d v:=by
 cases m with
 |sh=>exact⟨ax,g,r.2⟩
 |bo=>exact h.elim
 |ow fl =>
  have n:∀ a∈As,ax a=none:=fun a ha=>(f.2 a ha).1
  have o:=r.own
  refine⟨sT ax H1 As,⟨g.all,g.sh.trans (gQ n),xX g.wf o,fun a h=>?_⟩,bP.rep (gQ n) r.1 fun a ha=>by unfold sT;rw[if_pos ha]⟩
  unfold sT at h
  by_cases m:a∈As
  ·exact .inr (f.2 a m).2
  ·rw[if_neg m] at h;exact g.new a h
theorem gK(he:QE X K e te)(hK:X.K=K:=by rfl):QI X K tg e (gB te):=by
 subst hK
 refine PI.imp (Vf he) fun σ H R hx=>iN hx fun Hs ρ ag Q sr h k=>⟨Hs,ρ,ag,_,sr,h,fun v H1 ax m d As g1 r1 f1 q1=>?_⟩
 obtain⟨nb,q1⟩:=q1
 obtain⟨aw,g2,r2⟩:=r1.Dh g1 f1 nb
 cases r2 with
 |list z s rs=>exact⟨_,rfl,⟨_,aT.seq g2.wf.sub s⟩,k _ H1 aw _ g2 (.seq rs (pL.imp (z8 X.K _ _) fun H' s'=>aT.seq s' s)) (by rw[rs.length];exact z) q1⟩
 |_=>exact q1.elim
theorem oV(lo:Int):∀ (l:List Nat),aI K H (l.map fun i=>.int (lo+(i:Nat))) (l.map fun i=>V.int (lo+(i:Nat)))
 |[]=>.nil
 |c :: l=>.cons (.int _) (oV lo l)
theorem bD (hm:X.mg "range" = none) (he:QE X K e te) (hg:Gl X "range" := by rfl) (hs:starEach [e] X.env=(false,eval e X.env) :: starEach [] X.env:=by rfl) (gL:starEach [e] X.env=[(false,eval e X.env)]:=by rfl):QI X K tg (.Call (.Name "range" p) [e] [] pos) (b_ te):=by
 refine PI.imp (Y5 hg hm (rh he vT hs) gL) fun σ H R hx=>iN hx fun Hs ρ ag Q sr h k=>⟨Hs,ρ,ag,_,sr,h,fun v H1 ax m d As g1 r1 f1 q1=>?_⟩
 have r:=r1.rep g1.wf
 cases r with
 |int j =>
  obtain⟨h1,h2,q1⟩:=q1
  exact⟨j,rfl,h2,by lia,k _ H1 ax _ g1 (.seq (oV 0 _) (pL.imp (DG _ _) fun _ _=>trivial)) (by rw[b4,Q8,sizeLine_eq];lia) q1⟩
 |_=>exact q1.elim
section
variable {X:Cx}{K:PySem.W.Frag}{e tg:Expr}{te:WE}
def Tf(K:PySem.W.Frag)(wi:WI):TI:=fun σ H R=>∃ Hs ρ ag Q,dE K Hs ρ σ H ag/\wi ρ Q/\∀ J H' av ds,eJ Hs H av H'->wK K H' J ds->ds.length<=sizeLine->Q ds->R J H'
abbrev IU(X:Cx)(K:PySem.W.Frag)(tg iter:Expr)(wi:WI):Prop:=PI X tg iter (Tf K wi)
theorem gY(h:QI X K tg iter wi):IU X K tg iter wi:=PI.imp h fun σ H R hx=>iN hx fun Hs ρ ag Q sr h k=>⟨Hs,ρ,ag,Q,sr,h,fun J H' av ds g w z q=>k J H' av ds g (w.imp fun G H s=>g.wf.sub.trans s) z q⟩
def dW(te:WE):WI:=fun ρ Q=>te ρ fun _ d=>match d with
 |.list xs=>Q xs
 |_=>False
theorem dI(he:QE X K e te)(hK:X.K=K:=by rfl):IU X K tg e (dW te):=by
 subst hK
 refine PI.imp (Vf he) fun σ H R hx=>iN hx fun Hs ρ ag Q sr h k=>⟨Hs,ρ,ag,_,sr,h,fun v H1 ax m d As g1 r1 f1 q1=>?_⟩
 have r:=r1.rep g1.wf
 cases r with
 |list z s rs=>exact⟨_,rfl,⟨_,s⟩,k _ H1 ax _ g1 (.list (xx s rs)) (by rw[rs.length];exact z) q1⟩
 |_=>exact q1.elim
end
def oX(g:WG)(b:WS)(E:nT):List D->Env->Prop
 |[],ρ=>E.nx ρ
 |x :: xs,ρ=>g x ρ fun iO=>b { E with nx:=oX g b E xs,ct:=oX g b E xs,bk:=E.nx } iO
def qc(wi:WI)(g:WG)(b:WS):WS:=fun E ρ=>wi ρ fun ds=>oX g b E ds ρ
variable {wi:WI}{g:WG}{b:WS}{body:List Stmt}
theorem dw(hp:PassesOwn (model X.prog X.w) X.A X.env X.xe)(hc:X.calm=true)(hi:QI X K tg iter wi)(hg:QG X K tg g)(hb:zC X K L body b)(hs:∀ x,foldedSetIterable iter X.env x=pure x:=by intro _;rfl) :
  QS X K L (.For tg iter body [] pos) (qc wi g b):=by
 refine PS.imp (Y7 hp hc hi hg hb hs) fun D σ H hx=>nM hx fun Hs ρ ag E sr h k1 k2 k3 k4 kx=>?_
 rw[Ek]
 refine⟨Hs,ρ,ag,_,sr,h,fun J H1 ax ds g1 S hz q1=>?_⟩
 refine⟨fun i m σ H=>m=ds.length-i/\i<=ds.length/\∃ av bp b6,aT ax av/\dE K av bp σ H b6/\oX g b E (ds.drop i) bp,⟨ds.length,by simp,eh _,ax,ρ,ag,aT.refl _,sr.grow g1,by simpa using q1⟩,?_⟩
 rintro i m ja H2 ⟨rfl,hi,aw,fe,dz,s2,fT,q2⟩
 by_cases dc:i<ds.length
 ·refine .inr ⟨S.go i aw H2 s2 fT.wf dc,fun pz H3=>∃ av bp b6,aT ax av/\dE K av bp pz H3 b6/\oX g b E (ds.drop (i+1)) bp,fun pz H3 h3=>⟨ds.length-(i+1),by lia,rfl,dc,h3⟩,fun x H3 y=>?_⟩
  obtain⟨dv,g3,rd⟩:=S.nh i aw H2 x H3 ds[i] s2 fT.wf (by simp[dc]) y
  rw[vt dc] at q2
  have s3:=s2.trans g3.sh
  refine⟨dv,fe,dz,ds[i],_,fT.grow g3,rd,q2,fun σ4 kf NQ E6 _ q4=>?_⟩
  refine⟨dv,kf,NQ,_,E6,q4,?_,?_,?_,?_,fun n H5 s5=>kx n H5 ((g1.sh.trans s3).trans s5)⟩
  ·exact fun E7 H5 mh yi yk s5 yn q5=>⟨mh,yi,yk,s3.trans s5,yn,q5⟩
  ·exact fun E7 H5 mh yi yk s5 yn q5=>k1 E7 H5 mh yi yk ((g1.sh.trans s3).trans s5) yn q5
  ·exact fun E7 H5 mh yi yk s5 yn q5=>⟨mh,yi,yk,s3.trans s5,yn,q5⟩
  ·exact fun v H5 mh m d As s5=>k4 v H5 mh m d As ((g1.sh.trans s3).trans s5)
 ·have e:i=ds.length:=by lia
  subst e
  refine .inl ⟨S.stop aw H2 s2 fT.wf,?_⟩
  rw[OO] at q2
  exact k1 ja H2 aw fe dz (g1.sh.trans s2) fT q2
theorem b8(xs:List D)(Pv:Nat->Env->Prop)(h0:Pv 0 ρ)
  (hs:∀ i x ρ,xs[i]? = some x->Pv i ρ->∀ N:Env->Prop,(∀ bp,Pv (i+1) bp->N bp)->g x ρ fun iO=>b { E with nx:=N,ct:=N,bk:=E.nx } iO)
  (hd:∀ ρ,Pv xs.length ρ->E.nx ρ):oX g b E xs ρ:=by
 have go:∀ (k i:Nat) (ρ:Env),i+k=xs.length->Pv i ρ->oX g b E (xs.drop i) ρ:=by
  intro k
  induction k with
  |zero =>
   intro i ρ e p
   have:i=xs.length:=by lia
   subst this
   rw[OO]
   exact hd ρ p
  |succ k ih =>
   intro i ρ e p
   have hi:i<xs.length:=by lia
   rw[vt hi]
   exact hs i xs[i] ρ (by simp[hi]) p _ fun fe h2=>ih (i+1) fe (by lia) h2
 have:=go xs.length 0 ρ (by lia) h0
 simpa using this
def wF(c:WT)(b:WS):WS:=fun E ρ=>∃ (Pv:Env->Prop) (μ:Env->Nat),Pv ρ/\∀ ρ,Pv ρ->c ρ fun k=>if k=true then b { E with nx:=fun bp=>Pv bp/\μ bp<μ ρ,ct:=fun bp=>Pv bp/\μ bp<μ ρ,bk:=E.nx } ρ else E.nx ρ
theorem um(hp:PassesOwn (model X.prog X.w) X.A X.env X.xe)(hc:QT X K c tc)(hb:zC X K L body b):QS X K L (.While c body [] pos) (wF tc b):=by
 refine PS.imp (YZ hp hc hb) fun D σ H hx=>nM hx fun Hs ρ ag E sr h k1 k2 k3 k4 kx=>?_
 obtain⟨Pv,μ,p0,turn⟩:=h
 refine⟨fun m σ H=>∃ av bp b6,aT Hs av/\dE K av bp σ H b6/\Pv bp/\μ bp=m,⟨_,Hs,ρ,ag,aT.refl _,sr,p0,rfl⟩,?_⟩
 rintro m ja H2 ⟨aw,fe,dz,s2,fT,p2,rfl⟩
 refine⟨aw,fe,dz,_,fT,turn fe p2,fun k H3 dv g3 q3=>?_⟩
 cases k with
 |false=>exact k1 ja H3 dv fe dz (s2.trans g3.sh) (fT.grow g3) q3
 |true =>
  refine⟨fun bE H'=>∃ av bp b6,aT Hs av/\dE K av bp bE H' b6/\Pv bp/\μ bp<μ fe,fun bE H' ⟨av,bp,b6,a,b,c,d⟩=>⟨μ bp,d,av,bp,b6,a,b,c,rfl⟩,?_⟩
  have s3:aT Hs dv:=s2.trans g3.sh
  refine⟨dv,fe,dz,_,fT.grow g3,q3,?_,?_,?_,?_,fun n H5 s5=>kx n H5 (s3.trans s5)⟩
  ·exact fun E7 H5 mh yi yk s5 yn q5=>⟨mh,yi,yk,s3.trans s5,yn,q5.1,q5.2⟩
  ·exact fun E7 H5 mh yi yk s5 yn q5=>k1 E7 H5 mh yi yk (s3.trans s5) yn q5
  ·exact fun E7 H5 mh yi yk s5 yn q5=>⟨mh,yi,yk,s3.trans s5,yn,q5.1,q5.2⟩
  ·exact fun v H5 mh m d As s5=>k4 v H5 mh m d As (s3.trans s5)
end
def mI:WT:=fun _ Q=>Q true
def NR(m:Md)(d:D):Prop:=d.flat=true\/m=.ow true
def iu(g:WG)(tc:WT)(te:WE):List D->Env->(List D->Prop)->Prop
 |[],_,k=>k []
 |x :: xs,ρ,k=>g x ρ fun iO=>tc iO fun b=>if b=true then te iO fun m d=>NR m d/\iu g tc te xs iO (fun out=>k (d :: out)) else iu g tc te xs iO k
def uT(tn:Nat)(ix:List Nat)(ρ:Env):Env:=List.replicate tn none++ix.map fun j=>(ρ[j]?).join.map NM
def cY(wi:WI)(g:WG)(tc:WT)(te:WE)(tn:Nat)(ix:List Nat):WE:=fun ρ Q=>wi ρ fun ds=>iu g tc te ds (uT tn ix ρ) fun out=>Q (.ow true) (.list out)
section
variable {X:Cx}{K:PySem.W.Frag}
theorem iG{Hs H G:Hp}(sr:dE K Hs ρ σ H ag)(G':Hp):∀ (ix:List Nat),SR K H G' (ix.map fun j=>(ρ[j]?).join.map NM) (ix.map fun j=>(σ[j]?).join) []
 |[]=>.nil
 |j :: ix=>by
  have ih:=iG sr G' ix (G:=G)
  simp only[fi]
  cases e:ρ[j]? with
  |none=>exact .non ih
  |some o =>
   cases o with
   |none=>exact .non ih
   |some sl =>
    obtain⟨v,e1,r⟩:=sr.sr.get e
    rw[e1]
    cases sl with
    |sh d=>exact .sh (Rep.same sr.wf.sub r) ih
    |xc a=>subst r;exact .xc ih
    |ow fl d =>
     obtain⟨As,_,r,_⟩:=r
     exact .sh (r.rep sr.wf.sub fun _ _=>rfl) ih
    |lk a fl d =>
     obtain⟨As,_,r,_⟩:=r
     exact .sh (r.rep sr.wf.sub fun _ _=>rfl) ih
theorem kO(s:SR K H G ρ σ []):∀ (n:Nat),SR K H G (List.replicate n none++ρ) (List.replicate n none++σ) []
 |0=>s
 |n+1=>.non (kO s n)
theorem SR.heap(s:SR K Hs H ρ σ []):SR K Hs H' ρ σ []:=s.fq (aT.refl _) fun a h=>nomatch h
theorem tH(w:Wf Hs H)(n:Hs p=none)(ho:∀ vs,o≠.tup vs):Wf Hs (upd H p o):=⟨fun b u q=>by
  rw[fm (fun z=>by subst z;rw[n] at q;cases q)];exact w.sub b u q,fun b us q=>by
  by_cases hb:b=p
  ·subst hb;rw[gX] at q;exact absurd (Option.some.inj q) (ho us)
  ·rw[fm hb] at q;exact w.ku b us q⟩
structure CompI(K:PySem.W.Frag)(H1:Hp)(b:Addr)(acc:List D)(ys:List V)(As:List Addr)(Hs:Hp)(ρ:Env)(τ:St)(H:Hp):Prop where
 sm:aT H1 Hs
 sr:dE K Hs ρ τ H []
 eD:H b=some (.lst ys)
 nD:Hs b=none
 ra:az K Hs H true acc ys As
 nd:(b :: As).Nodup
 own:∀ a∈As,Hs a=none
theorem CompI.grow(c:CompI K H1 b acc ys As Hs ρ τ H)(g:eJ Hs H av H'):CompI K H1 b acc ys As av ρ τ H' :=
 ⟨c.sm.trans g.sh,c.sr.grow g,g.all _ _ c.eD,g.lP c.nD (by rw[c.eD];exact fun z=>nomatch z),c.ra.grow g.sh g.all,c.nd,fun a ha=>g.lP (c.own a ha) (c.ra.own a ha).ne⟩
theorem CompI.push(c:CompI K H1 b acc ys As Hs ρ τ H)(r:RM K Hs H m d v Bs)(ok:NR m d)(nb:Bs.Nodup)(fb:∀ a∈Bs,Hs a=none/\a∉b :: As):∃ fh,CompI K H1 b (acc++[d]) (ys++[v]) fh Hs ρ τ (upd H b (.lst (ys++[v]))):=by
 obtain⟨B,sb,rb⟩:∃ B,B.Sublist Bs/\bP K Hs H true d v B:=by
  rcases ok with hf|rfl
  ·exact⟨[],B3 _,.sh (fun _=>hf) (r.flat c.sr.wf hf)⟩
  ·exact⟨Bs,List.Sublist.refl _,r.1⟩
 obtain⟨na,nA⟩:=iA.mp c.nd
 have Bi:=fun a ha=>fb a (sb.subset ha)
 refine⟨As++(B++[]),c.sm,⟨c.sr.sr.heap,tH c.sr.wf c.nD (fun _ z=>nomatch z),n5,fun a h=>nomatch h⟩,gX,c.nD,(c.ra.fq (H':=upd H b (.lst (ys++[v]))) (aT.refl _) fun a ha=>fm fun z=>na (by subst z;exact ha)).append (.cons (rb.fq (aT.refl _) fun a ha=>fm fun z=>(Bi a ha).2 (by subst z;exact bX)) .nil),?_,?_⟩
 ·rw[n4]
  refine iA.mpr ⟨fun m=>(dy.mp m).elim na fun m=>(Bi b m).2 bX,iS.mpr ⟨nA,sb.nodup nb,fun x hx y hy e=>(Bi y hy).2 (e ▸ b5 _ hx)⟩⟩
 ·rw[n4]
  exact fun a ha=>(dy.mp ha).elim (c.own a) fun m=>(Bi a m).1
theorem jP(h:mE K (cY wi g tc te tn ix) σ H Qv):p_ (Tf K wi) (Tc K g) (zt K tc) (mE K te) tn ix σ H Qv:=by
 obtain⟨Hs,ρ,ag,Q,sr,h,f⟩:=h
 rw[tL]
 refine⟨Hs,ρ,ag,_,sr,h,fun J H1 ax ds g1 S hz q1 b hb=>?_⟩
 have st:CompI K H1 b [] [] [] H1 (uT tn ix ρ) (lH tn ix σ) (upd H1 b (.lst [])):=by
  refine⟨aT.refl _,⟨kO (iG (G:=H1) (sr.grow g1) _ ix) tn,⟨(aT.refl H1).upd hb,fun a xs e=>?_⟩,n5,fun a h=>nomatch h⟩,gX,hb,.nil,by simp,fun a h=>nomatch h⟩
  by_cases ha:a=b
  ·subst ha;rw[gX] at e;cases e
  ·rw[fm ha] at e;exact e
 refine⟨fun i m τ H2=>m=ds.length-i/\i<=ds.length/\∃ aw fe acc ys As,CompI K H1 b acc ys As aw fe τ H2/\acc.length<=i/\iu g tc te (ds.drop i) fe (fun out=>Q (.ow true) (.list (acc++out))),
  ⟨ds.length,by simp,eh _,H1,_,[],[],[],st,bT _,by simpa using q1⟩,?_⟩
 rintro i m τ H2 ⟨rfl,hi,aw,fe,acc,ys,As,c,la,q2⟩
 by_cases dc:i<ds.length
 ·refine .inr ⟨S.go i aw H2 c.sm c.sr.wf dc,
   fun uS v H4=>∃ Bn kf d,CompI K H1 b acc ys As Bn kf uS H4/\(∃ fh,CompI K H1 b (acc++[d]) (ys++[v]) fh Bn kf uS (upd H4 b (.lst (ys++[v]))))/\iu g tc te (ds.drop (i+1)) kf (fun out=>Q (.ow true) (.list (acc++d :: out))),
   fun uS H3=>∃ dv yb,CompI K H1 b acc ys As dv yb uS H3/\iu g tc te (ds.drop (i+1)) yb (fun out=>Q (.ow true) (.list (acc++out))),?_,?_,?_⟩
  ·rintro uS v H4 ⟨Bn,kf,d,c4,⟨fh,c5⟩,q4⟩
   have Tg:=c4.ra.length
   exact⟨ys,ds.length-(i+1),c4.eD,by lia,by lia,rfl,dc,Bn,kf,acc++[d],ys++[v],fh,c5,by rw[pd];simpa using la,by simpa using q4⟩
  ·rintro uS H3 ⟨dv,yb,c3,q3⟩
   exact⟨ds.length-(i+1),by lia,rfl,dc,dv,yb,acc,ys,As,c3,by lia,q3⟩
  ·intro x H3 y
   obtain⟨dv,g3,rd⟩:=S.nh i aw H2 x H3 ds[i] c.sm c.sr.wf (by simp[dc]) y
   rw[vt dc] at q2
   have c3:=c.grow g3
   refine⟨dv,fe,[],ds[i],_,c3.sr,rd,q2,fun Ti kf NQ E6 m4 q4=>?_⟩
   have t4:NQ=[]:=UH.mpr fun a ha=>nomatch m4 a ha
   subst t4
   have c4:CompI K H1 b acc ys As dv kf Ti H3:=⟨c3.sm,E6,c3.eD,c3.nD,c3.ra,c3.nd,c3.own⟩
   refine⟨dv,kf,[],_,E6,q4,fun k H5 mh g5 q5=>?_⟩
   have c5:=c4.grow g5
   cases k with
   |false=>exact⟨mh,kf,c5,q5⟩
   |true =>
    refine⟨mh,kf,[],_,c5.sr,q5,fun v H6 Tj m6 d6 As6 g6 r6 f6 q6=>?_⟩
    have c6:=c5.grow g6
    refine⟨Tj,kf,d6,c6,c6.push r6 q6.1 f6.1 fun a ha=>⟨(f6.2 a ha).1,fun m=>?_⟩,q6.2⟩
    rcases cy.mp m with rfl|m
    ·have:=(f6.2 _ ha).2
     rw[c5.eD] at this;cases this
    ·exact(c5.ra.own a m).ne (f6.2 a ha).2
 ·have e:i=ds.length:=by lia
  subst e
  refine .inl ⟨S.stop aw H2 c.sm c.sr.wf,?_⟩
  rw[OO] at q2
  have q2:Q (.ow true) (.list (acc++[])):=q2
  rw[n4] at q2
  have Tg:=c.ra.length
  have rm:RM K aw H2 (.ow true) (.list acc) (.ref b) (b :: As):=⟨.list (by lia) c.eD c.ra,by simp⟩
  obtain⟨fh,r',fr⟩:=oO g1.wf c.sm c.sr.wf rm c.nd fun a ha=>(cy.mp ha).elim (fun z=>z ▸ c.nD) (c.own a)
  exact Fin.after f g1 (.ref b) H2 _ (.ow true) (.list acc) fh (fC g1.wf c.sm c.sr.wf) r' fr q2
theorem wa.imp(h:wa X ifs t)(i:∀ σ H Q,t' σ H Q->t σ H Q):wa X ifs t':=fun pins s σ H Q I q=>h pins s σ H Q I (i σ H Q q)
abbrev IX(X:Cx)(K:PySem.W.Frag)(ifs:List Expr)(t:WT):Prop:=wa X ifs (zt K t)
theorem aZ:IX X K [] mI:=wa.imp CT fun σ H Qv hx=>iN hx fun Hs ρ ag Q sr h k=>k true H Hs (eJ.refl sr.wf) h
theorem Ew(h:QT X K c t):IX X K [c] t:=Ca h
theorem dM(hc:X.calm=true)(hi:IU X K tg iter wi)(O:aO X scope tn cn ix)
  (hg:∀ C fp ck cw,QG (bQ X scope C (tn++cn) fp ck cw) K tg g) (jI:∀ C fp ck cw,IX (bQ X scope C (tn++cn) fp ck cw) K ifs tc) (he:∀ C fp ck cw,QE (bQ X scope C (tn++cn) fp ck cw) K elt te)
  (hs:∀ x,foldedSetIterable iter X.env x=pure x:=by intro _;rfl):QE X K (.ListComp elt [⟨tg,iter,ifs,0⟩] scope pos) (cY wi g tc te tn.length ix) :=
 PE.imp (xT hc hi O hg jI he hs) fun σ H Qv h=>jP h
end
theorem bM(p:D->Bool)(f:D->D)(Iv:Env->Prop):∀ (xs:List D) (ρ:Env) (k:List D->Prop),Iv ρ ->
  (∀ x∈xs,∀ ρ,Iv ρ->∀ N1:Env->Prop,∀ N2:Env->D->Prop,(∀ bp,Iv bp->p x=false->N1 bp)->(∀ bp,Iv bp->p x=true->N2 bp (f x))->g x ρ fun iO=>tc iO fun b=>if b=true then te iO fun m d=>NR m d/\N2 iO d else N1 iO) ->
  k ((xs.filter p).map f)->iu g tc te xs ρ k
 |[],_,k,_,_,h=>h
 |x :: xs,ρ,k,iv,hs,h=>by
  refine hs x bX ρ iv _ _ (fun bp Bz hp=>?_) (fun bp Bz hp=>?_)
  ·exact bM p f Iv xs bp k Bz (fun y hy=>hs y (b5 _ hy)) (by simpa[hp] using h)
  ·exact bM p f Iv xs bp _ Bz (fun y hy=>hs y (b5 _ hy)) (by simpa[hp] using h)
def Upd(K:PySem.W.Frag)(Hs H:Hp)(σ:St)(fl:Bool)(v:V)(up:Bool->D->Env)(fh:List Addr):Prop:=∀ aw H2 fl2 d2 gd,aT Hs aw->Wf aw H2->(∀ a,Hs a=none->H a≠none->aw a=none)->(fl2=true->fl=true) ->
  bP K aw H2 fl2 d2 v gd->gd≠[]->gd.Nodup->(∀ a∈gd,aw a=none/\(a∈fh\/H a=none))->(∀ a,H a≠none->a∉fh->H2 a=H a)->∃ dz,dE K aw (up fl2 d2) σ H2 dz
structure Place(K:PySem.W.Frag)(Hs H:Hp)(σ:St)(fl:Bool)(d:D)(v:V)(up:Bool->D->Env):Prop where
 ex:∃ fh,bP K Hs H fl d v fh/\fh≠[]/\fh.Nodup/\(∀ a∈fh,Hs a=none)/\Upd K Hs H σ fl v up fh
theorem Upd.node{K:PySem.W.Frag}{Hs H aw H2:Hp}{σ:St}{fl fl2:Bool}{up:Bool->D->Env}{a:Addr}{A C:List Addr}{o:HO}{d2:D}(k:Upd K Hs H σ fl (.ref a) up (a :: A))(g:eJ Hs H aw H2)(own:∀ x∈a :: A,Hs x=none/\H x≠none)(ho:∀ vs,o≠.tup vs)(hf:fl2=true->fl=true)
  (r:bP K aw (upd H2 a o) fl2 d2 (.ref a) (a :: C)) (nC:C.Nodup) (Qj:a∉C) (hC:∀ x∈C,x∈A\/(aw x=none/\H x=none)):∃ dz,dE K aw (up fl2 d2) σ (upd H2 a o) dz:=by
 have hn:∀ x∈a :: A,aw x=none:=fun x hx=>g.lP (own x hx).1 (own x hx).2
 refine k aw _ fl2 d2 (a :: C) g.sh (tH g.wf (hn a bX) ho) (fun b h1 h2=>g.lP h1 h2) hf r (OQ _ _) (iA.mpr ⟨Qj,nC⟩) (fun b hb=>?_) fun b h1 h2=>?_
 ·rcases cy.mp hb with rfl|hb
  ·exact⟨hn _ bX,.inl bX⟩
  ·exact(hC b hb).elim (fun q=>⟨hn b (b5 _ q),.inl (b5 _ q)⟩) fun q=>⟨q.1,.inr q.2⟩
 ·rw[fm fun z=>h2 (by subst z;exact bX)]
  cases q:H b with
  |none=>exact absurd q h1
  |some o=>exact g.all b o q
abbrev WP:=Env->(Bool->D->(Bool->D->Env)->Prop)->Prop
def tpP(K:PySem.W.Frag)(t:WP):TE:=fun σ H Qv=>∃ Hs ρ ag Q,dE K Hs ρ σ H ag/\t ρ Q/\∀ v H' av fl d up,eJ Hs H av H'->Place K av H' σ fl d v up->Q fl d up->Qv v H'
abbrev QP(X:Cx)(K:PySem.W.Frag)(e:Expr)(t:WP):Prop:=PE X e (tpP K t)
section
variable {K:PySem.W.Frag}{Hs H av H':Hp}{σ:St}{fl:Bool}{d:D}{v:V}{up:Bool->D->Env}
theorem Place.grow(p:Place K Hs H σ fl d v up)(g:eJ Hs H av H'):Place K av H' σ fl d v up:=by
 obtain⟨fh,r,ne,nd,own,k⟩:=p.ex
 refine⟨fh,r.grow g.sh g.all,ne,nd,fun a h=>g.lP (own a h) (r.own a h).ne,fun aw H2 fl2 d2 gd s2 w2 n2 hf r2 ne2 nS o2 st=>?_⟩
 refine k aw H2 fl2 d2 gd (g.sh.trans s2) w2 (fun a h1 h2=>n2 a (g.lP h1 h2) ?_) hf r2 ne2 nS (fun a h=>⟨(o2 a h).1,(o2 a h).2.imp id g.all.free⟩) fun a h1 h2=>?_
 ·cases e:H a with
  |none=>exact absurd e h2
  |some o=>rw[g.all a o e];exact fun z=>nomatch z
 ·cases e:H a with
  |none=>exact absurd e h1
  |some o =>
   have:=g.all a o e
   rw[<- this]
   exact st a (by rw[this];exact fun z=>nomatch z) h2
theorem bP.ne2:(∀ {d:D} {v:V} {As:List Addr},bP K Hs H true d v As->d.flat=false->As≠[])/\∀ {ds:List D} {vs:List V} {As:List Addr},az K Hs H true ds vs As->cx ds=false->As≠[] :=
 bP.ind (m1:=fun d _ As=>d.flat=false->As≠[]) (m2:=fun ds _ As=>cx ds=false->As≠[]) (fun _ _ f _ h=>by rw[f rfl] at h;cases h) (fun _ _ _ _ _ _ _ _ _=>OQ _ _) (fun _ _ _ _ _ _ n _ ih _=>ih n) (fun _ _ _ _ _ _ _ _ _=>OQ _ _) (fun _ _ _ _ _ _ _ _ _=>OQ _ _)
  (fun h=>by simp[cx] at h) fun d _ _ _ _ _ _ _ i1 i2 h=>by
   cases e:d.flat with
   |false=>exact fun z=>i1 e (K2.mp z).1
   |true =>
    simp only[cx,e,Bool.true_and] at h
    exact fun z=>i2 h (K2.mp z).2
theorem bP.ne{d:D}{v:V}{As:List Addr}(r:bP K Hs H true d v As)(h:d.flat=false):As≠[]:=bP.ne2.1 r h
theorem bP.nil_of{fl:Bool}{d:D}{v:V}{As:List Addr}(r:bP K Hs H fl d v As)(h:d.flat=true):As=[]:=by
 cases r with
 |sh _ _=>rfl
 |tup _ _ n _=>simp[D.flat,n] at h
 |_=>simp[D.flat] at h
def nV(i:Nat):WP:=fun ρ Q=>match ρ[i]? with
 |some (some (.ow fl d))=>Q fl d fun fl2 d2=>ρ.set i (some (.ow fl2 d2))
 |_=>False
theorem SR.put{Hs H:Hp}{fl:Bool}{d:D}{ρ:Env}{σ:St}{ag:List Addr}(i:Nat)(s:SR K Hs H ρ σ ag):ρ[i]? = some (some (.ow fl d))->ag.Nodup ->
  ∃ (v:V) (As b6:List Addr),σ[i]? = some (some v)/\As≠[]/\bP K Hs H fl d v As/\As.Sublist ag/\∀ aw H2 fl2 d2 gd,aT Hs aw->bP K aw H2 fl2 d2 v gd->gd≠[]->gd.Nodup->(∀ a∈gd,a∈ag->a∈As)->(∀ a∈ag,a∉As->H2 a=H a) ->
   ∃ dz,dz.Nodup/\(∀ a∈dz,a∈ag\/a∈gd)/\SR K aw H2 (ρ.set i (some (.ow fl2 d2))) σ dz:=by
 induction s generalizing i with
 |nil=>intro e;simp at e
 |@non ρ σ ag o q ih =>
  intro e n
  cases i with
  |zero=>simp at e
  |succ i =>
   obtain⟨v,As,t,a,b,c,d,g⟩:=ih i (by simpa using e) n
   refine⟨v,As,t,by simpa using a,b,c,d,fun aw H2 fl2 d2 gd s2 r2 ne2 nS dj st=>?_⟩
   obtain⟨t2,x,y,z⟩:=g aw H2 fl2 d2 gd s2 r2 ne2 nS dj st
   exact⟨t2,x,y,.non z⟩
 |sh r q ih =>
  intro e n
  cases i with
  |zero=>simp at e
  |succ i =>
   obtain⟨v,As,t,a,b,c,d,g⟩:=ih i (by simpa using e) n
   refine⟨v,As,t,by simpa using a,b,c,d,fun aw H2 fl2 d2 gd s2 r2 ne2 nS dj st=>?_⟩
   obtain⟨t2,x,y,z⟩:=g aw H2 fl2 d2 gd s2 r2 ne2 nS dj st
   exact⟨t2,x,y,.sh (r.same s2) z⟩
 |xc q ih =>
  intro e n
  cases i with
  |zero=>simp at e
  |succ i =>
   obtain⟨v,As,t,a,b,c,d,g⟩:=ih i (by simpa using e) n
   refine⟨v,As,t,by simpa using a,b,c,d,fun aw H2 fl2 d2 gd s2 r2 ne2 nS dj st=>?_⟩
   obtain⟨t2,x,y,z⟩:=g aw H2 fl2 d2 gd s2 r2 ne2 nS dj st
   exact⟨t2,x,y,.xc z⟩
 |@ow ρ σ t2 B fl0 d0 v ne r q ih =>
  intro e n
  obtain⟨n1,n2,n3⟩:=iS.mp n
  cases i with
  |zero =>
   simp at e
   obtain⟨rfl,rfl⟩:=e
   refine⟨v,B,t2,rfl,ne,r,KW _ _,fun aw H2 fl2 d2 gd s2 r2 ne2 nS dj st=>⟨gd++t2,iS.mpr ⟨nS,n2,fun a ha b hb e=>?_⟩,fun a h=>?_,.ow ne2 r2 (q.fq s2 fun a h=>st a (fz _ h) fun z=>n3 a z a h rfl)⟩⟩
   ·subst e
    exact n3 a (dj a ha (fz _ hb)) a hb rfl
   ·exact(dy.mp h).symm.imp (fun z=>fz _ z) id
  |succ i =>
   obtain⟨v,As,t,a,b,c,d,g⟩:=ih i (by simpa using e) n2
   have hB:∀ x∈B,x∉As:=fun x hx m=>n3 x hx x (d.subset m) rfl
   refine⟨v,As,B++t,by simpa using a,b,c,d.trans (oq _ _),fun aw H2 fl2 d2 gd s2 r2 ne2 nS dj st=>?_⟩
   obtain⟨t2,x,y,z⟩:=g aw H2 fl2 d2 gd s2 r2 ne2 nS (fun a ha m=>dj a ha (fz _ m)) fun a ha m=>st a (fz _ ha) m
   refine⟨B++t2,iS.mpr ⟨n1,x,fun a ha b hb e=>?_⟩,fun a h=>?_,.ow ne (r.fq s2 fun a h=>st a (kS _ h) (hB a h)) z⟩
   ·subst e
    rcases y a hb with w|w
    ·exact n3 a ha a w rfl
    ·exact hB a ha (dj a w (kS _ ha))
   ·rcases dy.mp h with w|w
    ·exact .inl (kS _ w)
    ·exact(y a w).imp (fun w=>fz _ w) id
 |@lk ρ σ t2 B a0 fl0 d0 ne r q ih =>
  intro e n
  obtain⟨n1,n2,n3⟩:=iS.mp n
  cases i with
  |zero=>simp at e
  |succ i =>
   obtain⟨v,As,t,a,b,c,d,g⟩:=ih i (by simpa using e) n2
   have hB:∀ x∈B,x∉As:=fun x hx m=>n3 x hx x (d.subset m) rfl
   refine⟨v,As,B++t,by simpa using a,b,c,d.trans (oq _ _),fun aw H2 fl2 d2 gd s2 r2 ne2 nS dj st=>?_⟩
   obtain⟨t2,x,y,z⟩:=g aw H2 fl2 d2 gd s2 r2 ne2 nS (fun a ha m=>dj a ha (fz _ m)) fun a ha m=>st a (fz _ ha) m
   refine⟨B++t2,iS.mpr ⟨n1,x,fun a ha b hb e=>?_⟩,fun a h=>?_,.lk ne (r.fq s2 fun a h=>st a (kS _ h) (hB a h)) z⟩
   ·subst e
    rcases y a hb with w|w
    ·exact n3 a ha a w rfl
    ·exact hB a ha (dj a w (kS _ ha))
   ·rcases dy.mp h with w|w
    ·exact .inl (kS _ w)
    ·exact(y a w).imp (fun w=>fz _ w) id
theorem bF{X:Cx}{i:Nat}{e:Expr}(h:PE X e (EG i)):QP X K e (nV i):=PE.imp h fun σ H Qv hx=>iN hx fun Hs ρ ag Q sr h f=>by
 unfold nV at h
 split at h
 ·rename_i fl d e1
  obtain⟨v,As,t,e2,ne,r,sb,g⟩:=SR.put i sr.sr e1 sr.sQ
  refine⟨v,e2,f v H Hs fl d _ (eJ.refl sr.wf) ⟨As,r,ne,sb.nodup sr.sQ,fun a h=>sr.own a (sb.subset h),fun aw H2 fl2 d2 gd s2 w2 n2 _ r2 ne2 nS o2 st=>?_⟩ h⟩
  obtain⟨t2,x,y,z⟩:=g aw H2 fl2 d2 gd s2 r2 ne2 nS (fun a ha m=>(o2 a ha).2.elim id fun q=>absurd q (sr.sr.own a m).ne) fun a ha m=>st a (sr.sr.own a ha).ne m
  exact⟨t2,z,w2,x,fun a h=>(y a h).elim (fun q=>n2 a (sr.own a q) (sr.sr.own a q).ne) fun q=>(o2 a q).1⟩
 ·exact h.elim
theorem bP.wk{fl fl2:Bool}{d:D}{v:V}{As:List Addr}(h:fl2=true->fl=true)(r:bP K Hs H fl d v As):bP K Hs H fl2 d v As:=by
 cases fl2 with
 |false=>exact r.P9
 |true=>rw[h rfl] at r;exact r
theorem az.wk{fl fl2:Bool}{d:List D}{v:List V}{As:List Addr}(h:fl2=true->fl=true)(r:az K Hs H fl d v As):az K Hs H fl2 d v As:=by
 cases fl2 with
 |false=>exact r.P9
 |true=>rw[h rfl] at r;exact r
theorem az.at{fl:Bool}{ds:List D}{vs:List V}{As:List Addr}{j:Nat}{d:D}(r:az K Hs H fl ds vs As)(e:ds[j]? = some d)(n:As.Nodup) :
  ∃ (v:V) (B:List Addr),vs[j]? = some v/\bP K Hs H fl d v B/\B.Sublist As/\∀ aw H2 fl2 d2 B2,aT Hs aw->(fl2=true->fl=true)->bP K aw H2 fl2 d2 v B2->B2.Nodup->(∀ a∈B2,a∈As->a∈B)->(∀ a∈As,a∉B->H2 a=H a) ->
   ∃ gd,gd.Nodup/\(∀ a∈gd,(a∈As/\a∉B)\/a∈B2)/\(B2≠[]->gd≠[])/\az K aw H2 fl2 (ds.set j d2) vs gd:=by
 induction ds generalizing vs As j with
 |nil=>simp at e
 |cons x ds ih =>
  obtain⟨v,us,A,B,rfl,rfl,r,rs⟩:=r.c
  obtain⟨n1,n2,n3⟩:=iS.mp n
  cases j with
  |zero =>
   simp at e
   subst e
   refine⟨v,A,rfl,r,KW _ _,fun aw H2 fl2 d2 B2 s2 hf r2 nS dj st=>⟨B2++B,iS.mpr ⟨nS,n2,fun a ha b hb e=>?_⟩,fun a h=>?_,fun ne z=>ne (K2.mp z).1,.cons r2 ((rs.wk hf).fq s2 fun a h=>st a (fz _ h) fun z=>n3 a z a h rfl)⟩⟩
   ·subst e
    exact n3 a (dj a ha (fz _ hb)) a hb rfl
   ·rcases dy.mp h with w|w
    ·exact .inr w
    ·exact .inl ⟨fz _ w,fun z=>n3 a z a w rfl⟩
  |succ j =>
   obtain⟨v,C,a,b,c,g⟩:=ih (j:=j) rs (by simpa using e) n2
   have hA:∀ x∈A,x∉C:=fun x hx m=>n3 x hx x (c.subset m) rfl
   refine⟨v,C,by simpa using a,b,c.trans (oq _ _),fun aw H2 fl2 d2 B2 s2 hf r2 nS dj st=>?_⟩
   obtain⟨gd,x,y,w,z⟩:=g aw H2 fl2 d2 B2 s2 hf r2 nS (fun a ha m=>dj a ha (fz _ m)) fun a ha m=>st a (fz _ ha) m
   refine⟨A++gd,iS.mpr ⟨n1,x,fun a ha b hb e=>?_⟩,fun a h=>?_,fun ne q=>w ne (K2.mp q).2,.cons ((r.wk hf).fq s2 fun a h=>st a (kS _ h) (hA a h)) z⟩
   ·subst e
    rcases y a hb with q|q
    ·exact n3 a ha a q.1 rfl
    ·exact hA a ha (dj a q (kS _ ha))
   ·rcases dy.mp h with q|q
    ·exact .inl ⟨kS _ q,hA a q⟩
    ·exact(y a q).imp (fun q=>⟨fz _ q.1,q.2⟩) id
theorem G5{α:Type}{xs:List α}{i:Int}{x:α}(h:eW xs i=some x):∃ j,ll xs.length i=some j/\xs[j]? = some x:=by
 unfold L2.eW at h
 cases e:ll xs.length i with
 |none=>rw[e] at h;cases h
 |some j=>rw[e] at h;exact⟨j,rfl,h⟩
def NS(p:WP)(t:WE):WP:=fun ρ Q=>p ρ fun fl d up=>t ρ fun _ y=>fl=true/\match y with
 |.int i=>match d with
  |.list ds=>∃ j d',ll ds.length i=some j/\ds[j]? = some d'/\d'.flat=false/\Q true d' fun fl2 d2=>up fl2 (.list (ds.set j d2))
  |.tup ds=>∃ j d',ll ds.length i=some j/\ds[j]? = some d'/\d'.flat=false/\Q true d' fun fl2 d2=>up fl2 (.tup (ds.set j d2))
  |_=>False
 |_=>False
theorem yw{α:Type}{xs:List α}{i:Int}{j:Nat}{x:α}(h:ll xs.length i=some j)(e:xs[j]? = some x):eW xs i=some x:=by unfold L2.eW;rw[h];exact e
theorem zx{ds:List D}{j:Nat}{d:D}(e:ds[j]? = some d)(h:d.flat=false):cx ds=false:=by
 cases q:cx ds with
 |false=>rfl
 |true=>rw[jH.mp q d (nX e)] at h;cases h
theorem yJ{ds:List D}{j:Nat}{d d2:D}(e:ds[j]? = some d)(h:d2.flat=false):cx (ds.set j d2)=false:=by
 have hj:j<ds.length:=(i7.mp e).1
 exact zx (j:=j) (d:=d2) (by simp[hj]) h
theorem Gr{X:Cx}{a b:Expr}{p:WP}{t:WE}{pos:Pos}(hu:X.A.units+64<cLine)(ha:QP X K a p)(hb:QE X K b t)(hs:Pw b:=by exact fun _ _=>rfl)(hK:X.K=K:=by rfl):QP X K (.Subscript a b pos) (NS p t):=by
 refine PE.imp (RW (WZ hu hK) ha hb hs) fun σ H Qv hx=>iN hx fun Hs ρ ag Q sr h f=>?_
 refine⟨Hs,ρ,ag,_,sr,h,fun v H1 ax fl d up g1 p1 q1=>⟨ax,ρ,ag,_,sr.grow g1,q1,fun u H2 aw m y As g2 r2 f2 q2=>?_⟩⟩
 have p2:=p1.grow g2
 have gg:=g1.trans g2
 obtain⟨rfl,q2⟩:=q2
 have ry:=r2.rep g2.wf
 cases ry with
 |int i =>
  obtain⟨fh,r,ne,nd,own,k⟩:=p2.ex
  cases r with
  |sh hf _=>exact absurd rfl ne
  |@list a0 vs0 ds0 A0 hz e rs =>
   obtain⟨j,d',e1,e2,hd,q⟩:=q2
   obtain⟨na,nb⟩:=iA.mp nd
   obtain⟨w,B,e3,r3,sb,g⟩:=rs.at e2 nb
   refine .inl (.inl ⟨_,w,.inl (.inl e),yw (by rw[<- rs.length];exact e1) e3,f w H2 aw true d' _ gg ⟨B,r3,r3.ne hd,sb.nodup nb,fun a h=>own a (b5 _ (sb.subset h)),fun dv H3 NT d3 IY s3 w3 n3 hf r4 ne3 Tn o3 st=>?_⟩ q⟩)
   have ae:∀ x∈A0,x∉B->H3 x=H2 x:=fun x hx m=>st x (rs.own x hx).ne m
   obtain⟨Qk,x4,y4,z4,r5⟩:=g dv H3 NT d3 IY s3 hf r4 Tn (fun a ha m=>(o3 a ha).2.elim id fun q=>absurd q (rs.own a m).ne) ae
   have eA:H3 a0=H2 a0:=st a0 (by rw[e];exact fun z=>nomatch z) fun m=>na (sb.subset m)
   have cl:∀ a∈Qk,dv a=none/\(a∈a0 :: A0\/H2 a=none):=fun a h=>by
    rcases y4 a h with⟨m,_⟩|m
    ·exact⟨n3 a (own a (b5 _ m)) (rs.own a m).ne,.inl (b5 _ m)⟩
    ·exact⟨(o3 a m).1,(o3 a m).2.imp (fun q=>b5 _ (sb.subset q)) id⟩
   refine k dv H3 NT (.list _) (_ :: Qk) s3 w3 n3 hf (.list hz (eA.trans e) r5) (by simp) (iA.mpr ⟨fun m=>?_,x4⟩) (fun a h=>?_) fun a h1 h2=>st a h1 fun m=>h2 (b5 _ (sb.subset m))
   ·rcases y4 _ m with⟨q,_⟩|q
    ·exact na q
    ·rcases (o3 _ q).2 with q|q
     ·exact na (sb.subset q)
     ·rw[e] at q;cases q
   ·rcases cy.mp h with rfl|h
    ·exact⟨n3 _ (own _ bX) (by rw[e];exact fun z=>nomatch z),.inl bX⟩
    ·exact cl a h
  |tup hz e hn rs =>
   obtain⟨j,d',e1,e2,hd,q⟩:=q2
   obtain⟨w,B,e3,r3,sb,g⟩:=rs.at e2 nd
   refine .inl (.inr ⟨_,w,.inl (.inl (g2.wf.sub _ _ e)),yw (by rw[<- rs.length];exact e1) e3,f w H2 aw true d' _ gg ⟨B,r3,r3.ne hd,sb.nodup nd,fun a h=>own a (sb.subset h),fun dv H3 NT d3 IY s3 w3 n3 hf r4 ne3 Tn o3 st=>?_⟩ q⟩)
   obtain⟨Qk,x4,y4,z4,r5⟩:=g dv H3 NT d3 IY s3 hf r4 Tn (fun a ha m=>(o3 a ha).2.elim id fun q=>absurd q (rs.own a m).ne) (fun x hx m=>st x (rs.own x hx).ne m)
   have HK:cx (List.set _ j d3)=false:=yJ e2 (by
    cases hh:d3.flat with
    |false=>rfl
    |true=>exact absurd (r4.nil_of hh) ne3)
   refine k dv H3 NT (.tup _) Qk s3 w3 n3 hf (.tup hz (s3 _ _ e) HK r5) (z4 ne3) x4 (fun a h=>?_) fun a h1 h2=>st a h1 fun m=>h2 (sb.subset m)
   rcases y4 a h with⟨m,_⟩|m
   ·exact⟨n3 a (own a m) (rs.own a m).ne,.inl m⟩
   ·exact⟨(o3 a m).1,(o3 a m).2.imp (fun q=>sb.subset q) id⟩
  |_=>exact q2.elim
 |_=>exact q2.elim
end
section
variable {X:Cx}{K:PySem.W.Frag}{e:Expr}{p:WP}{te:WE}{apos dk pos:Pos}
def mJ(fl:Bool)(m:Md)(d:D):Option Bool:=match m with
 |.sh=>some (fl && d.flat)
 |.ow b=>some (fl && b)
 |.bo=>bif d.flat then some fl else none
def z5(p:WP)(te:WE):WS:=fun E ρ=>p ρ fun fl d up=>match d with
 |.list xs=>te ρ fun m x=>xs.length<sizeLine/\match mJ fl m x with
  |some fl2=>E.nx (up fl2 (.list (xs++[x])))
  |none=>False
 |_=>False
theorem zA{Hs H:Hp}{fl fl2:Bool}{m:Md}{d:D}{v:V}{As:List Addr}(w:Wf Hs H)(r:RM K Hs H m d v As)(h:mJ fl m d=some fl2):(fl2=true->fl=true)/\∃ B,B.Sublist As/\bP K Hs H fl2 d v B:=by
 cases m with
 |sh =>
  cases h
  exact⟨fun z=>by cases fl<;>simp_all,[],B3 _,.sh (fun z=>by cases fl<;>simp_all) r.2⟩
 |ow b =>
  cases h
  refine⟨fun z=>by cases fl<;>simp_all,As,List.Sublist.refl _,r.1.wk fun z=>by cases fl<;>simp_all⟩
 |bo =>
  cases hf:d.flat with
  |true =>
   simp only[mJ,hf,cond_true,Option.some.injEq] at h
   subst h
   exact⟨id,[],B3 _,.sh (fun _=>hf) (r.flat w hf)⟩
  |false=>simp[mJ,hf] at h
theorem Place.put{ax H1 aw H2:Hp}{σ:St}{fl:Bool}{xs:List D}{v:V}{up:Bool->D->Env}(pl:Place K ax H1 σ fl (.list xs) v up)(g:eJ ax H1 aw H2) :
  ∃ a vs A,v=.ref a/\H2 a=some (.lst vs)/\H1 a=some (.lst vs)/\az K aw H2 fl xs vs A/\(a :: A).Nodup/\(∀ x∈a :: A,aw x=none/\H1 x≠none) /\
   ∀ fl2 ys ws C,(fl2=true->fl=true)->az K aw H2 fl2 ys ws C->ws.length<=sizeLine->C.Nodup->a∉C->(∀ x∈C,x∈A\/(aw x=none/\H1 x=none))->∃ dz,dE K aw (up fl2 (.list ys)) σ (upd H2 a (.lst ws)) dz:=by
 obtain⟨fh,r,ne,nd,own,k⟩:=pl.ex
 cases r with
 |sh hf _=>exact absurd rfl ne
 |@list a vs _ A hz e rs =>
  have e2:=g.all _ _ e
  have rs2:=rs.grow g.sh g.all
  have hw:∀ x∈a :: A,ax x=none/\H1 x≠none:=fun x hx=>⟨own x hx,by
   rcases cy.mp hx with rfl|hx
   ·rw[e];exact fun z=>nomatch z
   ·exact(rs.own x hx).ne⟩
  exact⟨a,vs,A,rfl,e2,e,rs2,nd,fun x hx=>⟨g.lP (hw x hx).1 (hw x hx).2,(hw x hx).2⟩,fun fl2 ys ws C hf kK hz ndC Qj hC=>k.node g hw (fun _ z=>by cases z) hf (.list hz gX (kK.fq (aT.refl _) fun b hb=>fm fun z=>Qj (by subst z;exact hb))) ndC Qj hC⟩
theorem Place.To{ax H1:Hp}{σ:St}{fl:Bool}{xs:List D}{v:V}{up:Bool->D->Env}(w:Wf ax H1)(pl:Place K ax H1 σ fl (.list xs) v up):∃ a vs,v=.ref a/\eK K H1 a vs:=by
 obtain⟨fh,r,ne,nd,own,k⟩:=pl.ex
 cases r with
 |sh hf _=>exact absurd rfl ne
 |list hz e rs=>exact⟨_,_,rfl,.inl (.inl e)⟩
theorem jN (ho:QP X K e p) {e2:Expr} (he:QE X K e2 te) (hK:X.K=K:=by rfl) (hs:swapsWith (.Call (.Attribute e "append" apos) [e2] [] dk) none pos.line X.env=pure false:=by rfl)
  (rS:attributeBase e "append" X.env (eval e X.env)=eval e X.env:=by rfl)
  (rV:((backTo dk (starEach [e2] X.env)).all (fun x=>!x.1) && (backToKw dk (keywordEach [] X.env)).all (fun x=>x.1.isSome)
   && decide ([e2].length+([]:List Keyword).length+(if ([]:List Keyword).isEmpty then 0 else 1)<30))=true:=by rfl)
  (hline:(apos.endLine == dk.line)=true:=by rfl) (tf:starEach (e2 :: []) X.env=(false,eval e2 X.env) :: starEach [] X.env:=by rfl) (xE:(backTo dk (starEach [] X.env)).any (·.1)=false:=by rfl) :
  QS X K L (.Expr (.Call (.Attribute e "append" apos) [e2] [] dk) pos) (z5 p te):=by
 subst hK
 refine PS.imp (Pg (HC PySem.F.plainAttrs_list PySem.F.slot_list_append PySem.F.type_list_append R1 ho (rh he vT tf) rS rV hline tf xE) hs) fun D σ H hx=>dO hx fun Hs ρ ag E sr h k1 k2 k3 k4=>?_
 refine⟨Hs,ρ,ag,_,sr,h,fun v H1 ax fl d up g1 p1 q1=>?_⟩
 cases d with
 |list xs =>
  obtain⟨a1,W6,e1,s1⟩:=p1.To g1.wf
  subst e1
  refine⟨.inl ⟨rfl,_,s1⟩,ax,ρ,ag,_,sr.grow g1,q1,fun y H2 aw m x As g2 r2 f2 q2=>?_⟩
  obtain⟨hz,q2⟩:=q2
  obtain⟨a,vs,A,ea,e2,_,rs,nd,hn,k⟩:=p1.put g2
  cases ea
  have hl:=rs.length
  refine⟨a1,vs,y,rfl,rfl,e2,by lia,?_⟩
  cases hp:mJ fl m x with
  |none=>rw[hp] at q2;exact q2.elim
  |some fl2 =>
   rw[hp] at q2
   obtain⟨hf,B,sb,rb⟩:=zA g2.wf r2 hp
   obtain⟨na,nA⟩:=iA.mp nd
   have fB:∀ x∈B,aw x=none/\H1 x=none:=fun x hx=>f2.2 x (sb.subset hx)
   have c1:(A++(B++[])).Nodup:=by
    rw[n4]
    exact iS.mpr ⟨nA,sb.nodup f2.1,fun x hx z hz e=>by subst e;exact(hn x (b5 _ hx)).2 (fB x hz).2⟩
   have c2:a1∉A++(B++[]):=by
    rw[n4]
    intro m
    rcases dy.mp m with m|m
    ·exact na m
    ·exact(hn _ bX).2 (fB _ m).2
   have c3:∀ x∈A++(B++[]),x∈A\/(aw x=none/\H1 x=none):=by
    rw[n4]
    intro x hx
    exact(dy.mp hx).imp id fun z=>fB x z
   obtain⟨dz,fT⟩:=k fl2 (xs++[x]) (vs++[y]) (A++(B++[])) hf ((rs.wk hf).append (.cons rb .nil)) (by rw[pd];simp;lia) c1 c2 c3
   exact k1 σ _ aw _ dz (g1.sh.trans g2.sh) fT q2
 |_=>exact q1.elim
def yV:WE:=fun _ Q=>Q (.ow true) (.dT [])
theorem Eg:QE X K (.Dict [] [] pos) yV:=PE.imp aL' fun σ H Qv hx=>iN hx fun Hs ρ ag Q sr h f=>fun a ha =>
 f _ _ Hs (.ow true) (.dT []) [a] (Ny sr.wf ha fun _ z=>nomatch z) ⟨.dT (vs:=[]) ⟨eh _,fun p hp=>nomatch hp⟩ gX .nil,by simp⟩ ⟨by simp,fun b hb=>by
  obtain rfl:b=a:=by simpa using hb
  exact⟨sr.wf.sub.free ha,ha⟩⟩ h
section
variable {κ:Type}[DecidableEq κ]
theorem wZ{Hs H:Hp}{fl:Bool}{k:κ}{d:D}{v:V}(r:bP K Hs H fl d v []){kvs:List (κ × D)}{vs:List V}{As:List Addr}(qs:az K Hs H fl (kvs.map (·.2)) vs As):∃ ws Bs,Bs.Sublist As /\
  az K Hs H fl ((kvs.map fun kv=>if kv.1=k then (kv.1,d) else kv).map (·.2)) ws Bs/\((kvs.map (·.1)).zip vs).map (fun kv=>if kv.1=k then (kv.1,v) else kv)=(((kvs.map fun kv=>if kv.1=k then (kv.1,d) else kv)).map (·.1)).zip ws:=by
 induction kvs generalizing vs As with
 |nil=>exact⟨[],[],B3 _,.nil,rfl⟩
 |cons p kvs ih =>
  obtain⟨u,vs,A,B,rfl,rfl,q,qs⟩:=az.c (d:=p.2) qs
  obtain⟨ws,Bs,sb,rs,e⟩:=ih qs
  by_cases h:p.1=k
  ·refine⟨v :: ws,[]++Bs,by simpa using sb.trans (oq _ _),?_,?_⟩
   ·simp only[fi,h,if_true]
    exact .cons r rs
   ·simp only[fi,AB,h,if_true,e]
  ·refine⟨u :: ws,A++Bs,sb.append_left _,?_,?_⟩
   ·simp only[fi,h,if_false]
    exact .cons q rs
   ·simp only[fi,AB,h,if_false,e]
theorem zX{Hs H:Hp}{fl:Bool}{k:κ}{d:D}{v:V}(r:bP K Hs H fl d v []){kvs:List (κ × D)}{vs:List V}{As:List Addr}(q:az K Hs H fl (kvs.map (·.2)) vs As) :
  ∃ ws Bs,Bs.Sublist As/\az K Hs H fl ((kD kvs k d).map (·.2)) ws Bs/\putK ((kvs.map (·.1)).zip vs) k v=((kD kvs k d).map (·.1)).zip ws:=by
 have hl:=q.length
 rw[b4] at hl
 unfold putK kD
 rw[Cu hl]
 cases h:kvs.any fun kv=>decide (kv.1=k) with
 |true =>
  simp only[if_true]
  exact wZ r q
 |false =>
  simp only[gE,if_false]
  refine⟨vs++[v],As++([]++[]),by simp,?_,?_⟩
  ·rw[AO]
   exact q.append (.cons r .nil)
  ·rw[AO,List.zip_append (by rw[b4];exact hl)]
   rfl
theorem xP{Hs H:Hp}{fl:Bool}{k:κ}{d:D}{v:V}(r:Rep K Hs d v)(hd:d.flat=true){kvs:List (κ × D)}{vs:List V}{As:List Addr}(q:az K Hs H fl (kvs.map (·.2)) vs As) :
  ∃ ws Bs,Bs.Sublist As/\az K Hs H fl ((kD kvs k d).map (·.2)) ws Bs/\putK ((kvs.map (·.1)).zip vs) k v=((kD kvs k d).map (·.1)).zip ws:=zX (.sh (fun _=>hd) r) q
theorem jw{β:Type}(kvs:List (κ × β))(k:κ)(v:β):(kD kvs k v).length<=kvs.length+1:=by
 unfold kD
 split
 ·rw[b4];exact Rb _ _
 ·simp
theorem nZ{β:Type}{kvs:List (κ × β)}{k:κ}{v:β}{p:κ × β}(h:p∈kD kvs k v):p.1=k\/p.1∈kvs.map (·.1):=by
 unfold kD at h
 split at h
 ·obtain⟨q,hq,e⟩:=cc.mp h
  by_cases hk:q.1=k
  ·rw[if_pos hk] at e;subst e;exact .inl hk
  ·rw[if_neg hk] at e;subst e;exact .inr (cc.mpr ⟨q,hq,rfl⟩)
 ·rcases dy.mp h with h|h
  ·exact .inr (cc.mpr ⟨p,h,rfl⟩)
  ·have:p=(k,v):=by simpa using h
   subst this;exact .inl rfl
end
def oU(p:WP)(tk tv:WE):WS:=fun E ρ=>tv ρ fun _ x=>p ρ fun fl d up=>tk ρ fun _ y=>x.flat=true/\match d with
 |.dK kvs=>∃ k,y.key1=some k/\kvs.length<sizeLine/\E.nx (up fl (.dK (kD kvs k x)))
 |.dT kvs=>match y with
  |.tup ys=>∃ ks,eX ys=some ks/\kvs.length<sizeLine/\E.nx (up fl (.dT (kD kvs ks x)))
  |_=>False
 |_=>False
theorem rE{H:Hp}{d:D}{v:V}{k:Key}(r:Rep K H d v)(h:d.key1=some k):x8 k=true:=by
 cases r<;>simp[D.key1] at h<;>subst h
 ·rfl
 ·rename_i hz;simp[x8,hz]
theorem z_{H:Hp}{ds:List D}{vs:List V}{ks:List Key}(r:aI K H ds vs)(h:eX ds=some ks):ks.length=ds.length/\∀ k∈ks,x8 k=true:=by
 induction ds generalizing vs ks with
 |nil=>simp[eX] at h;subst h;exact⟨rfl,fun k hk=>nomatch hk⟩
 |cons d ds ih =>
  obtain⟨u,us,rfl,r,rs⟩:=r.c
  unfold eX at h
  cases e1:d.key1 with
  |none=>rw[e1] at h;simp at h
  |some k =>
   cases e2:eX ds with
   |none=>rw[e1,e2] at h;simp at h
   |some dr =>
    rw[e1,e2] at h
    simp at h
    subst h
    obtain⟨a,b⟩:=ih rs e2
    refine⟨by simp[a],fun j hj=>?_⟩
    rcases cy.mp hj with rfl|hj
    ·exact rE r e1
    ·exact b j hj
theorem kY{a b c:Expr}{tk tv:WE}{pos':Pos}(hu:X.A.units+64<cLine)(ho:QP X K a p)(hi:QE X K b tk)(hv:QE X K c tv)(hs:swapsWith c (some (.Subscript a b pos')) pos.line X.env=pure false:=by rfl) :
  QS X K L (.Assign [.Subscript a b pos'] c pos) (oU p tk tv):=by
 refine PS.imp (aH' (by lia) ho hi hv hs) fun D σ H hx=>dO hx fun Hs ρ ag E sr h k1 k2 k3 k4=>?_
 refine⟨Hs,ρ,ag,_,sr,h,fun v H1 ax m1 x As1 g1 r1 f1 q1=>⟨ax,ρ,ag,_,sr.grow g1,q1,fun u H2 aw fl d up g2 p2 q2=>⟨aw,ρ,ag,_,(sr.grow g1).grow g2,q2,fun y H3 dv m3 yd IY g3 r3 f3 q3=>?_⟩⟩⟩
 obtain⟨hx,q3⟩:=q3
 have rx:Rep K dv x v:=((r1.grow g2).grow g3).flat g3.wf hx
 have ry:=r3.rep g3.wf
 obtain⟨fh,r,ne,nd,own,k⟩:=p2.ex
 have sm:aT Hs dv:=(g1.sh.trans g2.sh).trans g3.sh
 have lv:∀ x∈fh,aw x=none/\H2 x≠none:=fun x hx=>⟨own x hx,(r.own x hx).ne⟩
 cases r with
 |sh hf _=>exact absurd rfl ne
 |@dK a0 vs kvs A kk e rs =>
  obtain⟨key,hk,hz,q⟩:=q3
  have ey:=ry.key hk
  subst ey
  obtain⟨na,nA⟩:=iA.mp nd
  obtain⟨ws,Bs,sb,kK,ew⟩:=xP (k:=key) rx hx (rs.grow g3.sh g3.all)
  have hl:kvs.length=vs.length:=by have:=rs.length;rwa[b4] at this
  refine⟨a0,_,rfl,Dx.k (g3.all _ _ e) (by rw[OU,b4,<- hl,OX];exact hz),?_⟩
  rw[ew]
  have nB:a0∉Bs:=fun z=>na (sb.subset z)
  obtain⟨dz,fT⟩:=k.node (fl2:=fl) (d2:=.dK (kD kvs key x)) g3 lv (fun _ z=>by cases z) id (.dK ⟨gx (jw _ _ _) hz,fun p hp=>(nZ hp).elim (fun z=>by rw[z];exact rE ry hk) fun z=>by obtain⟨p',g9,e'⟩:=cc.mp z;rw[<- e'];exact kk.2 p' g9⟩ gX (kK.fq (aT.refl _) fun b hb=>fm fun z=>nB (by subst z;exact hb)))
   (sb.nodup nA) nB fun b hb=>.inl (sb.subset hb)
  exact k1 σ _ dv _ dz sm fT q
 |@dT a0 vs kvs A kk e rs =>
  cases ry with
  |tup t1 e1 II =>
   obtain⟨key,hk,hz,q⟩:=q3
   obtain⟨b,eb,e5⟩:=Rep.oj (.tup t1 e1 II) hk
   cases eb
   obtain⟨kl,ko⟩:=z_ II hk
   obtain⟨na,nA⟩:=iA.mp nd
   obtain⟨ws,Bs,sb,kK,ew⟩:=xP (k:=key) rx hx (rs.grow g3.sh g3.all)
   have hl:kvs.length=vs.length:=by have:=rs.length;rwa[b4] at this
   refine⟨a0,_,rfl,Dx.t (g3.all _ _ e) e5 (by rw[OU,b4,<- hl,OX];exact hz),?_⟩
   rw[ew]
   have nB:a0∉Bs:=fun z=>na (sb.subset z)
   have l1:=II.length
   obtain⟨dz,fT⟩:=k.node (fl2:=fl) (d2:=.dT (kD kvs key x)) g3 lv (fun _ z=>by cases z) id (.dT ⟨gx (jw _ _ _) hz,fun p hp=>(nZ hp).elim (fun z=>by rw[z];exact⟨by lia,ko⟩) fun z=>by obtain⟨p',g9,e'⟩:=cc.mp z;rw[<- e'];exact kk.2 p' g9⟩ gX (kK.fq (aT.refl _) fun b hb=>fm fun z=>nB (by subst z;exact hb)))
    (sb.nodup nA) nB fun b hb=>.inl (sb.subset hb)
   exact k1 σ _ dv _ dz sm fT q
  |_=>exact q3.elim
 |_=>exact q3.elim
end
abbrev WJ:=Env->Str->(Str->Prop)->Prop
section
variable {X:Cx}{K:PySem.W.Frag}{e:Expr}{te:WE}{j:WJ}
def jo:List D->Option (List Str)
 |[]=>some []
 |.str x :: xs=>(jo xs).map (x :: ·)
 |_ :: _=>none
def lu(to te:WE):WE:=fun ρ Q=>to ρ fun _ x=>match x with
 |.str z=>te ρ fun _ y=>match y with
  |.list ys=>∃ zs,jo ys=some zs/\(zs.map (·.length)).sum+zs.length*z.length<=16777216/\Q .sh (.str (Str.join z zs))
  |_=>False
 |_=>False
theorem Ar(r:aI K H ds vs)(q:Vals vs us)(h:jo ds=some zs):StrsAre us zs:=by
 induction ds generalizing vs us zs with
 |nil =>
  simp[jo] at h
  subst h
  have:=r.n0
  subst this
  rw[Paired.n0 q];exact .nil
 |cons d ds ih =>
  obtain⟨v,vs,rfl,r1,rs⟩:=r.c
  obtain⟨u,us,rfl,q1,qs⟩:=Paired.c q
  cases r1 with
  |str hz =>
   simp only[jo] at h
   cases e:jo ds with
   |none=>rw[e] at h;cases h
   |some ys =>
    rw[e] at h
    cases h
    obtain⟨t,rfl⟩:=q1
    exact .cons _ t (ih rs qs e)
  |_=>simp[jo] at h
theorem Cr (hK:X.K=K:=by rfl):Px X "str.join" (fun x xs H Q=>∃ z a ds vs zs,x=.str z/\xs=[.ref a]/\eK K H a vs/\aI K H ds vs/\jo ds=some zs/\(zs.map (·.length)).sum+zs.length*z.length<=16777216/\Q (.str (Str.join z zs)) H):=by
 subst hK
 intro pins s σ H x xs v us Q I rx rs h
 obtain⟨z,a,ds,vs,zs,rfl,rfl,hs,rr,e,hz,q⟩:=h
 obtain⟨t,rfl⟩:=rx
 obtain⟨u,rfl,ru⟩:=Vals.one rs
 cases ru
 obtain⟨its,rv,pl,_⟩:=I.list hs
 exact join_list pl.isList (by simpa using Ar rr rv e) hz fun t' k=>⟨.str _,H,I.tok _,⟨t',rfl⟩,by rw[show Txt.join z zs=Str.join z zs from StrLaws.glued_eq_join z zs];exact q⟩
theorem tR:∀ {zs:List Str},(Str.join z zs).length<=(zs.map (·.length)).sum+zs.length*z.length
 |[]=>by show Str.empty.length<=_;exact gx (show Str.empty.length<=0 by decide) (eh _)
 |[x]=>by simp[Str.join]
 |x :: y :: r=>by
  have ih:=tR (z:=z) (zs:=y :: r)
  show(x++z++Str.join z (y :: r)).length<=_
  rw[di,di]
  simp only[fi,List.sum_cons,pe,Nat.add_mul,Nat.one_mul] at ih ⊢
  lia
theorem sX(ho:QE X K o to)(he:QE X K e te)(hK:X.K=K:=by rfl)
  (rS:attributeBase o "join" X.env (eval o X.env)=eval o X.env:=by rfl)
  (rV:((backTo dk (starEach [e] X.env)).all (fun x=>!x.1) && (backToKw dk (keywordEach [] X.env)).all (fun x=>x.1.isSome)
   && decide ([e].length+([]:List Keyword).length+(if ([]:List Keyword).isEmpty then 0 else 1)<30))=true:=by rfl)
  (hline:(apos.endLine == dk.line)=true:=by rfl) (tf:starEach (e :: []) X.env=(false,eval e X.env) :: starEach [] X.env:=by rfl) (xE:(backTo dk (starEach [] X.env)).any (·.1)=false:=by rfl) :
  QE X K (.Call (.Attribute o "join" apos) [e] [] dk) (lu to te):=by
 subst hK
 refine PE.imp (HC PySem.F.plainAttrs_str PySem.F.slot_str_join PySem.F.type_str_join Cr ho (rh he vT tf) rS rV hline tf xE) fun σ H Qv hx=>iN hx fun Hs ρ ag Q sr h f=>?_
 refine⟨Hs,ρ,ag,_,sr,h,fun v H1 ax m x As g1 r1 f1 q1=>?_⟩
 have r:=r1.rep g1.wf
 cases r with
 |str hz =>
  refine⟨rfl,ax,ρ,ag,_,sr.grow g1,q1,fun y H2 aw m2 x2 gd g2 r2 f2 q2=>?_⟩
  have rr:=r2.rep g2.wf
  cases rr with
  |list z s rs =>
   obtain⟨zs,e,hz,q⟩:=q2
   exact⟨_,_,_,_,zs,rfl,rfl,s,rs,e,hz,Fin.sh (Fin.after f (g1.trans g2)) g2.wf (.str (gx tR (by rw[sizeLine_eq];exact hz))) q⟩
  |_=>exact q2.elim
 |_=>exact q1.elim
def oj(k:List Key):D:=.tup (k.map lT)
def Fx:W1:=fun _ x Q=>match x with
 |.list xs=>∃ ks sh,xs=ks.map oj/\(∀ k∈ks,gu k=true :: sh)/\∀ ms:List (List Key),ms.Perm ks->(ms.Pairwise fun a b=>ft b a=false)->Q (.ow true) (.list (ms.map oj))
 |_=>False
theorem rT{H:Hp}{ks:List Key}{vs:List V}(r:aI K H (ks.map lT) vs):vs=ks.map kV/\∀ k∈ks,x8 k=true:=by
 induction ks generalizing vs with
 |nil=>exact⟨r.n0,fun k h=>nomatch h⟩
 |cons k ks ih =>
  obtain⟨u,us,rfl,r1,rs⟩:=aI.c (d:=lT k) r
  obtain⟨e,o⟩:=ih rs
  subst e
  cases k with
  |inl i=>cases r1;exact⟨rfl,fun j hj=>by rcases cy.mp hj with rfl|hj;rfl;exact o j hj⟩
  |inr x =>
   cases r1 with
   |str hz=>exact⟨rfl,fun j hj=>by rcases cy.mp hj with rfl|hj;simp[x8,hz];exact o j hj⟩
theorem DW{H:Hp}{ks:List (List Key)}{vs:List V}(r:aI K H (ks.map oj) vs):cL H vs ks/\∀ k∈ks,k.length<=sizeLine/\∀ j∈k,x8 j=true:=by
 induction ks generalizing vs with
 |nil=>rw[r.n0];exact⟨.nil,fun k h=>nomatch h⟩
 |cons k ks ih =>
  obtain⟨u,us,rfl,r1,rs⟩:=aI.c (d:=oj k) r
  obtain⟨t,o⟩:=ih rs
  cases r1 with
  |tup hz e q =>
   obtain⟨e2,o2⟩:=rT q
   subst e2
   exact⟨.cons ⟨_,rfl,e⟩ t,fun j hj=>by
    rcases cy.mp hj with rfl|hj
    ·exact⟨by simpa using hz,o2⟩
    ·exact o j hj⟩
theorem dU:bootBuiltins "sorted" = some (.builtin "sorted"):=by decide +kernel
end
def shF(A:List Addr)(F:Nat->List Addr):Nat->List Addr
 |0=>A
 |i+1=>F i
abbrev Plan:=List (WE ⊕ Nat)
def cC':Option (Option Sl)->Option (Md × D)
 |some (some (.sh d))=>some (.sh,d)
 |some (some (.ow fl d))=>some (.ow fl,d)
 |_=>none
def W7:kE:=fun ds Q=>∃ ns:List Int,ds=[.list (ns.map .int)]/\ns.length<=63/\∀ m,Q m (.bl true)
theorem ints_rep{K:PySem.W.Frag}:∀ (ns:List Int),aI K H (ns.map .int) (ns.map V.int)
 |[]=>.nil
 |n :: ns=>.cons (.int n) (ints_rep ns)
theorem Af{K:PySem.W.Frag}{H:Hp}{a:Addr}{ns:List Int}{E:XK}(hl:ns.length<=63)(hS:eK K H a (ns.map V.int)):aA K W7 [.ref a] H (fun v _=>v=.bl true) E:=by
 refine⟨[.list (ns.map .int)],fun _ d=>d=.bl true,.cons (.list (by rw[b4];exact gx hl (by decide)) hS (ints_rep ns)) .nil,⟨ns,rfl,hl,fun _=>rfl⟩,?_⟩
 intro v H' av m d As s w r nd own q
 subst q
 have:=r.rep w
 cases this
 rfl
abbrev sg(x:Str):List Nat:=x.cps.toList
theorem uh(x y:Str):sg (x++y)=sg x++sg y:=by
 show(x.cps++y.cps).toList=_
 simp[sg]
theorem empty_app(x:Str):Str.empty++x=x:=yS (by rw[<- sg,uh];rfl)
def W8(x:Str):Prop:=∀ c∈sg x,c<0x110000
theorem Dy(x:Str):PyData.strOk x=true↔W8 x:=by
 unfold PyData.strOk W8 sg
 rw[Array.all_eq_true']
 simp
theorem cD'(x:α)(l:List α):eW (x :: l) 0=some x:=by simp[L2.eW,ll]
theorem cE'(x y:α)(l:List α):eW (x :: y :: l) 1=some y:=by
 have:=He (xs:=x :: y :: l) (j:=1) (v:=y) rfl
 exact this
theorem cF'(x y z:α)(l:List α):eW (x :: y :: z :: l) 2=some z:=by
 have:=He (xs:=x :: y :: z :: l) (j:=2) (v:=z) rfl
 exact this
theorem Hl:Str.empty.length=0:=by decide
end L2.Q
namespace L2.Q.R
open PySem PySem.Spec PyProof.Rows L2.Q
section
variable {f:D->Prop}{k:Kt f}
theorem J7:bS .non k=f .non:=rfl
theorem Mp:bS (.bl b) k=f (.bl b):=rfl
theorem JW:bS (.int i) k=f (.int i):=rfl
theorem J1:bS (.str x) k=f (.str x):=rfl
theorem Jz:bS (.list xs) k=f (.list xs):=rfl
theorem J5:bS (.tup xs) k=f (.tup xs):=rfl
theorem Ln:bS (.dK xs) k=f (.dK xs):=rfl
theorem Ma:bS (.dT xs) k=f (.dT xs):=rfl
end
theorem JH{f:Bool->Prop}{k:Kt f}:bS true k=f true:=rfl
theorem Ia{f:Bool->Prop}{k:Kt f}:bS false k=f false:=rfl
theorem KN{d:D}{f:Md × D->Prop}{k:Kt f}:bS (Md.sh,d) k=f (.sh,d):=rfl
theorem K8{b:Bool}{d:D}{f:Md × D->Prop}{k:Kt f}:bS (Md.ow b,d) k=f (.ow b,d):=rfl
theorem J2{d:D}{f:Md × D->Prop}{k:Kt f}:bS (Md.bo,d) k=f (.bo,d):=rfl
theorem Ko{d:D}{f:Option Sl->Prop}{k:Kt f}:bS (some (.sh d)) k=f (some (.sh d)):=rfl
theorem Kd{b:Bool}{d:D}{f:Option Sl->Prop}{k:Kt f}:bS (some (.ow b d)) k=f (some (.ow b d)):=rfl
theorem Kl{p:Md × D}{f:Option (Md × D)->Prop}{k:Kt f}:bS (some p) k=f (some p):=rfl
theorem M6{p:Bool}{f:Option Bool->Prop}{k:Kt f}:bS (some p) k=f (some p):=rfl
theorem J0{d:D}{f:Option (Option Sl)->Prop}{k:Kt f}:bS (some (some (.sh d))) k=f (some (some (.sh d))):=rfl
theorem JN{b:Bool}{d:D}{f:Option (Option Sl)->Prop}{k:Kt f}:bS (some (some (.ow b d))) k=f (some (some (.ow b d))):=rfl
section
variable {E:nT}{ρ:Env}{Q:Md->D->Prop}{B:Bool->Prop}{t u:WS}{te ta tb NV:WE}{tt tu:WT}{tar:WA}{i j n:Nat}{m m':Md}{d d':D}{sp:kE}{p:WP}{R:List (Md × D)->Prop}
theorem JS:eY E ρ=E.nx ρ:=rfl
theorem MJ:cp t u E ρ=t { E with nx:=u E } ρ:=rfl
theorem Ly:nK te E ρ=te ρ E.rt:=rfl
def put(sl:Option Sl)(k:Sl->Prop):Prop:=match sl with
 |some s=>k s
 |none=>False
theorem J4:put (some (.sh d)) k=k (.sh d):=rfl
theorem Ku:put (some (.ow b d)) k=k (.ow b d):=rfl
theorem Lr:dQ i te E ρ=te ρ fun m d=>bS (asg m d) (f:=fun o=>put o fun sl=>E.nx (ρ.set i (some sl))) ⟨⟩:=rfl
theorem Ms:oo tt t u E ρ=tt ρ fun b=>bS b (f:=fun b=>if b=true then t E ρ else u E ρ) ⟨⟩:=rfl
theorem JM:vm i E ρ=bS ρ[i]? (f:=fun o=>match o with
 |some (some (.sh d))=>E.rt .sh d
 |some (some (.ow fl d))=>E.rt (.ow fl) d
 |_=>False) ⟨⟩:=rfl
def mov(o:Option (Md × D))(k:Md × D->Prop):Prop:=match o with
 |some p=>k p
 |none=>False
theorem Ib{p:Md × D}{k:Md × D->Prop}:mov (some p) k=k p:=rfl
theorem LK:nL i t E ρ=t E (NP i ρ):=rfl
-- tests
def bol(d:D)(B:Bool->Prop):Prop:=match d with
 |.bl b=>B b
 |_=>False
theorem K4:bol (.bl b) B=B b:=rfl
theorem wB_:wB te ρ B=te ρ fun _ x=>bS x (f:=fun x=>bol x B) ⟨⟩:=rfl
theorem Lw:S7 te ρ B=te ρ fun _ x=>bS x (f:=fun x=>∃ b,Qe x=some b/\B b) ⟨⟩:=rfl
theorem Lb:S5 tt ρ B=tt ρ fun c=>B (!c):=rfl
theorem Mj:Qa tt tu ρ B=tt ρ fun c=>bS c (f:=fun c=>if c=true then tu ρ B else B false) ⟨⟩:=rfl
theorem cI':NC tt tu ρ B=tt ρ fun c=>bS c (f:=fun c=>if c=true then B true else tu ρ B) ⟨⟩:=rfl
theorem Lq:mI ρ B=B true:=rfl
-- expressions
theorem MT:ai i ρ Q=bS ρ[i]? (f:=fun o=>NB o Q) ⟨⟩:=rfl
theorem Jp:NB (some (some (.sh d))) Q=Q .sh d:=rfl
theorem JD:NB (some (some (.ow b d))) Q=Q .bo d:=rfl
theorem wC_:wC d ρ Q=Q .sh d:=rfl
theorem cK':aC f ta tb ρ Q=ta ρ fun m x=>tb ρ fun n y=>f m x n y Q:=rfl
theorem cL':h9 f ta ρ Q=ta ρ fun m x=>f m x Q:=rfl
theorem Kw:zT ta tb ρ Q=ta ρ fun _ x=>bS x (f:=fun x=>bol x fun c=>bS c (f:=fun c=>if c=true then tb ρ Q else Q .sh (.bl false)) ⟨⟩) ⟨⟩:=by unfold zT bS bol;rfl
theorem Mq:Qc ta tb ρ Q=ta ρ fun _ x=>bS x (f:=fun x=>bol x fun c=>bS c (f:=fun c=>if c=true then Q .sh (.bl true) else tb ρ Q) ⟨⟩) ⟨⟩:=by unfold Qc bS bol;rfl
theorem cM':S6 tt ta tb ρ Q=tt ρ fun c=>bS c (f:=fun c=>if c=true then ta ρ Q else tb ρ Q) ⟨⟩:=rfl
theorem Kh:ak te tar ρ R=te ρ fun m x=>tar ρ fun ps=>R ((m,x) :: ps):=rfl
theorem M9:df ρ R=R []:=rfl
theorem Lp:wx tar ρ Q=tar ρ fun ps=>ps.length<=sizeLine/\Q (Eu ps) (.tup (ps.map (·.2))):=rfl
theorem Nf:sR tar ρ Q=tar ρ fun ps=>ps.length<=sizeLine/\Q (Ef ps) (.list (ps.map (·.2))):=rfl
theorem Kz:aV sp tar ρ Q=tar ρ fun ps=>sp (ps.map (·.2)) fun m d=>bS (m,d) (f:=fun p=>Q (DM p.1 p.2) p.2) ⟨⟩:=rfl
-- operators
section
variable {x y:Str}{a b:Int}{xs ys:List D}{kvs:List (Key × D)}{BD:List (List Key × D)}
theorem JF:fR m (.int a) m' (.int b) Q=Q .sh (.int (a+b)):=rfl
theorem Jr:fR m (.str x) m' (.str y) Q=(x.length+y.length<=sizeLine/\Q .sh (.str (x++y))):=rfl
theorem Ir:fR m (.list xs) m' (.list ys) Q=(xs.length+ys.length<=sizeLine/\((cx xs=true/\cx ys=true/\Q (.ow true) (.list (xs++ys)))\/(m=.sh/\m'=.sh/\Q (.ow false) (.list (xs++ys))))):=rfl
theorem Ig:fR m (.tup xs) m' (.tup ys) Q=(xs≠[]/\xs.length+ys.length<=sizeLine/\cx xs=true/\cx ys=true/\Q .sh (.tup (xs++ys))):=rfl
theorem Jc:Qf m (.int a) m' (.int b) Q=Q .sh (.int (a-b)):=rfl
theorem Iu:oC m (.int a) m' (.int b) Q=(y6 a b/\Q .sh (.int (a*b))):=rfl
theorem JK:DJ m (.int a) m' (.int b) Q=((0<b/\b<1073741824)/\Q .sh (.int (a / b))):=rfl
theorem Iw:wq m (.int a) m' (.int b) Q=(0<b/\Q .sh (.int (a % b))):=rfl
theorem KR:Qg m (.int a) m' (.int b) Q=Q .sh (.bl (decide (a<b))):=rfl
theorem Kv:Qg m (.str x) m' (.str y) Q=Q .sh (.bl (tS x y)):=rfl
theorem Kc:S8 m (.int a) m' (.int b) Q=Q .sh (.bl (decide (b<a))):=rfl
theorem J3:mG m (.int a) m' (.int b) Q=Q .sh (.bl (decide (a=b))):=rfl
theorem KC:mG m (.str x) m' (.str y) Q=Q .sh (.bl (decide (x=y))):=rfl
theorem Ka:mG m (.bl k) m' (.bl l) Q=Q .sh (.bl (decide (k=l))):=rfl
theorem LR:mG m (.list xs) m' d Q=(cf 12 (.list xs)=true/\cf 12 d=true/\Q .sh (.bl (fI (.list xs) d))):=by cases d<;>rfl
theorem Li:mG m (.tup xs) m' d Q=(cf 12 (.tup xs)=true/\cf 12 d=true/\Q .sh (.bl (fI (.tup xs) d))):=by cases d<;>rfl
theorem L_:mG m .non m' d Q=(cf 12 .non=true/\cf 12 d=true/\Q .sh (.bl (fI .non d))):=by cases d<;>rfl
theorem K5:DL m (.int a) m' (.int b) Q=Q .sh (.bl (!decide (a=b))):=rfl
theorem Kr:DL m (.str x) m' (.str y) Q=Q .sh (.bl (!decide (x=y))):=rfl
theorem Mf:DL m (.list xs) m' d Q=(cf 12 (.list xs)=true/\cf 12 d=true/\Q .sh (.bl (!fI (.list xs) d))):=by cases d<;>rfl
theorem Mr:DL m (.tup xs) m' d Q=(cf 12 (.tup xs)=true/\cf 12 d=true/\Q .sh (.bl (!fI (.tup xs) d))):=by cases d<;>rfl
theorem M_:DL m .non m' d Q=(cf 12 .non=true/\cf 12 d=true/\Q .sh (.bl (!fI .non d))):=by cases d<;>rfl
theorem Ng:S9 m d m' .non Q=Q .sh (.bl d.Qh):=rfl
theorem Mi:wt neg m (.str x) m' (.str y) Q=Q .sh (.bl (if neg then !HV x y else HV x y)):=rfl
theorem M8:wt neg m d m' (.list ys) Q=(eV d=true/\ys.all eV=true/\Q .sh (.bl (if neg then !inD d ys else inD d ys))):=rfl
theorem Nk:wt neg m d m' (.tup ys) Q=(eV d=true/\ys.all eV=true/\Q .sh (.bl (if neg then !inD d ys else inD d ys))):=rfl
theorem LC:wt neg m d m' (.dK kvs) Q = ∃ k,d.key1=some k/\Q .sh (.bl (if neg then !(fv kvs k).isSome else (fv kvs k).isSome)):=rfl
theorem Mh:wt neg m (.tup xs) m' (.dT BD) Q = ∃ ks,eX xs=some ks/\Q .sh (.bl (if neg then !(fv BD ks).isSome else (fv BD ks).isSome)):=rfl
theorem Mm:ND m (.int a) Q=Q .sh (.int (-a)):=rfl
theorem Nm:eT m (.list xs) m' (.int a) Q = ∃ d,eW xs a=some d/\bS d (f:=fun d=>Q (kP m d) d) ⟨⟩:=rfl
theorem Ml:eT m (.tup xs) m' (.int a) Q = ∃ d,eW xs a=some d/\bS d (f:=fun d=>Q (kP m d) d) ⟨⟩:=rfl
theorem Lk:eT m (.str x) m' (.int a) Q = ∃ c,eW x.cps.toList a=some c/\Q .sh (.str ⟨#[c]⟩):=rfl
theorem Mu:eT m (.dK kvs) m' d Q = ∃ k d',d.key1=some k/\fv kvs k=some d'/\bS d' (f:=fun d'=>Q (kP m d') d') ⟨⟩:=rfl
theorem MP:eT m (.dT BD) m' (.tup ys) Q = ∃ ks d',eX ys=some ks/\fv BD ks=some d'/\bS d' (f:=fun d'=>Q (kP m d') d') ⟨⟩:=rfl
theorem Ks:ya m (.str x) Q=Q .sh (.int x.length):=rfl
theorem J8:ya m (.list xs) Q=Q .sh (.int xs.length):=rfl
theorem KQ:ya m (.tup xs) Q=Q .sh (.int xs.length):=rfl
theorem KH:ya m (.dK kvs) Q=Q .sh (.int kvs.length):=rfl
theorem Kp:ya m (.dT BD) Q=Q .sh (.int BD.length):=rfl
theorem Lz{T:String}:NH T m d Q=Q .sh (.bl (HP d.ty T)):=rfl
theorem Jf:wz m (.list xs) Q=((cx xs=true/\Q (.ow true) (.list xs))\/(m=.sh/\Q (.ow false) (.list xs))):=rfl
theorem Jv:wz m (.tup xs) Q=((cx xs=true/\Q (.ow true) (.list xs))\/(m=.sh/\Q (.ow false) (.list xs))):=rfl
theorem Jx:wz m (.dT BD) Q=Q (.ow true) (.list (BD.map fun kv=>.tup (kv.1.map lT))):=rfl
theorem cN':Ta te tl th ρ Q=te ρ fun m x=>tl ρ fun lo=>th ρ fun hi=>NF m x lo hi Q:=rfl
def int'(d:D)(k:Int->Prop):Prop:=match d with
 |.int i=>k i
 |_=>False
theorem J9:int' (.int a) k=k a:=rfl
theorem Kg:wL te ρ O=te ρ fun _ x=>bS x (f:=fun x=>int' x fun i=>O (some i)) ⟨⟩:=by unfold wL bS int';rfl
theorem Lf{lo hi:Option Int}:NF m (.str x) lo hi Q=Q .sh (.str (xS x lo hi)):=rfl
theorem Ni{lo hi:Option Int}:NF m (.list xs) lo hi Q=((cx xs=true/\Q (.ow true) (.list (om xs lo hi)))\/(m=.sh/\Q (.ow false) (.list (om xs lo hi)))):=rfl
theorem Nj{lo hi:Option Int}:NF m (.tup xs) lo hi Q=(cx xs=true/\¬ (HT.bI xs.length 0 lo=0/\HT.bI xs.length xs.length hi=xs.length)/\Q .sh (.tup (om xs lo hi))):=rfl
end
-- texts
def Tp(d:D)(k:Str->Prop):Prop:=match d with
 |.str x=>k x
 |_=>False
theorem K1:Tp (.str x) k=k x:=rfl
def sv(d:D)(k:List D->Prop):Prop:=match d with
 |.list x=>k x
 |_=>False
theorem I_:sv (.list x) k=k x:=rfl
theorem Je:lu NV te ρ Q=NV ρ fun _ x=>bS x (f:=fun x=>Tp x fun z=>te ρ fun _ y=>bS y (f:=fun y=>sv y fun ys=>∃ zs,jo ys=some zs/\(zs.map (·.length)).sum+zs.length*z.length<=16777216/\Q .sh (.str (Str.join z zs))) ⟨⟩) ⟨⟩:=by unfold lu bS Tp sv;rfl
-- places
theorem cO'{P:Bool->D->(Bool->D->Env)->Prop}:nV i ρ P=bS ρ[i]? (f:=fun o=>match o with
 |some (some (.ow fl d))=>P fl d fun fl2 d2=>ρ.set i (some (.ow fl2 d2))
 |_=>False) ⟨⟩:=rfl
def Tq(o:Option Bool)(k:Bool->Prop):Prop:=match o with
 |some b=>k b
 |none=>False
theorem HR:Tq (some b) k=k b:=rfl
theorem Ls:z5 p te E ρ=p ρ fun fl d up=>bS d (f:=fun d=>sv d fun xs=>te ρ fun m x=>xs.length<sizeLine/\bS (mJ fl m x) (f:=fun o=>Tq o fun fl2=>E.nx (up fl2 (.list (xs++[x])))) ⟨⟩) ⟨⟩:=by unfold z5 bS sv Tq;rfl
theorem JL:yV ρ Q=Q (.ow true) (.dT []):=rfl
def dct(d y:D)(k1:List (Key × D)->Prop)(k2:List (List Key × D)->List D->Prop):Prop:=match d with
 |.dK kvs=>k1 kvs
 |.dT kvs=>match y with
  |.tup ys=>k2 kvs ys
  |_=>False
 |_=>False
theorem MF:dct (.dK kvs) y k1 k2=k1 kvs:=rfl
theorem Lx:dct (.dT kvs) (.tup ys) k1 k2=k2 kvs ys:=rfl
theorem KY:oU p tk tv E ρ=tv ρ fun _ x=>p ρ fun fl d up=>tk ρ fun _ y=>x.flat=true/\bS d (f:=fun d=>dct d y (fun kvs=>∃ k,y.key1=some k/\kvs.length<sizeLine/\E.nx (up fl (.dK (kD kvs k x)))) (fun kvs ys=>∃ ks,eX ys=some ks/\kvs.length<sizeLine/\E.nx (up fl (.dT (kD kvs ks x))))) ⟨⟩:=by
 unfold oU bS dct
 rfl
-- loops
variable {LQ:List D->Prop}
theorem K_:qc wi g b E ρ=wi ρ fun ds=>oX g b E ds ρ:=rfl
theorem Ih:gB te ρ LQ=te ρ fun m d=>qN m/\bS d (f:=fun d=>sv d LQ) ⟨⟩:=by unfold gB bS sv;rfl
def Tr(d:D)(k:List D->Prop):Prop:=match d with
 |.tup x=>k x
 |_=>False
theorem Kq:Tr (.tup x) k=k x:=rfl
theorem Ji:b_ te ρ LQ=te ρ fun _ d=>bS d (f:=fun d=>int' d fun j=>j<=16777216/\-(2 ^ 62)<=j/\LQ (qj 0 j.toNat)) ⟨⟩:=by unfold b_ bS int';rfl
theorem HX:qN .sh=True:=rfl
theorem Ie:qN (.ow b)=True:=rfl
theorem H_:qN .bo=False:=rfl
theorem gN_:gN i d ρ N=N (ρ.set i (some (.sh d))):=rfl
theorem gT_:gT n gs d ρ N=bS d (f:=fun d=>Tr d fun ds=>ds.length=n/\gs ds ρ N) ⟨⟩:=by unfold gT bS Tr;rfl
theorem JV:dJ g gs (d :: ds) ρ N=g d ρ fun bp=>gs ds bp N:=rfl
theorem Ld:rW [] ρ N=N ρ:=by simp[rW]
theorem KZ:cY wi g tt te tn ix ρ Q=wi ρ fun ds=>iu g tt te ds (uT tn ix ρ) fun out=>Q (.ow true) (.list out):=rfl
end
theorem B{c:Bool}{f:Bool->Prop}{k:Kt f}(h1:c=true->f true)(h2:c=false->f false):bS c k:=by
 cases c with
 |true=>exact h1 rfl
 |false=>exact h2 rfl
theorem D{p:Prop}[Decidable p]{f:Bool->Prop}{k:Kt f}(h1:p->f true)(h2:¬ p->f false):bS (decide p) k :=
 B (fun h=>h1 (of_decide_eq_true h)) fun h=>h2 (of_decide_eq_false h)
theorem T{c:Bool}{f:Bool->Prop}{k:Kt f}(h:c=true)(h1:f true):bS c k:=by subst h;exact h1
theorem F{c:Bool}{f:Bool->Prop}{k:Kt f}(h:c=false)(h1:f false):bS c k:=by subst h;exact h1
end L2.Q.R
namespace L2
open PySem PySem.Spec PyProof.Rows
end L2
namespace L2.Q
open PySem PySem.Spec PyProof.Rows
section
variable {X:Cx}{K:PySem.W.Frag}{e e2:Expr}{te IQ:WE}{pos p dk apos:Pos}
def NW(tk tv:WE):WE:=fun ρ Q=>tk ρ fun _ x=>tv ρ fun _ y=>∃ k,x.key1=some k/\y.flat=true/\Q (.ow true) (.dK [(k,y)])
theorem rB(he:QE X K e te)(he2:QE X K e2 IQ):QE X K (.Dict [some e] [e2] pos) (NW te IQ):=by
 refine PE.imp (aP' (aN' he he2 aM') rfl rfl (by simp) (by simp)) fun σ H Qv hx=>iN hx fun Hs ρ ag Q sr h fin=>fun a ha=>?_
 have g0:eJ Hs H Hs (upd H a (.dK [])):=Ny sr.wf ha fun _ z=>nomatch z
 refine⟨Hs,ρ,ag,_,sr.grow g0,h,fun v H1 ax m x As g1 r1 f1 q1=>⟨ax,ρ,ag,_,(sr.grow g0).grow g1,q1,fun u H2 aw n y Bs g2 r2 f2 q2=>?_⟩⟩
 obtain⟨k,ek,fy,q2⟩:=q2
 have rx:=(r1.grow g2).rep g2.wf
 have ex:=rx.key ek
 subst ex
 have ry:=r2.flat g2.wf fy
 have gg:=(g0.trans g1).trans g2
 have e2:H2 a=some (.dK []):=g2.all _ _ (g1.all _ _ gX)
 have nH:Hs a=none:=sr.wf.sub.free ha
 have n2:aw a=none:=g2.lP (g1.lP nH (by rw[gX];exact fun z=>nomatch z)) (by rw[g1.all _ _ gX];exact fun z=>nomatch z)
 refine⟨e2,[(k,u)],rfl,by simp,?_⟩
 have g3:eJ Hs H aw (upd H2 a (.dK [(k,u)])):=⟨fun b o hb=>by rw[fm (B9 hb ha)];exact gg.all b o hb,gg.sh,⟨fun b o hb=>by rw[fm (B9 hb n2)];exact gg.wf.sub b o hb,fun b vs hb=>by
  by_cases z:b=a
  ·subst z;rw[gX] at hb;cases hb
  ·rw[fm z] at hb;exact gg.wf.ku b vs hb⟩,gg.new⟩
 exact fin (.ref a) _ aw (.ow true) (.dK [(k,y)]) [a] g3 ⟨.dK (vs:=[u]) (As:=[]) ⟨by rw[sizeLine_eq];simp,fun p hp=>by
  have:p=(k,y):=by simpa using hp
  subst this;exact rE rx ek⟩ gX (.cons (As:=[]) (.sh (fun _=>fy) ry) .nil),by simp⟩ ⟨by simp,fun b hb=>by
  obtain rfl:b=a:=by simpa using hb
  exact⟨n2,ha⟩⟩ q2
def tY:W1:=fun _ x Q=>match x with
 |.list xs=>∃ ks b,xs=ks.map lT/\(∀ k∈ks,mB k=b)/\∀ ms:List Key,ms.Perm ks->(ms.Pairwise fun a b=>lS b a=false)->Q (.ow true) (.list (ms.map lT))
 |.dK kvs=>∃ b,(∀ p∈kvs,mB p.1=b)/\∀ ms:List Key,ms.Perm (kvs.map (·.1))->(ms.Pairwise fun a b=>lS b a=false)->Q (.ow true) (.list (ms.map lT))
 |_=>False
theorem uI:zS K (uc K) tY:=by
 intro Hs H m x v As Qd Qv w rx h f
 have r1:=rx.rep w
 cases r1 with
 |list z s q =>
  obtain⟨ks,b,rfl,hb,h⟩:=h
  obtain⟨e,ok⟩:=rT q
  subst e
  refine⟨ks,b,.inl s,hb,fun ms l pm pw hl=>?_⟩
  exact f.lst w (by rw[b4,pm.length_eq];simpa using z) (iw fun k hk=>ok k (pm.mem_iff.mp hk)) (fU ms) (h ms pm pw) l hl
 |@dK a vs kvs kk e q =>
  obtain⟨b,hb,h⟩:=h
  have hlen:=q.length
  rw[b4] at hlen
  have ez:(((kvs.map (·.1)).zip vs).map (·.1))=kvs.map (·.1):=by rw[LJ (by rw[b4];lia)]
  refine⟨kvs.map (·.1),b,.inr ⟨_,e,ez.symm⟩,fun k hk=>?_,fun ms l pm pw hl=>?_⟩
  ·obtain⟨p,hp,rfl⟩:=cc.mp hk
   exact hb p hp
  ·refine f.lst w (by rw[b4,pm.length_eq,b4];exact kk.1) (iw fun k hk=>?_) (fU ms) (h ms pm pw) l hl
   obtain⟨p,hp,rfl⟩:=cc.mp (pm.mem_iff.mp hk)
   exact kk.2 p hp
 |_=>exact h.elim
theorem BR (hc:X.calm=true:=by rfl) (hK:X.K=K:=by rfl):i3 X (.builtin "sorted") (uc K):=by subst hK;exact vD hc
section
variable {Hs H:Hp}{fl:Bool}
theorem az.erase(k:Nat)(r:az K Hs H fl ds vs As):∃ Bs,Bs.Sublist As/\az K Hs H fl (ds.eraseIdx k) (vs.eraseIdx k) Bs:=by
 induction ds generalizing vs As k with
 |nil =>
  obtain⟨rfl,rfl⟩:=r.n0
  exact⟨[],List.Sublist.refl _,.nil⟩
 |cons d ds ih =>
  obtain⟨u,us,A,B,rfl,rfl,r,rs⟩:=r.c
  cases k with
  |zero=>exact⟨B,oq _ _,rs⟩
  |succ k =>
   obtain⟨C,sb,q⟩:=ih k rs
   exact⟨A++C,sb.append_left _,.cons r q⟩
theorem az.cS'{ds:List D}{vs:List V}{As:List Addr}{k:Nat}{d:D}(r:az K Hs H fl ds vs As)(e:ds[k]? = some d)(hf:d.flat=true)(w:Wf Hs H):∃ v,vs[k]? = some v/\Rep K Hs d v:=by
 induction ds generalizing vs As k with
 |nil=>simp at e
 |cons x ds ih =>
  obtain⟨u,us,A,B,rfl,rfl,r,rs⟩:=r.c
  cases k with
  |zero =>
   simp at e
   subst e
   exact⟨_,rfl,(r.rep w.sub fun _ _=>rfl).gw w.ku hf⟩
  |succ k=>exact ih (k:=k) rs (by simpa using e)
end
def Ql(i:Nat)(p:WP):WS:=fun E ρ=>p ρ fun fl d up=>match d with
 |.list xs=>∃ y,xs[xs.length-1]? = some y/\y.flat=true/\E.nx ((up fl (.list xs.dropLast)).set i (some (.sh y)))
 |_=>False
theorem qM(xs:List α):xs.eraseIdx (xs.length-1)=xs.dropLast:=by
 rw[List.dropLast_eq_take,List.eraseIdx_eq_take_drop_succ]
 rw[List.drop_eq_nil_of_le (by lia),n4]
theorem GZ{wp:WP}{i:Nat}{x:Str}{pos':Pos}(hN:X.N.Nodup)(hi:X.N[i]? = some x)(hx:Loc X.env.scope x)(ho:QP X K e wp)(hK:X.K=K:=by rfl)
  (rS:attributeBase e "pop" X.env (eval e X.env)=eval e X.env:=by rfl) (hline:(apos.endLine == dk.line)=true:=by rfl)
  (hs:swapsWith (.Call (.Attribute e "pop" apos) [] [] dk) (some (.Name x pos')) pos.line X.env=pure false:=by rfl) (hf:X.fn x=true\/X.env.scope.names.lookup x=some .local:=by first|exact .inl rfl|exact .inr rfl|assumption) :
  QS X K L (.Assign [.Name x pos'] (.Call (.Attribute e "pop" apos) [] [] dk) pos) (Ql i wp):=by
 subst hK
 refine PS.imp (Rw hN hi hx (aq' PySem.F.plainAttrs_list PySem.F.slot_list_pop PySem.F.type_list_pop aw' ho rS hline) hs hf) fun D σ H hx=>dO hx fun Hs ρ ag E sr h k1 k2 k3 k4=>?_
 refine⟨Hs,ρ,ag,_,sr,h,fun v H1 ax fl d up g1 p1 q1=>?_⟩
 cases d with
 |list xs =>
  obtain⟨y,ey,fy,q1⟩:=q1
  obtain⟨a,vs,A,ea,e2,_,rs,nd,hn,k⟩:=p1.put (eJ.refl g1.wf)
  subst ea
  obtain⟨nA,E8⟩:=iA.mp nd
  obtain⟨u,eu,ru⟩:=rs.cS' ey fy g1.wf
  obtain⟨B,sb,rb⟩:=rs.erase (xs.length-1)
  have hl:=rs.length
  rw[qM] at rb
  rw[hl,qM] at rb
  rw[hl] at eu
  refine⟨.inl ⟨rfl,_,.inl (.inl e2)⟩,a,vs,u,rfl,rfl,e2,eu,?_⟩
  have hz:vs.dropLast.length<=sizeLine:=by
   rcases p1.ex with⟨fh,r,ne,_⟩
   cases r with
   |sh _ _=>exact absurd rfl ne
   |list hz e3 _=>rw[e2] at e3;cases e3;rw[List.length_dropLast];lia
  obtain⟨dz,fT⟩:=k fl _ _ B id rb hz (sb.nodup E8) (fun z=>nA (sb.subset z)) (fun x hx=>.inl (sb.subset hx))
  obtain⟨Td,_,Te⟩:=fT.Aq i ru
  exact k1 _ _ ax _ Td g1.sh Te q1
 |_=>exact q1.elim
end
abbrev WIL:=Env->(List D->Prop)->Prop
section
variable {X:Cx}{K:PySem.W.Frag}
theorem gk(hN:X.N.Nodup)(sf:X.N[i]? = some x)(hx:Loc X.env.scope x)(hc:X.calm=true)
  (hi:IU X K tg iter wi) (O:aO X scope tn cn ix)
  (hg:∀ C fp ck cw,QG (bQ X scope C (tn++cn) fp ck cw) K tg g) (jI:∀ C fp ck cw,IX (bQ X scope C (tn++cn) fp ck cw) K ifs tc) (he:∀ C fp ck cw,QE (bQ X scope C (tn++cn) fp ck cw) K elt te)
  (Sg:swapsWith (.ListComp elt [⟨tg,iter,ifs,0⟩] scope pos) (some (.Name x pos')) Sh.line X.env=pure true:=by rfl)
  (hs:∀ x,foldedSetIterable iter X.env x=pure x:=by intro _;rfl) (hf:X.fn x=true\/X.env.scope.names.lookup x=some .local:=by first|exact .inl rfl|exact .inr rfl|assumption) :
  QS X K L (.Assign [.Name x pos'] (.ListComp elt [⟨tg,iter,ifs,0⟩] scope pos) Sh) (dQ i (cY wi g tc te tn.length ix)) :=
 PS.imp (vq hN sf hx hc hi O hg jI he Sg hs hf) fun D σ H hx=>dO hx fun Hs ρ ag E sr h k1 k2 k3 k4=>by
  refine jP ⟨Hs,ρ,ag,_,sr,h,fun v H1 ax m d As g1 r1 f1 q1=>?_⟩
  have q1:match asg m d with
   |some sl=>E.nx (ρ.set i (some sl))
   |none=>False:=q1
  cases e:asg m d with
  |none=>rw[e] at q1;exact q1.elim
  |some sl =>
   rw[e] at q1
   obtain⟨b6,s'⟩:=(sr.grow g1).set i r1 f1.1 (fun a ha=>⟨(f1.2 a ha).1,fun m=>(sr.sr.own a m).ne (f1.2 a ha).2⟩) e
   exact k1 _ H1 ax _ b6 g1.sh s' q1
end
end L2.Q
namespace L2.Q.R
open PySem PySem.Spec PyProof.Rows L2.Q
section
variable {E:nT}{ρ:Env}{Q:Md->L2.Q.D->Prop}{te tk:WE}{i:Nat}{d:L2.Q.D}{p:WP}{a:Addr}{b:Bool}{LQ:List L2.Q.D->Prop}
theorem Kf{f:Option Sl->Prop}{k:Kt f}:bS (some (.lk a b d)) k=f (some (.lk a b d)):=rfl
theorem JX{f:Option (Option Sl)->Prop}{k:Kt f}:bS (some (some (.lk a b d))) k=f (some (some (.lk a b d))):=rfl
theorem Jl:NB (some (some (.lk a b d))) Q=Q .bo d:=rfl
theorem cT':NW tk te ρ Q=tk ρ fun _ x=>te ρ fun _ y=>∃ k,x.key1=some k/\y.flat=true/\Q (.ow true) (.dK [(k,y)]):=rfl
theorem M7:Ql i p E ρ=p ρ fun fl d up=>bS d (f:=fun d=>sv d fun xs=>∃ y,xs[xs.length-1]? = some y/\y.flat=true/\bS y (f:=fun y=>E.nx ((up fl (.list xs.dropLast)).set i (some (.sh y)))) ⟨⟩) ⟨⟩:=by unfold Ql bS sv;rfl
def cU'(o:Option (Option Sl))(k:Bool->L2.Q.D->Prop):Prop:=match o with
 |some (some (.ow fl d))=>k fl d
 |_=>False
theorem Ip:cU' (some (some (.ow b d))) k=k b d:=rfl
theorem Im:dW te ρ LQ=te ρ fun _ d=>bS d (f:=fun d=>sv d LQ) ⟨⟩:=by unfold dW bS sv;rfl
def wpAt(d:L2.Q.D)(i:Int)(P:Bool->L2.Q.D->(Bool->L2.Q.D->Env)->Prop)(up:Bool->L2.Q.D->Env):Prop:=match d with
 |.list ds=>∃ j d',ll ds.length i=some j/\ds[j]? = some d'/\d'.flat=false/\bS d' (f:=fun d'=>P true d' fun fl2 d2=>up fl2 (.list (ds.set j d2))) ⟨⟩
 |.tup ds=>∃ j d',ll ds.length i=some j/\ds[j]? = some d'/\d'.flat=false/\bS d' (f:=fun d'=>P true d' fun fl2 d2=>up fl2 (.tup (ds.set j d2))) ⟨⟩
 |_=>False
section
variable {P:Bool->L2.Q.D->(Bool->L2.Q.D->Env)->Prop}{up:Bool->L2.Q.D->Env}{ds:List L2.Q.D}{j:Int}
theorem JZ:wpAt (.list ds) j P up = ∃ k d',ll ds.length j=some k/\ds[k]? = some d'/\d'.flat=false/\bS d' (f:=fun d'=>P true d' fun fl2 d2=>up fl2 (.list (ds.set k d2))) ⟨⟩:=rfl
theorem JT:wpAt (.tup ds) j P up = ∃ k d',ll ds.length j=some k/\ds[k]? = some d'/\d'.flat=false/\bS d' (f:=fun d'=>P true d' fun fl2 d2=>up fl2 (.tup (ds.set k d2))) ⟨⟩:=rfl
theorem Mx:NS p te ρ P=p ρ fun fl d up=>te ρ fun _ y=>fl=true/\bS y (f:=fun y=>int' y fun i=>bS d (f:=fun d=>wpAt d i P up) ⟨⟩) ⟨⟩:=by
 unfold NS bS int' wpAt
 rfl
end
end
end L2.Q.R
namespace L2
open PySem PySem.Spec PyProof.Rows Builtin Builtin.Str Builtin.Int
end L2
namespace L2
open PySem PySem.Spec PyProof.Rows
end L2
namespace L2.Q
open PySem PySem.Spec PyProof.Rows
section
variable {X:Cx}{K:PySem.W.Frag}{e a b:Expr}{ta tb:WE}{p pos:Pos}{x:Str}{id:String}
theorem Ah{H:Hp}{bs:List Int}{vs:List V}(r:aI K H (bs.map D.int) vs):vs=bs.map V.int:=by
 induction bs generalizing vs with
 |nil=>exact r.n0
 |cons b bs ih =>
  obtain⟨u,us,rfl,r1,rs⟩:=aI.c (d:=D.int b) r
  cases r1
  rw[ih rs];rfl
theorem Gy:bootBuiltins "min" = some (.builtin "min"):=by decide +kernel
def Dw:R2:=fun x y H Q=>match x,y with
 |.int i,.int j=>Q (.int (if j<i then j else i)) H
 |_,_=>False
def Fd:W2:=fun _ x _ y Q=>match x,y with
 |.int i,.int j=>Q .sh (.int (if j<i then j else i))
 |_,_=>False
theorem Dr:kQ K Dw Fd:=by
 intro Hs H m x v As n y u Bs Qd Qv w rx ry h f
 have r1:=rx.rep w
 have r2:=ry.rep w
 cases r1 with
 |int i=>cases r2 with
  |int j=>exact f.sh w (.int _) h
  |_=>exact h.elim
 |_=>cases r2<;>exact h.elim
theorem Cv(hc:i3 X (.builtin id) fun xs H Q=>∃ x y,xs=[x,y]/\r x y H Q)(br:kQ K r f)(hg:Gl X x)(hm:X.mg x=none)(hv:bootBuiltins x=some (.builtin id))(ha:QE X K a ta)(hb:QE X K b tb)
  (hs:starEach [a,b] X.env=(false,eval a X.env) :: starEach [b] X.env:=by rfl) (sq:starEach [b] X.env=(false,eval b X.env) :: starEach [] X.env:=by rfl) (hn:x ≠ "__name__" := by decide) (rp:(x == ("__debug__" : Str))=false:=by decide)
  (nr:(backTo pos (starEach [b] X.env)).any (·.1)=false:=by rfl):QE X K (.Call (.Name x p) [a,b] [] pos) (aC f ta tb):=by
 refine PE.imp (RN hc hg hm hv (rh ha (rh hb vT sq) hs) hn rp hs nr) fun σ H Qv h=>?_
 obtain⟨Hs,ρ,ag,Q,sr,h,fin⟩:=jB br σ H Qv h
 exact⟨Hs,ρ,ag,Q,sr,h,fun v H1 ax m x As g1 r1 f1 q1=>by
  obtain⟨aw,fe,dz,Q2,fT,h2,fin2⟩:=fin v H1 ax m x As g1 r1 f1 q1
  exact⟨aw,fe,dz,Q2,fT,h2,fun u H2 dv n y Bs g2 r2 f2 q2=>⟨v,u,rfl,fin2 u H2 dv n y Bs g2 r2 f2 q2⟩⟩⟩
theorem Hg (hc:X.calm=true:=by rfl):i3 X (.builtin "min") fun xs H Q=>∃ x y,xs=[x,y]/\Dw x y H Q:=fun pins s σ H xs us Q I r cK=>by
 obtain⟨x,y,e,q⟩:=cK
 subst e
 unfold Dw at q
 split at q
 ·exact ZF hc pins s σ H _ us Q I r ⟨_,_,rfl,q⟩
 ·exact q.elim
end
end L2.Q
namespace L2.Q.R
open PySem PySem.Spec PyProof.Rows L2.Q
section
variable {Q:Md->L2.Q.D->Prop}{m m':Md}{a b:Int}
theorem K9:Fd m (.int a) m' (.int b) Q=Q .sh (.int (if b<a then b else a)):=rfl
end
end L2.Q.R
namespace L2.Q
open PySem PySem.Spec PyProof.Rows
theorem cj(O:Nat->List D->Prop)(Iv:Env->Prop):∀ (xs:List D) (i:Nat) (pre:List D) (ρ:Env) (k:List D->Prop),Iv ρ->O i pre ->
  (∀ j x,xs[j]? = some x->∀ ρ,Iv ρ->∀ out,O (i+j) out->∀ N1:Env->Prop,∀ N2:Env->D->Prop,(∀ bp d,Iv bp->O (i+j+1) (out++[d])->N2 bp d)->g x ρ fun iO=>tc iO fun b=>if b=true then te iO fun m d=>NR m d/\N2 iO d else N1 iO) ->
  (∀ out,O (i+xs.length) (pre++out)->k out)->iu g tc te xs ρ k
 |[],i,pre,_,k,_,h0,_,h=>h [] (by simpa using h0)
 |x :: xs,i,pre,ρ,k,iv,h0,hs,h=>by
  refine hs 0 x rfl ρ iv pre h0 _ _ (fun bp d Bz o'=>?_)
  refine cj O Iv xs (i+1) (pre++[d]) bp _ Bz o' (fun j y hy ρ iv out ho=>?_) fun out ho=>?_
  ·have:=hs (j+1) y (by simpa using hy) ρ iv out (by rwa[show i+(j+1)=i+1+j by lia])
   rwa[show i+(j+1)+1=i+1+j+1 by lia] at this
  ·refine h (d :: out) ?_
   rw[xh] at ho
   rwa[pe,show i+(xs.length+1)=i+1+xs.length by lia]
end L2.Q
namespace TS
open PySem PySem.SetTable
def fk:Nat->Nat->Nat
 |0,s=>s
 |k+1,s=>5*fk k s+1
theorem Gp(a b s:Nat):fk (a+b) s=fk b (fk a s):=by
 induction b with
 |zero=>rfl
 |succ b ih=>show 5*fk (a+b) s+1=5*fk b (fk a s)+1;rw[ih]
theorem yq(n s:Nat):4*fk n s+1=5 ^ n*(4*s+1):=by
 induction n with
 |zero=>simp[fk]
 |succ n ih =>
  show 4*(5*fk n s+1)+1=5 ^ (n+1)*(4*s+1)
  rw[yB,OY (5 ^ n) 5,FY,<- ih];lia
theorem zV(m:Nat):∃ q,5 ^ 2 ^ m=1+2 ^ (m+2)*q/\q % 2=1:=by
 induction m with
 |zero=>exact⟨1,by decide,by decide⟩
 |succ m ih =>
  obtain⟨q,e,o⟩:=ih
  refine⟨q+2 ^ (m+1)*(q*q),?_,?_⟩
  ·have hp:5 ^ 2 ^ (m+1)=(5 ^ 2 ^ m) ^ 2:=by rw[yB 2 m,Nat.pow_mul]
   rw[hp,e]
   clear e hp
   have e1:2 ^ (m+1+2)=2*2 ^ (m+2):=by rw[show m+1+2=(m+2)+1 by exact Nat.add_assoc ..,yB];lia
   have e2:2 ^ (m+2)=2*2 ^ (m+1):=by rw[show m+2=(m+1)+1 by rfl,yB];lia
   rw[e1,e2]
   generalize 2 ^ (m+1)=y
   rw[Nat.pow_two]
   simp only[Nat.mul_add,Nat.add_mul,Nat.one_mul,Nat.mul_one]
   have a1:2*y*q*(2*y*q)=2*(2*y)*(y*(q*q)):=by
    simp only[FY,Nat.mul_left_comm,OY]
   have a2:2*(2*y)*q=2*y*q+2*y*q:=by
    rw[FY 2 (2*y) q];lia
   rw[a1,a2];lia
  ·have:2 ^ (m+1)*(q*q) % 2=0:=by
    rw[yB,OY (2 ^ m) 2,FY,Nat.mul_mod_right]
   lia
theorem CJ(m x:Nat):∃ r,fk (2 ^ m) x=x+2 ^ m*r/\r % 2=1:=by
 obtain⟨q,e,o⟩:=zV m
 have c:=yq (2 ^ m) x
 rw[e] at c
 refine⟨q*(4*x+1),?_,?_⟩
 ·have e2:2 ^ (m+2)=4*2 ^ m:=by rw[Nat.pow_add];lia
  rw[e2,Nat.add_mul,Nat.one_mul,FY,FY] at c
  lia
 ·rw[Nat.mul_mod,o,Nat.one_mul];lia
theorem G_(m s e:Nat):∃ k,k+1<=2 ^ m/\fk k s % 2 ^ m=e % 2 ^ m:=by
 induction m with
 |zero=>exact⟨0,by decide,by simp[Nat.mod_one]⟩
 |succ m ih =>
  obtain⟨k,hk,h⟩:=ih
  have hp:2 ^ (m+1)=2 ^ m*2:=yB ..
  have cV':0<2 ^ m:=Nat.pow_pos (by decide)
  have key:∀ a:Nat,a % (2 ^ m*2)=a % 2 ^ m+2 ^ m*(a / 2 ^ m % 2):=fun a=>Nat.mod_mul
  by_cases c:fk k s / 2 ^ m % 2=e / 2 ^ m % 2
  ·exact⟨k,by walk_at "s4",by rw[hp,key,key,h,c]⟩
  ·refine⟨k+2 ^ m,by lia,?_⟩
   obtain⟨r,er,ro⟩:=CJ m (fk k s)
   rw[Gp,er,hp,key,key,Nat.add_mul_mod_self_left,h,Nat.add_mul_div_left _ _ cV']
   have:(fk k s / 2 ^ m+r) % 2=e / 2 ^ m % 2:=by lia
   rw[this]
def qf(M:Nat)(p:Probe):Probe :=
 if p.more>0 then { p with j:=p.j+1,more:=p.more-1 } else
 { p with j:=(leap M p.i p.perturb).1,more:=runEnd M (leap M p.i p.perturb).1-(leap M p.i p.perturb).1,i:=(leap M p.i p.perturb).1,perturb:=(leap M p.i p.perturb).2 }
def ps(M:Nat)(h:Int):Nat->Probe
 |0=>{ j:=bits h % (M+1),more:=runEnd M (bits h % (M+1))-bits h % (M+1),i:=bits h % (M+1),perturb:=bits h,dummy:=none }
 |n+1=>qf M (ps M h n)
def J(M:Nat)(h:Int)(n:Nat):Nat:=(ps M h n).j
theorem uN(h:i<=M):i<=runEnd M i/\runEnd M i<=M/\runEnd M i<=i+9:=by
 unfold runEnd;split<;>lia
theorem Em(M:Nat)(h:Int):∀ n,(ps M h n).i<=M/\(ps M h n).j+(ps M h n).more<=M/\(ps M h n).dummy=none/\(ps M h n).more<=9
 |0=>by
  have h0:bits h % (M+1)<=M:=OV (GH _ (OZ _))
  have:=uN h0
  exact⟨h0,by show bits h % (M+1)+(runEnd M (bits h % (M+1))-bits h % (M+1))<=M;lia,rfl,by show runEnd M (bits h % (M+1))-bits h % (M+1)<=9;lia⟩
 |n+1=>by
  obtain⟨a,b,c,d⟩:=Em M h n
  show(qf M (ps M h n)).i<=M/\_/\(qf M (ps M h n)).dummy=none/\_
  unfold qf
  by_cases hm:(ps M h n).more>0
  ·simp only[hm,if_true]
   show _/\(qf M (ps M h n)).j+(qf M (ps M h n)).more<=M/\_/\(qf M (ps M h n)).more<=9
   simp only[qf,hm,if_true]
   exact⟨a,by lia,c,by walk_at "s4"⟩
  ·simp only[hm,if_false]
   show _/\(qf M (ps M h n)).j+(qf M (ps M h n)).more<=M/\_/\(qf M (ps M h n)).more<=9
   simp only[qf,hm,if_false]
   have h0:(leap M (ps M h n).i (ps M h n).perturb).1<=M:=OV (GH _ (OZ _))
   have:=uN h0
   exact⟨h0,by lia,c,by lia⟩
theorem Qm(M:Nat)(h:Int)(n:Nat):J M h n<=M:=by
 have:=Em M h n
 unfold J;lia
theorem yp(M:Nat)(h:Int)(n:Nat):∀ r,r<=(ps M h n).more->ps M h (n+r)={ ps M h n with j:=(ps M h n).j+r,more:=(ps M h n).more-r }
 |0,_=>rfl
 |r+1,hr=>by
  show qf M (ps M h (n+r))=_
  rw[yp M h n r (by exact kA ‹_›)]
  unfold qf
  rw[if_pos (show(ps M h n).more-r>0 by lia)]
  simp only[Probe.mk.injEq,true_and,and_true]
  walk_at "s1"
def lp(M:Nat)(h:Int):Nat->Nat × Nat
 |0=>(bits h % (M+1),bits h)
 |k+1=>leap M (lp M h k).1 (lp M h k).2
def i6(M:Nat)(h:Int):Nat->Nat
 |0=>0
 |k+1=>i6 M h k+(runEnd M (lp M h k).1-(lp M h k).1)+1
theorem DQ(M:Nat)(h:Int):∀ k,(lp M h k).1<=M
 |0=>OV (GH _ (OZ _))
 |k+1=>OV (GH _ (OZ _))
theorem xO(M:Nat)(h:Int):∀ k,i6 M h k<=10*k
 |0=>bT _
 |k+1=>by
  have:=xO M h k
  have:=uN (DQ M h k)
  show i6 M h k+_+1<=_;lia
theorem tK(M:Nat)(h:Int):∀ k,ps M h (i6 M h k)={ j:=(lp M h k).1,more:=runEnd M (lp M h k).1-(lp M h k).1,i:=(lp M h k).1,perturb:=(lp M h k).2,dummy:=none }
 |0=>rfl
 |k+1=>by
  have ih:=tK M h k
  have e:=yp M h (i6 M h k) (runEnd M (lp M h k).1-(lp M h k).1) (by rw[ih];exact bT _)
  show qf M (ps M h (i6 M h k+(runEnd M (lp M h k).1-(lp M h k).1)))=_
  rw[e,ih]
  unfold qf
  rw[if_neg (by simp)]
  rfl
theorem Bc(M:Nat)(h:Int):∀ k,(lp M h k).2=bits h / 32 ^ k
 |0=>by simp[lp]
 |k+1=>by
  show(lp M h k).2 / 32=_
  rw[Bc M h k,Nat.div_div_eq_div_mul,yB]
theorem Di(h:Int):bits h<2 ^ 64:=by
 unfold bits
 have h1:=Int.emod_nonneg h (show(2 ^ 64:Int)≠0 by decide)
 have h2:=Rj h (show(0:Int)<2 ^ 64 by decide)
 lia
theorem vZ(M:Nat)(h:Int):∀ k,(lp M h (13+k)).1 % (M+1)=fk k (lp M h 13).1 % (M+1)
 |0=>rfl
 |k+1=>by
  have e:(lp M h (13+k)).2=0:=by
   rw[Bc]
   refine Nat.div_eq_of_lt (kX (Di h) ?_)
   exact gx (by decide:2 ^ 64<=32 ^ 13) (Nat.pow_le_pow_right (by decide) (by exact Rb _ _))
  show(leap M (lp M h (13+k)).1 (lp M h (13+k)).2).1 % (M+1)=_
  unfold leap
  rw[e]
  show((lp M h (13+k)).1*5+1+0 / 32) % (M+1) % (M+1)=(5*fk k (lp M h 13).1+1) % (M+1)
  rw[Nat.mod_mod,Nat.zero_div,GB,Nat.add_mod,Nat.mul_mod,vZ M h k,<- Nat.mul_mod,<- Nat.add_mod,OY]
theorem cover(hM:M+1=2 ^ m)(h:Int)(he:e<=M):∃ k,k<=M+13/\(lp M h k).1=e:=by
 obtain⟨k,hk,q⟩:=G_ m (lp M h 13).1 e
 rw[<- hM] at hk q
 refine⟨13+k,by lia,?_⟩
 have:=vZ M h k
 rw[q] at this
 rwa[Nat.mod_eq_of_lt (FX (DQ M h _)),Nat.mod_eq_of_lt (FX he)] at this
theorem FN(M:Nat)(h:Int)(k:Nat):J M h (i6 M h k)=(lp M h k).1:=by unfold J;rw[tK]
theorem lW(hM:M+1=2 ^ m)(h:Int)(ic:Nat->Bool)(he:e<=M)(hf:ic e=false):∃ n,n<=10*(M+13)/\ic (J M h n)=false/\∀ k<n,ic (J M h k)=true:=by
 obtain⟨k,hk,q⟩:=cover hM h he
 have hb:=xO M h k
 have hB:ic (J M h (i6 M h k))=false:=by rw[FN,q];exact hf
 generalize i6 M h k=b at hb hB
 have go:∀ b,ic (J M h b)=false->∃ n,n<=b/\ic (J M h n)=false/\∀ k<n,ic (J M h k)=true:=by
  intro b
  induction b using Nat.strongRecOn with
  |ind b ih =>
   intro hB
   by_cases c:∃ k,k<b/\ic (J M h k)=false
   ·obtain⟨k,h1,h2⟩:=c
    obtain⟨n,a1,a2,a3⟩:=ih k h1 h2
    exact⟨n,by lia,a2,a3⟩
   ·refine⟨b,bT _,hB,fun k hk=>?_⟩
    cases z:ic (J M h k) with
    |true=>rfl
    |false=>exact absurd ⟨k,hk,z⟩ c
 obtain⟨n,a1,a2,a3⟩:=go b hB
 exact⟨n,by lia,a2,a3⟩
def Up(xs:Array Nat):Prop:=∀ i j:Nat,i<j->j<xs.size->xs.getD i 0<xs.getD j 0
theorem tG{xs:Array Nat}{i d d':Nat}(h:i<xs.size):xs.getD i d=xs.getD i d':=by simp[Array.getD,h]
theorem nQ{xs:Array Nat}(U:Up xs)(j:Nat):∀ (fuel lo hi:Nat),hi-lo<=fuel->lo<=hi->hi<=xs.size->(∀ i<lo,xs.getD i 0<j)->(∀ i,hi<=i->i<xs.size->j<=xs.getD i 0) ->
  below.go xs j fuel lo hi<=xs.size/\(∀ i<below.go xs j fuel lo hi,xs.getD i 0<j)/\(∀ i,below.go xs j fuel lo hi<=i->i<xs.size->j<=xs.getD i 0)
 |0,lo,hi,hf,h1,h2,h3,h4=>by
  obtain rfl:lo=hi:=by lia
  exact⟨h2,h3,h4⟩
 |fuel+1,lo,hi,hf,h1,h2,h3,h4=>by
  unfold below.go
  by_cases c:lo<hi
  ·rw[if_pos c]
   dsimp only
   have hm:(lo+hi) / 2<xs.size:=by lia
   by_cases d:xs.getD ((lo+hi) / 2) j<j
   ·rw[if_pos d]
    rw[tG (d':=0) hm] at d
    refine nQ U j fuel _ _ (by lia) (by lia) h2 (fun i gI=>?_) h4
    by_cases e:i=(lo+hi) / 2
    ·rw[e];exact d
    ·exact Rf (U i _ (by lia) hm) d
   ·rw[if_neg d]
    rw[tG (d':=0) hm] at d
    refine nQ U j fuel _ _ (by lia) (by lia) (by exact kA ‹_›) h3 fun i gI hs=>?_
    by_cases e:i=(lo+hi) / 2
    ·rw[e];exact D7 ‹_›
    ·have:=U ((lo+hi) / 2) i (by lia) hs;lia
  ·rw[if_neg c]
   obtain rfl:lo=hi:=by lia
   exact⟨h2,h3,h4⟩
theorem aL(U:Up xs)(j:Nat):below xs j<=xs.size/\(∀ i<below xs j,xs.getD i 0<j)/\(∀ i,below xs j<=i->i<xs.size->j<=xs.getD i 0) :=
 nQ U j xs.size 0 xs.size (by lia) (by lia) (bT _) (fun i h=>absurd h (D8 i)) fun i h1 h2=>by lia
theorem below_at(U:Up xs)(h:i<xs.size):below xs (xs.getD i 0)=i:=by
 obtain⟨a,b,c⟩:=aL U (xs.getD i 0)
 by_cases h1:below xs (xs.getD i 0)<i
 ·have:=c _ (bT _) (by lia)
  have:=U _ i h1 h
  lia
 ·by_cases h2:i<below xs (xs.getD i 0)
  ·have:=b i h2;lia
  ·lia
theorem vN(U:Up xs)(h:i<xs.size):below xs (xs.getD i 0+1)=i+1:=by
 obtain⟨a,b,c⟩:=aL U (xs.getD i 0+1)
 by_cases h1:below xs (xs.getD i 0+1)<i+1
 ·have:=c i (by lia) h;lia
 ·by_cases h2:i+1<below xs (xs.getD i 0+1)
  ·have:=b (i+1) h2
   have:=U i (i+1) (by lia) (by lia);lia
  ·lia
def taken(xs:Array Nat)(j:Nat):Bool:=xs[below xs j]? == some j
theorem yQ{xs:Array Nat}{i j:Nat}(h:xs[i]? = some j):i<xs.size/\xs.getD i 0=j:=by
 obtain⟨h1,h2⟩:=GL.mp h
 exact⟨h1,by simp[Array.getD,h1,h2]⟩
theorem wR{xs:Array Nat}{i:Nat}(h:i<xs.size):xs[i]? = some (xs.getD i 0):=by simp[Array.getD,h]
theorem fX{xs:Array Nat}(U:Up xs){j:Nat}:taken xs j=true↔∃ i,i<xs.size/\xs.getD i 0=j:=by
 unfold taken
 rw[beq_iff_eq]
 constructor
 ·intro h;exact⟨_,yQ h⟩
 ·rintro⟨i,h,rfl⟩
  rw[below_at U h]
  exact wR h
theorem ju{xs:Array Nat}(U:Up xs){j:Nat}(h:taken xs j=true):below xs j<xs.size/\xs.getD (below xs j) 0=j:=by
 unfold taken at h
 rw[beq_iff_eq] at h
 exact yQ h
theorem bB(xs:Array α)(x:α)(h:p<=xs.size):(insertAt xs p x).size=xs.size+1:=by
 unfold insertAt
 simp
 lia
theorem Pn(xs:Array α)(x:α)(h:p<=xs.size)(i:Nat):(insertAt xs p x)[i]? = if i<p then xs[i]? else if i=p then some x else xs[i-1]? := by
 unfold insertAt
 have hs:((xs.extract 0 p).push x).size=p+1:=by simp;lia
 by_cases h1:i<p
 ·rw[if_pos h1,Array.getElem?_append_left (by lia),Array.getElem?_push,if_neg (by simp;lia),O4]
  rw[if_pos (by lia)];simp
 ·rw[if_neg h1]
  by_cases h2:i=p
  ·rw[if_pos h2,Array.getElem?_append_left (by lia),Array.getElem?_push,if_pos (by simp;lia)]
  ·rw[if_neg h2,Array.getElem?_append_right (by lia),hs,O4]
   by_cases h3:i-(p+1)<min xs.size xs.size-p
   ·rw[if_pos h3]
    congr 1;lia
   ·rw[if_neg h3,B6 (by lia)]
theorem dC(h:p<=xs.size)(i:Nat):(insertAt xs p x).getD i 0=if i<p then xs.getD i 0 else if i=p then x else xs.getD (i-1) 0:=by
 have e:∀ (ys:Array Nat) (k:Nat),ys.getD k 0=ys[k]?.getD 0:=fun ys k=>by
  simp[B5]
 rw[e,Pn xs x h]
 split
 ·rw[e]
 ·split
  ·rfl
  ·rw[e]
theorem Bo(U:Up xs)(hj:taken xs j=false):Up (insertAt xs (below xs j) j):=by
 obtain⟨a,b,c⟩:=aL U j
 have ne:∀ i,i<xs.size->xs.getD i 0≠j:=fun i hi e=>by
  have:=(fX U (j:=j)).mpr ⟨i,hi,e⟩
  rw[hj] at this;cases this
 intro i k hik hk
 rw[bB xs j a] at hk
 rw[dC a,dC a]
 by_cases h1:k<below xs j
 ·rw[if_pos (by lia),if_pos h1];exact U i k hik (by lia)
 ·rw[if_neg h1]
  by_cases h2:k=below xs j
  ·rw[if_pos h2,if_pos (by lia)];exact b i (by lia)
  ·rw[if_neg h2]
   by_cases h3:i<below xs j
   ·rw[if_pos h3];exact U i (k-1) (by lia) (by lia)
   ·rw[if_neg h3]
    by_cases h4:i=below xs j
    ·rw[if_pos h4]
     have:=c (k-1) (by lia) (by lia)
     have:=ne (k-1) (by lia)
     lia
    ·rw[if_neg h4];exact U (i-1) (k-1) (by lia) (by lia)
theorem xZ(U:Up xs)(hj:taken xs j=false):taken (insertAt xs (below xs j) j) k=(decide (k=j) || taken xs k):=by
 have a:=(aL U j).1
 have U':=Bo U hj
 apply xk.mpr
 rw[fX U',Bool.or_eq_true,decide_eq_true_eq,fX U]
 rw[bB xs j a]
 constructor
 ·rintro⟨i,hi,e⟩
  rw[dC a] at e
  by_cases h1:i<below xs j
  ·rw[if_pos h1] at e;exact .inr ⟨i,by lia,e⟩
  ·rw[if_neg h1] at e
   by_cases h2:i=below xs j
   ·rw[if_pos h2] at e;exact .inl e.symm
   ·rw[if_neg h2] at e;exact .inr ⟨i-1,by lia,e⟩
 ·rintro(rfl|⟨i,hi,e⟩)
  ·exact⟨below xs k,by lia,by rw[dC a,if_neg (by lia),if_pos rfl]⟩
  ·by_cases h1:i<below xs j
   ·exact⟨i,by lia,by rw[dC a,if_pos h1];exact e⟩
   ·exact⟨i+1,by lia,by rw[dC a,if_neg (by lia),if_neg (by lia)];exact e⟩
def Reach(M:Nat)(place:Array Nat)(h:Int)(j:Nat):Prop:=∃ n,n<=10*(M+13)/\J M h n=j/\∀ k<n,taken place (J M h k)=true
structure TI{α:Type}(t:SetTable)(es:Array (Int × α)):Prop where
 pw:∃ m,t.mask+1=2 ^ m/\3<=m
 sz:t.place.size=es.size
 up:Up t.place
 le:∀ i,i<t.place.size->t.place.getD i 0<=t.mask
 dm:t.dummies = #[]
 few:es.size*5<t.mask*3
 path:∀ i h x,es[i]? = some (h,x)->Reach t.mask t.place h (t.place.getD i 0)
section
variable {α:Type}{t:SetTable}{es:Array (Int × α)}
theorem TI.slot(T:TI t es)(j:Nat):t.slot j=if taken t.place j then .live (below t.place j) else .empty:=by
 unfold SetTable.slot taken
 dsimp only
 split
 ·rfl
 ·have:has t.dummies j=false:=by rw[T.dm];rfl
  rw[this];rfl
theorem TI.fits(T:TI t es):t.fits es.size=true:=by
 have:=T.few
 simp only[SetTable.fits,fill,T.dm,T.sz,kr,beq_iff_eq,decide_eq_true_eq,true_and]
 simp;lia
theorem TI.odd(T:TI t es):t.gaveWay=false:=by
 obtain⟨m,h,h3⟩:=T.pw
 unfold SetTable.gaveWay
 rw[beq_eq_false_iff_ne]
 have:2 ^ m=2*2 ^ (m-1):=by
  rw[show m=(m-1)+1 by lia,yB];simp;lia
 lia
theorem TI.free(T:TI t es):∃ e,e<=t.mask/\taken t.place e=false:=by
 have hf:=T.few
 have hs:=T.sz
 by_cases c:∃ e,e<=t.mask/\taken t.place e=false
 ·exact c
 ·exfalso
  have all:∀ e,e<=t.mask->taken t.place e=true:=fun e he=>by
   cases z:taken t.place e with
   |true=>rfl
   |false=>exact absurd ⟨e,he,z⟩ c
  -- slot e stands at place at most e
  have go:∀ e,e<=t.mask->e<=below t.place e:=by
   intro e
   induction e with
   |zero=>intro _;exact eh _
   |succ e ih =>
    intro he
    have h1:=ju T.up (all e (by exact kA ‹_›))
    have h2:=ju T.up (all (e+1) he)
    have:=ih (by exact kA ‹_›)
    obtain⟨_,b,c⟩:=aL T.up (e+1)
    by_cases z:below t.place e<below t.place (e+1)
    ·walk_at "s1"
    ·have:=c (below t.place e) (by exact D7 ‹_›) h1.1
     lia
  have:=go t.mask (bT _)
  have:=(ju T.up (all t.mask (bT _))).1
  lia
theorem TI.put(T:TI t es)(hj:j<=t.mask)(hn:taken t.place j=false)(hr:Reach t.mask t.place h j)(ht:t'.mask=t.mask)(hp:t'.place=insertAt t.place (below t.place j) j)(hd:t'.dummies = #[])
  (hf:(es.size+1)*5<t.mask*3):TI t' (insertAt es (below t.place j) (h,x)):=by
 have a:=(aL T.up j).1
 have a':below t.place j<=es.size:=by rw[<- T.sz];exact a
 refine⟨by rw[ht];exact T.pw,by rw[hp,bB _ _ a,bB _ _ a',T.sz],by rw[hp];exact Bo T.up hn,fun i hi=>?_,hd,by rw[bB _ _ a',ht];exact hf,fun i g y e=>?_⟩
 ·rw[hp,bB _ _ a] at hi
  rw[hp,dC a,ht]
  split
  ·exact T.le i (by lia)
  ·split
   ·exact hj
   ·exact T.le (i-1) (by lia)
 ·have mono:∀ {g:Int} {k:Nat},Reach t.mask t.place g k->Reach t'.mask t'.place g k:=fun {g k} ⟨n,h1,h2,h3⟩=>⟨n,by rw[ht];exact h1,by rw[ht];exact h2,fun q hq=>by
   rw[hp,ht,xZ T.up hn,h3 q hq,Bool.or_true]⟩
  rw[Pn es _ a'] at e
  rw[hp,dC a,<- hp]
  by_cases h1:i<below t.place j
  ·rw[if_pos h1] at e ⊢
   exact mono (T.path i g y e)
  ·rw[if_neg h1] at e ⊢
   by_cases h2:i=below t.place j
   ·rw[if_pos h2] at e ⊢
    cases e
    exact mono hr
   ·rw[if_neg h2] at e ⊢
    exact mono (T.path (i-1) g y e)
end
theorem dN[DecidableEq α]:∀ {l m:List α},l.Nodup->(∀ x∈l,x∈m)->l.length<=m.length
 |[],_,_,_=>eh _
 |x :: l,m,nd,h=>by
  rw[iA] at nd
  have hx:=h x bX
  have:=dN (l:=l) (m:=m.erase x) nd.2 fun y hy=>(List.mem_erase_of_ne (fun e=>nd.1 (by rw[<- e];exact hy))).mpr (h y (b5 _ hy))
  rw[List.length_erase_of_mem hx] at this
  have:0<m.length:=QV hx
  simp only[pe];lia
def ic(owner:Array (Option Nat))(j:Nat):Bool:=(owner.getD j (some 0)).isSome
theorem qC(h:Int)(owner:Array (Option Nat)):∀ (fuel k:Nat),(∀ q<i6 M h k,ic owner (J M h q)=true)->(∃ K,k<=K/\K<k+fuel/\K<=M+13/\ic owner (lp M h K).1=false) ->
  ∃ j n,layClean.free M owner fuel (lp M h k).1 (lp M h k).2=some j/\J M h n=j/\n<=10*(M+13)/\ic owner j=false/\∀ q<n,ic owner (J M h q)=true
 |0,k,_,⟨K,h1,h2,_⟩=>by lia
 |fuel+1,k,hq,⟨K,h1,h2,h3,h4⟩=>by
  have Ts:∀ r,r<=runEnd M (lp M h k).1-(lp M h k).1->J M h (i6 M h k+r)=(lp M h k).1+r:=fun r hr=>by
   unfold J
   rw[yp M h (i6 M h k) r (by rw[tK];exact hr),tK]
  have hle:=uN (DQ M h k)
  have e:∀ r,(owner.getD ((lp M h k).1+r) (some 0)).isNone = !ic owner ((lp M h k).1+r):=fun r=>by
   unfold ic;cases owner.getD ((lp M h k).1+r) (some 0)<;>rfl
  unfold layClean.free
  cases hf:(List.range (runEnd M (lp M h k).1+1-(lp M h k).1)).find? fun r=>(owner.getD ((lp M h k).1+r) (some 0)).isNone with
  |some r =>
   obtain⟨a1,a2,a3⟩:=List.find?_range_eq_some.mp hf
   have a2:r<runEnd M (lp M h k).1+1-(lp M h k).1:=by simpa using a2
   rw[e] at a1
   have a1:ic owner ((lp M h k).1+r)=false:=by simpa using a1
   have occs:∀ q<i6 M h k+r,ic owner (J M h q)=true:=fun q Qn=>by
    by_cases z:q<i6 M h k
    ·exact hq q z
    ·have:=a3 (q-i6 M h k) (by lia)
     rw[e] at this
     have hj:=Ts (q-i6 M h k) (by lia)
     rw[show i6 M h k+(q-i6 M h k)=q by lia] at hj
     rw[hj]
     simpa using this
   refine⟨_,i6 M h k+r,rfl,Ts r (by lia),?_,a1,occs⟩
   have hb:=xO M h K
   by_cases z:i6 M h k+r<=i6 M h K
   ·lia
   ·have:=occs (i6 M h K) (by lia)
    rw[FN,h4] at this;cases this
  |none =>
   have hn:=List.find?_eq_none.mp hf
   have W9:∀ r,r<=runEnd M (lp M h k).1-(lp M h k).1->ic owner ((lp M h k).1+r)=true:=fun r hr=>by
    have:=hn r (by simp;lia)
    rw[e] at this
    simpa using this
   dsimp only
   have hK:K≠k:=fun z=>by
    subst z
    have:=W9 0 (eh _)
    rw[GB,h4] at this;cases this
   refine qC h owner fuel (k+1) (fun q Qn=>?_) ⟨K,by lia,by lia,h3,h4⟩
   by_cases z:q<i6 M h k
   ·exact hq q z
   ·have Qn:q<i6 M h k+(runEnd M (lp M h k).1-(lp M h k).1)+1:=Qn
    have hj:=Ts (q-i6 M h k) (by lia)
    rw[show i6 M h k+(q-i6 M h k)=q by lia] at hj
    rw[hj]
    exact W9 _ (by lia)
structure OI(M:Nat)(hs:List Int)(owner:Array (Option Nat)):Prop where
 sz:owner.size=M+1
 lt:∀ j v:Nat,owner[j]? = some (some v)->v<hs.length
 inj:∀ j j' v:Nat,owner[j]? = some (some v)->owner[j']? = some (some v)->j=j'
 all:∀ v:Nat,v<hs.length->∃ j:Nat,owner[j]? = some (some v)
 path:∀ j v:Nat,owner[j]? = some (some v)->∃ n,n<=10*(M+13)/\J M (hs.getD v 0) n=j/\∀ q<n,ic owner (J M (hs.getD v 0) q)=true
theorem qR(h:j<owner.size):ic owner j=true↔∃ v,owner[j]? = some (some v):=by
 unfold ic
 rw[yT h]
 simp only[Array.getD,h,dite_true,Option.some.injEq]
 cases hh:owner[j] with
 |none =>
  have:owner.getInternal j h=none:=hh
  rw[this];simp
 |some v =>
  have:owner.getInternal j h=some v:=hh
  rw[this];simp
theorem OI.free(O:OI M hs owner)(hl:hs.length<=M):∃ e,e<=M/\ic owner e=false:=by
 by_cases c:∃ e,e<=M/\ic owner e=false
 ·exact c
 ·exfalso
  have all:∀ e,e<=M->∃ v,owner[e]? = some (some v):=fun e he=>by
   refine(qR (by rw[O.sz];lia)).mp ?_
   cases z:ic owner e with
   |true=>rfl
   |false=>exact absurd ⟨e,he,z⟩ c
  have nd:((List.range (M+1)).map fun j=>(owner.getD j none).getD 0).Nodup:=by
   rw[KL,ki]
   refine List.Pairwise.imp_of_mem ?_ (KL.mp List.nodup_range)
   intro a b ha hb iL z
   obtain⟨va,ea⟩:=all a (by have:=qB.mp ha;lia)
   obtain⟨vb,eb⟩:=all b (by have:=qB.mp hb;lia)
   rw[B5,B5,ea,eb] at z
   have z:va=vb:=z
   subst z
   exact iL (O.inj _ _ _ ea eb)
  have:=dN (m:=List.range hs.length) nd fun x hx=>by
   obtain⟨j,hj,rfl⟩:=cc.mp hx
   obtain⟨v,e⟩:=all j (by have:=qB.mp hj;lia)
   rw[B5,e]
   exact qB.mpr (O.lt _ _ e)
  simp at this
  lia
theorem OI.lay(hM:M+1=2 ^ m)(O:OI M hs owner)(hl:hs.length<=M)(h:Int) :
  ∃ j,layClean.free M owner (turns M) (bits h % (M+1)) (bits h)=some j/\OI M (hs++[h]) (owner.setIfInBounds j (some hs.length)):=by
 obtain⟨e,he,hf⟩:=O.free hl
 obtain⟨K,hK,hKe⟩:=cover hM h he
 obtain⟨j,n,e1,e2,e3,e4,e5⟩:=qC h owner (turns M) 0 (fun q hq=>absurd hq (D8 q)) ⟨K,eh _,by unfold turns;lia,hK,by rw[hKe];exact hf⟩
 refine⟨j,e1,?_⟩
 have hj:j<owner.size:=by rw[O.sz,<- e2];exact FX (Qm M h n)
 have get:∀ i,(owner.setIfInBounds j (some hs.length))[i]? = if j=i then some (some hs.length) else owner[i]? := fun i=>by
  rw[Array.getElem?_setIfInBounds]
  by_cases z:j=i
  ·subst z;simp[hj]
  ·simp[z]
 have oc:∀ i,ic owner i=true->ic (owner.setIfInBounds j (some hs.length)) i=true:=fun i hi=>by
  unfold ic at hi ⊢
  rw[B5] at hi ⊢
  rw[get]
  split
  ·rfl
  ·exact hi
 have iL:∀ v,owner[j]?≠some (some v):=fun v z=>by
  have:=(qR hj).mpr ⟨v,z⟩
  rw[e4] at this;cases this
 refine⟨by rw[Array.size_setIfInBounds];exact O.sz,fun i v z=>?_,fun i i' v z z'=>?_,fun v hv=>?_,fun i v z=>?_⟩
 ·rw[get] at z
  split at z
  ·cases z;simp
  ·have:=O.lt i v z;simp;lia
 ·rw[get] at z z'
  split at z
  ·cases z
   split at z'
   ·lia
   ·exact absurd (O.lt _ _ z') (pf _)
  ·split at z'
   ·cases z'
    exact absurd (O.lt _ _ z) (pf _)
   ·exact O.inj i i' v z z'
 ·simp at hv
  by_cases c:v=hs.length
  ·exact⟨j,by rw[get,if_pos rfl,c]⟩
  ·obtain⟨i,hi⟩:=O.all v (by lia)
   refine⟨i,?_⟩
   rw[get,if_neg (fun z=>iL v (by rw[z];exact hi))]
   exact hi
 ·rw[get] at z
  split at z
  ·rename_i Tt
   cases z
   refine⟨n,e3,?_,fun q hq=>oc _ ?_⟩
   ·rw[KP,w_ (bT _)]
    simp[e2,Tt]
   ·have:=e5 q hq
    rw[KP,w_ (bT _)]
    simpa using this
  ·have hv:=O.lt i v z
   obtain⟨n',a1,a2,a3⟩:=O.path i v z
   have eg:(hs++[h]).getD v 0=hs.getD v 0:=by
    rw[KP,KP,BQ hv]
   rw[eg]
   exact⟨n',a1,a2,fun q hq=>oc _ (a3 q hq)⟩
theorem OI.nil(M:Nat):OI M [] (Array.replicate (M+1) none):=by
 have no:∀ (j v:Nat),¬ (Array.replicate (M+1) (none:Option Nat))[j]? = some (some v):=fun j v z=>by
  rw[Array.getElem?_replicate] at z
  split at z<;>cases z
 exact⟨by simp,fun j v z=>absurd z (no j v),fun j j' v z _=>absurd z (no j v),fun v hv=>absurd hv (D8 v),fun j v z=>absurd z (no j v)⟩
theorem Fb(hM:M+1=2 ^ m)(hs:Array Int)(hl:hs.size<=M):∃ owner,layClean M hs=some owner/\OI M hs.toList owner:=by
 have go:∀ (l pre:List Int) (owner:Array (Option Nat)),OI M pre owner->pre.length+l.length<=M->∃ W_,l.foldl (fun acc h=>do
   let (owner,k) ← acc
   let j ← layClean.free M owner (turns M) (bits h % (M+1)) (bits h)
   pure (owner.setIfInBounds j (some k),k+1)) (some (owner,pre.length))=some (W_,pre.length+l.length)/\OI M (pre++l) W_:=by
  intro l
  induction l with
  |nil=>intro pre owner O _;exact⟨owner,rfl,by rw[n4];exact O⟩
  |cons h l ih =>
   intro pre owner O hz
   rw[pe] at hz
   obtain⟨j,e,O'⟩:=O.lay hM (by lia) h
   obtain⟨o2,e2,O2⟩:=ih (pre++[h]) _ O' (by simp;lia)
   refine⟨o2,?_,by rw[xh] at O2;exact O2⟩
   rw[List.foldl_cons]
   have:(do
    let (owner,k) ← (some (owner,pre.length):Option (Array (Option Nat) × Nat))
    let j ← layClean.free M owner (turns M) (bits h % (M+1)) (bits h)
    pure (owner.setIfInBounds j (some k),k+1))=some (owner.setIfInBounds j (some pre.length),(pre++[h]).length):=by
    simp[e]
   rw[this,e2]
   simp;lia
 obtain⟨o,e,O⟩:=go hs.toList [] _ (OI.nil M) (by simpa using hl)
 refine⟨o,?_,by simpa using O⟩
 unfold layClean
 rw[<- Array.foldl_toList]
 have e':=e
 simp only[OS] at e'
 rw[e']
 rfl
theorem iY:∀ (fuel a:Nat),3<=a->n<2 ^ (a+fuel)->∃ b,3<=b/\sizeAbove.go n fuel (2 ^ a)=2 ^ b/\n<2 ^ b/\(2 ^ b<=2*n\/b=a)
 |0,a,ha,h=>⟨a,ha,rfl,by simpa using h,.inr rfl⟩
 |fuel+1,a,ha,h=>by
  unfold sizeAbove.go
  by_cases c:2 ^ a<=n
  ·rw[if_pos c]
   obtain⟨b,h1,h2,h3,h4⟩:=iY fuel (a+1) (by lia) (by rw[show a+1+fuel=a+(fuel+1) by lia];exact h)
   refine⟨b,h1,by rw[yB] at h2;exact h2,h3,?_⟩
   rcases h4 with h4|h4
   ·exact .inl h4
   ·left
    rw[h4,yB];lia
  ·rw[if_neg c]
   exact⟨a,ha,rfl,by lia,.inr rfl⟩
theorem lM(h:n<2 ^ 60):∃ b,3<=b/\sizeAbove n=2 ^ b/\n<2 ^ b/\(2 ^ b<=2*n\/b=3) :=
 iY 64 3 (bT _) (Rf h (by decide))
section
variable {α:Type}
def bw(M:Nat)(owner:Array (Option Nat)):List (Nat × Nat):=(List.range (M+1)).filterMap fun j=>(owner.getD j none).map (j,·)
theorem eN:p∈bw M owner↔p.1<M+1/\owner[p.1]? = some (some p.2):=by
 unfold bw
 rw[Q6]
 constructor
 ·rintro⟨j,hj,e⟩
  rw[B5] at e
  cases h:owner[j]? with
  |none=>rw[h] at e;cases e
  |some o =>
   rw[h] at e
   cases o with
   |none=>cases e
   |some v =>
    cases e
    exact⟨qB.mp hj,h⟩
 ·rintro⟨h1,h2⟩
  exact⟨p.1,qB.mpr h1,by rw[B5,h2];rfl⟩
theorem sW(M:Nat)(owner:Array (Option Nat)):((bw M owner).map (·.1)).Pairwise (· < ·):=by
 unfold bw
 rw[ki,List.pairwise_filterMap]
 refine List.Pairwise.imp ?_ List.pairwise_lt_range
 intro a b NX p hp q hq
 cases h1:owner.getD a none with
 |none=>rw[h1] at hp;cases hp
 |some x =>
  cases h2:owner.getD b none with
  |none=>rw[h2] at hq;cases hq
  |some y =>
   rw[h1] at hp;rw[h2] at hq
   cases hp;cases hq
   exact NX
theorem tU{l:List Nat}(h:l.Pairwise (· < ·)):Up l.toArray:=fun i j hX hj=>by
 have hj:j<l.length:=by simpa using hj
 have:=xa.mp h i j (by walk_at "s1") hj hX
 have e:∀ k (hk:k<l.length),l.toArray.getD k 0=l[k]:=fun k hk=>by simp[Array.getD,hk]
 rw[e i (by walk_at "s1"),e j hj]
 exact this
theorem uo{β:Type}{f:α->Option β}:∀ {l:List α},(∀ x∈l,(f x).isSome=true)->(l.filterMap f).length=l.length/\∀ i:Nat,(l.filterMap f)[i]? = (l[i]?).bind f
 |[],_=>⟨rfl,fun i=>by simp⟩
 |x :: l,h=>by
  obtain⟨a,b⟩:=uo (f:=f) (l:=l) fun y hy=>h y (b5 _ hy)
  have hx:=h x bX
  cases e:f x with
  |none=>rw[e] at hx;cases hx
  |some y =>
   rw[LG,e]
   refine⟨by simp[a],fun i=>?_⟩
   cases i with
   |zero=>simp[e]
   |succ i=>simpa using b i
theorem uK(es:Array (Int × α)):(List.range es.size).filterMap (fun i=>es[i]?)=es.toList:=by
 apply AG
 intro i
 rw[(uo (l:=List.range es.size) fun x hx=>by
  have:=qB.mp hx
  simp[this]).2 i]
 by_cases h:i<es.size
 ·rw[List.getElem?_range h,kG];rfl
 ·rw[sM (by simpa using h),sM (by simpa using h)];rfl
theorem Cp{M m finger moves:Nat}{led plain:Bool}(hM:M+1=2 ^ m)(hm:3<=m){es:Array (Int × α)}(hf:es.size*5<M*3) :
  ∃ t order,laid M finger moves led plain (es.map (·.1))=some (t,order)/\t.plain=plain/\t.led=led/\t.mask=M/\TI t (order.filterMap fun i=>es[i]?)/\(order.filterMap fun i=>es[i]?).size=es.size/\(order.filterMap fun i=>es[i]?).toList.Perm es.toList/\order.toList.Perm (List.range es.size):=by
 obtain⟨owner,e,O⟩:=Fb hM (es.map (·.1)) (by rw[Array.size_map];lia)
 have hn:(es.map (·.1)).toList.length=es.size:=by simp
 refine⟨{ mask:=M,place:=((bw M owner).map (·.1)).toArray,dummies:=#[],finger,led,moves,plain },((bw M owner).map (·.2)).toArray,?_,rfl,rfl,rfl,?_⟩
 ·unfold laid
  rw[e];rfl
 have Xa:∀ p∈bw M owner,p.2<es.size:=fun p hp=>by
  have:=O.lt _ _ (eN.mp hp).2
  lia
 have nd:((bw M owner).map (·.2)).Nodup:=by
  rw[KL,ki]
  have:=sW M owner
  rw[ki] at this
  refine List.Pairwise.imp_of_mem ?_ this
  intro p q hp hq dc z
  have:=O.inj _ _ _ (eN.mp hp).2 (by rw[z];exact(eN.mp hq).2)
  lia
 have pm:((bw M owner).map (·.2)).Perm (List.range es.size):=by
  refine(List.perm_ext_iff_of_nodup nd List.nodup_range).mpr fun v=>⟨fun hv=>?_,fun hv=>?_⟩
  ·obtain⟨p,hp,rfl⟩:=cc.mp hv
   exact qB.mpr (Xa p hp)
  ·obtain⟨j,hj⟩:=O.all v (by rw[hn];exact qB.mp hv)
   have Xb:=(GL.mp hj).1
   rw[O.sz] at Xb
   exact cc.mpr ⟨(j,v),eN.mpr ⟨Xb,hj⟩,rfl⟩
 have hlen:(bw M owner).length=es.size:=by
  have:=pm.length_eq
  simpa using this
 have BE:(((bw M owner).map (·.2)).toArray.filterMap fun i=>es[i]?).toList=(bw M owner).filterMap fun p=>es[p.2]? := by
  rw[Array.toList_filterMap,Q7];rfl
 obtain⟨f1,f2⟩:=uo (l:=bw M owner) (f:=fun p=>es[p.2]?) fun p hp=>by simp[Xa p hp]
 have cY':∀ i:Nat,(((bw M owner).map (·.2)).toArray.filterMap fun i=>es[i]?)[i]? = ((bw M owner)[i]?).bind fun p=>es[p.2]? := fun i=>by
  rw[<- kG,BE];exact f2 i
 have hsz:(((bw M owner).map (·.2)).toArray.filterMap fun i=>es[i]?).size=es.size:=by
  rw[<- y2,BE,f1,hlen]
 have nr:∀ i:Nat,∀ p,(bw M owner)[i]? = some p->((bw M owner).map (·.1)).toArray.getD i 0=p.1:=fun i p hp=>by
  rw[B5]
  simp[hp]
 have tk:∀ j,ic owner j=true->j<=M->taken ((bw M owner).map (·.1)).toArray j=true:=fun j hj hM'=>by
  obtain⟨v,hv⟩:=(qR (by rw[O.sz];exact FX ‹_›)).mp hj
  obtain⟨i,hi⟩:=BU.mp (eN.mpr (show((j,v):Nat × Nat).1<M+1/\owner[((j,v):Nat × Nat).1]? = some (some ((j,v):Nat × Nat).2) from⟨by show j<M+1;exact FX ‹_›,hv⟩))
  exact(fX (tU (sW M owner))).mpr ⟨i,by
   have:=(i7.mp hi).1
   simpa using this,nr i _ hi⟩
 refine⟨?_,hsz,?_,by simpa using pm⟩
 ·refine⟨⟨m,hM,hm⟩,?_,tU (sW M owner),fun i hi=>?_,rfl,by rw[hsz];exact hf,fun i h x hx=>?_⟩
  ·rw[hsz];simp[hlen]
  ·have hi:i<(bw M owner).length:=by simpa using hi
   have e1:=jv hi
   show((bw M owner).map (·.1)).toArray.getD i 0<=M
   rw[nr i _ e1]
   have:=(eN.mp (nX e1)).1
   lia
  ·rw[cY'] at hx
   cases hp:(bw M owner)[i]? with
   |none=>rw[hp] at hx;cases hx
   |some p =>
    rw[hp] at hx
    have hx:es[p.2]? = some (h,x):=hx
    have hm':=eN.mp (nX hp)
    obtain⟨n,a1,a2,a3⟩:=O.path _ _ hm'.2
    have hh:(es.map (·.1)).toList.getD p.2 0=h:=by
     rw[KP,kG,Array.getElem?_map,hx];rfl
    rw[hh] at a2 a3
    refine⟨n,a1,?_,fun q hq=>tk _ (a3 q hq) (Qm M h q)⟩
    show J M h n=((bw M owner).map (·.1)).toArray.getD i 0
    rw[nr i _ hp];exact a2
 ·rw[BE]
  have:=pm.filterMap fun i=>es[i]?
  rw[uK,Q7] at this
  exact this
theorem o_{t:SetTable}{es:Array (Int × α)}(hn:es.size<=10000) :
  ∃ t' order,t.relaid (es.map (·.1)) (grown es.size)=some (t',order)/\t'.plain=t.plain/\t'.led=t.led/\sizeAbove (grown es.size)<=16777216/\(es.size<=1000->t'.mask<=8191)/\TI t' (order.filterMap fun i=>es[i]?)/\(order.filterMap fun i=>es[i]?).size=es.size/\(order.filterMap fun i=>es[i]?).toList.Perm es.toList/\order.toList.Perm (List.range es.size):=by
 have hg:grown es.size=es.size*4:=by unfold grown;rw[if_neg (by lia)]
 obtain⟨b,h3,e,dc,hle⟩:=lM (n:=es.size*4) (by lia)
 have h8:8<=2 ^ b:=Nat.pow_le_pow_right (n:=2) (by decide) h3
 unfold relaid
 rw[hg,e]
 obtain⟨t',order,q1,q2,q3,qm,q4⟩:=Cp (M:=2 ^ b-1) (m:=b) (finger:=t.finger) (moves:=t.movedTo (2 ^ b-1)) (led:=t.led) (plain:=t.plain) (by lia) h3 (es:=es) (by lia)
 refine⟨t',order,q1,q2,q3,?_,fun hz=>?_,q4⟩
 ·rcases hle with hle|rfl
  ·lia
  ·decide
 ·rw[qm]
  rcases hle with hle|rfl
  ·lia
  ·decide
end
section
variable {α:Type}{t:SetTable}{es:Array (Int × α)}
theorem mV(T:TI t es)(hashAt:Nat->Int)(h:Int):∀ (fuel n:Nat),(∃ N,n<=N/\N<n+fuel/\taken t.place (J t.mask h N)=false) ->
  ∃ n',n<=n'/\n'<n+fuel/\(∀ q,n<=q->q<n'->taken t.place (J t.mask h q)=true/\hashAt (below t.place (J t.mask h q))≠h) /\
   ((taken t.place (J t.mask h n')=false/\probe.go t hashAt h fuel (ps t.mask h n)=some (.empty (J t.mask h n') none)) \/
    (taken t.place (J t.mask h n')=true/\hashAt (below t.place (J t.mask h n'))=h/\probe.go t hashAt h fuel (ps t.mask h n)=some (.candidate (J t.mask h n') (below t.place (J t.mask h n')) (ps t.mask h (n'+1)))))
 |0,n,⟨N,h1,h2,_⟩=>by lia
 |fuel+1,n,⟨N,h1,h2,h3⟩=>by
  unfold probe.go
  have hs:=T.slot (J t.mask h n)
  have hd:=(Em t.mask h n).2.2.1
  by_cases c:taken t.place (J t.mask h n)=true
  ·rw[if_pos c] at hs
   have hs:t.slot (ps t.mask h n).j=.live (below t.place (J t.mask h n)):=hs
   rw[hs]
   dsimp only
   by_cases e:hashAt (below t.place (J t.mask h n))=h
   ·rw[if_pos (by simpa using e)]
    exact⟨n,bT _,by lia,fun q a b=>by lia,.inr ⟨c,e,rfl⟩⟩
   ·rw[if_neg (by simpa using e)]
    have hN:N≠n:=fun z=>by rw[z,c] at h3;cases h3
    obtain⟨n',a1,a2,a3,a4⟩:=mV T hashAt h fuel (n+1) ⟨N,by lia,by lia,h3⟩
    refine⟨n',by exact kA ‹_›,by lia,fun q b1 b2=>?_,a4⟩
    by_cases z:q=n
    ·subst z;exact⟨c,e⟩
    ·exact a3 q (by lia) b2
  ·have c:taken t.place (J t.mask h n)=false:=by simpa using c
   rw[if_neg (by rw[c];exact gy)] at hs
   have hs:t.slot (ps t.mask h n).j=.empty:=hs
   rw[hs]
   dsimp only
   rw[hd]
   exact⟨n,bT _,by lia,fun q a b=>by lia,.inl ⟨c,rfl⟩⟩
end
section
variable {prog:Program}{w:World}{K:Type}[DecidableEq K]{knd:KeyKind prog w K}
abbrev aM(knd:KeyKind prog w K)(k:List K):Int:=tupleKeyHash knd k
def zE(knd:KeyKind prog w K)(p:List K × Addr):Int × Value:=(aM knd p.1,.ref p.2)
structure IZ(knd:KeyKind prog w K)(h:Heap)(a:Addr)(ks:List (List K × Addr)):Prop where
 ob:∃ o es ep t,h.get? a=some o/\o.ExactSet/\o.data=.set es ep t/\TI t es/\t.mask<=8191/\t.led=(!w.params.followText "set-order")/\es.toList=ks.map (zE knd)
 nd:(ks.map (·.1)).Nodup
 is:∀ p∈ks,IsTupleKey knd h p.1 p.2
variable {A:Around}{E:Value->Shared->Prop}{s:Shared}
theorem jZ(hk:IsTupleKey knd s.heap k a)(h:Q false s):wpAny (model prog w) A (ofAClassStatement 8 (.ref a)) Q E s:=by
 have hT:=hk.typeIs
 obtain⟨o,items,n,ho,_,hd,hi⟩:=hk
 unfold ofAClassStatement
 refine ah (wpAny_typeOf hT ?_)
 dsimp only
 refine ah ?_
 refine ay ?_
 simp only[O0,gE,if_false]
 refine ah (wpAny_seqItems ho hd ?_)
 dsimp only
 refine ah ?_
 rw[<- Array.forIn_toList]
 refine wpAny_forIn_list _ (fun rest r s'=>r.1=none/\s'=s/\∀ v∈rest,carriedByValue v=true) _ ?_ ?_ _ _ ⟨rfl,rfl,hi.byValue⟩
 ·rintro v rest r s' ⟨hr,rfl,ny⟩
  have hv:=ny v bX
  have e:ofAClassStatement 7 v=pure false:=by
   cases v with
   |ref a=>cases hv
   |_=>rfl
  rw[e]
  refine ah (ay ?_)
  simp only[gE,if_false]
  exact ay ⟨rfl,rfl,fun u E9=>ny u (b5 _ E9)⟩
 ·rintro⟨r1,r2⟩ s' ⟨hr,rfl,_⟩
  simp only at hr
  subst hr
  exact ay h
theorem iK(hk:IsTupleKey knd s.heap k a)(lI:∀ k v,knd.is k v=true->v.scannable=true)(h:∀ b,Q b s):wpAny (model prog w) A (hashByValue 8 (.ref a)) Q E s:=by
 have hT:=hk.typeIs
 obtain⟨o,items,n,ho,_,hd,hi⟩:=hk
 have da':∀ v∈items.toList,v.scannable=true:=by
  clear ho hd
  generalize items.toList=l at hi
  induction hi with
  |nil=>intro v hv;cases hv
  |cons h1 _ ih =>
   intro v hv
   rcases cy.mp hv with rfl|hv
   ·exact lI _ _ h1
   ·exact ih v hv
 unfold hashByValue
 refine ah (wpAny_specialOf hT F.slot_tuple_hash.lookup ?_)
 dsimp only
 refine ah (wpAny_seqItems ho hd ?_)
 dsimp only[Option.getD]
 refine ah ?_
 rw[<- Array.forIn_toList]
 refine wpAny_forIn_list _ (fun rest r s'=>s'=s/\∀ v∈rest,v.scannable=true) _ ?_ ?_ _ _ ⟨rfl,da'⟩
 ·rintro v rest r s' ⟨rfl,ny⟩
  rw[hashByValue_scannable 7 (ny v bX)]
  refine ah (ay ?_)
  split
  ·exact ay (ay (h _))
  ·exact ay ⟨rfl,fun u E9=>ny u (b5 _ E9)⟩
 ·rintro⟨r1,r2⟩ s' ⟨rfl,_⟩
  cases r1 with
  |none=>exact ay (h true)
  |some b=>exact ay (h b)
end
local macro_rules | `(tactic| walk_at $s:str) => do
 let x:=s.getString
 if x.startsWith "PV" then `(tactic| exact $(Lean.mkIdent (.str (.str (.num (.str (.str (.str .anonymous "_private") "PySem") "SetOps") 0) "PySem") (x.drop 2).toString)))
 else Lean.Macro.throwUnsupported
abbrev yu:Array (Int × Value)->Nat->Int:=by walk_at "PVstoredHashAt"
abbrev Ei:Array (Int × Value)->Option (SetTable × Array Nat)->Sem (Array (Int × Value) × SetTable):=by walk_at "PVreordered"
abbrev oM:Array (Int × Value)->SetTable->Bool:=by walk_at "PVdrawn"
abbrev Jw:Array (Int × Value)->SetTable->Sem Unit:=by walk_at "PVmustBeLedForItsPlaces"
abbrev G6:Bool->Sem Unit:=by walk_at "PVgaveWayHere"
def qY:Array (Int × Value)->Nat->Int:=yu
theorem pM(es:Array (Int × Value))(i:Nat):qY es i=(es[i]?.map (·.1)).getD 0:=rfl
section
variable {prog:Program}{w:World}{K:Type}[DecidableEq K]{knd:KeyKind prog w K}{A:Around}{E:Value->Shared->Prop}{s:Shared}
theorem vz(hk:IsTupleKey knd s.heap k a)(hy:∀ y∈ys,∃ k' b,y=.ref b/\IsTupleKey knd s.heap k' b)(h:Q false s):wpAny (model prog w) A (searchCouldBeSeen (.ref a) ys) Q E s:=by
 unfold searchCouldBeSeen
 refine ah ?_
 refine wpAny_forIn_list _ (fun rest r s'=>r.1=none/\s'=s/\∀ y∈rest,∃ k' b,y=.ref b/\IsTupleKey knd s.heap k' b) _ ?_ ?_ _ _ ⟨rfl,rfl,hy⟩
 ·rintro y rest r s' ⟨hr,rfl,ny⟩
  obtain⟨k',b,rfl,hb⟩:=ny y bX
  have go:∀ (P:Prop),P->P:=fun _ p=>p
  dsimp only
  split
  ·exact ay ⟨rfl,rfl,fun u E9=>ny u (b5 _ E9)⟩
  ·refine ah (wpAny_eqIsQuiet_tuple hk ?_)
   simp only[O0,gE,if_false]
   refine ah (wpAny_eqIsQuiet_tuple hb ?_)
   simp only[O0,gE,if_false]
   refine ah (jZ hk ?_)
   simp only[gE,if_false]
   refine ah (jZ hb ?_)
   simp only[gE,if_false]
   exact ay ⟨rfl,rfl,fun u E9=>ny u (b5 _ E9)⟩
 ·rintro⟨r1,r2⟩ s' ⟨hr,rfl,_⟩
  simp only at hr
  subst hr
  exact ay h
theorem Ij{K G:Prop}(pk:K)(h:K->G):G:=h pk
theorem oY{a x:Addr}{k:List K}{ks:List (List K × Addr)}{o:Obj}{es:Array (Int × Value)}{ep:Nat}{t:SetTable}(hu:A.units<cLine)(ho:s.heap.get? a=some o)(hd:o.data=.set es ep t)(T:TI t es)(he:es.toList=ks.map (zE knd))
  (ve:∀ p∈ks,IsTupleKey knd s.heap p.1 p.2) (hx:IsTupleKey knd s.heap k x) {Q:SetFound->Shared->Prop} (Xc:k∈ks.map (·.1)->Q (.there none) s)
  (nf:Nat) (hnf:nf<=10*(t.mask+13)) (DE:taken t.place (J t.mask (aM knd k) nf)=false) (Xd:∀ q<nf,taken t.place (J t.mask (aM knd k) q)=true)
  (CY:k∉ks.map (·.1)->Q (.free (J t.mask (aM knd k) nf) false) s) :
  ∀ (fuel n:Nat) (stand:Option Probe),stand.getD (t.probeStart (aM knd k))=ps t.mask (aM knd k) n->n<=nf->nf<n+fuel ->
   (∀ q<n,∀ p,ks[below t.place (J t.mask (aM knd k) q)]? = some p->p.1≠k)->wpAny (model prog w) A (setSearchFrom a (.ref x) (aM knd k) true fuel stand) Q E s
 |0,n,stand,_,h1,h2,_=>by lia
 |fuel+1,n,stand,kH,h1,h2,hq=>by
  have Fc:∀ i:Nat,es[i]? = (ks[i]?).map (zE knd):=fun i=>by rw[<- kG,he,nc]
  unfold setSearchFrom
  refine ah (wpAny_setState_of ho hd T.fits ?_)
  dsimp only
  rw[if_neg (by rw[T.odd];exact gy)]
  obtain⟨n',a1,a2,a3,a4⟩:=mV T (qY es) (aM knd k) (10*turns t.mask) n ⟨nf,h1,by unfold turns;lia,DE⟩
  have Rp:n'<=nf:=by
   by_cases z:n'<=nf
   ·exact z
   ·have:=(a3 nf h1 (by exact Nat.lt_of_not_le ‹_›)).1
    rw[DE] at this;cases this
  rcases a4 with⟨c1,c2⟩|⟨c1,c2,c3⟩
  ·have c2:t.probe (qY es) (aM knd k) (stand.getD (t.probeStart (aM knd k)))=some (.empty (J t.mask (aM knd k) n') none):=by rw[kH];exact c2
   have e:n'=nf:=by
    by_cases z:n'<nf
    ·have:=Xd n' z
     rw[c1] at this;cases this
    ·lia
   have c2:t.probe (yu es) (aM knd k) (stand.getD (t.probeStart (aM knd k)))=some (.empty (J t.mask (aM knd k) n') none):=c2
   rw[c2]
   dsimp only
   rw[e]
   refine ay (CY fun hm=>?_)
   obtain⟨p,hp,rfl⟩:=cc.mp hm
   obtain⟨i,hi⟩:=BU.mp hp
   have ei:es[i]? = some (aM knd p.1,.ref p.2):=by rw[Fc,hi];rfl
   have Xe:i<t.place.size:=by rw[T.sz];exact(GL.mp ei).1
   obtain⟨ni,b1,b2,b3⟩:=T.path i _ _ ei
   have bt:below t.place (J t.mask (aM knd p.1) ni)=i:=by rw[b2];exact below_at T.up Xe
   have tk:taken t.place (J t.mask (aM knd p.1) ni)=true:=by rw[b2];exact(fX T.up).mpr ⟨i,Xe,rfl⟩
   have dc:ni<nf:=by
    by_cases z:nf<ni
    ·have:=b3 nf z
     rw[DE] at this;cases this
    ·have:ni≠nf:=fun z=>by rw[z,DE] at tk;cases tk
     lia
   by_cases z:ni<n
   ·exact hq ni z p (by rw[bt];exact hi) rfl
   ·refine(a3 ni (by exact D7 ‹_›) (by lia)).2 ?_
    rw[bt,pM,ei];rfl
  ·have c3:t.probe (yu es) (aM knd k) (stand.getD (t.probeStart (aM knd k)))=some (.candidate (J t.mask (aM knd k) n') (below t.place (J t.mask (aM knd k) n')) (ps t.mask (aM knd k) (n'+1))):=by rw[kH];exact c3
   rw[c3]
   dsimp only
   have tk:=ju T.up c1
   have I0:t.slot (J t.mask (aM knd k) n')=.live (below t.place (J t.mask (aM knd k) n')):=by rw[T.slot,if_pos c1]
   generalize hi:below t.place (J t.mask (aM knd k) n')=i at tk c2 I0 ⊢
   have Xf:i<es.size:=by rw[<- T.sz];exact tk.1
   obtain⟨p,hp⟩:∃ p,ks[i]? = some p:=by
    have:i<ks.length:=by
     have:=congrArg List.length he
     simp at this;lia
    exact⟨_,jv this⟩
   have ei:es[i]? = some (aM knd p.1,.ref p.2):=by rw[Fc,hp];rfl
   have Xg:=nX hp
   have iL:n'≠nf:=fun z=>by rw[z,DE] at c1;cases c1
   have again:¬ p.1=k->wpAny (model prog w) A (setSearchFrom a (.ref x) (aM knd k) true fuel (some (ps t.mask (aM knd k) (n'+1)))) Q E s:=fun hpk =>
    oY hu ho hd T he ve hx Xc nf hnf DE Xd CY fuel (n'+1) (some (ps t.mask (aM knd k) (n'+1))) rfl (by lia) (by lia) fun q Qn p' g9=>by
     by_cases z:q<n
     ·exact hq q z p' g9
     ·by_cases z2:q=n'
      ·subst z2
       rw[hi,hp] at g9
       cases g9
       exact hpk
      ·intro e'
       have:=(a3 q (by exact D7 ‹_›) (by lia)).2
       refine this ?_
       rw[pM,Fc,g9]
       show aM knd p'.1=_
       rw[e']
   have aS:p.1=k->k∈ks.map (·.1):=fun e=>e ▸ cc.mpr ⟨p,Xg,rfl⟩
   have seen:∀ y∈List.map (fun x=>x.snd) (Array.filter (fun x=>x.fst == aM knd k) es).toList,∃ k' b,y=.ref b/\IsTupleKey knd s.heap k' b:=fun y hy=>by
    obtain⟨e',P2,rfl⟩:=cc.mp hy
    rw[Array.toList_filter] at P2
    have:=(xi.mp P2).1
    rw[he] at this
    obtain⟨p',g9,rfl⟩:=cc.mp this
    exact⟨p'.1,p'.2,rfl,ve p' g9⟩
   refine Ij ?pk (K:=?K) fun key=>?main
   case main =>
    split
    ·refine ah (vz hx seen ?_)
     rw[if_neg gy]
     exact key
    ·exact key
   rw[ei]
   dsimp only
   refine ah (wpAny_holding (wpAny_eqBool_tuple hu (ve p Xg) hx ?_))
   refine ah (wpAny_setState_of ho hd T.fits ?_)
   dsimp only
   by_cases e:p.1=k
   ·rw[if_pos (by simp[e])]
    exact ay (Xc (aS e))
   ·rw[if_neg (by simp[e])]
    have A6:t.sameMemory t.moves t.mask=some true:=by unfold sameMemory;rw[if_pos (by simp)]
    rw[A6]
    dsimp only
    rw[if_pos rfl,I0]
    dsimp only
    rw[ei]
    dsimp only
    refine ah (m:=isSame (.ref p.2) (.ref p.2)) ?_
    unfold isSame
    dsimp only
    rw[if_pos (by simp)]
    refine ay (ah (ay ?_))
    rw[if_pos rfl]
    dsimp only
    rw[if_neg (by simp[e])]
    exact again e
end
theorem fL:∀ {l l2:List β},l.Perm l2->∀ {m:List α},l2=m.map f->∃ m':List α,l=m'.map f/\m'.Perm m:=by
 intro l l2 p
 induction p with
 |nil=>intro m e;exact⟨m,by rw[<- e],.refl _⟩
 |cons x _ ih =>
  intro m e
  cases m with
  |nil=>cases e
  |cons y m =>
   simp only[fi,List.cons.injEq] at e
   obtain⟨m',e1,p1⟩:=ih e.2
   exact⟨y :: m',by rw[fi,<- e1,e.1],p1.cons _⟩
 |swap x y l =>
  intro m e
  match m,e with
  |a :: b :: m,e =>
   simp only[fi,List.cons.injEq] at e
   exact⟨b :: a :: m,by simp[e.1,e.2.1,e.2.2],.swap ..⟩
 |trans _ _ ih1 S4 =>
  intro m e
  obtain⟨m',e1,p1⟩:=S4 e
  obtain⟨m2,e2,p2⟩:=ih1 e1
  exact⟨m2,e2,p2.trans p1⟩
theorem mQ(xs:Array α)(p:Nat)(x:α):(insertAt xs p x).toList=xs.toList.take p++x :: xs.toList.drop p:=by
 unfold insertAt
 simp
 rw[K0 (by simp)]
theorem pU(hz:(order.filterMap fun i=>es[i]?).size=es.size)
  (h:Q (order.filterMap fun i=>es[i]?,t) s):wpAny (model prog w) A (Ei es (some (t,order))) Q E s:=by
 show wpAny _ _ (if ((order.filterMap fun i=>es[i]?).size != es.size)=true then (do unsupported "internal:set-table-lost-an-element";pure (order.filterMap fun i=>es[i]?,t)) else pure (order.filterMap fun i=>es[i]?,t)) _ _ _
 rw[if_neg (by simp[hz])]
 exact ay h
section
variable {prog:Program}{w:World}{K:Type}[DecidableEq K]{knd:KeyKind prog w K}{A:Around}{E:Value->Shared->Prop}{s:Shared}
theorem IsTupleKey.fq(hk:IsTupleKey knd h k a)(e:∀ o,h.get? a=some o->h'.get? a=some o):IsTupleKey knd h' k a:=by
 obtain⟨o,items,n,ho,r⟩:=hk
 exact⟨o,items,n,e o ho,r⟩
theorem IZ.ne(S:IZ knd h a ks)(hx:IsTupleKey knd h k x):x≠a:=by
 obtain⟨⟨o,es,ep,t,ho,hex,_⟩,_,_⟩:=S
 obtain⟨o',items,n,px,hc,_⟩:=hx
 intro z
 subst z
 rw[ho] at px
 cases px
 rw[hex.1] at hc
 exact absurd hc (by decide)
theorem GD(S:IZ knd s.heap a ks)(hx:IsTupleKey knd s.heap k x)(hz:ks.length<1000)(hu:A.units<cLine)(lI:∀ k v,knd.is k v=true->v.scannable=true)
  (h:∀ (b:Bool) (h':Heap) (dr:List (List K × Addr)),Heap.SameBut a s.heap h'->IZ knd h' a dr->(k∈ks.map (·.1)/\dr=ks\/k∉ks.map (·.1)/\dr.Perm ((k,x) :: ks))->Q b { s with heap:=h' }) :
  wpAny (model prog w) A (setAddHashed a (.ref x) (aM knd k)) Q E s:=by
 obtain⟨⟨o,es,ep,t,ho,hex,hd,T,hM,hL,he⟩,nd,is⟩:=id S
 have hlen:es.size=ks.length:=by
  have:=congrArg List.length he
  simpa using this
 obtain⟨m,hm,_⟩:=T.pw
 obtain⟨e0,Tv,Tw⟩:=T.free
 obtain⟨nf,n1,n2,n3⟩:=lW hm (aM knd k) (taken t.place) Tv Tw
 unfold setAddHashed setAddHashedIn
 refine wpAny_holding (ah (wpAny_setState_of ho hd T.fits ?_))
 dsimp only
 have hbs:byScan (.ref x) es=false:=by simp[byScan,Value.scannable]
 rw[hbs]
 simp only[gE,if_false]
 refine ah ?_
 unfold setSearch
 refine oY hu ho hd T he is hx (fun aS=>?_) nf n1 n2 n3 (fun ke=>?_) 100000 0 none rfl (eh _) (by lia) fun q hq=>absurd hq (D8 q)
 ·dsimp only
  refine ay ?_
  have e:s={ s with heap:=s.heap }:=by cases s;rfl
  rw[e]
  exact h _ _ ks (Heap.SameBut.refl a s.heap) S (.inl ⟨aS,rfl⟩)
 ·dsimp only
  generalize hj:J t.mask (aM knd k) nf=j at n2 ⊢
  have Tx:j<=t.mask:=by rw[<- hj];exact Qm ..
  have Tz:Reach t.mask t.place (aM knd k) j:=⟨nf,n1,hj,n3⟩
  refine ah (wpAny_setState_of ho hd T.fits ?_)
  dsimp only
  have TB:t.put j=({ t with place:=insertAt t.place (below t.place j) j,dummies:=#[] },below t.place j):=by
   unfold SetTable.put
   have:has t.dummies j=false:=by rw[T.dm];rfl
   simp only[this,gE,if_false]
   rw[T.dm]
  rw[TB]
  dsimp only
  have aS:(insertAt es (below t.place j) (aM knd k,.ref x)).toList=(ks.take (below t.place j)++(k,x) :: ks.drop (below t.place j)).map (zE knd):=by
   rw[mQ,he,AO,fi,List.map_take,List.map_drop];rfl
  have vi:(ks.take (below t.place j)++(k,x) :: ks.drop (below t.place j)).Perm ((k,x) :: ks):=by
   refine List.perm_middle.trans ?_
   rw[Lc]
  have DS:below t.place j<=es.size:=by rw[<- T.sz];exact(aL T.up j).1
  have uj:(insertAt es (below t.place j) (aM knd k,Value.ref x)).size=es.size+1:=bB _ _ DS
  have hxa:=S.ne hx
  have NZ:∀ h',Heap.SameBut a s.heap h'->∀ dr:List (List K × Addr),dr.Perm ((k,x) :: ks)->∀ p∈dr,IsTupleKey knd h' p.1 p.2:=fun h' sb dr pm p hp=>by
   have:IsTupleKey knd s.heap p.1 p.2:=by
    rcases cy.mp (pm.mem_iff.mp hp) with rfl|hp
    ·exact hx
    ·exact is p hp
   exact IsTupleKey.fq this fun o' px=>sb.extBut _ _ (S.ne this) px
  have N0:∀ dr:List (List K × Addr),dr.Perm ((k,x) :: ks)->(dr.map (·.1)).Nodup:=fun dr pm=>by
   rw[(pm.map _).nodup_iff,fi,iA]
   exact⟨ke,nd⟩
  -- behind the flag
  have main:∀ pl:Bool,wpAny (model prog w) A (do
    storeSet a (insertAt es (below t.place j) (aM knd k,.ref x)) { t with place:=insertAt t.place (below t.place j) j,dummies:=#[],plain:=pl }
    if (!false && ({ t with place:=insertAt t.place (below t.place j) j,dummies:=#[],plain:=pl }:SetTable).tooFull)=true then do
      setRelay a (grown (es.size+1))
      pure true
     else pure true) Q E s:=fun pl=>by
   generalize N3:({ t with place:=insertAt t.place (below t.place j) j,dummies:=#[],plain:=pl }:SetTable)=t'
   have tm:t'.mask=t.mask:=by rw[<- N3]
   have tp:t'.place=insertAt t.place (below t.place j) j:=by rw[<- N3]
   have td:t'.dummies = #[]:=by rw[<- N3]
   have Qo:t'.fill=es.size+1:=by
    unfold SetTable.fill
    rw[tp,td,bB _ _ (aL T.up j).1,T.sz];simp
   refine ah (wpAny_storeSet_of ho hd ?_ (by rw[uj,sizeLine_eq];lia))
   have sP:(s.heap.update a (Obj.putSet (insertAt es (below t.place j) (aM knd k,.ref x)) t')).get? a=some { o with data:=.set (insertAt es (below t.place j) (aM knd k,.ref x)) (ep+1) t' }:=by
    have:=D5 (Obj.putSet (insertAt es (below t.place j) (aM knd k,.ref x)) t') ho (by rw[putSet_of _ _ hd];rfl)
    rw[putSet_of _ _ hd] at this;exact this
   have ti:=Heap.SameBut.update s.heap a (Obj.putSet (insertAt es (below t.place j) (aM knd k,.ref x)) t')
   by_cases c:t'.tooFull=true
   ·rw[if_pos (by rw[c];rfl)]
    have IL:t'.fits (insertAt es (below t.place j) (aM knd k,Value.ref x)).size=true:=by
     have:=T.few
     simp only[SetTable.fits,Qo,kr,beq_iff_eq,decide_eq_true_eq]
     rw[tp,bB _ _ (aL T.up j).1,uj,T.sz,tm]
     exact⟨rfl,by lia⟩
    obtain⟨t2,order,r1,r2,r3,r4,r5,r6,r7,r8,_⟩:=o_ (t:=t') (es:=insertAt es (below t.place j) (aM knd k,Value.ref x)) (by lia)
    rw[uj] at r1 r4
    unfold setRelay
    refine ah (ah (wpAny_setState_of sP rfl IL ?_))
    dsimp only
    rw[if_neg (by rw[sizeLine_eq];lia)]
    refine ah ?_
    rw[r1]
    obtain⟨dr,ek,pk⟩:=fL r8 aS
    refine pU r7 ?_
    dsimp only
    refine wpAny_storeSet_of sP rfl ?_ (by rw[r7,uj,sizeLine_eq];lia)
    refine ay ?_
    have DT:=ti.trans (Heap.SameBut.update _ a (Obj.putSet (order.filterMap fun i=>(insertAt es (below t.place j) (aM knd k,Value.ref x))[i]?) t2))
    have nv:=D5 (Obj.putSet (order.filterMap fun i=>(insertAt es (below t.place j) (aM knd k,Value.ref x))[i]?) t2) sP (by rw[putSet_of _ _ rfl];rfl)
    rw[putSet_of _ _ rfl] at nv
    exact h true _ dr DT ⟨⟨_,_,_,_,nv,hex,rfl,r6,r5 (by lia),by rw[r3,<- N3];exact hL,ek⟩,N0 dr (pk.trans vi),NZ _ DT dr (pk.trans vi)⟩ (.inr ⟨ke,pk.trans vi⟩)
   ·rw[if_neg (by simpa using c)]
    refine ay ?_
    have rV:(es.size+1)*5<t.mask*3:=by
     unfold SetTable.tooFull at c
     rw[Qo,tm] at c
     simpa using c
    exact h true _ _ ti ⟨⟨_,_,_,_,sP,hex,rfl,T.put Tx n2 Tz tm tp td rV,by rw[tm];exact hM,by rw[<- N3];exact hL,aS⟩,N0 _ vi,NZ _ ti _ vi⟩ (.inr ⟨ke,vi⟩)
  split
  ·refine ah (iK hx lI fun b=>?_)
   cases b with
   |true=>exact main t.plain
   |false=>exact main false
  ·exact ah (ay (main t.plain))
end
end TS
namespace TS
open PySem PySem.SetTable PyProof.Rows
section
variable {prog:Program}{w:World}{A:Around}{R:Result->Shared->Prop}{I:Addr}{fp wr:List Addr}{n:Nat}{P:Nat->Value->Prop}{St:Nat->Heap->Prop}
theorem zz(W:Walks prog w A.in1 I fp wr n P St)(S:Addr)(Fh:S∉fp)(SI:Nat->Heap->Prop)(keep:∀ i h h',SI i h->(∀ b o,b∉wr->h.get? b=some o->h'.get? b=some o)->SI i h')
  (step:∀ (i:Nat) (v:Value) (s':Shared) (E':Value->Shared->Prop) (Q:Bool->Shared->Prop),P i v->SI i s'.heap->(∀ b h' tk,Heap.SameBut S s'.heap h'->SI (i+1) h'->Q b { s' with heap:=h',toks:=tk })->wpAny (model prog w) A.in1 (setAdd S v) Q E' s') :
  ∀ (k i:Nat) (s:Shared),n-i=k->i<=n->St i s.heap->SI i s.heap ->
   (∀ h' tk,SI n h'->(∀ b o,b∉wr->b≠S->s.heap.get? b=some o->h'.get? b=some o)->R (.ok (.ret .none)) { s with heap:=h',toks:=tk }) ->
   codeAny (model prog w) A (.builtin "set.update.loop" ⟨[.ref S,.ref I],[]⟩) R s:=by
 have hSw:S∉wr:=fun h=>Fh (W.sub _ h)
 intro k
 induction k with
 |zero =>
  intro i s hk hi kH hS hR
  have aS:i=n:=by lia
  subst aS
  refine codeAny_builtin F.entry_set_update_loop ?_
  rw[Around.under_plainId F.plain_set_update_loop _]
  show wpAny _ A.in1 (pyNext (.ref I) >>= _) _ _ s
  refine ah (W.done s _ _ kH fun h' tk fN=>?_)
  show wpAny _ A.in1 (ret Value.none) _ _ _
  exact ay (hR h' tk (keep _ _ _ hS fN) fun b o hb _ e=>fN b o hb e)
 |succ k ih =>
  intro i s hk hi kH hS hR
  have dc:i<n:=by lia
  refine codeAny_builtin F.entry_set_update_loop ?_
  rw[Around.under_plainId F.plain_set_update_loop _]
  show wpAny _ A.in1 (pyNext (.ref I) >>= _) _ _ s
  refine ah (W.item i s _ _ dc kH fun v h' tk hP dg' fN=>?_)
  show wpAny _ A.in1 (holding [v] (setAdd S v) >>= _) _ _ _
  refine ah (wpAny_holding (step i v _ _ _ hP (keep _ _ _ hS fN) fun b h2 tk2 sb hS2=>?_))
  refine ay ⟨plainId_quiet F.plain_set_update_loop _,ih (i+1) _ (by lia) dc (W.frame _ _ _ dg' fun b hb o e=>?_) hS2 fun h3 tk3 hS3 E3=>?_⟩
  ·exact sb.extBut b o (fun z=>Fh (by rw[<- z];exact hb)) e
  ·exact hR h3 tk3 hS3 fun b o hb N4 e=>E3 b o hb N4 (sb.extBut b o N4 (fN b o hb e))
end
section
variable {prog:Program}{w:World}{A:Around}{E:Value->Shared->Prop}{s:Shared}
theorem wX(a:Value)
  (h:Q₁ (.ref s.heap.objs.size) { s with heap:=s.heap.push { cls:=.type "set",dict:=none,data:=.set #[] 0 (.fresh 0 0 (!w.params.followText "set-order")) } }) :
  codeAny (model prog w) A (.call (.builtin "set.__new__") ⟨[.type "set",a],[]⟩) (wants Q₁ E) s:=by
 refine codeAny_of_tree ?_
 show wpAny _ A.in1 (do checkBuiltinCall "set.__new__" ⟨[.type "set",a],[]⟩;again (.builtin "set.__new__" ⟨[.type "set",a],[]⟩)) _ _ s
 refine ah (wpAny_of_eq (F.newCall_set_1 a) (ay ⟨plainId_quiet F.plain_set_new _,codeAny_builtin F.entry_set_new ?_⟩))
 rw[Around.under_plainId F.plain_set_new _]
 unfold Builtin.«set.__new__» Builtin.Frozenset.newClass
 have dl':=sub_set_self
 obtain⟨hp,g,d,tk,os⟩:=s
 dsimp only
 wp_walk
 refine wpAny_askSetting (ay ?_)
 dsimp only
 simp only[newObj]
 refine ah (wpAny_alloc (ay ?_))
 exact ay h
theorem jg(hh:A.handled=none)(hl:s.heap.IsList l items)(SI:Nat->Heap->Prop)
  (h0:∀ h,h.get? s.heap.objs.size=some { cls:=.type "set",dict:=none,data:=.set #[] 0 (.fresh 0 0 (!w.params.followText "set-order")) }->(∀ b o,s.heap.get? b=some o->h.get? b=some o)->SI 0 h)
  (keep:∀ i h h',SI i h->(∀ b o,b<=s.heap.objs.size->h.get? b=some o->h'.get? b=some o)->SI i h')
  (step:∀ (i:Nat) (v:Value) (s':Shared) (E':Value->Shared->Prop) (Q:Bool->Shared->Prop),items[i]? = some v->SI i s'.heap->(∀ b h' tk,Heap.SameBut s.heap.objs.size s'.heap h'->SI (i+1) h'->Q b { s' with heap:=h',toks:=tk }) ->
   wpAny (model prog w) A.in1.in1.in1 (setAdd s.heap.objs.size v) Q E' s')
  (h:∀ (h':Heap) (tk:Nat),SI items.size h'->(∀ b o,b<s.heap.objs.size->s.heap.get? b=some o->h'.get? b=some o)->Q (.ref s.heap.objs.size) { s with heap:=h',toks:=tk }) :
  wpAny (model prog w) A (call (.type "set") [.ref l]) Q E s:=by
 obtain⟨c,tl,fF'⟩:=F.called_set.mro
 have fG':=F.called_set.made
 have dl':=F.called_set.sub
 refine wpAny_call (codeAny_of_tree ?_)
 show wpAny _ _ (callAny (.type "set") _) _ _ _
 refine ay ⟨Code.quiet_builtin _ (by decide +kernel),codeAny_builtin F.entry_type_call ?_⟩
 rw[Around.under_plain (weight_type_call_type "set" [.ref l] []) rfl]
 have h1:=F.called_set.notType
 have h2:=F.called_set.canCreate
 have hct:=F.typeCall_set_1 (.ref l)
 repeat (any_goals (first|assumption|wp_step))
 refine codeAny_mono (wX (.ref l) (E:=E) (Q₁:=fun obj eC=>obj=.ref s.heap.objs.size/\eC={ s with heap:=s.heap.push { cls:=.type "set",dict:=none,data:=.set #[] 0 (.fresh 0 0 (!w.params.followText "set-order")) } }) ⟨rfl,rfl⟩) fun r eC hr=>?_
 cases r with
 |error e=>exact hr
 |ok fl =>
  cases fl with
  |ret obj =>
   obtain⟨rfl,rfl⟩:=hr
   generalize fI':(!w.params.followText "set-order")=led at h0 ⊢
   have hS:(s.heap.push { cls:=.type "set",dict:=none,data:=.set #[] 0 (.fresh 0 0 led) }).get? s.heap.objs.size=some { cls:=.type "set",dict:=none,data:=.set #[] 0 (.fresh 0 0 led) }:=i9 _ rfl
   have hT:Shared.TypeIs { s with heap:=s.heap.push { cls:=.type "set",dict:=none,data:=.set #[] 0 (.fresh 0 0 led) } } (.ref s.heap.objs.size) "set" := ⟨_,hS,rfl⟩
   have hli:=F.called_set.init.lookup
   have hbi:=F.called_set.init.bind (.ref s.heap.objs.size)
   repeat (any_goals (first|assumption|wp_step))
   refine codeAny_mono (codeAny_call_builtin (R:=wants (fun r EI=>r=.none/\∃ h' tk,EI={ s with heap:=h',toks:=tk }/\SI items.size h' /\
     (∀ b o,b<s.heap.objs.size->s.heap.get? b=some o->h'.get? b=some o)) E) F.called_set.init.plain F.entry_set_init (check_set_init_1 hT ?_)) fun dm' EI TC=>?_
   ·obtain⟨ol,Xh,pE,nl,Xi⟩:=hl
    obtain⟨fL',dn',fM',dq'⟩:=ol
    simp only at pE Xi
    subst pE;subst Xi
    have dr':(s.heap.push { cls:=.type "set",dict:=none,data:=.set #[] 0 (.fresh 0 0 led) }).get? l=some { cls:=.type "list",dict:=dn',data:=.seq items nl,slots:=dq' }:=eR _ Xh
    have fN':=F.sub_list_set
    have fO':=F.sub_list_frozenset
    have iL:(Value.type "list" == Value.type "dict")=false:=by decide
    have IB:(s.heap.push { cls:=.type "set",dict:=none,data:=.set #[] 0 (.fresh 0 0 led) }).IsList l items:=⟨_,dr',rfl,nl,rfl⟩
    unfold Builtin.«set.__init__» noKeywords Builtin.Frozenset.updateFrom
    generalize hPI:pyIter=PI
    wp_walk
    subst hPI
    refine wpAny_pyIter_list IB ?_
    refine ah (wpAny_runValue ?_)
    have Xj:l<s.heap.objs.size:=dS Xh
    have hh3:A.in1.in1.in1.handled=none:=by simp[hh]
    have hsz:(s.heap.push { cls:=.type "set",dict:=none,data:=.set #[] 0 (.fresh 0 0 led) }).objs.size=s.heap.objs.size+1:=FV ..
    have du':l≠(s.heap.push { cls:=.type "set",dict:=none,data:=.set #[] 0 (.fresh 0 0 led) }).objs.size:=by
     rw[hsz];exact fw (qE Xj)
    have Fh:s.heap.objs.size∉[(s.heap.push { cls:=.type "set",dict:=none,data:=.set #[] 0 (.fresh 0 0 led) }).objs.size,l]:=by
     rw[hsz];simp only[cy,kU,LH,or_false,not_or]
     exact⟨fw (Nat.lt_succ_self _),GA Xj⟩
    refine zz (Walks.list hh3 _ l du' items) s.heap.objs.size Fh SI (fun i h h' hi hk=>keep i h h' hi fun b o hb e=>hk b o ?_ e) (fun i v s' E' Q' hP hi hq=>step i v s' E' Q' hP hi hq) (items.size-0) 0 _ (by lia) (eh _)
     ⟨⟨_,i9 _ rfl,rfl,rfl⟩,(IB.push _)⟩ ?hS0 ?hR
    ·rw[hsz]
     simp only[cy,LH,or_false]
     exact fw (FX hb)
    case hS0 =>
     exact h0 _ (eR _ hS) fun b o e=>eR _ (eR _ e)
    case hR =>
     intro h' BF N5 fN
     show wpAny _ _ _ _ _ _
     refine ay ?_
     show wpAny _ _ (ret Value.none) _ _ _
     refine ay ⟨rfl,h',BF,rfl,N5,fun b o hb e=>?_⟩
     refine fN b o ?_ (fw hb) (eR _ (eR _ e))
     rw[hsz]
     simp only[cy,LH,or_false]
     exact fw (qE hb)
   ·cases dm' with
    |error e=>exact TC
    |ok dw' =>
     cases dw' with
     |ret r =>
      obtain⟨rfl,h',tk,rfl,N5,fN⟩:=TC
      repeat (any_goals (first|assumption|wp_step))
      exact h _ _ N5 fN
     |_=>exact TC.elim
  |_=>exact hr.elim
end
theorem pN:Manifest.owners.lookup (String.ofList ['r','o','t','a','r','e','t','i','_','t','e','s'].reverse)=some Manifest.sig_set_iterator:=by kernel_rfl
theorem bC:Slot "set_iterator" "__next__" "set_iterator.__next__" :=
 .of (owner := "set_iterator") (n := "__next__") (by rw[typeLookup_type,builtinLookup_eq_fast];kernel_rfl) (by decide +kernel) (by decide +kernel) (by decide +kernel)
  (by first|exact .inl (by decide +kernel)|exact .inr (by decide +kernel)) (by rw[isSubtype_type];kernel_rfl)
theorem lK:entryFor table "set_iterator.__next__" = some Builtin.«set_iterator.__next__» := entryFor_of_tree (by kernel_rfl)
theorem nU (a:Value):argsOk "set_iterator.__next__" ⟨[a],[]⟩:=by
 unfold argsOk;rw[signature?_of (id := "set_iterator.__next__") (n:=['_','_','t','x','e','n','_','_']) (o:=['r','o','t','a','r','e','t','i','_','t','e','s']) (by kernel_rfl) pN];kernel_rfl
theorem gZ:Slot "set_iterator" "__iter__" "set_iterator.__iter__" :=
 .of (owner := "set_iterator") (n := "__iter__") (by rw[typeLookup_type,builtinLookup_eq_fast];kernel_rfl) (by decide +kernel) (by decide +kernel) (by decide +kernel)
  (by first|exact .inl (by decide +kernel)|exact .inr (by decide +kernel)) (by rw[isSubtype_type];kernel_rfl)
theorem lO:entryFor table "set.__iter__" = some Builtin.«frozenset.__iter__» :=
 entryFor_alias (id' := "frozenset.__iter__") (by kernel_rfl) rfl (by decide +kernel) (by kernel_rfl)
theorem iU:∀ (l:List α) (i:Nat) (h:i<l.length),(l[i] :: l.eraseIdx i).Perm l
 |x :: l,0,_=>.refl _
 |x :: l,i+1,h=>by
  have ih:=iU l i (by simpa using h)
  exact(List.Perm.swap _ _ _).trans (ih.cons x)
theorem xW(next:Nat->Nat):∀ (fuel k:Nat) (left:List α) (out:Array α),left.length=fuel->(pickOrder.go next fuel k left out).toList.Perm (out.toList++left)
 |0,k,left,out,h=>by
  have:left=[]:=OG.mp h
  subst this
  unfold pickOrder.go
  rw[n4]
 |fuel+1,k,left,out,h=>by
  unfold pickOrder.go
  have dc:next k % left.length<left.length:=GH _ (by lia)
  rw[jv dc]
  dsimp only
  refine(xW next fuel (k+1) _ _ (by rw[List.length_eraseIdx];split<;>lia)).trans ?_
  rw[n9,xh]
  refine List.Perm.append_left _ ?_
  exact iU _ _ dc
theorem jL(next:Nat->Nat)(xs:Array α):(pickOrder next xs).toList.Perm xs.toList:=by
 unfold pickOrder
 have:=xW next xs.size 0 xs.toList #[] (by simp)
 simpa using this
section
variable {prog:Program}{w:World}{A:Around}{E:Value->Shared->Prop}{s:Shared}
theorem qG(hn:n≠0)(h:∀ i d,i<n->Q i { s with drawn:=d }):wpAny M A (choose src n) Q E s:=fun Γ p _=>⟨hn,h _ _ (GH _ (Nat.pos_of_ne_zero hn))⟩
theorem Eb(n:Nat):∀ (xs:List α) (s:Shared) (Q:List α->Shared->Prop),xs.length=n->(∀ ys d,ys.Perm xs->Q ys { s with drawn:=d })->wpAny (model prog w) A (drawOrder n xs) Q E s:=by
 induction n with
 |zero =>
  intro xs s Q h q
  have:xs=[]:=OG.mp h
  subst this
  unfold drawOrder
  exact ay (q [] s.drawn (.refl _))
 |succ n ih =>
  intro xs s Q h q
  cases xs with
  |nil=>cases h
  |cons x xs =>
   unfold drawOrder
   refine ah (qG (by simp) fun i d hi=>?_)
   rw[jv hi]
   dsimp only
   refine ah (ih _ _ _ (by rw[List.length_eraseIdx,if_pos hi];simp at h ⊢;lia) fun ys d' py=>?_)
   refine ay ?_
   exact q _ d' ((py.cons _).trans (iU _ _ hi))
def qh(h:Heap)(I:Addr)(first:Value)(i:Nat)(a:Addr)(n ep:Nat):Prop :=
 h.get? I=some { cls:=.type "set_iterator",dict:=none,data:=.fields #[first,.int i 0,.ref a,.int n 0,.int ep 0],slots:=#[] }
def An(h:Heap)(a:Addr)(es:Array (Int × Value))(ep:Nat)(t:SetTable):Prop:=∃ o,h.get? a=some o/\o.data=.set es ep t
variable {a I:Addr}{es:Array (Int × Value)}{ep:Nat}{t:SetTable}{first:Value}{i n:Nat}
theorem qh.typeIs (h:qh s.heap I first i a n ep):s.TypeIs (.ref I) "set_iterator" := ⟨_,h,rfl⟩
theorem yN(hit:qh s.heap I first i a n ep)
  (h:wpAny (model prog w) A.in1 (Builtin.«set_iterator.__next__» ⟨[.ref I],[]⟩) (fun fin s'=>∃ v,fin=.done (.ret v)/\Q (some v) s') (fun e s'=>wpAny (model prog w) A (isInstance e (.type "StopIteration")) (fun b CH=>b=true/\Q none CH) E s') s) :
  wpAny (model prog w) A (pyNext (.ref I)) Q E s:=by
 unfold pyNext
 refine ah (wpAny_attempt (wpAny_callSpecial?_slot (name:=Str.ofString "__next__") hit.typeIs bC
  (wpAny_call_entry bC hit.typeIs lK ?_ (nU _))))
 refine sL h (fun fin s' ⟨v,e,q⟩=>⟨v,e,ay q⟩) fun e s' q=>?_
 refine ah (sL q (fun b CH cK=>?_) fun _ _ x=>x)
 obtain⟨e,q⟩:=cK
 subst e
 rw[if_pos rfl]
 exact ay q
theorem yD{P:Fin->Shared->Prop}{Q:Option Value->Shared->Prop}(hh:A.handled=none)(hQ:∀ h',(∀ b o,s.heap.get? b=some o->h'.get? b=some o)->Q none { s with heap:=h' }) :
  wpAny (model prog w) A.in1 (newExc (.type "StopIteration") [] >>= fun e=>raiseNew e) P (fun e s'=>wpAny (model prog w) A (isInstance e (.type "StopIteration")) (fun b CH=>b=true/\Q none CH) E s') s:=by
 refine ah ?_
 simp only[newExc,newTuple]
 refine ah (wpAny_newObj_type ?_ (by size_fits))
 refine ah (m:=firstArgMember _ _) (wpAny_of_eq (a:=Value.none) (by first|rfl|(simp only[firstArgMember];rfl)) ?_)
 refine wpAny_newObj_type ?_ (by size_fits)
 simp only[raiseNew]
 refine ah (wpAny_handled ?_)
 rw[show A.in1.handled=none from hh]
 refine ah (ay (wpAny_throw ?_))
 refine wpAny_isInstance (T := "StopIteration") (b:=true) ⟨_,i9 _ rfl,rfl⟩ isSubtype_stop ⟨rfl,?_⟩
 exact hQ _ fun b o e=>eR _ (eR _ e)
theorem iz{Q:Option Value->Shared->Prop}{slot:Nat}{r:Option (Value × Nat)}(hh:A.handled=none)(iL:a≠I)(hit:qh s.heap I (.int slot 0) i a es.size ep)(Fm:An s.heap a es ep t)(hf:t.fits es.size=true)
  (hr:∀ (A':Around) (E':Value->Shared->Prop) (Q':Option (Value × Nat)->Shared->Prop),Q' r s->wpAny (model prog w) A' (setNext a slot i ep) Q' E' s)
  (h1:∀ x nx h',r=some (x,nx)->qh h' I (.int nx 0) (i+1) a es.size ep->Heap.SameBut I s.heap h'->Q (some x) { s with heap:=h' })
  (h2:∀ h',r=none->(∀ b o,b≠I->s.heap.get? b=some o->h'.get? b=some o)->Q none { s with heap:=h' }) :
  wpAny (model prog w) A (pyNext (.ref I)) Q E s:=by
 obtain⟨o,ho,hd⟩:=Fm
 refine yN hit ?_
 unfold Builtin.«set_iterator.__next__»
 refine ah (m:=slotArgs "__next__" 0 ⟨[.ref I],[]⟩) (wpAny_of_eq (a:=(.ref I,[])) rfl ?_)
 dsimp only
 refine ah (wpAny_fieldsOf hit rfl ?_)
 dsimp only
 refine ah (wpAny_setEntries_of ho hd hf ?_)
 rw[if_neg (by simp)]
 simp only[GN]
 refine ah (hr _ _ _ ?_)
 cases r with
 |some p =>
  obtain⟨x,nx⟩:=p
  dsimp only
  refine ah (wpAny_setField_rec hit (by simp) fun g1 e1 ti=>?_)
  refine ah (wpAny_setField_rec (s:={ s with heap:=g1 }) e1 (by simp) fun g2 e2 DT=>?_)
  exact ay ⟨x,rfl,h1 x nx g2 rfl (by unfold qh;simpa[rawInt] using e2) (ti.trans DT)⟩
 |none =>
  dsimp only
  refine ah (wpAny_setField_rec hit (by simp) fun g1 e1 ti=>?_)
  exact yD (s:={ s with heap:=g1 }) hh fun h' k=>h2 h' rfl fun b o hb e=>k b o (ti.extBut b o hb e)
theorem mC{Q:Option Value->Shared->Prop}{T:Addr}{ix:List Nat}{oT:Obj}{kT:Nat}(hh:A.handled=none)(hit:qh s.heap I (.ref T) i a es.size ep)(Fm:An s.heap a es ep t)(hf:t.fits es.size=true)
  (hT:s.heap.get? T=some oT) (hTd:oT.data=.seq (ix.map fun(k:Nat)=>Value.int k 0).toArray kT)
  (h1:∀ k e h',ix[i]? = some k->es[k]? = some e->qh h' I (.ref T) (i+1) a es.size ep->Heap.SameBut I s.heap h'->Q (some e.2) { s with heap:=h' }) (qa:∀ k∈ix,k<es.size)
  (h2:∀ h',ix[i]? = none->(∀ b o,b≠I->s.heap.get? b=some o->h'.get? b=some o)->Q none { s with heap:=h' }) :
  wpAny (model prog w) A (pyNext (.ref I)) Q E s:=by
 obtain⟨o,ho,hd⟩:=Fm
 refine yN hit ?_
 unfold Builtin.«set_iterator.__next__»
 refine ah (m:=slotArgs "__next__" 0 ⟨[.ref I],[]⟩) (wpAny_of_eq (a:=(.ref I,[])) rfl ?_)
 dsimp only
 refine ah (wpAny_fieldsOf hit rfl ?_)
 dsimp only
 refine ah (wpAny_setEntries_of ho hd hf ?_)
 rw[if_neg (by simp)]
 refine ah (wpAny_seqItems hT hTd ?_)
 dsimp only
 simp only[GN,List.getElem?_toArray,nc]
 cases hk:ix[i]? with
 |some k =>
  dsimp only[Option.map]
  have hG:=qa k (nX hk)
  refine ah ?_
  unfold setNextDrawn
  refine ah (wpAny_setState_of ho hd hf ?_)
  dsimp only
  simp only[GN]
  rw[if_neg (by simp),yT hG]
  refine ay ?_
  refine ah (wpAny_setField_rec hit (by simp) fun g1 e1 ti=>?_)
  exact ay ⟨_,rfl,h1 k es[k] g1 hk (yT hG) (by unfold qh;simpa[rawInt] using e1) ti⟩
 |none =>
  dsimp only[Option.map]
  refine ah (wpAny_setField_rec hit (by simp) fun g1 e1 ti=>?_)
  refine ah (wpAny_setField_rec (s:={ s with heap:=g1 }) e1 (by simp) fun g2 e2 DT=>?_)
  exact yD (s:={ s with heap:=g2 }) hh fun h' k=>h2 h' hk fun b o hb e=>k b o ((ti.trans DT).extBut b o hb e)
theorem nW (a:Value):argsOk "set_iterator.__iter__" ⟨[a],[]⟩:=by
 unfold argsOk;rw[signature?_of (id := "set_iterator.__iter__") (n:=['_','_','r','e','t','i','_','_']) (o:=['r','o','t','a','r','e','t','i','_','t','e','s']) (by kernel_rfl) pN];kernel_rfl
theorem lQ:entryFor table "set_iterator.__iter__" = some Builtin.«dict_keyiterator.__iter__» :=
 entryFor_alias (id' := "dict_keyiterator.__iter__") (by kernel_rfl) rfl (by decide +kernel) (by kernel_rfl)
theorem kh(hit:qh s.heap I first i a n ep)(h:Q (.ref I) s):wpAny (model prog w) A (pyIter (.ref I)) Q E s:=by
 refine wpAny_pyIter_slot hit.typeIs gZ (wpAny_call_entry gZ hit.typeIs lQ ?_ (nW _))
 show wpAny _ _ (ret (.ref I)) _ _ s
 exact ay ⟨_,rfl, "set_iterator",_,hit.typeIs,bC.lookup,h⟩
theorem ph {slot:Nat} {Q:Option (Value × Nat)->Shared->Prop} (hb:w.params.followText "set-order" = true) (Fm:An s.heap a es ep t) (hf:t.fits es.size=true)
  (h:Q (((pickOrder (w.params.setOrder a ep) es)[i]?).map fun e=>(e.2,slot)) s):wpAny (model prog w) A (setNext a slot i ep) Q E s:=by
 obtain⟨o,ho,hd⟩:=Fm
 unfold setNext
 refine ah (wpAny_setState_of ho hd hf ?_)
 dsimp only
 unfold setsByText
 refine ah (ah (wpAny_askSetting (ay ?_)))
 dsimp only
 rw[if_pos (by exact hb),if_neg (by simp)]
 refine ah ?_
 unfold setWalk
 refine ah (wpAny_setState_of ho hd hf ?_)
 dsimp only
 unfold setsByText
 refine ah (ah (wpAny_askSetting (ay ?_)))
 dsimp only
 rw[if_pos (by exact hb)]
 refine ah (wpAny_askSetting (ay ?_))
 exact ay h
theorem mO {slot:Nat} {Q:Option (Value × Nat)->Shared->Prop} (hb:w.params.followText "set-order" = false) (hl:t.led=true) (Jn:(!t.plain && decide (es.size>1))=false) (Fm:An s.heap a es ep t) (hf:t.fits es.size=true)
  (h:Q (match es[below t.place slot]?,t.place[below t.place slot]? with
  |some (_,x),some j=>some (x,j+1)
  |_,_=>none) s):wpAny (model prog w) A (setNext a slot i ep) Q E s:=by
 obtain⟨o,ho,hd⟩:=Fm
 unfold setNext
 refine ah (wpAny_setState_of ho hd hf ?_)
 dsimp only
 unfold setsByText
 refine ah (ah (wpAny_askSetting (ay ?_)))
 dsimp only
 rw[if_neg (by rw[show(model prog w).w.params.followText "set-order" = false from hb];exact gy)]
 have e0:oM es t=(!t.plain && decide (es.size>1)):=rfl
 unfold oM at e0
 rw[e0,Jn,if_neg gy]
 refine ah (m:=Jw es t) ?_
 show wpAny _ _ (if (!t.led && !es.isEmpty)=true then unsupported "set:maker-not-led" else pure ()) _ _ s
 rw[if_neg (by rw[hl];simp)]
 exact ay (ay h)
def PV(ys:List (Int × Value))(i:Nat)(v:Value):Prop:=∃ e,ys[i]? = some e/\v=e.2
theorem qh.keep(x:qh h I first i a n ep)(e:∀ o,h.get? I=some o->h'.get? I=some o):qh h' I first i a n ep:=e _ x
theorem An.keep(x:An h a es ep t)(e:∀ o,h.get? a=some o->h'.get? a=some o):An h' a es ep t:=let ⟨o,ho,r⟩:=x;⟨o,e _ ho,r⟩
theorem wJ (hh:A.handled=none) (iL:a≠I) (hb:w.params.followText "set-order" = true) (hf:t.fits es.size=true) :
  Walks prog w A I [I,a] [I] es.size (PV (pickOrder (w.params.setOrder a ep) es).toList) (fun i h=>(∃ slot:Nat,qh h I (.int slot 0) i a es.size ep)/\An h a es ep t) where
 sub:=fun b hb=>by simp at hb;simp[hb]
 frame:=fun _ _ _ ⟨⟨sl,x⟩,y⟩ hk=>⟨⟨sl,x.keep fun o e=>hk I (by simp) o e⟩,y.keep fun o e=>hk a (by simp) o e⟩
 item:=fun i s Q E hi ⟨⟨sl,x⟩,y⟩ hQ=>by
  have hlen:(pickOrder (w.params.setOrder a ep) es).size=es.size:=by
   have:=(jL (w.params.setOrder a ep) es).length_eq
   simpa using this
  refine iz hh iL x y hf (r:=((pickOrder (w.params.setOrder a ep) es)[i]?).map fun e=>(e.2,sl)) (fun A' E' Q' q=>ph hb y hf q) (fun v nx h' e x' sb=>?_) fun h' e k=>?_
  ·rw[yT (by lia)] at e
   cases e
   exact hQ _ h' s.toks ⟨_,by rw[kG];exact yT (by lia),rfl⟩ ⟨⟨_,x'⟩,y.keep fun o e=>sb.extBut _ _ iL e⟩ fun b o hb e=>sb.extBut b o (fun h=>hb (by simp[h])) e
  ·rw[yT (by lia)] at e
   cases e
 done:=fun s Q E ⟨⟨sl,x⟩,y⟩ hQ=>by
  have hlen:(pickOrder (w.params.setOrder a ep) es).size=es.size:=by
   have:=(jL (w.params.setOrder a ep) es).length_eq
   simpa using this
  refine iz hh iL x y hf (r:=((pickOrder (w.params.setOrder a ep) es)[es.size]?).map fun e=>(e.2,sl)) (fun A' E' Q' q=>ph hb y hf q) (fun v nx h' e x' sb=>?_) fun h' e k=>?_
  ·rw[B6 (by lia)] at e
   cases e
  ·exact hQ h' s.toks fun b o hb e=>k b o (fun h=>hb (by simp[h])) e
 self:=fun _ _ _ _ ⟨⟨sl,x⟩,y⟩ hQ=>kh x hQ
def slotAt(t:SetTable):Nat->Nat
 |0=>0
 |i+1=>t.place.getD i 0+1
theorem jb(U:Up t.place)(h:i<=t.place.size):below t.place (slotAt t i)=i:=by
 cases i with
 |zero =>
  obtain⟨_,b,_⟩:=aL U 0
  by_cases z:below t.place 0=0
  ·exact z
  ·exact absurd (b 0 (Nat.pos_of_ne_zero z)) (D8 _)
 |succ i=>exact vN U (by lia)
theorem uP (hh:A.handled=none) (iL:a≠I) (hb:w.params.followText "set-order" = false) (hl:t.led=true) (Jn:(!t.plain && decide (es.size>1))=false) (U:Up t.place) (hz:t.place.size=es.size) (hf:t.fits es.size=true) :
  Walks prog w A I [I,a] [I] es.size (PV es.toList) (fun i h=>qh h I (.int (slotAt t i:Nat) 0) i a es.size ep/\An h a es ep t) where
 sub:=fun b hb=>by simp at hb;simp[hb]
 frame:=fun _ _ _ ⟨x,y⟩ hk=>⟨x.keep fun o e=>hk I (by simp) o e,y.keep fun o e=>hk a (by simp) o e⟩
 item:=fun i s Q E hi ⟨x,y⟩ hQ=>by
  have DS:=jb (t:=t) U (i:=i) (by lia)
  have e1:es[below t.place (slotAt t i)]? = some es[i]:=by rw[DS];exact yT hi
  have e2:t.place[below t.place (slotAt t i)]? = some (t.place.getD i 0):=by rw[DS];exact wR (by lia)
  refine iz hh iL x y hf (r:=some (es[i].2,t.place.getD i 0+1)) (fun A' E' Q' q=>mO hb hl Jn y hf (by rw[e1,e2];exact q)) (fun v nx h' e x' sb=>?_) fun h' e k=>nomatch e
  cases e
  exact hQ _ h' s.toks ⟨_,by rw[kG];exact yT hi,rfl⟩ ⟨x',y.keep fun o e=>sb.extBut _ _ iL e⟩ fun b o hb e=>sb.extBut b o (fun h=>hb (by simp[h])) e
 done:=fun s Q E ⟨x,y⟩ hQ=>by
  have DS:=jb (t:=t) U (i:=es.size) (by lia)
  have e1:es[below t.place (slotAt t es.size)]? = none:=by rw[DS];exact B6 (bT _)
  refine iz hh iL x y hf (r:=none) (fun A' E' Q' q=>mO hb hl Jn y hf (by rw[e1];exact q)) (fun v nx h' e x' sb=>nomatch e) fun h' e k=>?_
  exact hQ h' s.toks fun b o hb e=>k b o (fun h=>hb (by simp[h])) e
 self:=fun _ _ _ _ ⟨x,y⟩ hQ=>kh x hQ
theorem vp{T:Addr}{ix:List Nat}{kT:Nat}(hh:A.handled=none)(iL:a≠I)(hTI:T≠I)(hf:t.fits es.size=true)(hp:ix.Perm (List.range es.size)) :
  Walks prog w A I [I,a,T] [I] es.size (PV (ix.filterMap fun k=>es[k]?)) (fun i h=>qh h I (.ref T) i a es.size ep/\An h a es ep t/\∃ o,h.get? T=some o/\o.data=.seq (ix.map fun(k:Nat)=>Value.int k 0).toArray kT):=by
 have hlen:ix.length=es.size:=by simpa using hp.length_eq
 have qa:∀ k∈ix,k<es.size:=fun k hk=>qB.mp (hp.mem_iff.mp hk)
 obtain⟨f1,f2⟩:=uo (l:=ix) (f:=fun k=>es[k]?) fun k hk=>by simp[qa k hk]
 exact {
  sub:=fun b hb=>by simp at hb;simp[hb]
  frame:=fun _ _ _ ⟨x,y,o,z,zd⟩ hk=>⟨x.keep fun o e=>hk I (by simp) o e,y.keep fun o e=>hk a (by simp) o e,o,hk T (by simp) o z,zd⟩
  item:=fun i s Q E hi ⟨x,y,o,z,zd⟩ hQ=>by
   refine mC hh x y hf z zd (fun k e h' e1 e2 x' sb=>?_) qa fun h' e k=>?_
   ·refine hQ _ h' s.toks ⟨e,by rw[f2,e1];exact e2,rfl⟩ ⟨x',y.keep fun o e=>sb.extBut _ _ iL e,o,sb.extBut _ _ hTI z,zd⟩ fun b o hb e=>sb.extBut b o (fun h=>hb (by simp[h])) e
   ·rw[jv (by lia)] at e;cases e
  done:=fun s Q E ⟨x,y,o,z,zd⟩ hQ=>by
   refine mC hh x y hf z zd (fun k e h' e1 e2 x' sb=>?_) qa fun h' e k=>?_
   ·rw[sM (by lia)] at e1;cases e1
   ·exact hQ h' s.toks fun b o hb e=>k b o (fun h=>hb (by simp[h])) e
  self:=fun _ _ _ _ ⟨x,_⟩ hQ=>kh x hQ }
end
section
variable {prog:Program}{w:World}{A:Around}{E:Value->Shared->Prop}{s:Shared}{a:Addr}{o:Obj}{es:Array (Int × Value)}{ep:Nat}{t:SetTable}
theorem zu (hh:A.handled=none) (ho:s.heap.get? a=some o) (hex:o.ExactSet) (hd:o.data=.set es ep t) (hf:t.fits es.size=true) (U:Up t.place) (hz:t.place.size=es.size) (hl:t.led=(!w.params.followText "set-order")) (hn:es.size<=sizeLine)
  (h:∀ (I:Addr) (h2:Heap) d (fp:List Addr) (St:Nat->Heap->Prop) (ys:List (Int × Value)),(∀ b o,s.heap.get? b=some o->h2.get? b=some o)->s.heap.objs.size<=I->(∀ b∈fp,b=a\/s.heap.objs.size<=b)->ys.Perm es.toList ->
   Walks prog w A I fp [I] es.size (PV ys) St->St 0 h2->Q (.ref I) { s with heap:=h2,drawn:=d }):wpAny (model prog w) A (pyIter (.ref a)) Q E s:=by
 have hT:s.TypeIs (.ref a) "set" := ⟨o,ho,hex.1⟩
 have dc:a<s.heap.objs.size:=dS ho
 refine wpAny_pyIter_slot hT F.slot_set_iter (wpAny_call_entry F.slot_set_iter hT lO ?_ (F.args_set_iter_1 _))
 unfold Builtin.«frozenset.__iter__»
 refine ah (m:=Builtin.Frozenset.slot0 "__iter__" ⟨[.ref a],[]⟩) (wpAny_of_eq (a:=a) rfl ?_)
 refine ah ?_
 unfold Builtin.Frozenset.sizeOf
 refine ah (wpAny_setEntries_of ho hd hf (ay ?_))
 refine ah ?_
 unfold setDrawn
 refine ah (wpAny_setState_of ho hd hf ?_)
 dsimp only
 unfold setsByText
 refine ah (ah (wpAny_askSetting (ay ?_)))
 refine ay ?_
 have e0:oM es t=(!t.plain && decide (es.size>1)):=rfl
 unfold oM at e0
 rw[e0]
 show wpAny _ _ (if (!w.params.followText "set-order" && (!t.plain && decide (es.size>1)))=true then _ else _) _ _ s
 cases hb:w.params.followText "set-order" with
 |true =>
  rw[if_neg (by simp)]
  refine ah (ay ?_)
  refine ah (wpAny_setEpoch_of ho hd hf ?_)
  refine ah (wpAny_newObj_type ?_)
  refine ay ⟨_,rfl, "set_iterator",_,⟨_,i9 _ rfl,rfl⟩,bC.lookup,?_⟩
  have px:(s.heap.push { cls:=.type "set_iterator",data:=.fields #[rawInt 0,rawInt 0,.ref a,rawInt es.size,rawInt ep] }).get? a=some o:=eR _ ho
  exact h s.heap.objs.size _ s.drawn _ _ _ (fun b o e=>eR _ e) (bT _) (fun b hb=>by
   rcases cy.mp hb with rfl|hb
   ·exact .inr (bT _)
   ·exact .inl (kU.mp hb)) (jL _ _) (wJ (ep:=ep) hh (fw dc) hb hf) ⟨⟨0,i9 _ rfl⟩,o,px,hd⟩
 |false =>
  cases Jn:(!t.plain && decide (es.size>1)) with
  |false =>
   rw[if_neg (by simp)]
   refine ah (ay ?_)
   refine ah (wpAny_setEpoch_of ho hd hf ?_)
   refine ah (wpAny_newObj_type ?_)
   refine ay ⟨_,rfl, "set_iterator",_,⟨_,i9 _ rfl,rfl⟩,bC.lookup,?_⟩
   have px:(s.heap.push { cls:=.type "set_iterator",data:=.fields #[rawInt 0,rawInt 0,.ref a,rawInt es.size,rawInt ep] }).get? a=some o:=eR _ ho
   exact h s.heap.objs.size _ s.drawn _ _ _ (fun b o e=>eR _ e) (bT _) (fun b hb=>by
    rcases cy.mp hb with rfl|hb
    ·exact .inr (bT _)
    ·exact .inl (kU.mp hb)) (.refl _) (uP (ep:=ep) hh (fw dc) hb (by rw[hl,hb];rfl) Jn U hz hf) ⟨i9 _ rfl,o,px,hd⟩
  |true =>
   rw[if_pos (by simp)]
   refine ah (Eb es.size (List.range es.size) s _ (by simp) fun ix d hp=>?_)
   refine ah (wpAny_newObj_type ?_ ?hzz)
   case hzz =>
    have:=hp.length_eq
    rw[Q8] at this
    show(ix.map fun(i:Nat)=>rawInt i).toArray.size<=sizeLine
    rw[gi,b4,this];exact hn
   have sP:(s.heap.push { cls:=.type "tuple",data:=.seq (ix.map fun(i:Nat)=>rawInt i).toArray }).get? a=some o:=eR _ ho
   refine ah (wpAny_setEpoch_of sP hd hf ?_)
   refine ah (wpAny_newObj_type ?_)
   refine ay ⟨_,rfl, "set_iterator",_,⟨_,i9 _ rfl,rfl⟩,bC.lookup,?_⟩
   have Qp:(s.heap.push { cls:=.type "tuple",data:=.seq (ix.map fun(i:Nat)=>rawInt i).toArray }).objs.size=s.heap.objs.size+1:=FV ..
   refine h (s.heap.push { cls:=.type "tuple",data:=.seq (ix.map fun(i:Nat)=>rawInt i).toArray }).objs.size _ d [(s.heap.push { cls:=.type "tuple",data:=.seq (ix.map fun(i:Nat)=>rawInt i).toArray }).objs.size,a,s.heap.objs.size] _ (ix.filterMap fun k=>es[k]?) (fun b o e=>eR _ (eR _ e)) (by rw[Qp];exact LV _) (fun b hb=>?_) ?_
    (vp (ep:=ep) (kT:=0) (T:=s.heap.objs.size) (ix:=ix) (t:=t) hh (by rw[Qp];exact fw (qE dc)) (by rw[Qp];exact fw (Nat.lt_succ_self _)) hf hp) ⟨i9 _ rfl,⟨o,eR _ sP,hd⟩,_,eR _ (i9 _ rfl),rfl⟩
   ·rcases cy.mp hb with rfl|hb
    ·exact .inr (by rw[Qp];exact LV _)
    ·rcases cy.mp hb with rfl|hb
     ·exact .inl rfl
     ·rw[kU.mp hb];exact .inr (bT _)
   ·have:=hp.filterMap fun k=>es[k]?
    rw[uK] at this
    exact this
theorem zO (hT:s.TypeIs (.ref a) "set") (h:Q false s):wpAny (model prog w) A (Builtin.List.listLengthHint (.ref a)) Q E s:=by
 unfold Builtin.List.listLengthHint
 refine ah (wpAny_specialOf hT PySem.F.slot_set_len.lookup ?_)
 generalize Xk:("set.__len__" : String)=id0
 wp_delta
 rw[show splitId id0=some ("set", "__len__") from by subst Xk;decide +kernel]
 subst Xk
 refine ah (wpAny_isInstance (T := "set") (b:=true) hT (by rw[isSubtype_type];kernel_rfl) ?_)
 refine wpAny_ite_split (fun NX=>absurd NX (by decide)) (fun _=>?_)
 refine wpAny_ite_split (fun _=>?_) (fun NX=>absurd (by decide +kernel) NX)
 refine ah (wpAny_typeOf hT ?_)
 exact ay h
theorem Ea {R:Result->Shared->Prop} (hh:A.handled=none) (ho:s.heap.get? a=some o) (hex:o.ExactSet) (hd:o.data=.set es ep t) (hf:t.fits es.size=true) (U:Up t.place) (hz:t.place.size=es.size) (hl:t.led=(!w.params.followText "set-order")) (hn:es.size<=sizeLine)
  (S:Addr) (Xl:S≠a) (res:Value) (c₀:Nat) (hS:s.heap.get? S=some { cls:=.type "list",data:=.seq #[] c₀ })
  (hR:∀ h' tk d x6 c' ys,(∀ b o,b≠S->s.heap.get? b=some o->h'.get? b=some o)->h'.get? S=some { cls:=.type "list",dict:=none,data:=.seq x6 c',slots:=#[] }->ys.Perm es.toList->ItemsOf (PV ys) x6 es.size->R (.ok (.ret res)) { s with heap:=h',toks:=tk,drawn:=d }) :
  wpAny (model prog w) A.in1 (Builtin.List.listExtendWith (.ref S) (.ref a) res)
   (fun fin s'=>match fin with|.done f=>R (.ok f) s'|.again c'=>c'.quiet=true/\codeAny (model prog w) A c' R s') (fun e s'=>R (.error e) s') s:=by
 have hT:s.TypeIs (.ref a) "set" := ⟨o,ho,hex.1⟩
 have hSl:=dS hS
 unfold Builtin.List.listExtendWith
 refine ah (wpAny_typeOf hT ?_)
 have h1:Builtin.List.listSameRef (.ref S) (.ref a)=false:=by simp[Builtin.List.listSameRef,Xl]
 simp only[h1,show(Value.type "set" == Value.type "list")=false by decide,show(Value.type "set" == Value.type "tuple")=false by decide,Bool.or_false,gE,if_false]
 refine ah (zu (A:=A.in1) hh ho hex hd hf U hz hl hn fun I h2 d fp St ys kp hI hfp hp W st=>?_)
 have Fh:S∉fp:=fun hm=>by
  rcases hfp S hm with z|z
  ·exact Xl z
  ·exact absurd hSl (Nat.not_lt.mpr z)
 have key:∀ (h:Heap) (c₁ tk:Nat),St 0 h->(∀ b o,b≠S->s.heap.get? b=some o->h.get? b=some o) ->
   h.get? S=some { cls:=.type "list",data:=.seq #[] c₁ }->codeAny (model prog w) A (.builtin "list.extend.loop" ⟨[.ref S,.ref I,res],[]⟩) R { s with heap:=h,toks:=tk,drawn:=d }:=by
  intro h c₁ tk kH hk N6
  refine codeAny_extend_loopS W.toS hn S Fh res es.size 0 _ #[] c₁ rfl (eh _) kH N6 (ItemsOf.nil _) fun s' x6 c' hm N5 wm=>?_
  rw[Moved.eq_with hm]
  refine hR s'.heap s'.toks d x6 c' ys (fun b o hb e=>hm.heap b o (fun Nw=>?_) (hk b o hb e)) N5 hp wm
  rcases cy.mp Nw with e'|Nw
  ·exact hb e'
  ·exact absurd (dS e) (by rw[kU.mp Nw];exact Nat.not_lt.mpr hI)
 have N6:h2.get? S=some { cls:=.type "list",data:=.seq #[] c₀ }:=kp _ _ hS
 refine ah (wpAny_holding (zO (s:={ s with heap:=h2,drawn:=d }) ⟨o,kp _ _ ho,hex.1⟩ ?_))
 refine wpAny_ite_split (fun _=>?_) (fun _=>ay ⟨plainId_quiet PySem.F.plain_extend_loop _,key _ c₀ _ st (fun b o _ e=>kp b o e) N6⟩)
 refine ah (wpAny_rule ?_)
 refine ah ?_
 show wpAny _ _ (updateSeq S (·.push .none) >>= fun _=>updateSeq S (·.pop)) _ _ _
 refine ah (wpAny_updateSeq N6 rfl ?_)
 have Xm:=D5 (Obj.mapSeq (·.push Value.none)) N6 rfl
 refine wpAny_updateSeq (hz:=by seq_fits) Xm rfl ?_
 have dD':=D5 (Obj.mapSeq (·.pop)) Xm rfl
 refine ay ⟨plainId_quiet PySem.F.plain_extend_loop _,key _ _ _ ?_ (fun b o hb e=>?_) dD'⟩
 ·refine W.frame 0 _ _ st fun b hb o e=>?_
  have N4:b≠S:=fun h=>Fh (h ▸ hb)
  exact(LN _ _ (Ne.symm N4)).trans ((LN _ _ (Ne.symm N4)).trans e)
 ·exact(LN _ _ (Ne.symm hb)).trans ((LN _ _ (Ne.symm hb)).trans (kp _ _ e))
theorem vO(h:ItemsOf (PV ys) acc n)(hn:ys.length=n):acc.toList=ys.map (·.2):=by
 apply AG
 intro i
 rw[nc]
 by_cases hi:i<n
 ·have gI:i<acc.size:=by rw[h.1];exact hi
  have e1:acc[i]? = some acc[i]:=yT gI
  obtain⟨e,he,hv⟩:=h.2 i acc[i] e1
  rw[kG,e1,he,hv];rfl
 ·rw[sM (by rw[y2,h.1];lia),sM (by lia)];rfl
theorem jn {R:Result->Shared->Prop} (hh:A.handled=none) (ho:s.heap.get? a=some o) (hex:o.ExactSet) (hd:o.data=.set es ep t) (hf:t.fits es.size=true) (U:Up t.place) (hz:t.place.size=es.size) (hl:t.led=(!w.params.followText "set-order")) (hn:es.size<=sizeLine)
  (hR:∀ h' tk d x6 c' ys,(∀ b o,s.heap.get? b=some o->h'.get? b=some o)->h'.get? s.heap.objs.size=some { cls:=.type "list",dict:=none,data:=.seq x6 c',slots:=#[] }->ys.Perm es.toList->ItemsOf (PV ys) x6 es.size->R (.ok (.ret (.ref s.heap.objs.size))) { s with heap:=h',toks:=tk,drawn:=d }) :
  codeAny (model prog w) A (.builtin "proto.collect" ⟨[.ref a],[]⟩) R s:=by
 have dc:a<s.heap.objs.size:=dS ho
 have hS:(s.heap.push { cls:=.type "list",data:=.seq ([]:List Value).toArray }).get? s.heap.objs.size=some { cls:=.type "list",data:=.seq ([]:List Value).toArray }:=i9 _ rfl
 refine codeAny_builtin F.entry_proto_collect ?_
 rw[Around.under_plainId F.plain_proto_collect _]
 show wpAny _ A.in1 (newList [] >>= fun l=>again (.builtin "list.__iadd__" ⟨[l,.ref a],[]⟩)) _ _ s
 refine ah (wpAny_newObj_type ?_)
 refine ay ⟨plainId_quiet F.plain_list_iadd _,codeAny_builtin F.entry_list_iadd ?_⟩
 rw[Around.under_plainId F.plain_list_iadd _]
 show wpAny _ A.in1 (Builtin.List.listExtendWith (.ref s.heap.objs.size) (.ref a) (.ref s.heap.objs.size)) _ _ _
 exact Ea (R:=R) (s:={ s with heap:=s.heap.push { cls:=.type "list",data:=.seq ([]:List Value).toArray } }) hh (eR _ ho) hex hd hf U hz hl hn s.heap.objs.size (GA dc) _ 0 hS fun h' tk d x6 c' ys kp eo hp ia =>
  hR h' tk d x6 c' ys (fun b o e=>kp b o (fw (dS e)) (eR _ e)) eo hp ia
theorem jD (hh:A.handled=none) (ho:s.heap.get? a=some o) (hex:o.ExactSet) (hd:o.data=.set es ep t) (hf:t.fits es.size=true) (U:Up t.place) (hz:t.place.size=es.size) (hl:t.led=(!w.params.followText "set-order")) (hn:es.size<=sizeLine)
  (hQ:∀ h' tk d vs,(∀ b o,s.heap.get? b=some o->h'.get? b=some o)->s.heap.objs.size<=h'.objs.size->vs.Perm (es.toList.map (·.2))->Q vs { s with heap:=h',toks:=tk,drawn:=d }):wpAny (model prog w) A (collect (.ref a)) Q E s:=by
 unfold collect
 refine ah (wpAny_runValue (jn hh ho hex hd hf U hz hl hn fun h' tk d acc c ys kp eo hp ia=>?_))
 show wpAny _ A (load s.heap.objs.size >>= _) _ _ { s with heap:=h',toks:=tk,drawn:=d }
 refine ah (wpAny_load eo ?_)
 refine ay (hQ h' tk d _ kp (kA (dS eo)) ?_)
 rw[vO ia (by rw[hp.length_eq];simp)]
 exact hp.map _
end
end TS
namespace sj
open PySem PyProof.Rows
section
variable {prog:Program}{w:World}{A:Around}{E:Value->Shared->Prop}{s:Shared}{κ:SortKind}{r:Value->Int}{P:Value->Prop}
theorem jF{R:List Value->Prop}
  (SX:∀ (A':Around) (E':Value->Shared->Prop) (Q':List Value->Shared->Prop),A'.handled=A.handled->(∀ vs h1 tk d,R vs->(∀ b o,s.heap.get? b=some o->h1.get? b=some o)->s.heap.objs.size<=h1.objs.size->Q' vs { s with heap:=h1,toks:=tk,drawn:=d })->wpAny (model prog w) A' (collect v) Q' E' s)
  (hsz:∀ vs,R vs->vs.length<=sizeLine) (hP:∀ vs,R vs->∀ v∈vs,P v)
  (hk:∀ vs,R vs->2<=vs.length->∀ (A':Around) (E':Value->Shared->Prop) (s':Shared),(∀ b o,s.heap.get? b=some o->s'.heap.get? b=some o)->∀ (Q:SortKind->Shared->Prop),Q κ s'->wpAny (model prog w) A' (keyKind' vs.toArray) Q E' s')
  (C:∀ (s':Shared),(∀ b o,s.heap.get? b=some o->s'.heap.get? b=some o)->kL prog w A.in1.in1 s' κ r P)
  (h:∀ (vs:List Value) (h':Heap) (a:Addr) (out:List Value) (n tk:Nat) d,R vs->out.Perm vs->(out.Pairwise fun x y=>r x<=r y)->(∀ b o,s.heap.get? b=some o->h'.get? b=some o)->s.heap.objs.size<=a->h'.get? a=some (seqObj "list" out.toArray n)->Q (.ref a) { s with heap:=h',toks:=tk,drawn:=d }) :
  wpAny (model prog w) A (call (.builtin "sorted") [v]) Q E s:=by
 refine Calls.call_function_entry kind_sorted plain_sorted entry_sorted (args_sorted1 _) ?_
 unfold Builtin.«sorted»
 refine ah (m:=checkCount "sorted" 1 1 _) (ay ?_)
 refine ah (SX _ _ _ rfl fun vs h1 tk d hR kp hz=>?_)
 have uj:=hsz vs hR
 refine ah (wpAny_newList ?_ (by simpa using uj))
 have vx:(h1.push (seqObj "list" vs.toArray 0)).get? h1.objs.size=some (seqObj "list" vs.toArray 0):=i9 _ rfl
 have old:∀ b o,s.heap.get? b=some o->(cZ (h1.push (seqObj "list" vs.toArray 0)) h1.objs.size vs).get? b=some o:=fun b o e=>by
  have dc:b<h1.objs.size:=dS (kp b o e)
  rw[gG (fw dc) (by rw[size_push'];exact qE dc)]
  exact eR _ (kp b o e)
 show wpAny _ _ _ _ _ { s with heap:=h1.push (seqObj "list" vs.toArray 0),toks:=tk,drawn:=d }
 refine ah (wpAny_holding (wpAny_call_entry slot_list_sort ⟨_,vx,rfl⟩ entry_list_sort (fW (r:=r) (s:={ s with heap:=h1.push (seqObj "list" vs.toArray 0),toks:=tk,drawn:=d }) vx uj (hP vs hR)
  (fun h2=>hk vs hR h2 _ _ _ old) (fun h2=>C _ old) fun out a1 a2=>⟨_,rfl,?_⟩) (args_list_sort _)))
 obtain⟨n,e⟩:=sortedHeap_at (out:=out) vx
 refine ay ⟨_,rfl,h vs _ h1.objs.size out.toList n tk d hR a1 a2 (fun b o e=>?_) hz (by rw[O5];exact e)⟩
 have dc:b<h1.objs.size:=dS (kp b o e)
 rw[sortedHeap_old (fw dc) (by rw[size_push'];exact qE dc)]
 exact eR _ (kp b o e)
end
end sj
namespace TS
open PySem PySem.SetTable PyProof.Rows
section
variable {prog:Program}{w:World}{K:Type}[DecidableEq K]{knd:KeyKind prog w K}{A:Around}{E:Value->Shared->Prop}{s:Shared}
theorem uF(led:Bool):TI (α:=α) (SetTable.fresh 0 0 led) #[] :=
 ⟨⟨3,rfl,bT _⟩,rfl,fun i j h hj=>absurd hj (D8 _),fun i hi=>absurd hi (D8 _),rfl,(by show 0*5<7*3;decide),fun i h x e=>by simp at e⟩
theorem oZ{l:Addr}{items:Array Value}{xs:List (List K × Addr)}{Q:Value->Shared->Prop}(hh:A.handled=none)(hu:A.units+8<cLine)(hl:s.heap.IsList l items)(hi:items.toList=xs.map fun p=>Value.ref p.2)
  (ve:∀ p∈xs,IsTupleKey knd s.heap p.1 p.2) (hz:xs.length<=1000) (lI:∀ k v,knd.is k v=true->v.scannable=true)
  (h:∀ h' tk ks,IZ knd h' s.heap.objs.size ks->(∀ k,k∈ks.map (·.1)↔k∈xs.map (·.1))->(∀ p∈ks,p∈xs)->(∀ b o,s.heap.get? b=some o->h'.get? b=some o)->Q (.ref s.heap.objs.size) { s with heap:=h',toks:=tk }) :
  wpAny (model prog w) A (call (.type "set") [.ref l]) Q E s:=by
 have lt:∀ p∈xs,p.2<s.heap.objs.size:=fun p hp=>by
  obtain⟨o,_,_,ho,_⟩:=ve p hp
  exact dS ho
 refine jg hh hl (fun i h=>∃ ks,IZ knd h s.heap.objs.size ks/\(∀ k,k∈ks.map (·.1)↔k∈(xs.take i).map (·.1))/\(∀ p∈ks,p∈xs)/\ks.length<=i/\∀ p∈xs,IsTupleKey knd h p.1 p.2) (fun h e k=>?_) (fun i h h' ⟨ks,S,m1,m2,m3,m4⟩ k=>?_) (fun i v s' E' Q' hv ⟨ks,S,m1,m2,m3,m4⟩ q=>?_) fun h' tk ⟨ks,S,m1,m2,m3,m4⟩ k=>?_
 ·exact⟨[],⟨⟨_,#[],0,_,e,⟨rfl,rfl,rfl⟩,rfl,uF _,(by show 7<=8191;decide),rfl,rfl⟩,n5,fun p hp=>nomatch hp⟩,fun k=>by simp,(fun p hp=>nomatch hp),bT _,fun p hp=>IsTupleKey.fq (ve p hp) fun o ho=>k _ _ ho⟩
 ·obtain⟨⟨o,es,ep,t,ho,r⟩,nd,is⟩:=S
  exact⟨ks,⟨⟨o,es,ep,t,k _ _ (bT _) ho,r⟩,nd,fun p hp=>IsTupleKey.fq (is p hp) fun o ho=>k _ _ (kA (lt p (m2 p hp))) ho⟩,m1,m2,m3,fun p hp=>IsTupleKey.fq (m4 p hp) fun o ho=>k _ _ (kA (lt p hp)) ho⟩
 ·have yv:items.toList[i]? = some v:=by rw[kG];exact hv
  rw[hi,nc] at yv
  cases ex:xs[i]? with
  |none=>rw[ex] at yv;cases yv
  |some p =>
   rw[ex] at yv
   cases yv
   have hp:=nX ex
   have Xf:i<xs.length:=(i7.mp ex).1
   have TF:(xs.take (i+1)).map (·.1)=(xs.take i).map (·.1)++[p.1]:=by
    rw[B1,ex,AO];rfl
   unfold setAdd
   refine wpAny_holding (ah (wpAny_pyHash_tuple (by show A.units+3<cLine;lia) (m4 p hp) ?_))
   refine GD (s:={ s' with toks:=s'.toks+(p.1.length+1) }) S (m4 p hp) (by lia) (by show A.units+3<cLine;lia) lI fun b h' dr sb S' c=>?_
   refine q b h' _ sb ⟨dr,S',fun k=>?_,fun p' g9=>?_,?_,fun p' g9=>IsTupleKey.fq (m4 p' g9) fun o ho=>sb.extBut _ _ (fw (lt p' g9)) ho⟩
   ·rw[TF,dy,kU,<- m1]
    rcases c with⟨c1,rfl⟩|⟨c1,c2⟩
    ·exact⟨.inl,fun z=>z.elim id fun e=>e ▸ c1⟩
    ·rw[(c2.map _).mem_iff,fi,cy]
     exact⟨fun z=>z.symm,fun z=>z.symm⟩
   ·rcases c with⟨c1,rfl⟩|⟨c1,c2⟩
    ·exact m2 p' g9
    ·rcases cy.mp (c2.mem_iff.mp g9) with rfl|z
     ·exact hp
     ·exact m2 p' z
   ·rcases c with⟨c1,rfl⟩|⟨c1,c2⟩
    ·exact Nat.le_succ_of_le ‹_›
    ·rw[c2.length_eq];simp;lia
 ·have e:items.size=xs.length:=by
   have:=congrArg List.length hi
   simpa using this
  rw[e,AJ] at m1
  exact h h' tk ks S m1 m2 fun b o ho=>k b o (dS ho) ho
end
end TS
namespace L2
open PySem PySem.Spec PyProof.Rows
section
variable {X:Cx}{pins:List (Addr × Obj)}{σ:St}{H:Hp}{s:Shared}
theorem Inv.drawn{d}(I:Inv X pins σ H s):Inv X pins σ H { s with drawn:=d }:=⟨I.ok,I.os,I.bare,I.base,I.loc,I.cell,I.free,I.xv,I.pin,I.bq,I.len⟩
theorem tD:∀ (k:Key) (v:Value),(iE prog w).is k v=true->v.scannable=true:=fun k v h=>by
 rcases xl h with⟨i,t,rfl,rfl⟩|⟨x,t,rfl,rfl⟩<;>rfl
def ir(K:PySem.W.Frag):V->Hp->VK->Prop:=fun x H Q=>match x with
 |.ref p=>∃ ys ks b0 sh,eK K H p ys/\ys.length<=1000/\cL H ys ks/\(∀ k∈ks,gu k=b0 :: sh) /\
   ∀ zs ms l,cL H zs ms->ms.Nodup->(∀ k,k∈ms↔k∈ks)->(ms.Pairwise fun a b=>ft b a=false)->H l=none->Q (.ref l) (upd H l (.lst zs))
 |_=>False
theorem cL.pairs(h:cL H ys ks)(hv:Vals ys vs):∃ xs:List (List Key × Addr),vs=xs.map (fun p=>Value.ref p.2)/\xs.map (·.1)=ks/\∀ p∈xs,H p.2=some (.tup (p.1.map kV)):=by
 induction ys generalizing ks vs with
 |nil=>exact⟨[],Paired.n0 hv,(show ks=[] from Paired.n0 h).symm,fun p hp=>nomatch hp⟩
 |cons y ys ih =>
  obtain⟨k,ks,rfl,⟨b,rfl,g⟩,t⟩:=Paired.c h
  obtain⟨v,vs,rfl,rfl,rs⟩:=Paired.c hv
  obtain⟨xs,e1,e2,e3⟩:=ih t rs
  refine⟨(k,b) :: xs,by rw[e1];rfl,by rw[<- e2];rfl,fun p hp=>?_⟩
  rcases cy.mp hp with rfl|hp
  ·exact g
  ·exact e3 p hp
end
section
variable {X:Cx}{e:Expr}{te:TE}{p p2 pos tj:Pos}
theorem rG (hc:X.calm=true) (hu:X.A.units+64<cLine) (hg:Gl X "sorted") (hm:X.mg "sorted" = none) (Fn:Gl X "set") (ub:X.mg "set" = none) (he:PE X e te)
  (hv:bootBuiltins "sorted" = some (.builtin "sorted")) (TH:bootBuiltins "set" = some (.type "set"))
  (sq:starEach [e] X.env=(false,eval e X.env) :: starEach [] X.env:=by rfl)
  (hs:starEach [.Call (.Name "set" p2) [e] [] tj] X.env=(false,eval (.Call (.Name "set" p2) [e] [] tj) X.env) :: starEach [] X.env:=by rfl) :
  PE X (.Call (.Name "sorted" p) [.Call (.Name "set" p2) [e] [] tj] [] pos) (Rz (ir X.K) te):=by
 intro pins s σ H Q I h
 refine wpAny_Call_Name_kw (CB I hg hm hv ?_ (by decide) (by decide))
 refine PyProof.Rows.callWith_builtin1 ?_ hs rfl
 rw[hs]
 refine Calls.spliced_cons ?_
 refine wpAny_Call_Name_kw (CB I Fn ub TH ?_ (by decide) (by decide))
 refine PyProof.Rows.callWith_type1 ?_ sq rfl
 rw[sq]
 refine Calls.spliced_cons (cq (he pins s σ H _ I h) fun u s1 cv=>L2.fP cv fun x H1 I1 r1 q1=>Calls.spliced_nil ?_)
 have q1:ir X.K x H1 Q:=q1
 obtain⟨a,rfl⟩:∃ a,x=.ref a:=by
  unfold ir at q1
  split at q1
  ·exact⟨_,rfl⟩
  ·exact q1.elim
 obtain⟨ys,ks,b0,sh,hl,N7,ht,xI,q⟩:=q1
 cases r1
 obtain⟨vs,rv,pl,hz⟩:=I1.list hl
 obtain⟨xs,ex,ek,hx⟩:=ht.pairs rv
 have N8:X.A.handled=none:=I1.ok.hd hc
 have hlen:xs.length=ys.length:=by rw[rv.length,ex,b4]
 have ve:∀ p∈xs,IsTupleKey (iE X.prog X.w) s1.heap p.1 p.2:=fun p hp=>by
  obtain⟨us,ru,o,e1,c1,n1,d1⟩:=I1.tup (hx p hp)
  exact⟨o,us.toArray,n1,e1,c1,d1,by simpa using R5 ru⟩
 refine TS.oZ (knd:=iE X.prog X.w) N8 (by lia) pl.isList (by simpa using ex) ve (by lia) tD fun h2 tk dr S m1 m2 kp=>?_
 refine Calls.spliced_nil ?_
 obtain⟨⟨o,es,ep,t,ho,hex,hd,T,hM,hL,BE⟩,nd,is⟩:=S
 have TJ:es.toList.map (·.2)=dr.map fun p=>Value.ref p.2:=by rw[BE,fA];rfl
 have dE':dr.length<=1000:=by
  have:=TS.dN nd (m:=ks) fun k hk=>by rw[<- ek];exact(m1 k).mp hk
  rw[b4] at this
  have:ks.length=xs.length:=by rw[<- ek,b4]
  lia
 have TK:es.size=dr.length:=by
  have:=congrArg List.length BE
  simpa using this
 have TL:∀ p∈dr,p.1∈ks:=fun p hp=>by rw[<- ek];exact cc.mpr ⟨p,m2 p hp,rfl⟩
 have mem:∀ eM:List Value,eM.Perm (dr.map fun p=>Value.ref p.2)->∀ v∈eM,∃ b k,v=.ref b/\H1 b=some (.tup (k.map kV))/\k∈ks:=fun eM pv v hv=>by
  obtain⟨p,hp,rfl⟩:=cc.mp (pv.mem_iff.mp hv)
  exact⟨p.2,p.1,rfl,hx p (m2 p hp),TL p hp⟩
 have N9:s1.heap.objs.size<=h2.objs.size:=kA (dS ho)
 refine sj.jF (s:={ s1 with heap:=h2,toks:=tk }) (κ:=tuples' true) (R:=fun eM=>eM.Perm (dr.map fun p=>Value.ref p.2)) (r:=fun v=>ui ks (lJ H1 v)) (P:=fun v=>∃ b k,v=.ref b/\H1 b=some (.tup (k.map kV))/\gu k=b0 :: sh/\k∈ks)
  (fun A' E' Q' hA hQ=>TS.jD (s:={ s1 with heap:=h2,toks:=tk }) (hA.trans N8) ho hex hd T.fits T.up T.sz hL (by rw[TK,sizeLine_eq];lia) fun h' BF d eM vj Qq pv=>hQ eM h' BF d (by rw[<- TJ];exact pv) vj Qq)
  (fun eM pv=>by rw[pv.length_eq,b4,sizeLine_eq];lia) (fun eM pv v hv=>?_) (fun eM pv Xn A' E' s' vj Q' q'=>?_) (fun s' vj=>tV I1 fun b o e=>vj b o (kp b o e)) fun eM h' a' out n BF d pv pm pw vj ha eo=>?_
 ·obtain⟨b,k,e1,e2,e3⟩:=mem eM pv v hv
  exact⟨b,k,e1,e2,xI k e3,e3⟩
 ·obtain⟨zs,z1,z2⟩:=cL.of (H:=H1) (ks:=ks) eM (mem eM pv)
  obtain⟨fs,f1,f2,f3⟩:=kat_tups I1 (s':=s') (fun b o e=>vj b o (kp b o e)) z1 z2 fun k hk=>by
   obtain⟨v,hv,rfl⟩:=cc.mp hk
   obtain⟨b,k,rfl,e2,e3⟩:=mem eM pv v hv
   rw[cI e2];exact xI k e3
  cases b0 with
  |true =>
   refine PySem.W.kat_kind (T:=.type "int") f1 (by lia) (fun f hf=>?_) (by decide) q'
   obtain⟨i,t,rfl⟩:=(f3 f hf).1 rfl
   exact .now
  |false =>
   refine PySem.W.kat_kind (T:=.type "str") f1 (by lia) (fun f hf=>?_) (by decide) q'
   obtain⟨i,t,rfl⟩:=(f3 f hf).2 rfl
   exact .now
 ·have DU:=pm.trans pv
  obtain⟨zs,z1,z2⟩:=cL.of (H:=H1) (ks:=ks) out fun v hv=>mem _ DU v hv
  have zl:=z2.length
  have ol:=DU.length_eq
  rw[b4] at ol
  have TN:(dr.map fun p=>Value.ref p.2).map (lJ H1)=dr.map (·.1):=by
   rw[fA]
   exact D3 fun p hp=>cI (hx p (m2 p hp))
  have Qr:(out.map (lJ H1)).Perm (dr.map (·.1)):=by rw[<- TN];exact DU.map _
  refine⟨.ref a',_,(I1.laid (a:=a') (t':=BF) (fun b o e=>vj b o (kp b o e)) (gx N9 ha) (show fE X.prog X.w _ h' _ (.lst zs) from⟨by rw[sizeLine_eq];lia,out,n,z2,eo⟩)).drawn,rfl,
   q zs _ _ z1 (Qr.nodup_iff.mpr nd) (fun k=>by rw[Qr.mem_iff,m1,ek]) ?_ (I1.bq.fresh (gx N9 ha))⟩
  rw[ki]
  refine pw.imp_of_mem fun {x y} mx my hle=>?_
  obtain⟨b,k,rfl,hb,kk⟩:=mem _ DU x mx
  obtain⟨c,m,rfl,xA,km⟩:=mem _ DU y my
  rw[cI hb,cI xA] at *
  have:=l_ (L:=ks) ((xI m km).trans (xI k kk).symm) km
  rw[<- this]
  exact decide_eq_false (by lia)
end
end L2
namespace TS
open PySem PySem.SetTable PyProof.Rows
section
variable {t:SetTable}{es:Array (Int × Value)}
theorem xY(T:TI t es)(h:Int)(x:Value):∃ j,j<=t.mask/\taken t.place j=false/\Reach t.mask t.place h j /\
  layNew t es h x=(insertAt es (below t.place j) (h,x),{ t with place:=insertAt t.place (below t.place j) j,dummies:=#[] },false,false):=by
 obtain⟨m,hm,_⟩:=T.pw
 obtain⟨e0,Tv,Tw⟩:=T.free
 obtain⟨nf,n1,n2,n3⟩:=lW hm h (taken t.place) Tv Tw
 obtain⟨n',a1,a2,a3,a4⟩:=mV T (fun _=>h+1) h (10*turns t.mask) 0 ⟨nf,eh _,by unfold turns;lia,n2⟩
 rcases a4 with⟨c1,c2⟩|⟨_,c2,_⟩
 ·have Rp:n'<=nf:=by
   by_cases z:n'<=nf
   ·exact z
   ·have:=(a3 nf (eh _) (by exact Nat.lt_of_not_le ‹_›)).1
    rw[n2] at this;cases this
  refine⟨J t.mask h n',Qm ..,c1,⟨n',by walk_at "s1",rfl,fun q hq=>(a3 q (eh _) hq).1⟩,?_⟩
  have PK:t.freeSlot h=some (J t.mask h n',false):=by
   unfold SetTable.freeSlot
   have:t.probe (fun _=>h+1) h (t.probeStart h)=some (.empty (J t.mask h n') none):=c2
   rw[this];rfl
  have TB:t.put (J t.mask h n')=({ t with place:=insertAt t.place (below t.place (J t.mask h n')) (J t.mask h n'),dummies:=#[] },below t.place (J t.mask h n')):=by
   unfold SetTable.put
   have:has t.dummies (J t.mask h n')=false:=by rw[T.dm];rfl
   simp only[this,gE,if_false]
   rw[T.dm]
  have hb:=(aL T.up (J t.mask h n')).1
  have IL:({ t with place:=insertAt t.place (below t.place (J t.mask h n')) (J t.mask h n'),dummies:=#[] }:SetTable).fits (insertAt es (below t.place (J t.mask h n')) (h,x)).size=true:=by
   have:=T.few
   have hsz:(insertAt es (below t.place (J t.mask h n')) (h,x)).size=es.size+1:=bB _ _ (by rw[<- T.sz];exact hb)
   simp only[SetTable.fits,SetTable.fill,hsz,bB _ _ hb,T.sz,kr,beq_iff_eq,decide_eq_true_eq,true_and]
   simp;lia
  unfold layNew
  rw[PK]
  dsimp only
  rw[TB]
  dsimp only
  unfold SetTable.orStandIn
  rw[IL]
  rfl
 ·exact absurd c2 (by lia)
end
section
variable {prog:Program}{w:World}{K:Type}[DecidableEq K]{knd:KeyKind prog w K}
def N_(knd:KeyKind prog w K)(p:K × Value):Int × Value:=(knd.hash p.1,p.2)
structure Qs(knd:KeyKind prog w K)(h:Heap)(a:Addr)(ks:List (K × Value)):Prop where
 ob:∃ o es ep t,h.get? a=some o/\o.ExactSet/\o.data=.set es ep t/\TI t es/\t.mask<=8191/\t.led=(!w.params.followText "set-order")/\es.toList=ks.map (N_ knd)
 nd:(ks.map (·.1)).Nodup
 is:∀ p∈ks,knd.is p.1 p.2=true
variable {A:Around}{E:Value->Shared->Prop}{s:Shared}
theorem Cy(S:Qs knd s.heap a ks)(hx:knd.is k x=true)(hz:ks.length<1000)(lI:∀ k v,knd.is k v=true->v.scannable=true)
  (h:∀ (b:Bool) (h':Heap) (dr:List (K × Value)),Heap.SameBut a s.heap h'->Qs knd h' a dr->(k∈ks.map (·.1)/\dr=ks\/k∉ks.map (·.1)/\dr.Perm ((k,x) :: ks))->Q b { s with heap:=h' }) :
  wpAny (model prog w) A (setAddHashed a x (knd.hash k)) Q E s:=by
 obtain⟨⟨o,es,ep,t,ho,hex,hd,T,hM,hL,he⟩,nd,is⟩:=id S
 have hlen:es.size=ks.length:=by
  have:=congrArg List.length he
  simpa using this
 have Fc:ElemsOf knd es.toList:=fun e hm=>by
  rw[he] at hm
  obtain⟨p,hp,rfl⟩:=cc.mp hm
  exact⟨⟨p.1,is p hp,rfl⟩,lI _ _ (is p hp)⟩
 have PR:scanBound=4096:=rfl
 unfold setAddHashed setAddHashedIn
 refine wpAny_holding (ah (wpAny_setState_of ho hd T.fits ?_))
 dsimp only
 rw[byScan_of (lI _ _ hx) (by lia) Fc]
 simp only[↓reduceIte]
 unfold setAddByScan
 refine ah ?_
 refine ah (wpAny_rule ?_)
 refine ah (wpAny_setScan_of hx ho hd T.fits Fc ?_)
 cases hr:List.findIdx? (fun e=>knd.is k e.2) es.toList with
 |some j =>
  dsimp only
  refine ay (ay ?_)
  obtain⟨hj,Xo,_⟩:=List.findIdx?_eq_some_iff_getElem.mp hr
  have hm:es.toList[j]∈ks.map (N_ knd):=by rw[<- he];exact AK hj
  obtain⟨p,hp,L7⟩:=cc.mp hm
  rw[<- L7] at Xo
  have hk:k=p.1:=knd.inj p.2 k p.1 Xo (is p hp)
  have e:s={ s with heap:=s.heap }:=by cases s;rfl
  rw[e]
  exact h _ _ ks (Heap.SameBut.refl a s.heap) S (.inl ⟨cc.mpr ⟨p,hp,hk.symm⟩,rfl⟩)
 |none =>
  dsimp only
  have ke:k∉ks.map (·.1):=fun hm=>by
   obtain⟨p,hp,rfl⟩:=cc.mp hm
   have:=List.findIdx?_eq_none_iff.mp hr (N_ knd p) (by rw[he];exact cc.mpr ⟨p,hp,rfl⟩)
   rw[show knd.is p.1 (N_ knd p).2=true from is p hp] at this
   cases this
  obtain⟨j,Tx,n2,Tz,hlay⟩:=xY T (knd.hash k) x
  rw[hlay]
  dsimp only
  refine ah (ay ?_)
  have aS:(insertAt es (below t.place j) (knd.hash k,x)).toList=(ks.take (below t.place j)++(k,x) :: ks.drop (below t.place j)).map (N_ knd):=by
   rw[mQ,he,AO,fi,List.map_take,List.map_drop];rfl
  have vi:(ks.take (below t.place j)++(k,x) :: ks.drop (below t.place j)).Perm ((k,x) :: ks):=by
   refine List.perm_middle.trans ?_
   rw[Lc]
  have DS:below t.place j<=es.size:=by rw[<- T.sz];exact(aL T.up j).1
  have uj:(insertAt es (below t.place j) (knd.hash k,x)).size=es.size+1:=bB _ _ DS
  have NZ:∀ dr:List (K × Value),dr.Perm ((k,x) :: ks)->∀ p∈dr,knd.is p.1 p.2=true:=fun dr pm p hp=>by
   rcases cy.mp (pm.mem_iff.mp hp) with rfl|hp
   ·exact hx
   ·exact is p hp
  have N0:∀ dr:List (K × Value),dr.Perm ((k,x) :: ks)->(dr.map (·.1)).Nodup:=fun dr pm=>by
   rw[(pm.map _).nodup_iff,fi,iA]
   exact⟨ke,nd⟩
  have main:∀ t':SetTable,t'.mask=t.mask->t'.place=insertAt t.place (below t.place j) j->t'.dummies = #[]->t'.led=t.led->wpAny (model prog w) A (do
    storeSet a (insertAt es (below t.place j) (knd.hash k,x)) t'
    if (!false && t'.tooFull)=true then do
      G6 (relayAll t' (insertAt es (below t.place j) (knd.hash k,x)) (grown (insertAt es (below t.place j) (knd.hash k,x)).size)).2.2
      storeSet a (relayAll t' (insertAt es (below t.place j) (knd.hash k,x)) (grown (insertAt es (below t.place j) (knd.hash k,x)).size)).1 (relayAll t' (insertAt es (below t.place j) (knd.hash k,x)) (grown (insertAt es (below t.place j) (knd.hash k,x)).size)).2.1
      pure (some true)
     else pure (some true)) (fun r s'=>wpAny (model prog w) A (match r with|some added=>pure added|none=>setAddHashedIn a x (knd.hash k) 99999) Q E s') E s:=fun t' tm tp td tl=>by
   have Qo:t'.fill=es.size+1:=by
    unfold SetTable.fill
    rw[tp,td,bB _ _ (aL T.up j).1,T.sz];simp
   refine ah (wpAny_storeSet_of ho hd ?_ (by rw[uj,sizeLine_eq];lia))
   have sP:(s.heap.update a (Obj.putSet (insertAt es (below t.place j) (knd.hash k,x)) t')).get? a=some { o with data:=.set (insertAt es (below t.place j) (knd.hash k,x)) (ep+1) t' }:=by
    have:=D5 (Obj.putSet (insertAt es (below t.place j) (knd.hash k,x)) t') ho (by rw[putSet_of _ _ hd];rfl)
    rw[putSet_of _ _ hd] at this;exact this
   have ti:=Heap.SameBut.update s.heap a (Obj.putSet (insertAt es (below t.place j) (knd.hash k,x)) t')
   by_cases c:t'.tooFull=true
   ·rw[if_pos (by rw[c];rfl)]
    obtain⟨t2,order,r1,r2,r3,r4,r5,r6,r7,r8,r9⟩:=o_ (t:=t') (es:=insertAt es (below t.place j) (knd.hash k,x)) (by lia)
    have dF':relayAll t' (insertAt es (below t.place j) (knd.hash k,x)) (grown (insertAt es (below t.place j) (knd.hash k,x)).size)=(order.filterMap fun i=>(insertAt es (below t.place j) (knd.hash k,x))[i]?,t2,false):=by
     unfold relayAll
     rw[r1]
     dsimp only
     rw[if_pos]
     rw[kr]
     refine⟨?_,r6.fits⟩
     unfold coversAll
     rw[List.isPerm_iff];exact r9
    rw[dF']
    dsimp only
    refine ah (ay ?_)
    obtain⟨dr,ek,pk⟩:=fL r8 aS
    refine ah (wpAny_storeSet_of sP rfl ?_ (by rw[r7,uj,sizeLine_eq];lia))
    refine ay (ay ?_)
    have DT:=ti.trans (Heap.SameBut.update _ a (Obj.putSet (order.filterMap fun i=>(insertAt es (below t.place j) (knd.hash k,x))[i]?) t2))
    have nv:=D5 (Obj.putSet (order.filterMap fun i=>(insertAt es (below t.place j) (knd.hash k,x))[i]?) t2) sP (by rw[putSet_of _ _ rfl];rfl)
    rw[putSet_of _ _ rfl] at nv
    exact h true _ dr DT ⟨⟨_,_,_,_,nv,hex,rfl,r6,r5 (by lia),by rw[r3,tl];exact hL,ek⟩,N0 dr (pk.trans vi),NZ dr (pk.trans vi)⟩ (.inr ⟨ke,pk.trans vi⟩)
   ·rw[if_neg (by simpa using c)]
    refine ay (ay ?_)
    have rV:(es.size+1)*5<t.mask*3:=by
     unfold SetTable.tooFull at c
     rw[Qo,tm] at c
     simpa using c
    exact h true _ _ ti ⟨⟨_,_,_,_,sP,hex,rfl,T.put Tx n2 Tz tm tp td rV,by rw[tm];exact hM,by rw[tl];exact hL,aS⟩,N0 _ vi,NZ _ vi⟩ (.inr ⟨ke,vi⟩)
  split
  ·refine ah ?_
   rw[hashByValue_scannable 8 (lI _ _ hx)]
   refine ay ?_
   split
   ·exact main _ rfl rfl rfl rfl
   ·exact main _ rfl rfl rfl rfl
  ·refine ah (ay ?_)
   rw[if_pos rfl]
   exact main _ rfl rfl rfl rfl
end
section
variable {prog:Program}{w:World}{K:Type}[DecidableEq K]{knd:KeyKind prog w K}{A:Around}{E:Value->Shared->Prop}{s:Shared}
theorem nO{l:Addr}{items:Array Value}{xs:List (K × Value)}{Q:Value->Shared->Prop}(hh:A.handled=none)(hl:s.heap.IsList l items)(hi:items.toList=xs.map (·.2))
  (ve:∀ p∈xs,knd.is p.1 p.2=true) (hz:xs.length<=1000) (lI:∀ k v,knd.is k v=true->v.scannable=true)
  (h:∀ h' tk ks,Qs knd h' s.heap.objs.size ks->(∀ k,k∈ks.map (·.1)↔k∈xs.map (·.1))->(∀ p∈ks,p∈xs)->(∀ b o,s.heap.get? b=some o->h'.get? b=some o)->Q (.ref s.heap.objs.size) { s with heap:=h',toks:=tk }) :
  wpAny (model prog w) A (call (.type "set") [.ref l]) Q E s:=by
 refine jg hh hl (fun i h=>∃ ks,Qs knd h s.heap.objs.size ks/\(∀ k,k∈ks.map (·.1)↔k∈(xs.take i).map (·.1))/\(∀ p∈ks,p∈xs)/\ks.length<=i) (fun h e k=>?_) (fun i h h' ⟨ks,S,m1,m2,m3⟩ k=>?_) (fun i v s' E' Q' hv ⟨ks,S,m1,m2,m3⟩ q=>?_) fun h' tk ⟨ks,S,m1,m2,m3⟩ k=>?_
 ·exact⟨[],⟨⟨_,#[],0,_,e,⟨rfl,rfl,rfl⟩,rfl,uF _,(by show 7<=8191;decide),rfl,rfl⟩,n5,fun p hp=>nomatch hp⟩,fun k=>by simp,(fun p hp=>nomatch hp),bT _⟩
 ·obtain⟨⟨o,es,ep,t,ho,r⟩,nd,is⟩:=S
  exact⟨ks,⟨⟨o,es,ep,t,k _ _ (bT _) ho,r⟩,nd,is⟩,m1,m2,m3⟩
 ·have yv:items.toList[i]? = some v:=by rw[kG];exact hv
  rw[hi,nc] at yv
  cases ex:xs[i]? with
  |none=>rw[ex] at yv;cases yv
  |some p =>
   rw[ex] at yv
   cases yv
   have hp:=nX ex
   have Xf:i<xs.length:=(i7.mp ex).1
   have TF:(xs.take (i+1)).map (·.1)=(xs.take i).map (·.1)++[p.1]:=by
    rw[B1,ex,AO];rfl
   unfold setAdd
   refine wpAny_holding (ah (knd.pyHash (k:=p.1) (ve p hp) ?_))
   refine Cy (s:={ s' with toks:=s'.toks+1 }) S (ve p hp) (by lia) lI fun b h' dr sb S' c=>?_
   refine q b h' _ sb ⟨dr,S',fun k=>?_,fun p' g9=>?_,?_⟩
   ·rw[TF,dy,kU,<- m1]
    rcases c with⟨c1,rfl⟩|⟨c1,c2⟩
    ·exact⟨.inl,fun z=>z.elim id fun e=>e ▸ c1⟩
    ·rw[(c2.map _).mem_iff,fi,cy]
     exact⟨fun z=>z.symm,fun z=>z.symm⟩
   ·rcases c with⟨c1,rfl⟩|⟨c1,c2⟩
    ·exact m2 p' g9
    ·rcases cy.mp (c2.mem_iff.mp g9) with rfl|z
     ·exact hp
     ·exact m2 p' z
   ·rcases c with⟨c1,rfl⟩|⟨c1,c2⟩
    ·exact Nat.le_succ_of_le ‹_›
    ·rw[c2.length_eq];simp;lia
 ·have e:items.size=xs.length:=by
   have:=congrArg List.length hi
   simpa using this
  rw[e,AJ] at m1
  exact h h' tk ks S m1 m2 fun b o ho=>k b o (dS ho) ho
end
end TS
namespace L2
open PySem PySem.Spec PyProof.Rows
def g8(K:PySem.W.Frag):V->Hp->VK->Prop:=fun x H Q=>match x with
 |.ref p=>∃ (ks:List Key) (b:Bool),eK K H p (ks.map kV)/\ks.length<=1000/\(∀ k∈ks,mB k=b) /\
   ∀ (ms:List Key) (l:Addr),ms.Nodup->(∀ k,k∈ms↔k∈ks)->(ms.Pairwise fun a b=>lS b a=false)->H l=none->Q (.ref l) (upd H l (.lst (ms.map kV)))
 |_=>False
theorem uU(h:Vals (ks.map kV) vs):∃ xs:List (Key × Value),vs=xs.map (·.2)/\xs.map (·.1)=ks/\∀ p∈xs,RelV (kV p.1) p.2:=by
 induction ks generalizing vs with
 |nil=>exact⟨[],Paired.n0 h,rfl,fun p hp=>nomatch hp⟩
 |cons k ks ih =>
  obtain⟨v,vs,rfl,r,rs⟩:=Paired.c h
  obtain⟨xs,e1,e2,e3⟩:=ih rs
  refine⟨(k,v) :: xs,by rw[e1];rfl,by rw[<- e2];rfl,fun p hp=>?_⟩
  rcases cy.mp hp with rfl|hp
  ·exact r
  ·exact e3 p hp
section
variable {X:Cx}{e:Expr}{te:TE}{p p2 pos tj:Pos}
theorem sI (hc:X.calm=true) (hg:Gl X "sorted") (hm:X.mg "sorted" = none) (Fn:Gl X "set") (ub:X.mg "set" = none) (he:PE X e te)
  (hv:bootBuiltins "sorted" = some (.builtin "sorted")) (TH:bootBuiltins "set" = some (.type "set"))
  (sq:starEach [e] X.env=(false,eval e X.env) :: starEach [] X.env:=by rfl)
  (hs:starEach [.Call (.Name "set" p2) [e] [] tj] X.env=(false,eval (.Call (.Name "set" p2) [e] [] tj) X.env) :: starEach [] X.env:=by rfl) :
  PE X (.Call (.Name "sorted" p) [.Call (.Name "set" p2) [e] [] tj] [] pos) (Rz (g8 X.K) te):=by
 intro pins s σ H Q I h
 refine wpAny_Call_Name_kw (CB I hg hm hv ?_ (by decide) (by decide))
 refine PyProof.Rows.callWith_builtin1 ?_ hs rfl
 rw[hs]
 refine Calls.spliced_cons ?_
 refine wpAny_Call_Name_kw (CB I Fn ub TH ?_ (by decide) (by decide))
 refine PyProof.Rows.callWith_type1 ?_ sq rfl
 rw[sq]
 refine Calls.spliced_cons (cq (he pins s σ H _ I h) fun u s1 cv=>L2.fP cv fun x H1 I1 r1 q1=>Calls.spliced_nil ?_)
 have q1:g8 X.K x H1 Q:=q1
 obtain⟨a,rfl⟩:∃ a,x=.ref a:=by
  unfold g8 at q1
  split at q1
  ·exact⟨_,rfl⟩
  ·exact q1.elim
 obtain⟨ks,b,hl,N7,hb,q⟩:=q1
 cases r1
 obtain⟨vs,rv,pl,hz⟩:=I1.list hl
 obtain⟨xs,ex,ek,hx⟩:=uU rv
 have N8:X.A.handled=none:=I1.ok.hd hc
 have hlen:xs.length=ks.length:=by rw[<- ek,b4]
 have ve:∀ p∈xs,(iE X.prog X.w).is p.1 p.2=true:=fun p hp=>by
  obtain⟨k,v⟩:=p
  have r:=hx _ hp
  rw[X9]
  cases k with
  |inl i=>obtain⟨t,e⟩:=r;rw[show v=_ from e];exact UI ..
  |inr x=>obtain⟨t,e⟩:=r;rw[show v=_ from e];exact UJ ..
 refine TS.nO (knd:=iE X.prog X.w) N8 pl.isList (by simpa using ex) ve (by lia) tD fun h2 tk dr S m1 m2 kp=>?_
 refine Calls.spliced_nil ?_
 obtain⟨⟨o,es,ep,t,ho,hex,hd,T,hM,hL,BE⟩,nd,is⟩:=S
 have TJ:es.toList.map (·.2)=dr.map (·.2):=by rw[BE,fA];rfl
 have dE':dr.length<=1000:=by
  have:=TS.dN nd (m:=ks) fun k hk=>by rw[<- ek];exact(m1 k).mp hk
  rw[b4] at this
  walk_at "s1"
 have TK:es.size=dr.length:=by
  have:=congrArg List.length BE
  simpa using this
 have TL:∀ p∈dr,p.1∈ks:=fun p hp=>by rw[<- ek];exact cc.mpr ⟨p,m2 p hp,rfl⟩
 have mem:∀ eM:List Value,eM.Perm (dr.map (·.2))->∀ v∈eM,∃ k,RelV (kV k) v/\k∈ks:=fun eM pv v hv=>by
  obtain⟨p,hp,rfl⟩:=cc.mp (pv.mem_iff.mp hv)
  exact⟨p.1,hx p (m2 p hp),TL p hp⟩
 have N9:s1.heap.objs.size<=h2.objs.size:=kA (dS ho)
 refine sj.jF (s:={ s1 with heap:=h2,toks:=tk }) (κ:=oneType') (R:=fun eM=>eM.Perm (dr.map (·.2))) (r:=fun v=>ui (ks.map fun k=>[k]) (gr v)) (P:=fun v=>∃ k,RelV (kV k) v/\mB k=b/\k∈ks)
  (fun A' E' Q' hA hQ=>TS.jD (s:={ s1 with heap:=h2,toks:=tk }) (hA.trans N8) ho hex hd T.fits T.up T.sz hL (by rw[TK,sizeLine_eq];walk_at "s4") fun h' BF d eM vj Qq pv=>hQ eM h' BF d (by rw[<- TJ];exact pv) vj Qq)
  (fun eM pv=>by rw[pv.length_eq,b4,sizeLine_eq];walk_at "s4") (fun eM pv v hv=>?_) (fun eM pv Xn A' E' s' vj Q' q'=>?_) (fun s' vj=>tX) fun eM h' a' out n BF d pv pm pw vj ha eo=>?_
 ·obtain⟨k,rk,mk⟩:=mem eM pv v hv
  exact⟨k,rk,hb k mk,mk⟩
 ·obtain⟨ms,rm⟩:=kj (ks:=ks) eM (mem eM pv)
  refine qp (b:=b) rm (fun k hk=>?_) Xn q'
  have:(eM.map gr)=ms.map fun k=>[k]:=keys_map rm
  have wo:[k]∈eM.map gr:=by rw[this];exact cc.mpr ⟨k,hk,rfl⟩
  obtain⟨v,hv,e⟩:=cc.mp wo
  obtain⟨k',rk,mk⟩:=mem eM pv v hv
  rw[kI rk] at e
  cases e
  exact hb _ mk
 ·have DU:=pm.trans pv
  obtain⟨ms,rm⟩:=kj (ks:=ks) out (mem _ DU)
  have TN:(dr.map (·.2)).map gr=(dr.map (·.1)).map fun k=>[k]:=by
   rw[fA,fA]
   exact D3 fun p hp=>kI (hx p (m2 p hp))
  have pk:ms.Perm (dr.map (·.1)):=pR (by rw[<- keys_map rm,<- TN];exact DU.map _)
  have Xp:ms.length=dr.length:=by simpa using pk.length_eq
  have Xq:∀ k∈ms,k∈ks:=fun k hk=>by rw[<- ek];exact(m1 k).mp (pk.mem_iff.mp hk)
  refine⟨.ref a',_,(I1.laid (a:=a') (t':=BF) (fun b o e=>vj b o (kp b o e)) (gx N9 ha) (show fE X.prog X.w _ h' _ (.lst (ms.map kV)) from⟨by rw[b4,sizeLine_eq];lia,out,n,rm,eo⟩)).drawn,rfl,
   q ms _ (pk.nodup_iff.mpr nd) (fun k=>by rw[pk.mem_iff,m1,ek]) ?_ (I1.bq.fresh (gx N9 ha))⟩
  have Nx:(out.map gr).Pairwise fun x y=>ui (ks.map fun k=>[k]) x<=ui (ks.map fun k=>[k]) y:=ki.mpr pw
  rw[keys_map rm,ki] at Nx
  refine Nx.imp_of_mem fun {x y} mx my hle=>?_
  have mx:=Xq x mx
  have my:=Xq y my
  rw[<- rF,<- l_ (L:=ks.map fun k=>[k]) (by simp[gu,hb x mx,hb y my]) (cc.mpr ⟨y,my,rfl⟩)]
  exact decide_eq_false (by lia)
end
end L2
namespace L2.Q
open PySem PySem.Spec PyProof.Rows
section
variable {X:Cx}{K:PySem.W.Frag}{e:Expr}{te:WE}{p p2 pos tj:Pos}
theorem Bd:bootBuiltins "set" = some (.type "set"):=by decide +kernel
def d_:W1:=fun _ x Q=>match x with
 |.list xs=>∃ (ks:List (List Key)) (sh:List Bool),xs=ks.map oj/\ks.length<=1000/\(∀ k∈ks,gu k=false :: sh)/\∀ ms:List (List Key),ms.Nodup->(∀ k,k∈ms↔k∈ks)->(ms.Pairwise fun a b=>ft b a=false)->Q (.ow true) (.list (ms.map oj))
 |_=>False
def fM:W1:=fun _ x Q=>match x with
 |.list xs=>∃ (ks:List Key) (b:Bool),xs=ks.map lT/\ks.length<=1000/\(∀ k∈ks,mB k=b)/\∀ ms:List Key,ms.Nodup->(∀ k,k∈ms↔k∈ks)->(ms.Pairwise fun a b=>lS b a=false)->Q (.ow true) (.list (ms.map lT))
 |_=>False
theorem su:P_ K (ir K) d_:=by
 intro Hs H m x v As Qd Qv w rx h f
 have r1:=rx.rep w
 cases r1 with
 |list z s q =>
  obtain⟨ks,sh,rfl,hz,hs,h⟩:=h
  obtain⟨ta,ok⟩:=DW q
  have hl:=q.length
  rw[b4] at hl
  refine⟨_,ks,false,sh,s,by lia,ta,hs,fun zs ms l tz nd mm pw hl'=>?_⟩
  have rr:=nG (K:=K) tz fun k hk=>ok k ((mm k).mp hk)
  have:ms.length<=ks.length:=TS.dN nd fun k hk=>(mm k).mp hk
  exact f.lst w (by rw[b4,sizeLine_eq];lia) rr (g_ ms) (h ms nd mm pw) l hl'
 |_=>exact h.elim
theorem sS:P_ K (g8 K) fM:=by
 intro Hs H m x v As Qd Qv w rx h f
 have r1:=rx.rep w
 cases r1 with
 |list z s q =>
  obtain⟨ks,b,rfl,hz,hb,h⟩:=h
  obtain⟨e,ok⟩:=rT q
  subst e
  refine⟨ks,b,s,hz,hb,fun ms l nd mm pw hl=>?_⟩
  have:ms.length<=ks.length:=TS.dN nd fun k hk=>(mm k).mp hk
  exact f.lst w (by rw[b4,sizeLine_eq];lia) (iw fun k hk=>ok k ((mm k).mp hk)) (fU ms) (h ms nd mm pw) l hl
 |_=>exact h.elim
theorem mL (hu:X.A.units+64<cLine) (hg:Gl X "sorted") (hm:X.mg "sorted" = none) (Fn:Gl X "set") (ub:X.mg "set" = none) (he:QE X K e te) (hc:X.calm=true:=by rfl) (hK:X.K=K:=by rfl)
  (sq:starEach [e] X.env=(false,eval e X.env) :: starEach [] X.env:=by rfl)
  (hs:starEach [.Call (.Name "set" p2) [e] [] tj] X.env=(false,eval (.Call (.Name "set" p2) [e] [] tj) X.env) :: starEach [] X.env:=by rfl) :
  QE X K (.Call (.Name "sorted" p) [.Call (.Name "set" p2) [e] [] tj] [] pos) (h9 d_ te):=by
 subst hK
 refine PE.imp (rG hc hu hg hm Fn ub he dU Bd sq hs) fun σ H Qv cK=>?_
 obtain⟨Hs,ρ,ag,Q,sr,h,fin⟩:=cK
 exact⟨Hs,ρ,ag,_,sr,h,fun v H1 ax m x As g1 r1 f1 q1=>su ax H1 m x v As Q Qv g1.wf r1 q1 (Fin.after fin g1)⟩
theorem mj (hg:Gl X "sorted") (hm:X.mg "sorted" = none) (Fn:Gl X "set") (ub:X.mg "set" = none) (he:QE X K e te) (hc:X.calm=true:=by rfl) (hK:X.K=K:=by rfl)
  (sq:starEach [e] X.env=(false,eval e X.env) :: starEach [] X.env:=by rfl)
  (hs:starEach [.Call (.Name "set" p2) [e] [] tj] X.env=(false,eval (.Call (.Name "set" p2) [e] [] tj) X.env) :: starEach [] X.env:=by rfl) :
  QE X K (.Call (.Name "sorted" p) [.Call (.Name "set" p2) [e] [] tj] [] pos) (h9 fM te):=by
 subst hK
 refine PE.imp (sI hc hg hm Fn ub he dU Bd sq hs) fun σ H Qv cK=>?_
 obtain⟨Hs,ρ,ag,Q,sr,h,fin⟩:=cK
 exact⟨Hs,ρ,ag,_,sr,h,fun v H1 ax m x As g1 r1 f1 q1=>sS ax H1 m x v As Q Qv g1.wf r1 q1 (Fin.after fin g1)⟩
end
end L2.Q
namespace L2.Q.R
open PySem PySem.Spec PyProof.Rows L2.Q
section
variable {Q:Md->L2.Q.D->Prop}{m:Md}{xs:List L2.Q.D}
theorem Fo:d_ m (.list xs) Q = ∃ (ks:List (List Key)) (sh:List Bool),xs=ks.map oj/\ks.length<=1000/\(∀ k∈ks,gu k=false :: sh)/\∀ ms:List (List Key),ms.Nodup->(∀ k,k∈ms↔k∈ks)->(ms.Pairwise fun a b=>ft b a=false)->Q (.ow true) (.list (ms.map oj)):=rfl
theorem Fp:fM m (.list xs) Q = ∃ (ks:List Key) (b:Bool),xs=ks.map lT/\ks.length<=1000/\(∀ k∈ks,mB k=b)/\∀ ms:List Key,ms.Nodup->(∀ k,k∈ms↔k∈ks)->(ms.Pairwise fun a b=>lS b a=false)->Q (.ow true) (.list (ms.map lT)):=rfl
end
end L2.Q.R
namespace L2
open PySem PySem.Spec PyProof.Rows
end L2
namespace L2.Q
open PySem PySem.Spec PyProof.Rows
end L2.Q
namespace L2.Q.R
open PySem PySem.Spec PyProof.Rows L2.Q
end L2.Q.R
namespace L2.Q
open PySem PySem.Spec PyProof.Rows
def Oa(m:Md)(d:D)(S:D->D->Prop)(O:D->D->Prop):Prop:=match m,d with
 |.sh,.tup [a,b]=>S a b
 |.ow true,.tup [a,b]=>a.flat=false/\b.flat=false/\O a b
 |_,_=>False
def DY(i j:Nat)(te:WE):WS:=fun E ρ=>te ρ fun m d=>Oa m d (fun a b=>E.nx ((ρ.set i (some (.sh a))).set j (some (.sh b)))) fun a b=>E.nx ((ρ.set i (some (.ow true a))).set j (some (.ow true b)))
theorem CW{X:Cx}{K:PySem.W.Frag}(hc:X.calm=true)(hN:X.N.Nodup)(hi:X.N[i]? = some x)(hx:Loc X.env.scope x)(hj:X.N[j]? = some y)(hy:Loc X.env.scope y)(he:QE X K e te)(hK:X.K=K:=by rfl)
  (hf:X.fn x=true\/X.env.scope.names.lookup x=some .local:=by first|exact .inl rfl|exact .inr rfl|assumption) (hf2:X.fn y=true\/X.env.scope.names.lookup y=some .local:=by first|exact .inl rfl|exact .inr rfl|assumption)
  (hn:(assignEach [.Name x p1,.Name y p2] X.env).length=2:=by rfl) (kH:(assignEach [.Name x p1,.Name y p2] X.env).findIdx? (·.1)=none:=by rfl)
  (hs:swapsWithSole [.Tuple [.Name x p1,.Name y p2] k p3] e pos.line X.env=pure false:=by rfl) (hw:swappedStores [.Tuple [.Name x p1,.Name y p2] k p3] e X.env=pure none:=by rfl)
  (h1:(assignEach [.Tuple [.Name x p1,.Name y p2] k p3] X.env).map (·.2)=[assign (.Tuple [.Name x p1,.Name y p2] k p3) X.env]:=by rfl) (h2:(assignEach [.Name x p1,.Name y p2] X.env).map (·.2)=assign (.Name x p1) X.env :: (assignEach [.Name y p2] X.env).map (·.2):=by rfl)
  (h3:(assignEach [.Name y p2] X.env).map (·.2)=assign (.Name y p2) X.env :: (assignEach [] X.env).map (·.2):=by rfl) :
  QS X K L (.Assign [.Tuple [.Name x p1,.Name y p2] k p3] e pos) (DY i j te):=by
 subst hK
 refine PS.imp (YX he (Vc hc (Ru (Rt hN hi hx hf) (Ru (Rt hN hj hy hf2) Vb h3) h2) hn kH) hs hw h1) fun D σ H hx=>dO hx fun Hs ρ ag E sr h k1 k2 k3 k4=>?_
 refine⟨Hs,ρ,ag,_,sr,h,fun v H1 ax m d As g1 r1 f1 q1=>?_⟩
 have Qt:=sr.grow g1
 unfold Oa at q1
 split at q1
 ·rename_i a b
  obtain⟨_,r⟩:=r1
  cases r with
  |tup z e rs =>
   cases rs with
   |cons ra rs=>cases rs with
    |cons rb rs=>cases rs with
     |nil =>
      obtain⟨t1,m1,s1⟩:=Qt.Aq i ra
      obtain⟨t2,m2,s2⟩:=s1.Aq j rb
      exact⟨_,_,rfl,.inl (.inl (g1.wf.sub _ _ e)),rfl,_,_,rfl,_,_,rfl,rfl,k1 _ H1 ax _ t2 g1.sh s2 q1⟩
 ·rename_i a b
  obtain⟨fa,fb,q1⟩:=q1
  obtain⟨r,ne⟩:=r1
  cases r with
  |sh _ _=>exact absurd rfl ne
  |tup z e n rs =>
   cases rs with
   |@cons _ v1 _ _ A1 _ ra rs=>cases rs with
    |@cons _ v2 _ _ A2 _ rb rs=>cases rs with
     |nil =>
      obtain⟨nd,fr⟩:=f1
      rw[n4] at nd fr
      obtain⟨n1,n2,n3⟩:=iS.mp nd
      have dj:∀ c∈A1++A2,c∉ag:=fun c hc z=>(sr.sr.own c z).ne (fr c hc).2
      obtain⟨t1,a1,b1,c1⟩:=SR.wy (ra.ne fa) ra n1 i Qt.sr Qt.sQ fun c hc=>dj c (kS _ hc)
      obtain⟨t2,a2,b2,c2⟩:=SR.wy (rb.ne fb) rb n2 j c1 a1 fun c hc z=>by
       rcases b1 c z with w|w
       ·exact dj c (fz _ hc) w
       ·exact n3 c w c hc rfl
      refine⟨_,_,rfl,.inl (.inl (g1.wf.sub _ _ e)),rfl,_,_,rfl,_,_,rfl,rfl,k1 _ H1 ax _ t2 g1.sh ⟨c2,g1.wf,a2,fun c hc=>?_⟩ q1⟩
      rcases b2 c hc with w|w
      ·rcases b1 c w with w|w
       ·exact Qt.own c w
       ·exact(fr c (kS _ w)).1
      ·exact(fr c (fz _ w)).1
 ·exact q1.elim
end L2.Q
namespace L2.Q.R
open PySem PySem.Spec PyProof.Rows L2.Q
section
variable {E:nT}{ρ:Env}{te:WE}{i j:Nat}{x y:L2.Q.D}{S O:L2.Q.D->L2.Q.D->Prop}
theorem K7:DY i j te E ρ=te ρ fun m d=>bS (m,d) (f:=fun p=>Oa p.1 p.2 (fun a b=>E.nx ((ρ.set i (some (.sh a))).set j (some (.sh b)))) fun a b=>E.nx ((ρ.set i (some (.ow true a))).set j (some (.ow true b)))) ⟨⟩:=rfl
theorem JG:Oa .sh (.tup [x,y]) S O=S x y:=rfl
theorem Ii:Oa (.ow true) (.tup [x,y]) S O=(x.flat=false/\y.flat=false/\O x y):=rfl
end
end L2.Q.R
namespace L2
open PySem PySem.Spec PyProof.Rows Builtin Builtin.Str Builtin.Int
end L2
namespace L2.Q
open PySem PySem.Spec PyProof.Rows
section
variable {X:Cx}{K:PySem.W.Frag}{a:Expr}{ta:WE}
def TQ(t:WE):WE:=fun ρ Q=>t ρ fun m d=>qN m/\Q .sh d
theorem dI'(h:QE X K a ta):QE X K a (TQ ta):=by
 refine PE.imp h fun σ H Qv hx=>iN hx fun Hs ρ ag Q sr h fin=>?_
 refine⟨Hs,ρ,ag,_,sr,h,fun v H1 ax m d As g1 r1 f1 q1=>?_⟩
 obtain⟨nb,q⟩:=q1
 cases m with
 |sh=>exact fin v H1 ax .sh d As g1 r1 f1 q
 |bo=>exact nb.elim
 |ow fl =>
  obtain⟨r,ne⟩:=r1
  have hn:∀ a∈As,ax a=none:=fun a h=>(f1.2 a h).1
  have s:=gQ (H:=H1) hn
  refine fin v H1 (sT ax H1 As) .sh d [] ⟨g1.all,g1.sh.trans s,xX g1.wf r.own,fun c hc=>?_⟩ ⟨rfl,r.rep s fun c hc=>by unfold sT;rw[if_pos hc]⟩ ⟨n5,fun _ h=>zk h⟩ q
  unfold sT at hc
  split at hc
  ·rename_i m
   exact .inr (f1.2 c m).2
  ·exact g1.new c hc
def BG(ys:List D)(x:D):Bool:=ys.any fun z=>fI z x
def Ob(neg:Bool):W2:=fun _ x _ y Q=>∃ ys,(y=.list ys\/y=.tup ys)/\cf 12 x=true/\cf 12 y=true/\Q .sh (.bl (if neg then !BG ys x else BG ys x))
def TR(K:PySem.W.Frag)(neg:Bool):R2:=fun x y H Q=>∃ d e xs,L2.Rep K H d x/\L2.Rep K H e y/\(e=.list xs\/e=.tuple xs)/\d.canLay0=true/\PyData.canLayAll0 xs=true/\d.depth<=60/\Q (.bl (if neg then !(xs.any fun z=>PyData.eqv z d) else xs.any fun z=>PyData.eqv z d)) H
theorem yG(hu:X.A.units+64<cLine):dn X (compareOp .NotIn) (TR X.K true):=by
 intro pins s σ H x y v u Q I rx ry h
 obtain⟨d,e,xs,h1,h2,h3,h4,h5,h6,q⟩:=h
 obtain⟨as,r1⟩:=h1.reads I rx
 obtain⟨bs,r2⟩:=h2.reads I ry
 rcases h3 with rfl|rfl
 ·exact PySem.SeqAt.notIn_list_reads r2 r1 h5 h4 (by lia) ⟨.bl _,H,I,rfl,q⟩
 ·exact PySem.SeqAt.notIn_tuple_reads r2 r1 h5 h4 (by lia) ⟨.bl _,H,I,rfl,q⟩
theorem wI(hu:X.A.units+64<cLine)(hK:X.K=K:=by rfl):dn X (compareOp .NotIn) (TR K true):=by subst hK;exact yG hu
theorem EY(ys:List D)(x:D):((kN ys).any fun z=>PyData.eqv z x.py)=BG ys x:=by
 induction ys with
 |nil=>rfl
 |cons y ys ih =>
  rw[kN,AR,ih]
  rfl
theorem A_:kQ K (TR K neg) (Ob neg):=by
 intro Hs H m x v As n y u Bs Qd Qv w rx ry h f
 obtain⟨ys,hy,o1,o2,q⟩:=h
 have l1:=gA 12 x o1
 have l2:=gA 12 y o2
 refine⟨x.py,y.py,kN ys,(rx.rep w).l2 o1,(ry.rep w).l2 o2,?_,l1.1,?_,by lia,?_⟩
 ·rcases hy with rfl|rfl
  ·exact .inl rfl
  ·exact .inr rfl
 ·rcases hy with rfl|rfl
  ·exact l2.1
  ·exact l2.1
 ·rw[EY]
  exact f.sh w (.bl _) q
def Fs(o:Option (Option Sl))(k:List D->Prop):Prop:=match o with
 |some (some (.ow true (.list xs)))=>k xs
 |_=>False
def intD(y:D)(k:Int->Prop):Prop:=match y with
 |.int i=>k i
 |_=>False
def Oc(d:D):Md:=bif d.flat then .sh else .ow true
end
end L2.Q
namespace L2.Q.R
open PySem PySem.Spec PyProof.Rows L2.Q
section
variable {ρ:Env}{te:WE}{m m':Md}{x:L2.Q.D}{ys:List L2.Q.D}{Q:Md->L2.Q.D->Prop}
theorem JR:Fs (some (some (.ow true (.list ys)))) k=k ys:=rfl
theorem KJ:intD (.int i) k=k i:=rfl
theorem dJ':TQ te ρ Q=te ρ fun m d=>qN m/\Q .sh d:=rfl
theorem J_:Ob neg m x m' (.list ys) Q=(cf 12 x=true/\cf 12 (.list ys)=true/\Q .sh (.bl (if neg then !BG ys x else BG ys x))):=by
 apply propext
 exact⟨fun⟨zs,h,a,b,c⟩=>by rcases h with h|h<;>cases h;exact⟨a,b,c⟩,fun⟨a,b,c⟩=>⟨ys,.inl rfl,a,b,c⟩⟩
theorem JP:Ob neg m x m' (.tup ys) Q=(cf 12 x=true/\cf 12 (.tup ys)=true/\Q .sh (.bl (if neg then !BG ys x else BG ys x))):=by
 apply propext
 exact⟨fun⟨zs,h,a,b,c⟩=>by rcases h with h|h<;>cases h;exact⟨a,b,c⟩,fun⟨a,b,c⟩=>⟨ys,.inr rfl,a,b,c⟩⟩
end
end L2.Q.R
namespace L2
open PySem PySem.Spec PyProof.Rows
end L2
namespace L2.Q
open PySem PySem.Spec PyProof.Rows
section
variable {X:Cx}{K:PySem.W.Frag}{a b:Expr}{ta tb tc:WE}{apos dk:Pos}
def Qu(x:D)(f:List (Key × D)->Prop)(g:List (List Key × D)->Prop):Prop:=match x with
 |.dK kvs=>f kvs
 |.dT kvs=>g kvs
 |_=>False
def TV(y:D)(k:List D->Prop):Prop:=match y with
 |.tup ys=>k ys
 |_=>False
def DV(o:Option D)(m n:Md)(z:D)(Q:Md->D->Prop):Prop:=match o with
 |some d=>Q (kP m d) d
 |none=>Q n z
def Qw(ta tb tc:WE):WE:=fun ρ Q=>ta ρ fun m x=>Qu x (fun kvs=>tb ρ fun _ y=>tc ρ fun n z=>∃ k,y.key1=some k/\DV (fv kvs k) m n z Q)
 (fun kvs=>tb ρ fun _ y=>tc ρ fun n z=>TV y fun ys=>∃ ks,eX ys=some ks/\DV (fv kvs ks) m n z Q)
theorem yZ(hx:mE K (Qw ta tb tc) σ H Qv):aV' (mE K ta) (mE K tb) (mE K tc) σ H Qv:=iN hx fun Hs ρ ag Q sr h fin=>by
 refine⟨Hs,ρ,ag,_,sr,h,fun v H1 ax m x As g1 r1 f1 q1=>?_⟩
 have got:∀ {o:Option V} {d? : Option D} {H2 H3 aw dv:Hp} {w:V} {n:Md} {z:D} {Cs:List Addr},eJ ax H1 aw H2->eJ aw H2 dv H3->RM K dv H3 n z w Cs->cN dv H2 Cs->(match d? with
   |some d=>∃ v,o=some v/\Rep K H3 d v/\(m=.sh->Rep K dv d v)
   |none=>o=none)->DV d? m n z Q->Qv (o.getD w) H3:=by
  intro o d? H2 H3 aw dv w n z Cs g2 g3 r3 f3 l q
  cases d? with
  |none=>rw[show o=none from l];exact fin w H3 dv n z Cs ((g1.trans g2).trans g3) r3 (f3.of (g1.trans g2).all) q
  |some d =>
   obtain⟨v',e,u1,u2⟩:=l
   rw[e]
   exact(Fin.after fin ((g1.trans g2).trans g3)).kP g3.wf u1 u2 q
 have core:∀ G:Hp,aT G H1->(∀ H3 dv,eJ ax H1 dv H3->∀ d v,Rep K G d v->Rep K H3 d v/\(m=.sh->Rep K dv d v))->Rep K G x v->∃ a,v=.ref a/\PF H1 a/\mE K tb σ H1 fun y H2=>mE K tc σ H2 fun z H3=>∃ o,mz H3 a y o/\Qv (o.getD z) H3:=by
  intro G sg up r
  cases r with
  |dK kk s q =>
   refine⟨_,rfl,.inl ⟨_,.inl (sg _ _ s)⟩,ax,ρ,ag,_,sr.grow g1,q1,fun u H2 aw n y Bs g2 r2 f2 q2=>⟨aw,ρ,ag,_,(sr.grow g1).grow g2,q2,fun w H3 dv n3 z Cs g3 r3 f3 q3=>?_⟩⟩
   have ry:=(r2.grow g3).rep g3.wf
   obtain⟨k,hk,q4⟩:=q3
   have ev:=ry.key hk
   subst ev
   refine⟨_,mz.k ((g2.trans g3).all _ _ (sg _ _ s)),got g2 g3 r3 f3 ?_ q4⟩
   have z:=zip_get (k:=k) q
   split
   ·rename_i d e
    rw[e] at z
    obtain⟨v',e',r'⟩:=z
    exact⟨v',e',up _ _ (g2.trans g3) _ _ r'⟩
   ·rename_i e
    rw[e] at z
    exact z
  |dT kk s q =>
   refine⟨_,rfl,.inr ⟨_,.inl (sg _ _ s)⟩,ax,ρ,ag,_,sr.grow g1,q1,fun u H2 aw n y Bs g2 r2 f2 q2=>⟨aw,ρ,ag,_,(sr.grow g1).grow g2,q2,fun w H3 dv n3 z Cs g3 r3 f3 q3=>?_⟩⟩
   have ry:=(r2.grow g3).rep g3.wf
   cases ry with
   |tup t2 e2 p2 =>
    obtain⟨k,hk,q4⟩:=q3
    obtain⟨b',eb,e3⟩:=Rep.oj (.tup t2 e2 p2) hk
    cases eb
    refine⟨_,mz.t ((g2.trans g3).all _ _ (sg _ _ s)) e3,got g2 g3 r3 f3 ?_ q4⟩
    have z:=zip_get (k:=k) q
    split
    ·rename_i d e
     rw[e] at z
     obtain⟨v',e',r'⟩:=z
     exact⟨v',e',up _ _ (g2.trans g3) _ _ r'⟩
    ·rename_i e
     rw[e] at z
     exact z
   |_=>exact q3.elim
  |_=>exact q1.elim
 rcases r1.here g1.wf with⟨hm,r⟩|⟨hm,r⟩
 ·exact core ax g1.wf.sub (fun H3 dv g d v q=>⟨q.same (g1.wf.sub.trans g.all),fun _=>q.same g.sh⟩) r
 ·exact core H1 (aT.refl H1) (fun H3 dv g d v q=>⟨q.same g.all,fun z=>absurd z hm⟩) r
theorem F_ (hu:X.A.units+64<cLine) (ha:QE X K a ta) (hb:QE X K b tb) (hm:M1 X a "get" apos b dk:=by exact⟨rfl,rfl,rfl,rfl⟩):QE X K (.Call (.Attribute a "get" apos) [b] [] dk) (Qw ta tb (wC .non)) :=
 PE.imp (aW' (by lia) ha hb hm) fun σ H Qv hx=>sY (yZ hx) fun x H1 ⟨a,e,d,q⟩=>⟨a,e,d,sY q fun y H2 q2=>iN q2 fun Hs ρ ag Q sr q f=>f .non H2 Hs .sh .non [] (eJ.refl sr.wf) ⟨rfl,.non⟩ ⟨n5,fun _ h=>zk h⟩ q⟩
def dK'(o:Option (Option Sl))(k:List (List Key × D)->Prop):Prop:=match o with
 |some (some (.ow true (.dT kvs)))=>k kvs
 |_=>False
end
end L2.Q
namespace L2
open PySem PySem.Spec PyProof.Rows
end L2
namespace L2.Q
open PySem PySem.Spec PyProof.Rows
section
variable {K:PySem.W.Frag}{a b c:Expr}
def dL'(d:D)(k:List (Key × D)->Prop):Prop:=match d with
 |.dK kvs=>k kvs
 |_=>False
theorem SR.take(i:Nat)(s:SR K Hs H ρ σ ag):ρ[i]? = some (some (.ow fl d))->ag.Nodup ->
  ∃ (v:V) (As b6:List Addr),σ[i]? = some (some v)/\bP K Hs H fl d v As/\As.Sublist ag/\b6.Sublist ag/\(∀ a∈As,a∉b6)/\SR K Hs H (ρ.set i none) σ b6:=by
 induction s generalizing i with
 |nil=>intro e;simp at e
 |non q ih =>
  intro e n
  cases i with
  |zero=>simp at e
  |succ i =>
   obtain⟨v,As,t,o,a,b,c,d,f⟩:=ih i e n
   exact⟨v,As,t,o,a,b,c,d,.non f⟩
 |sh r q ih =>
  intro e n
  cases i with
  |zero=>simp at e
  |succ i =>
   obtain⟨v,As,t,o,a,b,c,d,f⟩:=ih i e n
   exact⟨v,As,t,o,a,b,c,d,.sh r f⟩
 |xc q ih =>
  intro e n
  cases i with
  |zero=>simp at e
  |succ i =>
   obtain⟨v,As,t,o,a,b,c,d,f⟩:=ih i e n
   exact⟨v,As,t,o,a,b,c,d,.xc f⟩
 |ow ne r q ih =>
  intro e n
  obtain⟨n1,n2,n3⟩:=iS.mp n
  cases i with
  |zero =>
   simp at e
   obtain⟨rfl,rfl⟩:=e
   exact⟨_,_,_,rfl,r,KW _ _,oq _ _,fun a h m=>n3 a h a m rfl,.non q⟩
  |succ i =>
   obtain⟨v,As,t,o,a,b,c,d,f⟩:=ih i e n2
   exact⟨v,As,_,o,a,b.trans (oq _ _),c.append_left _,oE n b d,.ow ne r f⟩
 |lk ne r q ih =>
  intro e n
  obtain⟨n1,n2,n3⟩:=iS.mp n
  cases i with
  |zero=>simp at e
  |succ i =>
   obtain⟨v,As,t,o,a,b,c,d,f⟩:=ih i e n2
   exact⟨v,As,_,o,a,b.trans (oq _ _),c.append_left _,oE n b d,.lk ne r f⟩
theorem BP(h:Fs o k):∃ xs,o=some (some (.ow true (.list xs)))/\k xs:=by
 unfold Fs at h
 split at h
 ·exact⟨_,rfl,h⟩
 ·exact h.elim
theorem Cm(hX:i≠j)(sr:dE K Hs ρ σ H ag)(ei:ρ[i]? = some (some (.ow true (.list hs))))(ej:ρ[j]? = some (some (.ow true (.list xs))))
  (fl:cx xs=true) (N7:hs.length<sizeLine) :
  ∃ a ws c vs dz,σ[i]? = some (some (.ref a))/\H a=some (.lst ws)/\ws.length<sizeLine/\σ[j]? = some (some (.ref c))/\upd H a (.lst (ws++[.ref c])) c=some (.lst vs)/\aI K Hs xs vs/\vs.length<=sizeLine /\
   dE K Hs ((ρ.set j none).set i (some (.ow true (.list (hs++[.list xs]))))) σ (upd H a (.lst (ws++[.ref c]))) dz:=by
 obtain⟨v,As,b6,e1,r,sb,st,dj,s1⟩:=SR.take j sr.sr ej sr.sQ
 have ei':(ρ.set j none)[i]? = some (some (.ow true (.list hs))):=by rw[Lv (Ne.symm hX)];exact ei
 obtain⟨u,Ai,_,e2,ne,ri,si,g⟩:=SR.put i s1 ei' (st.nodup sr.sQ)
 cases r with
 |sh hf _=>exact absurd (hf rfl) (by simp[D.flat])
 |@list c vs _ B hz ec rs =>
  cases ri with
  |sh _ _=>exact absurd rfl ne
  |@list a ws _ A hw ea ra =>
   have Xr:c≠a:=fun z=>dj c bX (si.subset (z ▸ bX))
   have nd1:=si.nodup (st.nodup sr.sQ)
   obtain⟨na,nA⟩:=iA.mp nd1
   have ndj:=sb.nodup sr.sQ
   have dA:∀ x∈c :: B,x∉a :: A:=fun x hx m=>dj x hx (si.subset m)
   have nB:∀ x∈c :: B,x≠a:=fun x hx z=>dA x hx (z ▸ bX)
   have hl:=ra.length
   have r3:bP K Hs (upd H a (.lst (ws++[.ref c]))) true (.list (hs++[.list xs])) (.ref a) (a :: (A++((c :: B)++[]))):=by
    refine .list (by rw[pd,<- hl];exact N7) gX ((ra.fq (H':=upd H a (.lst (ws++[.ref c]))) (aT.refl _) fun b hb=>fm fun z=>na (by subst z;exact hb)).append (.cons (.list hz ((fm Xr).trans ec) (rs.fq (aT.refl _) fun b hb=>fm (nB b (b5 _ hb)))) .nil))
   obtain⟨dz,n2,i2,s2⟩:=g Hs _ true _ _ (aT.refl _) r3 (by simp) (iA.mpr ⟨fun m=>(dy.mp m).elim na fun m=>nB a (by simpa using m) rfl,iS.mpr ⟨nA,by simpa using ndj,fun x hx y hy e=>dA y (by simpa using hy) (e ▸ b5 _ hx)⟩⟩)
    (fun b hb m=>by
     rcases cy.mp hb with rfl|hb
     ·exact bX
     ·rcases dy.mp hb with hb|hb
      ·exact b5 _ hb
      ·exact absurd m (dj b (by simpa using hb)))
    (fun b _ nb=>fm fun z=>nb (z ▸ bX))
   have Ha:Hs a=none:=sr.own a (st.subset (si.subset bX))
   refine⟨a,ws,c,vs,dz,e2,ea,by lia,e1,(fm Xr).trans ec,(rs.reps sr.wf.sub fun _ _=>rfl).gw sr.wf.ku fl,hz,s2,tH sr.wf Ha (fun _ z=>nomatch z),n2,fun b hb=>?_⟩
   rcases i2 b hb with m|m
   ·exact sr.own b (st.subset m)
   ·rcases cy.mp m with rfl|m
    ·exact Ha
    ·rcases dy.mp m with m|m
     ·exact sr.own b (st.subset (si.subset (b5 _ m)))
     ·exact sr.own b (sb.subset (by simpa using m))
end
end L2.Q
namespace L2.Q.R
open PySem PySem.Spec PyProof.Rows L2.Q
section
variable {ρ:Env}{te tb tc:WE}{m:Md}{x y:L2.Q.D}{ys:List L2.Q.D}{Q:Md->L2.Q.D->Prop}{k:Nat}
theorem Lg{kvs:List (Key × L2.Q.D)}{k:List (Key × L2.Q.D)->Prop}:dL' (.dK kvs) k=k kvs:=rfl
theorem Nh:Qw te tb tc ρ Q=te ρ fun m x=>bS x (f:=fun x=>Qu x (fun kvs=>tb ρ fun _ y=>tc ρ fun n z=>∃ k,y.key1=some k/\DV (fv kvs k) m n z Q)
 (fun kvs=>tb ρ fun _ y=>tc ρ fun n z=>bS y (f:=fun y=>TV y fun ys=>∃ ks,eX ys=some ks/\DV (fv kvs ks) m n z Q) ⟨⟩)) ⟨⟩:=rfl
theorem Mv:Qu (.dK kvs) f g=f kvs:=rfl
theorem Lh:Qu (.dT kvs) f g=g kvs:=rfl
theorem MN{k:List L2.Q.D->Prop}:TV (.tup ys) k=k ys:=rfl
theorem La{kvs:List (List Key × L2.Q.D)}{k:List (List Key × L2.Q.D)->Prop}:dK' (some (some (.ow true (.dT kvs)))) k=k kvs:=rfl
end
end L2.Q.R
namespace L2
open PySem PySem.Spec PyProof.Rows
section
variable {X:Cx}
def tq(xs:List α)(k:Nat)(y:α):List α:=xs.take k++y :: xs.drop k
def dP':V->List V->Hp->VK->Prop:=fun x vs H Q=>∃ l xs i y,x=.ref l/\vs=[.int i,y]/\H l=some (.lst xs)/\0<=i/\i<=xs.length/\xs.length<sizeLine/\Q .non (upd H l (.lst (tq xs i.toNat y)))
theorem Ey(xs:List α)(k:Nat)(y:α)(h:k<=xs.length):(xs.toArray.extract 0 k).push y++xs.toArray.extract k=(tq xs k y).toArray:=by
 apply LW.mp
 simp[tq]
 exact K0 (by rw[AH];lia)
theorem Gs:Pz X "list.insert" dP':=by
 intro pins s σ H x vs v us Q I rx rv h
 obtain⟨l,xs,i,y,rfl,rfl,hH,h0,h1,hz,q⟩:=h
 cases rx
 obtain⟨u,w,rfl,ru,kK⟩:=rv.two
 obtain⟨t,rfl⟩:=ru
 obtain⟨z,its,n,r,hl,e⟩:=I.MR hH
 have hs:sizeLine<2 ^ 62:=by rw[sizeLine_eq];decide
 have IL:¬ (!Builtin.List.listFitsIndex i)=true:=by rw[fitsIndex_both (by lia) (by lia)];decide
 refine call_meets F.slot_list_insert ⟨_,e,rfl⟩ F.entry_list_insert (F.args_list_insert_3 _ _ _) (AutoSeq1.list_insert_list_int_val_1 l its.toArray n i t w IL (by rw[gi];lia)) ⟨e,?_⟩
 have ei:(if i<0 then (i+(its.toArray.size:Int)).toNat else min i.toNat its.toArray.size)=i.toNat:=by
  rw[if_neg (by lia),gi];lia
 have rl:Vals (tq xs i.toNat y) (tq its i.toNat w):=(r.take i.toNat).append (.cons kK (r.drop i.toNat))
 refine⟨.non,_,I.MQ (its':=tq its i.toNat w) hH e ?_ rl ?_,rfl,q⟩
 ·show(its.toArray.extract 0 (if i<0 then (i+(its.toArray.size:Int)).toNat else min i.toNat its.toArray.size)).push w++its.toArray.extract (if i<0 then (i+(its.toArray.size:Int)).toNat else min i.toNat its.toArray.size)=_
  rw[ei]
  exact Ey its i.toNat w (by lia)
 ·unfold tq
  simp
  lia
end
end L2
namespace L2.Q
open PySem PySem.Spec PyProof.Rows
section
variable {X:Cx}{K:PySem.W.Frag}{L:Str->Hp->Prop}{e e2 e3:Expr}{p:WP}{te IQ Xs:WE}{apos dk pos:Pos}
theorem xH:bootBuiltins "int" = some (.type "int"):=by decide +kernel
def Qx:W1:=fun _ x Q=>match x with
 |.int i=>Q .sh (.int i)
 |.bl b=>Q .sh (.int (if b then 1 else 0))
 |_=>False
theorem Gh:zS K (fun xs H Q=>(∃ i,xs=[.int i]/\Q (.int i) H)\/∃ k,xs=[.bl k]/\Q (.int (if k then 1 else 0)) H) Qx:=by
 intro Hs H m x v As Qd Qv w rx h f
 have r1:=rx.rep w
 cases r1 with
 |int i=>exact .inl ⟨i,rfl,f.sh w (.int _) h⟩
 |bl b=>exact .inr ⟨b,rfl,f.sh w (.int _) h⟩
 |_=>exact h.elim
theorem Place.short(pl:Place K ax H1 σ fl (.list xs) v up)(e:v=.ref a)(h:H1 a=some (.lst vs)):vs.length<=sizeLine:=by
 subst e
 rcases pl.ex with⟨fh,r,ne,_⟩
 cases r with
 |sh _ _=>exact absurd rfl ne
 |list hz e3 _=>rw[h] at e3;cases e3;exact hz
theorem az.ins(r:bP K Hs H fl d v [])(k:Nat)(q:az K Hs H fl ds vs As):az K Hs H fl (tq ds k d) (tq vs k v) As:=by
 induction k generalizing ds vs As with
 |zero=>exact az.cons r q
 |succ k ih =>
  cases ds with
  |nil =>
   obtain⟨rfl,rfl⟩:=q.n0
   exact az.cons r .nil
  |cons e ds =>
   obtain⟨u,us,A,B,rfl,rfl,q,qs⟩:=q.c
   exact az.cons q (ih qs)
def TX(p:WP)(tk te:WE):WS:=fun E ρ=>p ρ fun fl d up=>match d with
 |.list xs=>tk ρ fun _ j=>te ρ fun _ x=>match j with
  |.int j=>0<=j/\j<=xs.length/\xs.length<sizeLine/\x.flat=true/\E.nx (up fl (.list (tq xs j.toNat x)))
  |_=>False
 |_=>False
theorem GK(ho:QP X K e p)(he:QE X K e2 IQ)(he3:QE X K e3 Xs)(hK:X.K=K:=by rfl)
  (rS:attributeBase e "insert" X.env (eval e X.env)=eval e X.env:=by rfl)
  (rV:((backTo dk (starEach [e2,e3] X.env)).all (fun x=>!x.1) && (backToKw dk (keywordEach [] X.env)).all (fun x=>x.1.isSome)
   && decide ([e2,e3].length+([]:List Keyword).length+(if ([]:List Keyword).isEmpty then 0 else 1)<30))=true:=by rfl)
  (hline:(apos.endLine == dk.line)=true:=by rfl) (tf:starEach (e2 :: [e3]) X.env=(false,eval e2 X.env) :: starEach [e3] X.env:=by rfl) (PN:starEach (e3 :: []) X.env=(false,eval e3 X.env) :: starEach [] X.env:=by rfl) (xE:(backTo dk (starEach [e3] X.env)).any (·.1)=false:=by rfl)
  (hs:swapsWith (.Call (.Attribute e "insert" apos) [e2,e3] [] dk) none pos.line X.env=pure false:=by rfl) :
  QS X K L (.Expr (.Call (.Attribute e "insert" apos) [e2,e3] [] dk) pos) (TX p IQ Xs):=by
 subst hK
 refine PS.imp (Pg (HC PySem.F.plainAttrs_list PySem.F.slot_list_insert PySem.F.type_list_insert Gs ho (rh he (rh he3 vT PN) tf) rS rV hline tf xE) hs) fun D σ H hx=>dO hx fun Hs ρ ag E sr h k1 k2 k3 k4=>?_
 refine⟨Hs,ρ,ag,_,sr,h,fun v H1 ax fl d up g1 p1 q1=>?_⟩
 cases d with
 |list xs =>
  obtain⟨a1,W6,e1,s1⟩:=p1.To g1.wf
  refine⟨by subst e1;exact .inl ⟨rfl,_,s1⟩,ax,ρ,ag,_,sr.grow g1,q1,fun w H2 aw m jd As g2 r2 f2 q2=>⟨aw,ρ,ag,_,(sr.grow g1).grow g2,q2,fun y H3 dv m3 x IY g3 r3 f3 q3=>?_⟩⟩
  have rj:=(r2.grow g3).rep g3.wf
  cases rj with
  |int j =>
   obtain⟨h0,h1,hz,fx,q3⟩:=q3
   obtain⟨a,vs,A,ea,e2,Qy,rs,nd,hn,k⟩:=p1.put (g2.trans g3)
   obtain⟨nA,E8⟩:=iA.mp nd
   have hl:=rs.length
   refine⟨a,vs,j,y,ea,rfl,e2,h0,by lia,by lia,?_⟩
   obtain⟨dz,fT⟩:=k fl _ _ A id (az.ins (.sh (fun _=>fx) (r3.flat g3.wf fx)) j.toNat rs) (by unfold tq;simp;lia) E8 nA (fun x hx=>.inl hx)
   exact k1 _ _ dv _ dz ((g1.sh.trans g2.sh).trans g3.sh) fT q3
  |_=>exact q3.elim
 |_=>exact q1.elim
end
end L2.Q
namespace L2.Q.R
open PySem PySem.Spec PyProof.Rows L2.Q
section
variable {ρ:Env}{E:nT}{te tk:WE}{m:Md}{Q:Md->L2.Q.D->Prop}{p:WP}{xs:List L2.Q.D}{k:List L2.Q.D->Prop}
def JA(d:L2.Q.D)(k:List L2.Q.D->Prop):Prop:=match d with
 |.list xs=>k xs
 |_=>False
theorem MK:JA (.list xs) k=k xs:=rfl
theorem Mt:TX p tk te E ρ=p ρ fun fl d up=>bS d (f:=fun d=>JA d fun xs=>tk ρ fun _ j=>te ρ fun _ x=>bS j (f:=fun j=>intD j fun j=>0<=j/\j<=xs.length/\xs.length<sizeLine/\x.flat=true/\E.nx (up fl (.list (tq xs j.toNat x)))) ⟨⟩) ⟨⟩:=rfl
theorem Km:DV (some d) m n z Q=Q (kP m d) d:=rfl
theorem K6:DV none m n z Q=Q n z:=rfl
theorem Ke:Qx m (.int i) Q=Q .sh (.int i):=rfl
theorem K3:Qx m (.bl b) Q=Q .sh (.int (if b then 1 else 0)):=rfl
end
end L2.Q.R
namespace PySem.SeqAt
open AutoSeq1 (wpAny_loadPart')
open MeetsSeq MeetsSeq2 MeetsSeq3 SeqRoads2
def mM(A:Around)(s:Shared)(u v:Value)(b:Bool):Prop:=∀ (prog:Program) (w:World) (Q:Value->Shared->Prop) (E:Value->Shared->Prop),Q (.bool b) s->wpAny (model prog w) A (richCompare .Lt u v) Q E s
def tF(e f:Nat->Bool)(m n:Nat):Nat->Nat->Bool
 |0,_=>decide (m<n)
 |k+1,i=>if e i then tF e f m n k (i+1) else f i
theorem xG(l b:Addr)(items cS:Array Value)(n n2:Nat)(dd rq:Option Addr)(sl rz:Array (Option Value))(e f:Nat->Bool)(k:Nat) :
  ∀ i:Nat,min items.size cS.size-i=k->i<=min items.size cS.size->Meets (Builtin.«list.__eq__.loop» ⟨[.ref l,.ref b,rawInt i,rawInt 0],[]⟩)
   (fun A R s=>s.heap.get? l=some { cls:=.type "list",dict:=dd,data:=.seq items n,slots:=sl }/\s.heap.get? b=some { cls:=.type "list",dict:=rq,data:=.seq cS n2,slots:=rz } /\
    (∀ j (h1:j<items.size) (h2:j<cS.size),EqAt A.in1 s items[j] cS[j] (e j))/\(∀ j (h1:j<items.size) (h2:j<cS.size),e j=false->mM A.in1 s items[j] cS[j] (f j)) /\
    R (.ok (.ret (.bool (tF e f items.size cS.size k i)))) s):=by
 induction k with
 |zero =>
  intro i hk hle prog w A R s h
  obtain⟨hp,g,d,tk,os⟩:=s;obtain⟨hl,hb,he,hf,h⟩:=h
  wp_walk using wpAny_loadPart' hl,wpAny_loadPart' hb
  rcases (show items.size<=i\/cS.size<=i by lia) with z|z
  ·have kz:items[((i:Nat):Int).toNat]? = none:=by simp;lia
   rw[kz]
   wp_walk using wpAny_loadPart' hl,wpAny_loadPart' hb
   exact h
  ·have hU:cS[((i:Nat):Int).toNat]? = none:=by simp;lia
   rw[hU]
   cases items[((i:Nat):Int).toNat]?<;>wp_walk using wpAny_loadPart' hl,wpAny_loadPart' hb<;>exact h
 |succ k ih =>
  intro i hk hle prog w A R s h
  obtain⟨hp,g,d,tk,os⟩:=s;obtain⟨hl,hb,he,hf,h⟩:=h
  wp_walk using wpAny_loadPart' hl,wpAny_loadPart' hb
  have dc:i<items.size:=by lia
  have TY:i<cS.size:=by lia
  have kz:items[((i:Nat):Int).toNat]? = some items[i]:=by simp[dc]
  have hU:cS[((i:Nat):Int).toNat]? = some cS[i]:=by simp[TY]
  have hc:((i:Int)+1)=((i+1:Nat):Int):=by push_cast;rfl
  rw[kz,hU]
  refine ah (he i dc TY prog w _ _ ?_)
  cases Fu:e i with
  |true =>
   rw[tF,Fu,if_pos rfl] at h
   wp_walk
   rw[hc]
   exact⟨plainId_quiet plain_eq_loop _,codeAny_builtin entry_eq_loop (by
    rw[Around.under_plainId plain_eq_loop _]
    exact ih (i+1) (by lia) (by lia) prog w A R _ ⟨hl,hb,he,hf,h⟩)⟩
  |false =>
   rw[tF,Fu,if_neg gy] at h
   wp_walk using wpAny_loadPart' hl,wpAny_loadPart' hb
   rw[kz,hU]
   refine ah (hf i dc TY Fu prog w _ _ ?_)
   wp_walk
   exact h
theorem wg(l b:Addr)(items cS:Array Value)(n n2:Nat)(dd rq:Option Addr)(sl rz:Array (Option Value))(e f:Nat->Bool) :
  Meets (Builtin.«list.__lt__» ⟨[.ref l,.ref b],[]⟩)
   (fun A R s=>s.heap.get? l=some { cls:=.type "list",dict:=dd,data:=.seq items n,slots:=sl }/\s.heap.get? b=some { cls:=.type "list",dict:=rq,data:=.seq cS n2,slots:=rz } /\
    (∀ j (h1:j<items.size) (h2:j<cS.size),EqAt A.in1 s items[j] cS[j] (e j))/\(∀ j (h1:j<items.size) (h2:j<cS.size),e j=false->mM A.in1 s items[j] cS[j] (f j)) /\
    R (.ok (.ret (.bool (tF e f items.size cS.size (min items.size cS.size) 0)))) s):=by
 intro prog w A R s h
 obtain⟨hp,g,d,tk,os⟩:=s;obtain⟨hl,hb,he,hf,h⟩:=h
 have f3:=AutoSeq1.sub_list_list
 wp_walk using wpAny_loadPart' hl,wpAny_loadPart' hb
 exact⟨plainId_quiet plain_eq_loop _,codeAny_builtin entry_eq_loop (by
  rw[Around.under_plainId plain_eq_loop _]
  exact xG l b items cS n n2 dd rq sl rz e f _ 0 (Nat.sub_zero _) (eh _) prog w A R _ ⟨hl,hb,he,hf,h⟩)⟩
theorem uY(l b:Addr)(items cS:Array Value)(n n2:Nat)(dd rq:Option Addr)(sl rz:Array (Option Value))(e f:Nat->Bool) :
  Meets (Builtin.«tuple.__lt__» ⟨[.ref l,.ref b],[]⟩)
   (fun A R s=>s.heap.get? l=some { cls:=.type "tuple",dict:=dd,data:=.seq items n,slots:=sl }/\s.heap.get? b=some { cls:=.type "tuple",dict:=rq,data:=.seq cS n2,slots:=rz } /\
    (∀ j (h1:j<items.size) (h2:j<cS.size),EqAt A.in1 s items[j] cS[j] (e j))/\(∀ j (h1:j<items.size) (h2:j<cS.size),e j=false->mM A.in1 s items[j] cS[j] (f j)) /\
    R (.ok (.ret (.bool (tF e f items.size cS.size (min items.size cS.size) 0)))) s) :=
 .of_wp fun prog w A R s h=>by
  obtain⟨hp,g,d,tk,os⟩:=s;obtain⟨hl,hb,he,hf,h⟩:=h
  have f2:=AutoSeq1.sub_tuple_tuple
  have hZ:(items.toList.zip cS.toList).length=min items.size cS.size:=by simp
  wp_walk using wpAny_loadPart' hl,wpAny_loadPart' hb,wpAny_forIn_list _ (fun rest b s'=>b.1=none/\s'=⟨hp,g,d,tk,os⟩/\∃ i,rest=(items.toList.zip cS.toList).drop i/\i<=min items.size cS.size /\
   R (.ok (.ret (.bool (tF e f items.size cS.size (min items.size cS.size-i) i)))) ⟨hp,g,d,tk,os⟩) _
  case turn =>
   rintro⟨y,x⟩ rest b s' ⟨Fu,rfl,i,hz,hi,hR⟩
   have dc:i<(items.toList.zip cS.toList).length:=by
    rcases D9 i (items.toList.zip cS.toList).length with h'|h'
    ·exact h'
    ·rw[QX h'] at hz;cases hz
   have hm:i<min items.size cS.size:=hZ ▸ dc
   have h1:i<items.size:=kX hm (Nat.min_le_left _ _)
   have h2:i<cS.size:=kX hm (Nat.min_le_right _ _)
   rw[vt dc] at hz
   injection hz with Xt dR'
   have hy:y=items[i]:=by have:=congrArg Prod.fst Xt;simpa using this
   have hx:x=cS[i]:=by have:=congrArg Prod.snd Xt;simpa using this
   subst hy hx
   rw[show min items.size cS.size-i=(min items.size cS.size-(i+1))+1 by lia,tF] at hR
   refine ah (he i h1 h2 prog w _ _ ?_)
   cases hy:e i with
   |true =>
    rw[hy,if_pos rfl] at hR
    wp_walk
    exact⟨rfl,rfl,i+1,dR',hm,hR⟩
   |false =>
    rw[hy,if_neg gy] at hR
    simp only[Bool.not_false,if_true]
    refine ah (wpAny_rule ?_)
    refine ah (hf i h1 h2 hy prog w _ _ ?_)
    wp_walk
    exact⟨_,rfl,hR⟩
  case fin =>
   rintro⟨b1,b2⟩ s' ⟨Fu,rfl,i,hz,hi,hR⟩
   simp only at Fu
   subst Fu
   have oy:min items.size cS.size<=i:=by
    rcases D9 i (items.toList.zip cS.toList).length with h'|h'
    ·rw[vt h'] at hz;cases hz
    ·exact hZ ▸ h'
   rw[show min items.size cS.size-i=0 by lia,tF] at hR
   wp_walk
   exact⟨_,rfl,by simpa[Builtin.Tuple.tupleCompareSizes] using hR⟩
  case h =>
   exact⟨rfl,rfl,0,rfl,eh _,h⟩
section
variable {A:Around}{s:Shared}
theorem mM.tuples(hl:s.heap.IsTuple l items)(hb:s.heap.IsTuple b cS)(hu:A.units<cLine)
  (he:∀ j (h1:j<items.size) (h2:j<cS.size),EqAt A.in1 s items[j] cS[j] (e j)) (hf:∀ j (h1:j<items.size) (h2:j<cS.size),e j=false->mM A.in1 s items[j] cS[j] (f j)) :
  mM A s (.ref l) (.ref b) (tF e f items.size cS.size (min items.size cS.size) 0):=fun prog w Q E h=>by
 obtain⟨⟨cls,dd,data,sl⟩,ho,hc,n,hd⟩:=id hl
 obtain⟨⟨RP,rq,data2,rz⟩,nv,xD,n2,hd2⟩:=id hb
 simp only at hc hd xD hd2
 subst hc hd xD hd2
 exact richCompare_meets_room (op:=.Lt) ⟨_,ho,rfl⟩ ⟨_,nv,rfl⟩ F.slot_tuple_lt F.entry_tuple_lt (F.args_tuple_lt_2 _ _) (uY l b items cS n n2 dd rq sl rz e f)
  ⟨ho,nv,he,hf,show Value.bool _≠Value.notImplemented/\Q (.bool _) s from⟨(fun x=>nomatch x),h⟩⟩ hu
theorem mM.lists(hl:s.heap.IsList l items)(hb:s.heap.IsList b cS)(hu:A.units<cLine)
  (he:∀ j (h1:j<items.size) (h2:j<cS.size),EqAt A.in1 s items[j] cS[j] (e j)) (hf:∀ j (h1:j<items.size) (h2:j<cS.size),e j=false->mM A.in1 s items[j] cS[j] (f j)) :
  mM A s (.ref l) (.ref b) (tF e f items.size cS.size (min items.size cS.size) 0):=fun prog w Q E h=>by
 obtain⟨⟨cls,dd,data,sl⟩,ho,hc,n,hd⟩:=id hl
 obtain⟨⟨RP,rq,data2,rz⟩,nv,xD,n2,hd2⟩:=id hb
 simp only at hc hd xD hd2
 subst hc hd xD hd2
 exact richCompare_meets_room (op:=.Lt) ⟨_,ho,rfl⟩ ⟨_,nv,rfl⟩ F.slot_list_lt F.entry_list_lt (F.args_list_lt_2 _ _) (wg l b items cS n n2 dd rq sl rz e f)
  ⟨ho,nv,he,hf,show Value.bool _≠Value.notImplemented/\Q (.bool _) s from⟨(fun x=>nomatch x),h⟩⟩ hu
theorem mM.int(a:Int)(t:Tok)(b:Int)(u:Tok):mM A s (.int a t) (.int b u) (decide (a<b)):=fun prog w Q E h=>(show wpAny _ _ (compareOp .Lt _ _) _ _ _ from PyProof.Rows.lt_int h)
theorem mM.str(a:Str)(t:Tok)(b:Str)(u:Tok):mM A s (.str a t) (.str b u) (decide (a.cps.toList<b.cps.toList)):=fun prog w Q E h=>(show wpAny _ _ (compareOp .Lt _ _) _ _ _ from PySem.P.lt_str h)
end
def mN(lt:PyData->PyData->Bool):List PyData->List PyData->Bool
 |[],ys=>!ys.isEmpty
 |_ :: _,[]=>false
 |x :: xs,y :: ys=>if PyData.eqv x y then mN lt xs ys else lt x y
def b9:Nat->PyData->PyData->Bool
 |_,.int i,.int j=>decide (i<j)
 |_,.str x,.str y=>decide (x.cps.toList<y.cps.toList)
 |n+1,.list xs,.list ys=>mN (b9 n) xs ys
 |n+1,.tuple xs,.tuple ys=>mN (b9 n) xs ys
 |_,_,_=>false
def mn:Nat->PyData->PyData->Prop
 |_,.int _,.int _=>True
 |_,.str _,.str _=>True
 |n+1,.list xs,.list ys=>∀ (j:Nat) (x y:PyData),xs[j]? = some x->ys[j]? = some y->PyData.eqv x y=false->mn n x y
 |n+1,.tuple xs,.tuple ys=>∀ (j:Nat) (x y:PyData),xs[j]? = some x->ys[j]? = some y->PyData.eqv x y=false->mn n x y
 |_,_,_=>False
def at2(g:PyData->PyData->Bool)(xs ys:List PyData)(j:Nat):Bool:=match xs[j]?,ys[j]? with
 |some x,some y=>g x y
 |_,_=>false
theorem mF(hx:xs[j]? = some x)(hy:ys[j]? = some y):at2 g xs ys j=g x y:=by
 unfold at2
 rw[hx,hy]
theorem Bl(lt:PyData->PyData->Bool)(xs ys:List PyData)(k:Nat):∀ i,min xs.length ys.length-i=k->i<=min xs.length ys.length->tF (at2 PyData.eqv xs ys) (at2 lt xs ys) xs.length ys.length k i=mN lt (xs.drop i) (ys.drop i):=by
 induction k with
 |zero =>
  intro i hk hi
  rw[tF]
  rcases D9 xs.length ys.length with z|z
  ·rw[decide_eq_true z,QX (show xs.length<=i by lia),vt (show i<ys.length by lia)]
   rfl
  ·rw[decide_eq_false (by lia),QX (show ys.length<=i by lia)]
   cases xs.drop i<;>rfl
 |succ k ih =>
  intro i hk hi
  have h1:i<xs.length:=by lia
  have h2:i<ys.length:=by lia
  rw[tF,mF (jv h1) (jv h2),mF (jv h1) (jv h2),ih (i+1) (by lia) (by lia),
   vt h1,vt h2,mN]
theorem dg:∀ {vs:List Value} {as:List Addr},ReadsAll h vs xs as->∀ (j:Nat) (v:Value),vs[j]? = some v->∃ x bs,xs[j]? = some x/\Reads h v x bs:=by
 induction xs with
 |nil =>
  intro vs as r j v hv
  cases r
  simp at hv
 |cons x xs ih =>
  intro vs as r j v hv
  cases r with
  |cons r rs =>
   cases j with
   |zero =>
    simp at hv
    subst hv
    exact⟨x,_,rfl,r⟩
   |succ j=>exact ih rs j v (by simpa using hv)
theorem jc{xs:List PyData}(h:PyData.canLayAll0 xs=true){j:Nat}{x:PyData}(hx:xs[j]? = some x):x.canLay0=true:=by
 induction xs generalizing j with
 |nil=>simp at hx
 |cons y xs ih =>
  have h:y.canLay0=true/\PyData.canLayAll0 xs=true:=by simpa[PyData.canLayAll0] using h
  cases j with
  |zero=>simp at hx;subst hx;exact h.1
  |succ j=>exact ih h.2 (by simpa using hx)
theorem ou{xs:List PyData}{j:Nat}{x:PyData}(hx:xs[j]? = some x):x.depth<=PyData.depthAll xs:=by
 induction xs generalizing j with
 |nil=>simp at hx
 |cons y xs ih =>
  simp only[PyData.depthAll]
  cases j with
  |zero=>simp at hx;subst hx;lia
  |succ j=>have:=ih (j:=j) (by simpa using hx);lia
theorem uC(n:Nat):∀ (d e:PyData) (A:Around) (s:Shared) (a b:Value) (as bs:List Addr),Reads s.heap a d as->Reads s.heap b e bs->d.canLay0=true->e.canLay0=true->mn n d e->d.depth<=20->A.units+n+30<cLine->mM A s a b (b9 n d e):=by
 induction n with
 |zero =>
  intro d e A s a b as bs ra rb _ _ c _ _
  cases ra<;>cases rb<;>first|(rw[b9];exact mM.int _ _ _ _)|(rw[b9];exact mM.str _ _ _ _)|exact absurd c (by simp[mn])
 |succ n ih =>
  intro d e A s a b as bs ra rb la lb c dd hu
  cases ra with
  |int i t=>cases rb<;>first|(rw[b9];exact mM.int _ _ _ _)|exact absurd c (by simp[mn])
  |str x t=>cases rb<;>first|(rw[b9];exact mM.str _ _ _ _)|exact absurd c (by simp[mn])
  |@list l o vs m xs T1 h1 h2 h3 h4 =>
   cases rb with
   |@list l' o' eM m' ys Xu k1 k2 k3 k4 =>
    have n1:vs.size=xs.length:=by simpa using ReadsAll.length _ _ _ h4
    have n2:eM.size=ys.length:=by simpa using ReadsAll.length _ _ _ k4
    have Od:∀ j (h1:j<vs.size),∃ x cs,xs[j]? = some x/\Reads s.heap vs[j] x cs:=fun j hj=>dg h4 j vs[j] (by simp[hj])
    have Oe:∀ j (h1:j<eM.size),∃ x cs,ys[j]? = some x/\Reads s.heap eM[j] x cs:=fun j hj=>dg k4 j eM[j] (by simp[hj])
    have dx:PyData.depthAll xs<20:=by simp only[PyData.depth] at dd;lia
    have:=mM.lists (A:=A) (s:=s) (e:=at2 PyData.eqv xs ys) (f:=at2 (b9 n) xs ys) ⟨_,h1,h2,_,h3⟩ ⟨_,k1,k2,_,k3⟩ (by lia) (fun j j1 j2=>by
     obtain⟨x,cs,ex,rx⟩:=Od j j1
     obtain⟨y,T3,ey,ry⟩:=Oe j j2
     rw[mF ex ey]
     have:=ou ex
     exact eqAt_reads x y A.in1 s _ _ _ _ rx ry (jc la ex) (jc lb ey) (by show A.units+1+_<cLine;lia)) (fun j j1 j2 ne=>by
     obtain⟨x,cs,ex,rx⟩:=Od j j1
     obtain⟨y,T3,ey,ry⟩:=Oe j j2
     rw[mF ex ey] at ne ⊢
     have:=ou ex
     exact ih x y A.in1 s _ _ _ _ rx ry (jc la ex) (jc lb ey) (c j x y ex ey ne) (by lia) (by show A.units+1+n+30<cLine;lia))
    rw[n1,n2,Bl (b9 n) xs ys _ 0 (Nat.sub_zero _) (eh _)] at this
    exact this
   |_=>exact absurd c (by simp[mn])
  |@tuple l o vs m xs T1 h1 h2 h3 h4 =>
   cases rb with
   |@tuple l' o' eM m' ys Xu k1 k2 k3 k4 =>
    have n1:vs.size=xs.length:=by simpa using ReadsAll.length _ _ _ h4
    have n2:eM.size=ys.length:=by simpa using ReadsAll.length _ _ _ k4
    have Od:∀ j (h1:j<vs.size),∃ x cs,xs[j]? = some x/\Reads s.heap vs[j] x cs:=fun j hj=>dg h4 j vs[j] (by simp[hj])
    have Oe:∀ j (h1:j<eM.size),∃ x cs,ys[j]? = some x/\Reads s.heap eM[j] x cs:=fun j hj=>dg k4 j eM[j] (by simp[hj])
    have dx:PyData.depthAll xs<20:=by simp only[PyData.depth] at dd;lia
    have:=mM.tuples (A:=A) (s:=s) (e:=at2 PyData.eqv xs ys) (f:=at2 (b9 n) xs ys) ⟨_,h1,h2,_,h3⟩ ⟨_,k1,k2,_,k3⟩ (by lia) (fun j j1 j2=>by
     obtain⟨x,cs,ex,rx⟩:=Od j j1
     obtain⟨y,T3,ey,ry⟩:=Oe j j2
     rw[mF ex ey]
     have:=ou ex
     exact eqAt_reads x y A.in1 s _ _ _ _ rx ry (jc la ex) (jc lb ey) (by show A.units+1+_<cLine;lia)) (fun j j1 j2 ne=>by
     obtain⟨x,cs,ex,rx⟩:=Od j j1
     obtain⟨y,T3,ey,ry⟩:=Oe j j2
     rw[mF ex ey] at ne ⊢
     have:=ou ex
     exact ih x y A.in1 s _ _ _ _ rx ry (jc la ex) (jc lb ey) (c j x y ex ey ne) (by lia) (by show A.units+1+n+30<cLine;lia))
    rw[n1,n2,Bl (b9 n) xs ys _ 0 (Nat.sub_zero _) (eh _)] at this
    exact this
   |_=>exact absurd c (by simp[mn])
  |_=>cases rb<;>exact absurd c (by simp[mn])
end PySem.SeqAt
namespace L2
open PySem PySem.Spec PyProof.Rows PySem.SeqAt
structure ip(lt:PyData->PyData->Bool)(S:PyData->Prop):Prop where
 oI:∀ x,S x->lt x x=false
 tr:∀ x y z,S x->S y->S z->lt x y=true->lt y z=true->lt x z=true
 ag:∀ x y,S x->S y->lt x y=false->lt y x=false->x=y
 eqv:∀ x y,S x->S y->(PyData.eqv x y=true↔x=y)
theorem ip.int(n:Nat):ip (b9 n) fun x=>∃ i,x=.int i where
 oI:=by rintro x ⟨i,rfl⟩;rw[b9];simp
 tr:=by rintro x y z ⟨i,rfl⟩ ⟨j,rfl⟩ ⟨k,rfl⟩;rw[b9,b9,b9];simp only[decide_eq_true_eq];lia
 ag:=by rintro x y ⟨i,rfl⟩ ⟨j,rfl⟩;rw[b9,b9];simp only[decide_eq_false_iff_not,PyData.int.injEq];lia
 eqv:=by rintro x y ⟨i,rfl⟩ ⟨j,rfl⟩;simp[PyData.eqv]
theorem ip.str(n:Nat):ip (b9 n) fun x=>∃ s,x=.str s where
 oI:=by rintro x ⟨i,rfl⟩;rw[b9];exact wV i
 tr:=by rintro x y z ⟨i,rfl⟩ ⟨j,rfl⟩ ⟨k,rfl⟩;rw[b9,b9,b9];exact fun h g=>Az (y:=j) h g
 ag:=by rintro x y ⟨i,rfl⟩ ⟨j,rfl⟩;rw[b9,b9];exact fun h g=>by rw[xQ (x:=i) (y:=j) h g]
 eqv:=by rintro x y ⟨i,rfl⟩ ⟨j,rfl⟩;simp[PyData.eqv]
section
variable {lt:PyData->PyData->Bool}{S:PyData->Prop}
theorem zj(T:ip lt S)(xs:List PyData)(h:∀ x∈xs,S x):mN lt xs xs=false:=by
 induction xs with
 |nil=>rfl
 |cons x xs ih =>
  rw[mN,if_pos ((T.eqv x x (h x bX) (h x bX)).mpr rfl)]
  exact ih fun y hy=>h y (b5 _ hy)
open Classical in
theorem dh(T:ip lt S)(hx:S x)(hy:S y):mN lt (x :: xs) (y :: ys)=if x=y then mN lt xs ys else lt x y:=by
 rw[mN]
 by_cases e:x=y
 ·rw[if_pos e,if_pos ((T.eqv x y hx hy).mpr e)]
 ·rw[if_neg e,if_neg fun z=>e ((T.eqv x y hx hy).mp z)]
theorem zG(T:ip lt S)(xs:List PyData):∀ ys:List PyData,(∀ x∈xs,S x)->(∀ y∈ys,S y)->mN lt xs ys=false->mN lt ys xs=false->xs=ys:=by
 induction xs with
 |nil =>
  intro ys _ _ h _
  cases ys with
  |nil=>rfl
  |cons y ys=>cases h
 |cons x xs ih =>
  intro ys hx hy h1 h2
  cases ys with
  |nil=>cases h2
  |cons y ys =>
   have sx:=hx x bX
   have sy:=hy y bX
   rw[dh T sx sy] at h1
   rw[dh T sy sx] at h2
   by_cases e:x=y
   ·subst e
    rw[if_pos rfl] at h1 h2
    rw[ih ys (fun z hz=>hx z (b5 _ hz)) (fun z hz=>hy z (b5 _ hz)) h1 h2]
   ·rw[if_neg e] at h1
    rw[if_neg fun z=>e z.symm] at h2
    exact absurd (T.ag x y sx sy h1 h2) e
theorem Cg(T:ip lt S)(xs:List PyData):∀ ys zs:List PyData,(∀ x∈xs,S x)->(∀ y∈ys,S y)->(∀ z∈zs,S z)->mN lt xs ys=true->mN lt ys zs=true->mN lt xs zs=true:=by
 induction xs with
 |nil =>
  intro ys zs _ _ _ h1 h2
  cases zs with
  |cons z zs=>rfl
  |nil =>
   cases ys with
   |nil=>cases h1
   |cons y ys=>cases h2
 |cons x xs ih =>
  intro ys zs hx hy hz h1 h2
  cases ys with
  |nil=>cases h1
  |cons y ys =>
   cases zs with
   |nil=>cases h2
   |cons z zs =>
    have sx:=hx x bX
    have sy:=hy y bX
    have sz:=hz z bX
    rw[dh T sx sy] at h1
    rw[dh T sy sz] at h2
    rw[dh T sx sz]
    have tl:=ih ys zs (fun z hz=>hx z (b5 _ hz)) (fun z hz=>hy z (b5 _ hz)) fun w hw=>hz w (b5 _ hw)
    by_cases e1:x=y
    ·subst e1
     rw[if_pos rfl] at h1
     by_cases e2:x=z
     ·subst e2
      rw[if_pos rfl] at h2 ⊢
      exact tl h1 h2
     ·rw[if_neg e2] at h2 ⊢
      exact h2
    ·rw[if_neg e1] at h1
     by_cases e2:y=z
     ·subst e2
      rw[if_neg e1]
      exact h1
     ·rw[if_neg e2] at h2
      have t:=T.tr x y z sx sy sz h1 h2
      by_cases e3:x=z
      ·subst e3
       rw[T.oI x sx] at t
       cases t
      ·rw[if_neg e3];exact t
theorem vM(T:ip lt S)(xs:List PyData):∀ ys:List PyData,(∀ x∈xs,S x)->(∀ y∈ys,S y)->(PyData.eqvAll xs ys=true↔xs=ys):=by
 induction xs with
 |nil=>intro ys _ _;cases ys<;>simp[PyData.eqvAll]
 |cons x xs ih =>
  intro ys hx hy
  cases ys with
  |nil=>simp[PyData.eqvAll]
  |cons y ys =>
   have h1:=T.eqv x y (hx x bX) (hy y bX)
   have h2:=ih ys (fun z hz=>hx z (b5 _ hz)) fun z hz=>hy z (b5 _ hz)
   simp only[PyData.eqvAll,kr,List.cons.injEq]
   exact and_congr h1 h2
end
theorem ip.list{S:PyData->Prop}(T:ip (b9 n) S):ip (b9 (n+1)) fun x=>∃ xs,x=.list xs/\∀ y∈xs,S y where
 oI:=by rintro x ⟨xs,rfl,h⟩;rw[b9];exact zj T xs h
 tr:=by rintro x y z ⟨xs,rfl,h⟩ ⟨ys,rfl,h'⟩ ⟨zs,rfl,h''⟩;rw[b9,b9,b9];exact Cg T xs ys zs h h' h''
 ag:=by
  rintro x y ⟨xs,rfl,h⟩ ⟨ys,rfl,h'⟩
  rw[b9,b9]
  exact fun h1 h2=>by rw[zG T xs ys h h' h1 h2]
 eqv:=by
  rintro x y ⟨xs,rfl,h⟩ ⟨ys,rfl,h'⟩
  rw[PyData.list.injEq]
  exact vM T xs ys h h'
open Classical in
theorem dZ{S U:PyData->Prop}(T:ip (b9 n) S)(T2:ip (b9 n) U)(ha:S a)(hb:U b)(hc:S c)(hd:U d):mN (b9 n) [a,b] [c,d]=if a=c then b9 n b d else b9 n a c:=by
 rw[dh T ha hc,dh T2 hb hd]
 by_cases e:b=d
 ·subst e
  rw[if_pos rfl,show mN (b9 n) [] []=false from rfl,T2.oI b hb]
 ·rw[if_neg e]
theorem ip.pair{S U:PyData->Prop}(T:ip (b9 n) S)(T2:ip (b9 n) U):ip (b9 (n+1)) fun x=>∃ a b,x=.tuple [a,b]/\S a/\U b where
 oI:=by rintro x ⟨a,b,rfl,ha,hb⟩;rw[b9,dZ T T2 ha hb ha hb,if_pos rfl];exact T2.oI b hb
 tr:=by
  rintro x y z ⟨a,b,rfl,ha,hb⟩ ⟨c,d,rfl,hc,hd⟩ ⟨e,f,rfl,he,hf⟩
  rw[b9,b9,b9,dZ T T2 ha hb hc hd,dZ T T2 hc hd he hf,dZ T T2 ha hb he hf]
  intro h1 h2
  by_cases e1:a=c
  ·subst e1
   rw[if_pos rfl] at h1
   by_cases e2:a=e
   ·subst e2
    rw[if_pos rfl] at h2 ⊢
    exact T2.tr b d f hb hd hf h1 h2
   ·rw[if_neg e2] at h2 ⊢
    exact h2
  ·rw[if_neg e1] at h1
   by_cases e2:c=e
   ·subst e2
    rw[if_neg e1];exact h1
   ·rw[if_neg e2] at h2
    have t:=T.tr a c e ha hc he h1 h2
    by_cases e3:a=e
    ·subst e3
     rw[T.oI a ha] at t;cases t
    ·rw[if_neg e3];exact t
 ag:=by
  rintro x y ⟨a,b,rfl,ha,hb⟩ ⟨c,d,rfl,hc,hd⟩
  rw[b9,b9,dZ T T2 ha hb hc hd,dZ T T2 hc hd ha hb]
  intro h1 h2
  by_cases e:a=c
  ·subst e
   rw[if_pos rfl] at h1 h2
   rw[T2.ag b d hb hd h1 h2]
  ·rw[if_neg e] at h1
   rw[if_neg fun z=>e z.symm] at h2
   exact absurd (T.ag a c ha hc h1 h2) e
 eqv:=by
  rintro x y ⟨a,b,rfl,ha,hb⟩ ⟨c,d,rfl,hc,hd⟩
  have h1:=T.eqv a c ha hc
  have h2:=T2.eqv b d hb hd
  simp only[PyData.eqv,PyData.eqvAll,kr,O1,PyData.tuple.injEq,List.cons.injEq,and_true]
  exact and_congr h1 h2
section
variable {prog:Program}{w:World}{A:Around}{E:Value->Shared->Prop}{s:Shared}{Q:Bool->Shared->Prop}
theorem zZ(xs:List PyData):∀ (ys:List PyData) (us vs:List Value) (as bs:List Addr) (i:Nat),ReadsAll s.heap us xs as->ReadsAll s.heap vs ys bs->PyData.canLayAll0 xs=true->PyData.canLayAll0 ys=true->PyData.depthAll xs<=20 ->
  (∀ (j:Nat) (x y:PyData),xs[j]? = some x->ys[j]? = some y->PyData.eqv x y=false->mn n x y)->(i=0->∀ x y,xs[0]? = some x->ys[0]? = some y->(∃ k,x=.int k)/\∃ k,y=.int k)->xs.length=ys.length->A.units+n+30<cLine->Q (mN (b9 n) xs ys) s ->
  PySem.W.KatLex prog w A true false Q (us.zip vs) i s:=by
 induction xs with
 |nil =>
  intro ys us vs as bs i ra rb _ _ _ _ _ hl _ q
  cases ys with
  |cons y ys=>cases hl
  |nil =>
   cases ra
   exact PySem.W.kat_nil q
 |cons x xs ih =>
  intro ys us vs as bs i ra rb la lb dp c hi hl hu q
  cases ys with
  |nil=>cases hl
  |cons y ys =>
   cases ra with
   |cons r rs =>
    cases rb with
    |cons r' T4 =>
     have T5:x.canLay0=true/\PyData.canLayAll0 xs=true:=by simpa[PyData.canLayAll0] using la
     have T6:y.canLay0=true/\PyData.canLayAll0 ys=true:=by simpa[PyData.canLayAll0] using lb
     have Xv:x.depth<=20/\PyData.depthAll xs<=20:=by simp only[PyData.depthAll] at dp;lia
     rw[AB]
     rw[mN] at q
     refine PySem.W.kat_cons (eqAt_reads x y A s _ _ _ _ r r' T5.1 T6.1 (by lia) prog w _ _ (PySem.W.kat_go (fun h=>PySem.W.kat_yes ?_) (fun h=>PySem.W.kat_no ?_)))
     ·rw[if_pos h] at q
      exact ih ys _ _ _ _ (i+1) rs T4 T5.2 T6.2 Xv.2 (fun j=>c (j+1)) (fun z=>by lia) (by simpa using hl) hu q
     ·rw[if_neg (by rw[h];exact gy)] at q
      by_cases h0:i=0
      ·obtain⟨⟨a,rfl⟩,⟨b,rfl⟩⟩:=hi h0 x y rfl rfl
       subst h0
       cases r
       cases r'
       rw[b9] at q
       exact oneLt_int q
      ·rw[show(true && i == 0)=false by simp[h0]]
       exact PySem.W.kat_one _ _ (uC n x y A s _ _ _ _ r r' T5.1 T6.1 (c 0 x y rfl rfl h) Xv.1 (by lia) prog w _ _ q)
structure FC(n:Nat)(S:PyData->Prop):Prop where
 ag:ip (b9 (n+1)) S
 tup:∀ x,S x->∃ i xs,x=.tuple (.int i :: xs)/\x.canLay0=true/\x.depth<=20
 len:∀ xs ys,S (.tuple xs)->S (.tuple ys)->xs.length=ys.length
 cm:∀ x y,S x->S y->mn (n+1) x y
open Classical in
def jM(h:Heap)(v:Value):PyData:=if z:∃ d as,Reads h v d as/\d.canLay0=true then z.choose else .none
theorem fZ(r:Reads h v d as)(l:d.canLay0=true):jM h v=d:=by
 have z:∃ d as,Reads h v d as/\d.canLay0=true:=⟨d,as,r,l⟩
 unfold jM
 rw[dif_pos z]
 obtain⟨bs,r2,l2⟩:=z.choose_spec
 exact Reads.unique _ _ _ _ _ l2 r2 r
def FD(n:Nat)(L:List PyData)(d:PyData):Int:=(L.countP fun e=>b9 n e d:Nat)
theorem Br{S:PyData->Prop}(T:ip (b9 n) S)(hL:∀ d∈L,S d)(ha:a∈L)(hb:S b):decide (FD n L a<FD n L b)=b9 n a b:=by
 have sa:=hL a ha
 unfold FD
 cases h:b9 n a b with
 |true =>
  have:=oG (fun j=>b9 n j a) (fun j=>b9 n j b) a (T.oI a sa) h L ha fun x hx z=>T.tr x a b (hL x hx) sa hb z h
  exact decide_eq_true (by lia)
 |false =>
  refine decide_eq_false ?_
  cases g:b9 n b a with
  |false =>
   rw[T.ag a b sa hb h g]
   lia
  |true =>
   have:=count_le (fun j=>b9 n j b) (fun j=>b9 n j a) L fun x hx z=>T.tr x b a (hL x hx) hb sa z g
   lia
theorem zq{S:PyData->Prop}(K:FC n S)(kp:∀ b o,h0.get? b=some o->s.heap.get? b=some o)(hL:∀ d∈L,S d)(hu:A.units+n+31<cLine) :
  sj.kL prog w A s (tuples' true) (fun v=>FD (n+1) L (jM h0 v)) (fun v=>∃ d as,d∈L/\Reads h0 v d as):=by
 rintro x y ⟨d,as,md,rd⟩ ⟨e,bs,me,re⟩ Q E q
 have sd:=hL d md
 have se:=hL e me
 obtain⟨i,xs,rfl,ld,dd⟩:=K.tup d sd
 obtain⟨j,ys,rfl,le,de⟩:=K.tup e se
 replace q:Q (decide (FD (n+1) L (jM h0 x)<FD (n+1) L (jM h0 y))) s:=q
 rw[fZ rd ld,fZ re le,Br K.ag hL md se,b9] at q
 have rd':=PyProof.Rows.Reads.keeps kp rd
 have re':=PyProof.Rows.Reads.keeps kp re
 have cm:=K.cm _ _ sd se
 have hl:=K.len _ _ sd se
 cases rd' with
 |@tuple a o us m _ T1 h1 h2 h3 h4 =>
  cases re' with
  |@tuple b o' vs m' _ Xu k1 k2 k3 k4 =>
   have n1:us.size=(PyData.int i :: xs).length:=by simpa using ReadsAll.length _ _ _ h4
   have n2:vs.size=(PyData.int j :: ys).length:=by simpa using ReadsAll.length _ _ _ k4
   refine PySem.W.kat_lt h1 h3 k1 k3 ?_
   rw[show decide (us.size<vs.size)=false from decide_eq_false (by lia)]
   exact zZ (n:=n) _ _ _ _ _ _ 0 h4 k4 ld le (by simp only[PyData.depth] at dd;lia) cm (fun _ x y hx hy=>by cases hx;cases hy;exact⟨⟨_,rfl⟩,_,rfl⟩) hl (by lia) q
end
section
variable {X:Cx}{pins:List (Addr × Obj)}{σ:St}{H:Hp}{s:Shared}
theorem v_(I:Inv X pins σ H s):∀ {ds:List PyData} {ys:List V} {vs:List Value},aI X.K H ds ys->Vals ys vs->∀ v∈vs,∃ d y as,d∈ds/\Rep X.K H d y/\RelV y v/\Reads s.heap v d as
 |_,_,_,.nil,.nil,v,hv=>nomatch hv
 |_,_,_,.cons r rs,.cons q qs,v,hv=>by
  rcases cy.mp hv with rfl|hv
  ·obtain⟨as,z⟩:=r.reads I q
   exact⟨_,_,as,bX,r,q,z⟩
  ·obtain⟨d,y,as,a,b,c,z⟩:=v_ I rs qs v hv
   exact⟨d,y,as,b5 _ a,b,c,z⟩
theorem uM{S:PyData->Prop}(K:FC n S):∀ (vs:List Value),(∀ v∈vs,∃ d as,S d/\Reads h0 v d as)->∃ fs:List Value,PySem.W.KatTups h0 vs fs/\fs.length=vs.length/\∀ f∈fs,∃ i t,f=Value.int i t
 |[],_=>⟨[],.nil,rfl,fun f hf=>nomatch hf⟩
 |v :: vs,h=>by
  obtain⟨fs,f1,f2,f3⟩:=uM K vs fun u hu=>h u (b5 _ hu)
  obtain⟨d,as,sd,r⟩:=h v bX
  obtain⟨i,xs,rfl,_,_⟩:=K.tup d sd
  cases r with
  |@tuple a o us m _ T1 h1 h2 h3 h4 =>
   obtain⟨us⟩:=us
   cases h4 with
   |cons r rs =>
    cases r with
    |int _ t =>
     exact⟨_ :: fs,.cons h1 h2 h3 rfl f1,by simp[f2],fun f hf=>by
      rcases cy.mp hf with rfl|hf
      ·exact⟨_,_,rfl⟩
      ·exact f3 f hf⟩
def FE:Value->V
 |.ref a=>.ref a
 |_=>.non
theorem yM{S:PyData->Prop}(K:FC n S)(sd:S d)(q:RelV y v)(r:Reads h0 v d as):FE v=y:=by
 obtain⟨i,xs,rfl,_,_⟩:=K.tup d sd
 cases r with
 |tuple h1 h2 h3 h4 =>
  cases y with
  |ref b=>cases (show Value.ref _=Value.ref b from q);rfl
  |_=>simp[RelV] at q
theorem tZ{S:PyData->Prop}(K:FC n S)(I:Inv X pins σ H s):∀ {ds:List PyData} {ys:List V} {vs:List Value},aI X.K H ds ys->Vals ys vs->(∀ d∈ds,S d)->vs.map (fun v=>(jM s.heap v,FE v))=ds.zip ys
 |_,_,_,.nil,.nil,_=>rfl
 |_,_,_,.cons r rs,.cons q qs,h=>by
  obtain⟨as,z⟩:=r.reads I q
  have sd:=h _ bX
  obtain⟨_,_,_,l,_⟩:=K.tup _ sd
  rw[fi,fZ z l,yM K sd q z,tZ K I rs qs fun d hd=>h d (b5 _ hd),AB]
def lV(K:PySem.W.Frag)(n:Nat)(S:PyData->Prop):List V->Hp->VK->Prop:=fun xs H Q=>match xs with
 |[.ref p]=>∃ ys ds,eK K H p ys/\aI K H ds ys/\(∀ d∈ds,S d)/\∀ (ps:List (PyData × V)) l,ps.Perm (ds.zip ys)->(ps.Pairwise fun a b=>b9 (n+1) b.1 a.1=false)->H l=none->Q (.ref l) (upd H l (.lst (ps.map (·.2))))
 |_=>False
theorem u_ {S:PyData->Prop} (K:FC n S) (hu:X.A.units+n+40<cLine):i3 X (.builtin "sorted") (lV X.K n S):=by
 intro pins s σ H xs us Q I r h
 unfold lV at h
 split at h
 ·rename_i p
  obtain⟨ys,ds,hl,hr,hS,q⟩:=h
  obtain⟨u,rfl,ru⟩:=Vals.one r
  cases ru
  obtain⟨vs,rv,pl,hz⟩:=I.list hl
  have lay:∀ d∈ds,d.canLay0=true:=fun d hd=>by obtain⟨_,_,_,l,_⟩:=K.tup d (hS d hd);exact l
  have mem:=v_ I hr rv
  have hlen:=rv.length
  refine sj.wD (κ:=tuples' true) (r:=fun v=>FD (n+1) ds (jM s.heap v)) (P:=fun v=>∃ d as,d∈ds/\Reads s.heap v d as) pl.isList (by lia) (fun v hv=>?_) (fun h2 A' E' s' kp Q' q'=>?_) (fun h2 s' kp=>zq K kp hS (by show X.A.units+1+1+n+31<cLine;lia)) fun h' out m pm pw kp eo=>?_
  ·obtain⟨d,y,as,a,b,c,z⟩:=mem v hv
   exact⟨d,as,a,z⟩
  ·obtain⟨fs,f1,f2,f3⟩:=uM (h0:=s'.heap) K vs fun v hv=>by
    obtain⟨d,y,as,a,b,c,z⟩:=mem v hv
    exact⟨d,as,hS d a,PyProof.Rows.Reads.keeps kp z⟩
   refine PySem.W.kat_kind (T:=.type "int") f1 (by lia) (fun f hf=>?_) (by decide) q'
   obtain⟨i,t,rfl⟩:=f3 f hf
   exact .now
  ·have back:∀ v∈out,∃ d y as,d∈ds/\Rep X.K H d y/\RelV y v/\Reads s.heap v d as:=fun v hv=>mem v (pm.mem_iff.mp hv)
   have rel:∀ l:List Value,(∀ v∈l,v∈out)->Vals (l.map FE) l:=by
    intro l
    induction l with
    |nil=>exact fun _=>.nil
    |cons v l ih =>
     intro hm
     obtain⟨d,y,as,a,b,c,z⟩:=back v (hm v bX)
     exact .cons (by rw[yM K (hS d a) c z];exact c) (ih fun u hu=>hm u (b5 _ hu))
   have z2:=rel out fun _ h=>h
   have ol:=pm.length_eq
   have e2:(out.map fun v=>(jM s.heap v,FE v)).map (·.2)=out.map FE:=by rw[fA];rfl
   have q':=q (out.map fun v=>(jM s.heap v,FE v)) (s.heap.objs.size+1) (by rw[<- tZ K I hr rv hS];exact pm.map _) ?_ (I.bq.fresh (LV _))
   ·rw[e2] at q'
    exact⟨.ref (s.heap.objs.size+1),_,I.laid (a:=s.heap.objs.size+1) (t':=s.toks) kp (LV _) (show fE X.prog X.w _ h' _ (.lst (out.map FE)) from⟨by rw[b4];lia,out,m,z2,eo⟩),rfl,q'⟩
   rw[ki]
   refine pw.imp_of_mem fun {x y} mx my hle=>?_
   obtain⟨d,_,as,md,_,_,rd⟩:=back x mx
   obtain⟨e,_,bs,me,_,_,re⟩:=back y my
   rw[fZ rd (lay d md),fZ re (lay e me)] at *
   have:=Br K.ag hS me (hS d md)
   rw[<- this]
   exact decide_eq_false (by lia)
 ·exact h.elim
end
section
variable {X:Cx}
def Og(K:PySem.W.Frag)(n:Nat):R2:=fun x y H Q=>∃ d e,Rep K H d x/\Rep K H e y/\d.canLay0=true/\e.canLay0=true/\d.depth<=20/\mn n d e/\Q (.bl (b9 n d e)) H
theorem FZ(hu:X.A.units+n+40<cLine):dn X (compareOp .Lt) (Og X.K n):=by
 intro pins s σ H x y v u Q I rx ry h
 obtain⟨d,e,h1,h2,h3,h4,h5,h6,q⟩:=h
 obtain⟨as,r1⟩:=h1.reads I rx
 obtain⟨bs,r2⟩:=h2.reads I ry
 exact uC n d e X.A s _ _ _ _ r1 r2 h3 h4 h6 h5 (by lia) X.prog X.w _ _ ⟨.bl _,H,I,rfl,q⟩
end
end L2
namespace L2.Q
open PySem PySem.Spec PyProof.Rows PySem.SeqAt
section
variable {X:Cx}{K:PySem.W.Frag}
def Xw(n:Nat):W2:=fun _ x _ y Q=>cf 12 x=true/\cf 12 y=true/\mn n x.py y.py/\Q .sh (.bl (b9 n x.py y.py))
theorem Gj:kQ K (Og K n) (Xw n):=by
 intro Hs H m x v As m2 y u Bs Qd Qv w rx ry h f
 obtain⟨o1,o2,c,q⟩:=h
 have l1:=gA 12 x o1
 have l2:=gA 12 y o2
 exact⟨x.py,y.py,(rx.rep w).l2 o1,(ry.rep w).l2 o2,l1.1,l2.1,by lia,c,f.sh w (.bl _) q⟩
theorem dV'(hu:X.A.units+n+40<cLine)(hK:X.K=K:=by rfl):dn X (compareOp .Lt) (Og K n):=by subst hK;exact FZ hu
end
section
variable {X:Cx}{K:PySem.W.Frag}{Hs H:Hp}
theorem iV(xs:List D):kN xs=xs.map D.py:=by
 induction xs with
 |nil=>rfl
 |cons x xs ih=>rw[kN,ih];rfl
theorem zY:∀ {vs:List V},aI K H xs vs->∀ p∈xs.zip vs,Rep K H p.1 p.2:=by
 induction xs with
 |nil=>intro vs r p hp;simp at hp
 |cons x xs ih =>
  intro vs r p hp
  obtain⟨u,us,rfl,r1,rs⟩:=r.c
  rw[AB] at hp
  rcases cy.mp hp with rfl|hp
  ·exact r1
  ·exact ih rs p hp
theorem vR(l:List (D × V))(h:∀ p∈l,Rep K H p.1 p.2):aI K H (l.map (·.1)) (l.map (·.2)):=by
 induction l with
 |nil=>exact .nil
 |cons p l ih=>exact .cons (h p bX) (ih fun q hq=>h q (b5 _ hq))
def Ba(n:Nat)(S:PyData->Prop):W1:=fun m x Q=>match x with
 |.list xs=>m=.sh/\(∀ d∈xs,cf 12 d=true/\S d.py)/\∀ ms:List D,ms.Perm xs->(ms.Pairwise fun a b=>b9 (n+1) b.py a.py=false)->Q (.ow false) (.list ms)
 |_=>False
theorem zr{S:PyData->Prop}:zS K (lV K n S) (Ba n S):=by
 intro Hs H m x v As Qd Qv w rx h f
 have r1:=rx.rep w
 cases r1 with
 |@list _ _ Qz z s q =>
  obtain⟨rfl,hS,h⟩:=h
  obtain⟨_,rx⟩:=rx
  cases rx with
  |@list _ eM _ z' s' q' =>
   have hl:=q'.length
   have ez:(kN Qz).zip eM=(Qz.zip eM).map fun p=>(p.1.py,p.2):=by
    rw[iV,List.zip_map_left]
    rfl
   refine⟨_,kN Qz,aT.seq w.sub s',Rep.S0.2 (q'.same w.sub) 12 fun d hd=>(hS d hd).1,fun d hd=>?_,fun ps l hp hw hn=>?_⟩
   ·rw[iV] at hd
    obtain⟨e,he,rfl⟩:=cc.mp hd
    exact(hS e he).2
   ·obtain⟨m',rfl,pm⟩:=TS.fL hp ez
    have p1:(m'.map (·.1)).Perm Qz:=by
     have:=pm.map (·.1)
     rwa[LJ (LS hl)] at this
    have rr:=vR (K:=K) (H:=Hs) m' fun p hp=>zY q' p (pm.mem_iff.mp hp)
    rw[show(m'.map fun p=>(p.1.py,p.2)).map (·.2)=m'.map (·.2) by rw[fA];rfl]
    refine f.Nz w (by rw[p1.length_eq];lia) rr (h _ p1 ?_) l hn
    rw[ki] at hw ⊢
    exact hw
 |_=>exact h.elim
theorem Gv {S:PyData->Prop} (KS:FC n S) (hu:X.A.units+n+40<cLine) (hK:X.K=K:=by rfl):i3 X (.builtin "sorted") (lV K n S):=by subst hK;exact u_ KS hu
end
end L2.Q
namespace L2
open PySem PySem.Spec PyProof.Rows PySem.SeqAt
section
variable {X:Cx}
def Eo(K:PySem.W.Frag):V->List V->Hp->VK->Prop:=fun x xs H Q=>∃ l ys ds y d,∃ j:Nat,x=.ref l/\xs=[y]/\eK K H l ys/\aI K H ds ys/\Rep K H d y/\(∀ e∈ds,e.canLay0=true/\e.depth<=20)/\d.canLay0=true /\
 (∃ e,ds[j]? = some e/\PyData.eqv e d=true)/\(∀ (m:Nat) e,m<j->ds[m]? = some e->PyData.eqv e d=false)/\Q (.int j) H
theorem y_ (hu:X.A.units+64<cLine):Px X "list.index" (Eo X.K):=by
 intro pins s σ H x vs v us Q I rx rv h
 obtain⟨l,ys,ds,y,d,j,rfl,rfl,hl,hr,hd,hS,ld,⟨e,ej,eq⟩,CY,q⟩:=h
 cases rx
 obtain⟨u,rfl,ru⟩:=Vals.one rv
 obtain⟨its,Xx,pl,hz⟩:=I.list hl
 obtain⟨as,rd⟩:=hd.reads I ru
 obtain⟨bs,ra⟩:=aI.reads I hr Xx
 have len:its.length=ds.length:=ReadsAll.length _ _ _ ra
 have at':∀ (m:Nat) (v:Value),its[m]? = some v->∃ e cs,ds[m]? = some e/\Reads s.heap v e cs/\jM s.heap v=e:=fun m v hv=>by
  obtain⟨e,cs,h1,h2⟩:=dg ra m v hv
  exact⟨e,cs,h1,h2,fZ h2 (hS e (nX h1)).1⟩
 have jl:j<ds.length:=(i7.mp ej).1
 have Xy:j<its.toArray.size:=by rw[gi];lia
 have zs:sizeLine<2 ^ 62:=by rw[sizeLine_eq];decide
 have hlen:=Xx.length
 obtain⟨⟨cls,dd,data,sl⟩,ho,hc,n,Xz⟩:=id pl.isList
 simp only at hc Xz
 subst hc Xz
 refine call_meets F.slot_list_index ⟨_,ho,rfl⟩ F.entry_list_index (F.args_list_index_2 _ _) (list_indexAt l its.toArray n dd sl u (fun v=>PyData.eqv (jM s.heap v) d) j Xy (by lia) ?_ fun m hm h'=>?_) ⟨ho,fun v hv=>?_,⟨.int j,H,I.tok _,⟨_,rfl⟩,q⟩⟩
 ·obtain⟨e',cs,h1,_,h3⟩:=at' j its.toArray[j] (by simp at Xy ⊢)
  rw[h3]
  rw[ej] at h1
  cases h1
  exact eq
 ·obtain⟨e',cs,h1,_,h3⟩:=at' m its.toArray[m] (by simp at hm ⊢)
  rw[h3]
  exact CY m e' h' h1
 ·obtain⟨m,hm⟩:=BU.mp (show v∈its by simpa using hv)
  obtain⟨e',cs,h1,h2,h3⟩:=at' m v hm
  rw[h3]
  have:=hS e' (nX h1)
  exact eqAt_reads e' d X.A.in1 s _ _ _ _ h2 rd this.1 ld (by show X.A.units+1+_<cLine;lia)
def Fe(K:PySem.W.Frag):R2:=fun x y H Q=>∃ l xs n,x=.ref l/\y=.int n/\eK K H l xs/\0<=n/\n<=1000/\xs.length<=1000/\∀ p,H p=none->Q (.ref p) (upd H p (.lst (List.replicate n.toNat xs).flatten))
theorem zK(h:Vals xs vs)(k:Nat):Vals (List.replicate k xs).flatten (List.replicate k vs).flatten:=by
 induction k with
 |zero=>exact .nil
 |succ k ih=>rw[yy,yy,AF,AF];exact h.append ih
theorem uH(xs:List α)(k:Nat):(List.replicate k xs).flatten.length=xs.length*k:=by
 induction k with
 |zero=>rfl
 |succ k ih=>rw[yy,AF,pd,ih,Nat.mul_succ];lia
theorem Dg:dn X (binaryOp .Mult) (Fe X.K):=by
 intro pins s σ H x y v u Q I rx ry h
 obtain⟨l,xs,n,rfl,rfl,hH,h0,h1,h2,q⟩:=h
 cases rx
 obtain⟨t,rfl⟩:=ry
 obtain⟨its,r,pl,z⟩:=I.list hH
 have hl:=r.length
 obtain⟨⟨cls,dd,data,sl⟩,ho,hc,k,hd⟩:=id pl.isList
 simp only at hc hd
 subst hc hd
 have hm:its.toArray.size*n.toNat<=1000*1000:=Nat.mul_le_mul (by rw[gi];lia) (by lia)
 have hsz:=sizeLine_eq
 refine wpAny_binaryOp_repeat_ref (T := "list") (U := "int") (by decide) ⟨_,ho,rfl⟩ (fun s'=>typeIs_int s' n t) noFill_list_mul PySem.F.fills_int_mul PySem.F.slot_int_rmul repeat_list PySem.F.slot_int_index.lookup
  (call_meets PySem.F.slot_int_rmul (typeIs_int s n t) PySem.F.entry_int_rmul (PySem.F.args_int_rmul_2 _ _) (lm_int_rmul_list_any n t l its.toArray k dd sl)
   ⟨ho,rfl,⟨_,ho,rfl⟩,call_meets PySem.F.slot_list_mul ⟨_,ho,rfl⟩ PySem.F.entry_list_mul (PySem.F.args_list_mul_2 _ _)
    (lm_list_mul_any l its.toArray k dd sl n t (by simp[Builtin.List.listFitsIndex];lia) (by lia) (by simp only[Builtin.List.listTooLong,decide_eq_true_eq];lia))
    ⟨ho,?_⟩⟩)
 rw[listMul_foldl_if]
 exact⟨.ref _,_,I.R0 (t':=s.toks) (zK r _) (by
  rw[uH]
  have:xs.length*n.toNat<=1000*1000:=Nat.mul_le_mul h2 (by lia)
  lia),rfl,q _ I.fresh⟩
def m9:List V->Hp->VK->Prop:=fun xs H Q=>match xs with
 |[.ref p]=>∃ kvs b0 sh,H p=some (.dT kvs)/\(∀ k∈kvs.map (·.1),gu k=b0 :: sh) /\
   ∀ zs ms l,cL H zs ms->ms.Perm (kvs.map (·.1))->(ms.Pairwise fun a b=>ft b a=false)->H l=none->Q (.ref l) (upd H l (.lst zs))
 |_=>False
theorem qX (hc:X.calm=true):i3 X (.builtin "sorted") m9:=by
 intro pins s σ H xs us Q I r h
 unfold m9 at h
 split at h
 ·rename_i p
  obtain⟨kvs,b0,sh,e,hs,q⟩:=h
  obtain⟨u,rfl,ru⟩:=Vals.one r
  cases ru
  obtain⟨z,y,ps,rel,o,es,ep,h1,h2,h3,h4,h5⟩:=(show fE X.prog X.w H s.heap p (.dT kvs) from I.bq p _ e)
  obtain⟨ta,va⟩:=xn (prog:=X.prog) (w:=X.w) rel
  have hlen:es.size=kvs.length:=by
   have:=congrArg List.length h4
   rw[y2,b4] at this
   rw[this];exact rel.length.symm
  have nr:ps.length=kvs.length:=rel.length.symm
  refine sj.mK (κ:=tuples' true) (R:=fun vs=>Vals (ps.map fun q=>V.ref q.2.1) vs) (r:=fun v=>ui (kvs.map (·.1)) (lJ H v)) (P:=fun v=>∃ b k,v=.ref b/\H b=some (.tup (k.map kV))/\gu k=b0 :: sh/\k∈kvs.map (·.1)) (fun A' E' Q' hA hQ=>?_) (fun vs rv=>?_) (fun vs rv v hv=>?_)
   (fun vs rv h2 A' E' s' kp Q' q'=>?_) (fun s' kp=>tV I kp) fun vs h' a out n tk rv pm pw kp ha eo=>?_
  ·refine sj.jQ (yP (es:=es) (ep:=ep) y) (hA.trans (I.ok.hd hc)) ⟨o,h1,h2,h3⟩ (by lia) fun h' tk acc kp hz wm=>hQ _ h' tk ?_ kp hz
   have hv:acc.toList=(ps.map (entryOfKey (tupleKind (iE X.prog X.w)))).map (·.key):=by
    apply AG
    intro i
    by_cases hi:i<es.size
    ·have hU:i<acc.size:=by rw[wm.1];exact hi
     obtain⟨en,e1,e2⟩:=wm.2 i acc[i] (by simp[hU])
     rw[<- h4,nc,kG,kG,e1]
     simp[hU,e2]
    ·rw[<- h4,nc,kG,kG,B6 (by rw[wm.1];lia),B6 (by lia)]
     rfl
   rw[hv];exact va
  ·have:=rv.length
   rw[b4] at this
   lia
  ·obtain⟨_,mem⟩:=ta.keys rv
   obtain⟨b,k,e1,e2,e3⟩:=mem v hv
   exact⟨b,k,e1,e2,hs k e3,e3⟩
  ·obtain⟨fs,f1,f2,f3⟩:=kat_tups I kp ta rv hs
   cases b0 with
   |true =>
    refine PySem.W.kat_kind (T:=.type "int") f1 (by lia) (fun f hf=>?_) (by decide) q'
    obtain⟨i,t,rfl⟩:=(f3 f hf).1 rfl
    exact .now
   |false =>
    refine PySem.W.kat_kind (T:=.type "str") f1 (by lia) (fun f hf=>?_) (by decide) q'
    obtain⟨i,t,rfl⟩:=(f3 f hf).2 rfl
    exact .now
  ·obtain⟨ek,mem⟩:=ta.keys rv
   obtain⟨zs,z1,z2⟩:=cL.of (H:=H) (ks:=kvs.map (·.1)) out fun v hv=>mem v (pm.mem_iff.mp hv)
   have zl:=z2.length
   have ol:=pm.length_eq
   have vl:=rv.length
   rw[b4] at vl
   have Qr:(out.map (lJ H)).Perm (kvs.map (·.1)):=by rw[<- ek];exact pm.map _
   refine⟨.ref a,_,I.laid (a:=a) (t':=tk) kp ha (show fE X.prog X.w _ h' _ (.lst zs) from⟨by lia,out,n,z2,eo⟩),rfl,q zs _ _ z1 Qr ?_ (I.bq.fresh ha)⟩
   rw[ki]
   refine pw.imp_of_mem fun {x y} mx my hle=>?_
   obtain⟨b,k,rfl,hb,kk⟩:=mem x (pm.mem_iff.mp mx)
   obtain⟨c,m,rfl,hc,km⟩:=mem y (pm.mem_iff.mp my)
   rw[cI hb,cI hc] at *
   have:=l_ (L:=kvs.map (·.1)) ((hs m km).trans (hs k kk).symm) km
   rw[<- this]
   exact decide_eq_false (by lia)
 ·exact h.elim
end
theorem ip.sub{S U:PyData->Prop}(T:ip lt S)(h:∀ x,U x->S x):ip lt U :=
 ⟨fun x a=>T.oI x (h x a),fun x y z a b c=>T.tr x y z (h x a) (h y b) (h z c),fun x y a b=>T.ag x y (h x a) (h y b),fun x y a b=>T.eqv x y (h x a) (h y b)⟩
def lE(p:Str × Int):PyData:=.tuple [.str p.1,.int p.2]
def qk(x:PyData):Prop:=∃ (i:Int) (ps:List (Str × Int)),x=.tuple [.int i,.list (ps.map lE)]/\∀ p∈ps,PyData.strOk p.1=true
theorem DR(p q:Str × Int):mn 1 (lE p) (lE q):=by
 unfold lE
 rw[mn]
 intro j x y hx hy _
 match j with
 |0=>cases hx;cases hy;rw[mn];trivial
 |1=>cases hx;cases hy;rw[mn];trivial
 |j+2=>simp at hx
theorem DN(ps:List (Str × Int))(h:∀ p∈ps,PyData.strOk p.1=true):PyData.canLayAll0 (ps.map lE)=true/\PyData.depthAll (ps.map lE)<=2:=by
 induction ps with
 |nil=>exact⟨rfl,by simp[PyData.depthAll]⟩
 |cons p ps ih =>
  have ih:=ih fun q hq=>h q (b5 _ hq)
  have hp:=h p bX
  rw[fi]
  constructor
  ·simp only[PyData.canLayAll0,kr]
   refine⟨?_,ih.1⟩
   simp[lE,PyData.canLay0,PyData.canLayAll0,hp]
  ·have h2:=ih.2
   simp only[PyData.depthAll]
   have:(lE p).depth<=2:=by simp[lE,PyData.depth,PyData.depthAll]
   lia
theorem Oh:FC 2 qk where
 ag:=((ip.pair (ip.int 2) (ip.list (ip.pair (ip.str 0) (ip.int 0)))).sub) fun x ⟨i,ps,e,_⟩=>⟨_,_,e,⟨i,rfl⟩,_,rfl,fun y hy=>by
  obtain⟨p,_,rfl⟩:=cc.mp hy
  exact⟨_,_,rfl,⟨_,rfl⟩,_,rfl⟩⟩
 tup:=by
  rintro x ⟨i,ps,rfl,h⟩
  have:=DN ps h
  refine⟨i,_,rfl,?_,?_⟩
  ·simp[PyData.canLay0,PyData.canLayAll0,this.1]
  ·simp only[PyData.depth,PyData.depthAll];lia
 len:=by
  rintro xs ys ⟨i,ps,e,_⟩ ⟨j,qs,e2,_⟩
  cases e;cases e2;rfl
 cm:=by
  rintro x y ⟨i,ps,rfl,_⟩ ⟨j,qs,rfl,_⟩
  rw[mn]
  intro k x y hx hy _
  match k with
  |0=>cases hx;cases hy;rw[mn];trivial
  |1 =>
   cases hx;cases hy
   rw[mn]
   intro k x y hx hy _
   obtain⟨p,_,rfl⟩:=cc.mp (nX hx)
   obtain⟨q,_,rfl⟩:=cc.mp (nX hy)
   exact DR p q
  |k+2=>simp at hx
end L2
namespace L2.Q
open PySem PySem.Spec PyProof.Rows PySem.SeqAt
section
variable {X:Cx}{K:PySem.W.Frag}{a b:Expr}{ta tb:WE}{pos:Pos}
def wY:W2:=fun _ x _ y Q=>match x with
 |.list xs=>match y with
  |.int n=>(0<=n/\n<=1000/\xs.length<=1000)/\cx xs=true/\Q (.ow true) (.list (List.replicate n.toNat xs).flatten)
  |_=>False
 |_=>False
theorem zJ(h:aI K H xs vs)(k:Nat):aI K H (List.replicate k xs).flatten (List.replicate k vs).flatten:=by
 induction k with
 |zero=>exact .nil
 |succ k ih=>rw[yy,yy,AF,AF];exact h.append ih
theorem wA(h:cx xs=true)(k:Nat):cx (List.replicate k xs).flatten=true:=by
 induction k with
 |zero=>rfl
 |succ k ih=>rw[yy,AF,fH,h,ih];rfl
theorem Er:kQ K (Fe K) wY:=by
 intro Hs H m x v As n y u Bs Qd Qv w rx ry h f
 have r1:=rx.rep w
 have r2:=ry.rep w
 cases r1 with
 |list z s q=>cases r2 with
  |int n =>
   obtain⟨⟨h0,h1,h2⟩,fl,h⟩:=h
   have hl:=q.length
   refine⟨_,_,_,rfl,rfl,s,h0,h1,by lia,?_⟩
   refine f.lst w ?_ (zJ q _) (wA fl _) h
   rw[uH,sizeLine_eq]
   have:List.length _*n.toNat<=1000*1000:=Nat.mul_le_mul h2 (by lia)
   exact gx this (by decide)
  |_=>exact h.elim
 |_=>exact h.elim
theorem Jb(hK:X.K=K:=by rfl):dn X (binaryOp .Mult) (Fe K):=by subst hK;exact Dg
theorem BK(ha:QE X K a ta)(hb:QE X K b tb)(hK:X.K=K:=by rfl):QE X K (.BinOp a .Mult b pos) (aC wY ta tb):=IG (Jb hK) Er ha hb
def qU:W1:=fun _ x Q=>match x with
 |.dT kvs=>∃ b0 sh,(∀ p∈kvs,gu p.1=b0 :: sh)/\∀ ms:List (List Key),ms.Perm (kvs.map (·.1))->(ms.Pairwise fun a b=>ft b a=false)->Q (.ow true) (.list (ms.map oj))
 |_=>False
theorem x_:zS K m9 qU:=by
 intro Hs H m x v As Qd Qv w rx h f
 have r1:=rx.rep w
 cases r1 with
 |@dT a vs kvs kk e q =>
  obtain⟨b0,sh,hs,h⟩:=h
  have hlen:=q.length
  rw[b4] at hlen
  have ez:((kvs.map (·.1)).zip vs).map (·.1)=kvs.map (·.1):=LJ (by rw[b4];exact LS hlen)
  refine⟨_,b0,sh,e,fun k hk=>?_,fun zs ms l tz pm pw hl=>?_⟩
  ·rw[ez] at hk
   obtain⟨p,hp,rfl⟩:=cc.mp hk
   exact hs p hp
  ·rw[ez] at pm
   refine f.lst w (by rw[b4,pm.length_eq,b4];exact kk.1) (nG (K:=K) tz fun k hk=>?_) (g_ ms) (h ms pm pw) l hl
   obtain⟨p,hp,rfl⟩:=cc.mp (pm.mem_iff.mp hk)
   exact kk.2 p hp
 |_=>exact h.elim
theorem Eh (hc:X.calm=true:=by rfl):i3 X (.builtin "sorted") m9:=qX hc
def qL(to te:WE):WE:=fun ρ Q=>to ρ fun _ x=>match x with
 |.list xs=>te ρ fun _ y=>cf 12 (.list xs)=true/\cf 12 y=true/\∃ j:Nat,(∃ z,xs[j]? = some z/\fI z y=true)/\(∀ (i:Nat) z,i<j->xs[i]? = some z->fI z y=false)/\Q .sh (.int j)
 |_=>False
theorem wj(hu:X.A.units+64<cLine)(ho:QE X K o to)(he:QE X K e te)(hK:X.K=K:=by rfl)
  (rS:attributeBase o "index" X.env (eval o X.env)=eval o X.env:=by rfl)
  (rV:((backTo dk (starEach [e] X.env)).all (fun x=>!x.1) && (backToKw dk (keywordEach [] X.env)).all (fun x=>x.1.isSome)
   && decide ([e].length+([]:List Keyword).length+(if ([]:List Keyword).isEmpty then 0 else 1)<30))=true:=by rfl)
  (hline:(apos.endLine == dk.line)=true:=by rfl) (tf:starEach (e :: []) X.env=(false,eval e X.env) :: starEach [] X.env:=by rfl) (xE:(backTo dk (starEach [] X.env)).any (·.1)=false:=by rfl) :
  QE X K (.Call (.Attribute o "index" apos) [e] [] dk) (qL to te):=by
 subst hK
 refine PE.imp (HC PySem.F.plainAttrs_list PySem.F.slot_list_index PySem.F.type_list_index (y_ hu) ho (rh he vT tf) rS rV hline tf xE) fun σ H Qv hx=>iN hx fun Hs ρ ag Q sr h f=>?_
 refine⟨Hs,ρ,ag,_,sr,h,fun v H1 ax m x As g1 r1 f1 q1=>?_⟩
 have r:=r1.rep g1.wf
 cases r with
 |list hz s rs =>
  refine⟨.inl ⟨rfl,_,s⟩,ax,ρ,ag,_,sr.grow g1,q1,fun y H2 aw m2 x2 gd g2 r2 f2 q2=>?_⟩
  obtain⟨o1,o2,j,⟨z,ez,eq⟩,CY,q⟩:=q2
  have rr:=(r1.grow g2).rep g2.wf
  cases rr with
  |list Qq s' T4 =>
   have l2:=gA 12 _ o2
   have XA:∀ d∈_,cf 11 d=true:=AI.mp (show List.all _ (cf 11)=true from o1)
   refine⟨_,_,_,_,_,j,rfl,rfl,s',Rep.S0.2 T4 11 XA,(r2.rep g2.wf).l2 o2,fun e he=>?_,l2.1,⟨z.py,?_,eq⟩,fun m e hm he=>?_,Fin.sh (Fin.after f (g1.trans g2)) g2.wf (.int _) q⟩
   ·rw[iV] at he
    obtain⟨d,hd,rfl⟩:=cc.mp he
    have:=gA 11 d (XA d hd)
    exact⟨this.1,by lia⟩
   ·rw[iV,nc,ez];rfl
   ·rw[iV,nc] at he
    obtain⟨d,hd,rfl⟩:=Option.map_eq_some_iff.mp he
    exact CY m d hm hd
 |_=>exact q1.elim
abbrev ye:W1:=Ba 2 qk
theorem HB (hu:X.A.units+64<cLine) (hK:X.K=K:=by rfl):i3 X (.builtin "sorted") (lV K 2 qk):=Gv Oh (by lia) hK
theorem zF:zS K (lV K 2 qk) ye:=zr
abbrev T7:W2:=Xw 3
theorem dW'(hu:X.A.units+64<cLine)(hK:X.K=K:=by rfl):dn X (compareOp .Lt) (Og K 3):=dV' (by lia) hK
theorem Gw:kQ K (Og K 3) T7:=Gj
end
end L2.Q
namespace L2.Q.R
open PySem PySem.Spec PyProof.Rows L2.Q PySem.SeqAt
section
variable {Q:Md->L2.Q.D->Prop}{m m':Md}{x y:L2.Q.D}{xs:List L2.Q.D}{NV te:WE}{ρ:Env}{a:Int}
theorem JQ:wY m (.list xs) m' (.int a) Q=((0<=a/\a<=1000/\xs.length<=1000)/\cx xs=true/\Q (.ow true) (.list (List.replicate a.toNat xs).flatten)):=rfl
theorem Io:qL NV te ρ Q=NV ρ fun _ x=>bS x (f:=fun x=>sv x fun xs=>te ρ fun _ y=>cf 12 (.list xs)=true/\cf 12 y=true/\∃ j:Nat,(∃ z,xs[j]? = some z/\fI z y=true)/\(∀ (i:Nat) z,i<j->xs[i]? = some z->fI z y=false)/\Q .sh (.int j)) ⟨⟩:=by unfold qL bS sv;rfl
theorem HW:qU m (.dT kvs) Q = ∃ b0 sh,(∀ p∈kvs,gu p.1=b0 :: sh)/\∀ ms:List (List Key),ms.Perm (kvs.map (·.1))->(ms.Pairwise fun a b=>ft b a=false)->Q (.ow true) (.list (ms.map oj)):=rfl
theorem Il:ye m (.list xs) Q=(m=.sh/\(∀ d∈xs,cf 12 d=true/\qk d.py)/\∀ ms:List L2.Q.D,ms.Perm xs->(ms.Pairwise fun a b=>PySem.SeqAt.b9 3 b.py a.py=false)->Q (.ow false) (.list ms)):=rfl
theorem Nb:T7 m x m' y Q=(cf 12 x=true/\cf 12 y=true/\mn 3 x.py y.py/\Q .sh (.bl (PySem.SeqAt.b9 3 x.py y.py))):=rfl
end
end L2.Q.R
namespace L2
open PySem PySem.Spec PyProof.Rows
end L2
namespace L2.Q
open PySem PySem.Spec PyProof.Rows
section
variable {X:Cx}{K:PySem.W.Frag}{a b c e:Expr}{ta tb te:WE}{pos p2:Pos}
def QB(ta tb:WE):WE:=fun ρ Q=>ta ρ fun m x=>m=.ow true/\match x with
 |.list xs=>tb ρ fun _ y=>intD y fun k=>∃ d,L2.eW xs k=some d/\Q (Oc d) d
 |_=>False
theorem Jt(ha:QE X K a ta)(hb:QE X K b tb)(hs:Pw b:=by exact fun _ _=>rfl)(hK:X.K=K:=by rfl):QE X K (.Subscript a b pos) (QB ta tb):=by
 refine PE.imp (RW (kIx hK) ha hb hs) fun σ H Qv hx=>iN hx fun Hs ρ ag Q sr h f=>?_
 refine⟨Hs,ρ,ag,_,sr,h,fun v H1 ax m x As g1 r1 f1 q1=>?_⟩
 obtain⟨rfl,q1⟩:=q1
 obtain⟨r1,ne⟩:=r1
 cases r1 with
 |sh _ r=>exact absurd rfl ne
 |@list a vs xs As z e rs =>
  refine⟨ax,ρ,ag,_,sr.grow g1,q1,fun u H2 aw m2 y Bs g2 r2 f2 q2=>?_⟩
  have ry:=r2.rep g2.wf
  cases ry with
  |int k =>
   obtain⟨d,e3,q⟩:=q2
   obtain⟨j,ej,ed⟩:=G5 e3
   have nd:As.Nodup:=(iA.mp f1.1).2
   obtain⟨w,B,ew,kK,sB,_⟩:=rs.at ed nd
   have r3:=kK.grow g2.sh g2.all
   refine .inl ⟨vs,w,.inl (.inl (g2.all _ _ e)),yw (by rw[<- rs.length];exact ej) ew,?_⟩
   cases hf:d.flat with
   |true =>
    rw[Oc,hf] at q
    exact f w H2 aw .sh d [] (g1.trans g2) ⟨rfl,(r3.rep g2.wf.sub fun _ _=>rfl).gw g2.wf.ku hf⟩ ⟨n5,fun _ h=>zk h⟩ q
   |false =>
    rw[Oc,hf] at q
    refine f w H2 aw (.ow true) d B (g1.trans g2) ⟨r3,r3.ne hf⟩ ⟨sB.nodup nd,fun c hc=>?_⟩ q
    have:=f1.2 c (b5 _ (sB.subset hc))
    exact⟨g2.lP this.1 (kK.own c hc).ne,this.2⟩
  |_=>exact q2.elim
 |_=>exact q1.elim
theorem SR.view(G:Hp)(s:aT Hs H)(r:SR K Hs H ρ σ ag):SR K H G (ρ.map (Option.map NM)) σ []:=by
 induction r with
 |nil=>exact .nil
 |non _ ih=>exact .non ih
 |sh r _ ih=>exact .sh (r.same s) ih
 |xc _ ih=>exact .xc ih
 |ow _ r _ ih=>exact .sh (r.rep s fun _ _=>rfl) ih
 |lk _ r _ ih=>exact .sh (r.rep s fun _ _=>rfl) ih
def QC(i j:Nat)(hs xs:List D)(ρ:Env):Env:=(ρ.set j none).set i (some (.ow true (.list (hs++[.list xs]))))
def T8(i j:Nat)(hs xs:List D)(ρ:Env):Env:=((QC i j hs xs ρ).map (Option.map NM)).set j (some (.sh (.list xs)))
def dX'(o:Option Sl)(k:Sl->Prop):Prop:=match o with
 |some s=>k s
 |none=>False
def yC(i j:Nat)(te:WE):WS:=fun E ρ=>Fs ρ[i]? fun hs=>Fs ρ[j]? fun xs=>cx xs=true/\hs.length<sizeLine /\
 te (T8 i j hs xs ρ) fun m d=>dX' (asg (DM m d) d) fun sl=>E.nx ((QC i j hs xs ρ).set j (some sl))
theorem zf(hN:X.N.Nodup)(hj0:X.N[j]? = some x)(hx:Loc X.env.scope x)(hi:PE X a (EG i))(hj:PE X b (EG j))(he:QE X K e te)(iL:i≠j:=by decide)(hK:X.K=K:=by rfl)
  (s1:swapsWith (.Call (.Attribute a "append" p1) [b] [] p2) none pos.line X.env=pure false:=by rfl) (b1:attributeBase a "append" X.env (eval a X.env)=eval a X.env:=by rfl)
  (f1:((backTo p2 (starEach [b] X.env)).all (fun x=>!x.1) && (backToKw p2 (keywordEach [] X.env)).all (fun x=>x.1.isSome) && decide ([b].length+([]:List Keyword).length+(if ([]:List Keyword).isEmpty then 0 else 1)<30))=true:=by rfl)
  (l1:(p1.endLine == p2.line)=true:=by rfl) (t1:starEach (b :: []) X.env=(false,eval b X.env) :: starEach [] X.env:=by rfl) (q1:(backTo p2 (starEach [] X.env)).any (·.1)=false:=by rfl)
  (hs:swapsWith e (some (.Name x p3)) pos'.line X.env=pure false:=by rfl) (hf:X.fn x=true\/X.env.scope.names.lookup x=some .local:=by first|exact .inl rfl|exact .inr rfl|assumption) :
  zC X K L [.Expr (.Call (.Attribute a "append" p1) [b] [] p2) pos,.Assign [.Name x p3] e pos'] (yC i j te):=by
 subst hK
 refine mv.imp (U9 (Pg (HC PySem.F.plainAttrs_list PySem.F.slot_list_append PySem.F.type_list_append R1 hi (rh hj vT t1) b1 f1 l1 t1 q1) s1)
  (U_ (Rw hN hj0 hx he hs hf))) fun D σ H hx=>dO hx fun Hs ρ ag E sr h k1 k2 k3 k4=>?_
 obtain⟨hs,ei,h⟩:=BP h
 obtain⟨xs,ej,fl,N7,h⟩:=BP h
 obtain⟨a,ws,c,vs,dz,u1,u2,u3,u4,u5,u6,u7,fT⟩:=Cm iL sr ei ej fl N7
 refine⟨_,u1,.inl ⟨rfl,_,.inl (.inl u2)⟩,_,u4,a,ws,_,rfl,rfl,u2,u3,?_⟩
 have rc:Rep X.K (upd H a (.lst (ws++[.ref c]))) (.list xs) (.ref c):=.list u7 (.inl (.inl u5)) (u6.same fT.wf.sub)
 have v0:=SR.view (upd H a (.lst (ws++[.ref c]))) fT.wf.sub fT.sr
 obtain⟨t,st,v1⟩:=v0.yg rc j
 have e0:σ.set j (some (.ref c))=σ:=by
  apply AG
  intro m
  by_cases hm:j=m
  ·subst hm;rw[QR (by have:=(i7.mp u4).1;exact this),u4]
  ·rw[Lv hm]
 rw[e0] at v1
 have et:t=[]:=List.eq_nil_of_subset_nil st.subset
 subst et
 refine⟨upd H a (.lst (ws++[.ref c])),_,[],_,⟨v1,⟨aT.refl _,fun _ _ z=>z⟩,n5,fun _ h=>zk h⟩,h,fun v H1 ax m d As g1 r1 f1 q1=>?_⟩
 obtain⟨fh,r',fr⟩:=oO fT.wf g1.sh g1.wf r1 f1.1 fun a ha=>(f1.2 a ha).1
 have gb:=fC fT.wf g1.sh g1.wf
 cases ea:asg (DM m d) d with
 |none=>rw[ea] at q1;exact q1.elim
 |some sl =>
  rw[ea] at q1
  obtain⟨b6,s'⟩:=(fT.grow gb).set j r' fr.1 (fun a ha=>⟨(fr.2 a ha).1,fun m=>(fT.sr.own a m).ne (fr.2 a ha).2⟩) ea
  exact k1 _ H1 _ _ b6 gb.sh s' q1
end
end L2.Q
namespace L2.Q.R
open PySem PySem.Spec PyProof.Rows L2.Q
section
variable {Q:Md->L2.Q.D->Prop}{m:Md}{x y:L2.Q.D}{xs:List L2.Q.D}{ta tb te:WE}{ρ:L2.Q.Env}{E:nT}{i j:Nat}
theorem Lj:QB ta tb ρ Q=ta ρ fun m x=>m=.ow true/\bS x (f:=fun x=>sv x fun xs=>tb ρ fun _ y=>bS y (f:=fun y=>intD y fun k=>∃ d,L2.eW xs k=some d/\bS d (f:=fun d=>Q (Oc d) d) ⟨⟩) ⟨⟩) ⟨⟩:=by unfold QB bS sv;rfl
theorem Jo:yC i j te E ρ=bS ρ[i]? (f:=fun o=>Fs o fun hs=>bS ρ[j]? (f:=fun o=>Fs o fun xs=>cx xs=true/\hs.length<sizeLine /\
 te (T8 i j hs xs ρ) fun m d=>bS (asg (DM m d) d) (f:=fun o=>put o fun sl=>E.nx ((QC i j hs xs ρ).set j (some sl))) ⟨⟩) ⟨⟩) ⟨⟩:=rfl
end
end L2.Q.R
namespace L2
open PySem PySem.Spec PyProof.Rows
def Bv(sc scope:Scope)(N cn:List Str)(ix:List Nat):Bool :=
 scope.kind == .function && scope.names.all (fun y=>y.2 != .free || DF (sc.names.lookup y.1)) && scope.names.all (fun y=>y.2 != .local || scope.names.lookup y.1 == some .local) &&
 ix.length == cn.length && (List.range ix.length).all (fun k=>match ix[k]?,cn[k]? with
  |some j,some y=>N[j]? == some y && DF (sc.names.lookup y) && scope.names.contains (y,NameKind.free) && DF ((wd sc scope.names).lookup y) && !scope.names.contains (y,NameKind.cell)
  |_,_=>false) &&
 (wd sc scope.names).all (fun y=>!(y.2 == .cell || y.2 == .free) || scope.names.contains (y.1,NameKind.free) || scope.names.contains (y.1,NameKind.cell))
theorem e_.of{X:Cx}(lI:X.env.scope=sc)(hN:X.N=N)(h:Bv sc scope N cn ix=true):e_ X scope tn cn ix:=by
 unfold Bv at h
 simp only[kr] at h
 obtain⟨⟨⟨⟨⟨h1,h3⟩,h4⟩,h5⟩,h6⟩,h7⟩:=h
 rw[AI] at h3 h4 h6 h7
 have M0:(relabel scope X.env).names=wd sc scope.names:=by
  unfold relabel wd
  rw[<- lI]
  rfl
 refine⟨by simpa using h1,fun y hy hk=>?_,fun y hy hk=>?_,by simpa using h5,fun k j hk=>?_,fun x hx=>?_⟩
 ·have:=h3 y hy
  rw[hk] at this
  rw[lI]
  exact iC (by simpa using this)
 ·have:=h4 y hy
  rw[hk] at this
  simpa using this
 ·have fN:k<ix.length:=(i7.mp hk).1
  have:=h6 k (qB.mpr fN)
  rw[hk] at this
  cases e:cn[k]? with
  |none=>rw[e] at this;cases this
  |some y =>
   rw[e] at this
   simp only[kr] at this
   obtain⟨⟨⟨⟨a1,a2⟩,a3⟩,a4⟩,a5⟩:=this
   refine⟨y,rfl,by rw[hN];simpa using a1,by rw[lI];exact iC a2,by simpa using a3,by rw[M0];exact iC a4,by simpa using a5⟩
 ·rw[M0] at hx
  have mem:∃ k,(x,k)∈wd sc scope.names/\(k=.cell\/k=.free):=by
   rcases hx with hx|hx
   ·exact⟨_,PySem.mem_of_lookup hx,.inl rfl⟩
   ·exact⟨_,PySem.mem_of_lookup hx,.inr rfl⟩
  obtain⟨k,hm,hk⟩:=mem
  have:=h7 _ hm
  rcases hk with rfl|rfl<;>simpa using this
def QD(sc scope:Scope):Scope:={ scope with names:=wd sc scope.names }
theorem aO.inC{X:Cx}(lI:X.env.scope=sc)(h:Ds (QD sc QF) scope N cn ix=true):aO (aJ X QF C N fp s H) scope tn cn ix :=
 aO.of (sc:=QD sc QF) (by
  show relabel QF X.env=QD sc QF
  unfold relabel QD wd
  rw[<- lI]
  rfl) rfl h
end L2
namespace L2.Q
open PySem PySem.Spec PyProof.Rows
section
variable {X:Cx}{K:PySem.W.Frag}
theorem C_(hc:X.calm=true)(hi:IU X K tg iter wi)(O:e_ X scope tn cn ix)
  (hg:∀ C fp ck cw,QG (aJ X scope C (tn++cn) fp ck cw) K tg g) (jI:∀ C fp ck cw,IX (aJ X scope C (tn++cn) fp ck cw) K ifs tc) (he:∀ C fp ck cw,QE (aJ X scope C (tn++cn) fp ck cw) K elt te)
  (hs:∀ x,foldedSetIterable iter X.env x=pure x:=by intro _;rfl):QE X K (.ListComp elt [⟨tg,iter,ifs,0⟩] scope pos) (cY wi g tc te tn.length ix) :=
 PE.imp (t_ hc hi O hg jI he hs) fun σ H Qv h=>jP h
def B_(m:Md)(d:D):Prop:=d.flat=true\/m=.sh
def fj(g:WG)(tc:WT)(te:WE):List D->Env->(List D->Prop)->Prop
 |[],_,k=>k []
 |x :: xs,ρ,k=>g x ρ fun iO=>tc iO fun b=>if b=true then te iO fun m d=>B_ m d/\fj g tc te xs iO (fun out=>k (d :: out)) else fj g tc te xs iO k
def uB(wi:WI)(g:WG)(tc:WT)(te:WE)(tn:Nat)(ix:List Nat):WE:=fun ρ Q=>wi ρ fun ds=>fj g tc te ds (uT tn ix ρ) fun out=>Q .bo (.list out)
structure jm(K:PySem.W.Frag)(H1:Hp)(b:Addr)(acc:List D)(ys:List V)(As:List Addr)(Hs:Hp)(ρ:Env)(τ:St)(H:Hp):Prop where
 sm:aT H1 Hs
 sr:dE K Hs ρ τ H []
 eD:H b=some (.lst ys)
 nD:Hs b=none
 ra:az K Hs H false acc ys As
 nd:(b :: As).Nodup
 own:∀ a∈As,Hs a=none
theorem jm.grow(c:jm K H1 b acc ys As Hs ρ τ H)(g:eJ Hs H av H'):jm K H1 b acc ys As av ρ τ H' :=
 ⟨c.sm.trans g.sh,c.sr.grow g,g.all _ _ c.eD,g.lP c.nD (by rw[c.eD];exact fun z=>nomatch z),c.ra.grow g.sh g.all,c.nd,fun a ha=>g.lP (c.own a ha) (c.ra.own a ha).ne⟩
theorem jm.push(c:jm K H1 b acc ys As Hs ρ τ H)(r:RM K Hs H m d v Bs)(ok:B_ m d)(nb:Bs.Nodup)(fb:∀ a∈Bs,Hs a=none/\a∉b :: As):∃ fh,jm K H1 b (acc++[d]) (ys++[v]) fh Hs ρ τ (upd H b (.lst (ys++[v]))):=by
 obtain⟨B,sb,rb⟩:∃ B,B.Sublist Bs/\bP K Hs H false d v B:=by
  rcases ok with hf|rfl
  ·exact⟨[],B3 _,.sh (fun _=>hf) (r.flat c.sr.wf hf)⟩
  ·exact⟨[],B3 _,.sh (fun z=>nomatch z) r.2⟩
 obtain⟨na,nA⟩:=iA.mp c.nd
 have Bi:=fun a ha=>fb a (sb.subset ha)
 refine⟨As++(B++[]),c.sm,⟨c.sr.sr.heap,tH c.sr.wf c.nD (fun _ z=>nomatch z),n5,fun a h=>nomatch h⟩,gX,c.nD,(c.ra.fq (H':=upd H b (.lst (ys++[v]))) (aT.refl _) fun a ha=>fm fun z=>na (by subst z;exact ha)).append (.cons (rb.fq (aT.refl _) fun a ha=>fm fun z=>(Bi a ha).2 (by subst z;exact bX)) .nil),?_,?_⟩
 ·rw[n4]
  refine iA.mpr ⟨fun m=>(dy.mp m).elim na fun m=>(Bi b m).2 bX,iS.mpr ⟨nA,sb.nodup nb,fun x hx y hy e=>(Bi y hy).2 (e ▸ b5 _ hx)⟩⟩
 ·rw[n4]
  exact fun a ha=>(dy.mp ha).elim (c.own a) fun m=>(Bi a m).1
theorem vK(h:mE K (uB wi g tc te tn ix) σ H Qv):p_ (Tf K wi) (Tc K g) (zt K tc) (mE K te) tn ix σ H Qv:=by
 obtain⟨Hs,ρ,ag,Q,sr,h,f⟩:=h
 rw[tL]
 refine⟨Hs,ρ,ag,_,sr,h,fun J H1 ax ds g1 S hz q1 b hb=>?_⟩
 have st:jm K H1 b [] [] [] H1 (uT tn ix ρ) (lH tn ix σ) (upd H1 b (.lst [])):=by
  refine⟨aT.refl _,⟨kO (iG (G:=H1) (sr.grow g1) _ ix) tn,⟨(aT.refl H1).upd hb,fun a xs e=>?_⟩,n5,fun a h=>nomatch h⟩,gX,hb,.nil,by simp,fun a h=>nomatch h⟩
  by_cases ha:a=b
  ·subst ha;rw[gX] at e;cases e
  ·rw[fm ha] at e;exact e
 refine⟨fun i m τ H2=>m=ds.length-i/\i<=ds.length/\∃ aw fe acc ys As,jm K H1 b acc ys As aw fe τ H2/\acc.length<=i/\fj g tc te (ds.drop i) fe (fun out=>Q .bo (.list (acc++out))),
  ⟨ds.length,by simp,eh _,H1,_,[],[],[],st,bT _,by simpa using q1⟩,?_⟩
 rintro i m τ H2 ⟨rfl,hi,aw,fe,acc,ys,As,c,la,q2⟩
 by_cases dc:i<ds.length
 ·refine .inr ⟨S.go i aw H2 c.sm c.sr.wf dc,
   fun uS v H4=>∃ Bn kf d,jm K H1 b acc ys As Bn kf uS H4/\(∃ fh,jm K H1 b (acc++[d]) (ys++[v]) fh Bn kf uS (upd H4 b (.lst (ys++[v]))))/\fj g tc te (ds.drop (i+1)) kf (fun out=>Q .bo (.list (acc++d :: out))),
   fun uS H3=>∃ dv yb,jm K H1 b acc ys As dv yb uS H3/\fj g tc te (ds.drop (i+1)) yb (fun out=>Q .bo (.list (acc++out))),?_,?_,?_⟩
  ·rintro uS v H4 ⟨Bn,kf,d,c4,⟨fh,c5⟩,q4⟩
   have Tg:=c4.ra.length
   exact⟨ys,ds.length-(i+1),c4.eD,by lia,by lia,rfl,dc,Bn,kf,acc++[d],ys++[v],fh,c5,by rw[pd];simpa using la,by simpa using q4⟩
  ·rintro uS H3 ⟨dv,yb,c3,q3⟩
   exact⟨ds.length-(i+1),by lia,rfl,dc,dv,yb,acc,ys,As,c3,by lia,q3⟩
  ·intro x H3 y
   obtain⟨dv,g3,rd⟩:=S.nh i aw H2 x H3 ds[i] c.sm c.sr.wf (by simp[dc]) y
   rw[vt dc] at q2
   have c3:=c.grow g3
   refine⟨dv,fe,[],ds[i],_,c3.sr,rd,q2,fun Ti kf NQ E6 m4 q4=>?_⟩
   have t4:NQ=[]:=UH.mpr fun a ha=>nomatch m4 a ha
   subst t4
   have c4:jm K H1 b acc ys As dv kf Ti H3:=⟨c3.sm,E6,c3.eD,c3.nD,c3.ra,c3.nd,c3.own⟩
   refine⟨dv,kf,[],_,E6,q4,fun k H5 mh g5 q5=>?_⟩
   have c5:=c4.grow g5
   cases k with
   |false=>exact⟨mh,kf,c5,q5⟩
   |true =>
    refine⟨mh,kf,[],_,c5.sr,q5,fun v H6 Tj m6 d6 As6 g6 r6 f6 q6=>?_⟩
    have c6:=c5.grow g6
    refine⟨Tj,kf,d6,c6,c6.push r6 q6.1 f6.1 fun a ha=>⟨(f6.2 a ha).1,fun m=>?_⟩,q6.2⟩
    rcases cy.mp m with rfl|m
    ·have:=(f6.2 _ ha).2
     rw[c5.eD] at this;cases this
    ·exact(c5.ra.own a m).ne (f6.2 a ha).2
 ·have e:i=ds.length:=by lia
  subst e
  refine .inl ⟨S.stop aw H2 c.sm c.sr.wf,?_⟩
  rw[OO] at q2
  have q2:Q .bo (.list (acc++[])):=q2
  rw[n4] at q2
  have Tg:=c.ra.length
  have rm:RM K aw H2 (.ow false) (.list acc) (.ref b) (b :: As):=⟨.list (by lia) c.eD c.ra,by simp⟩
  obtain⟨fh,r',fr⟩:=oO g1.wf c.sm c.sr.wf rm c.nd fun a ha=>(cy.mp ha).elim (fun z=>z ▸ c.nD) (c.own a)
  exact Fin.after f g1 (.ref b) H2 _ .bo (.list acc) fh (fC g1.wf c.sm c.sr.wf) r' fr q2
theorem Dt(hc:X.calm=true)(hi:IU X K tg iter wi)(O:aO X scope tn cn ix)
  (hg:∀ C fp ck cw,QG (bQ X scope C (tn++cn) fp ck cw) K tg g) (jI:∀ C fp ck cw,IX (bQ X scope C (tn++cn) fp ck cw) K ifs tc) (he:∀ C fp ck cw,QE (bQ X scope C (tn++cn) fp ck cw) K elt te)
  (hs:∀ x,foldedSetIterable iter X.env x=pure x:=by intro _;rfl):QE X K (.ListComp elt [⟨tg,iter,ifs,0⟩] scope pos) (uB wi g tc te tn.length ix) :=
 PE.imp (xT hc hi O hg jI he hs) fun σ H Qv h=>vK h
end
theorem jO(p:D->Bool)(f:D->D)(Iv:Env->Prop):∀ (xs:List D) (ρ:Env) (k:List D->Prop),Iv ρ ->
  (∀ x∈xs,∀ ρ,Iv ρ->∀ N1:Env->Prop,∀ N2:Env->D->Prop,(∀ bp,Iv bp->p x=false->N1 bp)->(∀ bp,Iv bp->p x=true->N2 bp (f x))->g x ρ fun iO=>tc iO fun b=>if b=true then te iO fun m d=>B_ m d/\N2 iO d else N1 iO) ->
  k ((xs.filter p).map f)->fj g tc te xs ρ k
 |[],_,k,_,_,h=>h
 |x :: xs,ρ,k,iv,hs,h=>by
  refine hs x bX ρ iv _ _ (fun bp Bz hp=>?_) (fun bp Bz hp=>?_)
  ·exact jO p f Iv xs bp k Bz (fun y hy=>hs y (b5 _ hy)) (by simpa[hp] using h)
  ·exact jO p f Iv xs bp _ Bz (fun y hy=>hs y (b5 _ hy)) (by simpa[hp] using h)
end L2.Q
namespace L2.Q.R
open PySem PySem.Spec PyProof.Rows L2.Q
theorem Ja:uB wi g tt te tn ix ρ Q=wi ρ fun ds=>fj g tt te ds (uT tn ix ρ) fun out=>Q .bo (.list out):=rfl
end L2.Q.R
namespace L2
open PySem PySem.Spec PyProof.Rows
section
variable {X:Cx}{o i value:Expr}{pos pos':Pos}{td ty tv:TE}
def JC(td ty tv:TE):TS:=fun D σ H=>tv σ H fun v H1=>td σ H1 fun x H2=>ty σ H2 fun y H3=>∃ a xs,∃ j:Int,x=.ref a/\y=.int j/\H3 a=some (.lst xs)/\0<=j/\j<xs.length/\D.nx σ (upd H3 a (.lst (xs.set j.toNat v)))
theorem zg(r:RelV v u)(h:Vals xs us)(k:Nat):Vals (xs.set k v) (us.set k u):=by
 induction h generalizing k with
 |nil=>exact .nil
 |cons a _ ih =>
  cases k with
  |zero=>exact .cons r ‹_›
  |succ k=>exact .cons a (ih k)
theorem De(ho:PE X o td)(hi:PE X i ty)(hv:PE X value tv)(hs:swapsWith value (some (.Subscript o i pos')) pos.line X.env=pure false) :
  PS X (.Assign [.Subscript o i pos'] value pos) (JC td ty tv):=by
 intro pins s σ H D I h
 refine wpAny_Assign_Subscript (cq (hv pins s σ H _ I h) fun r s1 cv=>L2.fP cv fun v H1 I1 rv q1=>cq (ho pins s1 σ H1 _ I1 q1) fun u s2 cv=>L2.fP cv fun x H2 I2 rx q2=>cq (hi pins s2 σ H2 _ I2 q2) fun iv s3 cK=>?_) hs
 obtain⟨y,H3,I3,ry,a,xs,j,ex,ey,g,h0,h1,q3⟩:=cK
 subst ex ey
 obtain rfl:u=Value.ref a:=rx
 obtain⟨t,rfl⟩:=ry
 obtain⟨z,its,n,r',hl,e⟩:=I3.MR g
 have I0:sizeLine<2 ^ 62:=by rw[sizeLine_eq];decide
 refine PySem.W.ki_setAt (n:=n) e h0 (by lia) (by rw[gi];lia) ?_
 exact⟨σ,_,I3.MQ (its':=its.set j.toNat r) (t':=s3.toks) g e (by simp) (zg rv r' _) (by simpa using z),q3⟩
def ea':V->List V->Hp->VK->Prop:=fun x vs H Q=>∃ l,∃ ns:List Int,∃ k:Int,x=.ref l/\vs=[.int k]/\H l=some (.lst (ns.map V.int))/\k∈ns/\Q .non (upd H l (.lst ((ns.erase k).map V.int)))
theorem yt{ns:List Int}:∀ {us:List Value},Vals (ns.map V.int) us->∃ ts:List Tok,us=(ns.zip ts).map (fun p=>Value.int p.1 p.2)/\ts.length=ns.length:=by
 induction ns with
 |nil=>intro us h;cases h;exact⟨[],rfl,rfl⟩
 |cons n ns ih =>
  intro us h
  cases h with
  |cons a b =>
   obtain⟨ts,rfl,e⟩:=ih b
   obtain⟨t,rfl⟩:=a
   exact⟨t :: ts,rfl,by simp[e]⟩
theorem vo(h:Vals xs us)(k:Nat):Vals (xs.eraseIdx k) (us.eraseIdx k):=by
 induction h generalizing k with
 |nil=>exact .nil
 |cons a b ih =>
  cases k with
  |zero=>exact b
  |succ k=>exact .cons a (ih k)
theorem pJ(ns:List Int)(k:Int):(ns.erase k)=ns.eraseIdx (ns.idxOf k):=by
 induction ns with
 |nil=>rfl
 |cons n ns ih =>
  rw[List.idxOf_cons]
  by_cases h:n=k
  ·subst h;simp
  ·have:(n == k)=false:=by simpa using h
   rw[List.erase_cons_tail (by simpa using h),this,ih]
   rfl
theorem fG(f:α->β)(l:List α)(k:Nat):(l.eraseIdx k).map f=(l.map f).eraseIdx k:=by
 induction l generalizing k with
 |nil=>rfl
 |cons x l ih =>
  cases k with
  |zero=>rfl
  |succ k=>simp[ih]
theorem GC:Pz X "list.remove" ea':=by
 intro pins s σ H x vs v us Q I rx rv h
 obtain⟨l,ns,k,rfl,rfl,hH,hk,q⟩:=h
 cases rx
 obtain⟨u,rfl,ru⟩:=rv.one
 obtain⟨t,rfl⟩:=ru
 obtain⟨z,its,n,r,hl,e⟩:=I.MR hH
 obtain⟨ts,ei,et⟩:=yt r
 have hlen:its.length=ns.length:=by rw[<- hl];simp
 have qa:=QN hk
 have at':∀ (m:Nat) (hm:m<its.length),∃ t',its[m]=Value.int (ns[m]'(by lia)) t':=fun m hm=>by
  subst ei
  simp
 have he:∀ y,y∈its.toArray->PySem.MeetsSeq.EqGives y (.int k t) (match y with|.int a _=>a == k|_=>false):=fun y hy=>by
  have hy:y∈its:=by simpa using hy
  obtain⟨m,hm,rfl⟩:=LD.mp hy
  obtain⟨t',e'⟩:=at' m hm
  rw[e']
  exact PySem.MeetsSeq.EqGives.int _ _ _ _
 refine call_meets F.slot_list_remove ⟨_,e,rfl⟩ F.entry_list_remove (F.args_list_remove_2 _ _) (PySem.MeetsSeq.list_remove l its.toArray n (.int k t) _ he (ns.idxOf k) (by rw[gi];lia) ?_ (fun m hm hj=>?_) (by rw[gi];lia)) ⟨e,?_⟩
 ·obtain⟨t',e'⟩:=at' (ns.idxOf k) (by lia)
  simp only[List.getElem_toArray]
  rw[e']
  simp[OL]
 ·obtain⟨t',e'⟩:=at' m (by rw[gi] at hm;exact hm)
  simp only[List.getElem_toArray]
  rw[e']
  have:=QY (p:=(· == k)) (xs:=ns) hj
  simpa using this
 ·refine⟨.non,_,I.MQ (its':=its.eraseIdx (ns.idxOf k)) hH e ?_ ?_ ?_,rfl,q⟩
  ·simp[Array.eraseIdxIfInBounds]
   lia
  ·rw[pJ,fG]
   exact vo r _
  ·have:=Q5 (l:=ns) (a:=k)
   rw[b4] at z ⊢
   lia
end
end L2
namespace L2.Q
open PySem PySem.Spec PyProof.Rows
section
variable {X:Cx}{K:PySem.W.Frag}{L:Str->Hp->Prop}{a b c e e2:Expr}{p:WP}{tk tv te:WE}{apos dk pos pos':Pos}
theorem az.put(r:bP K Hs H fl d v [])(k:Nat)(q:az K Hs H fl ds vs As):∃ Bs,Bs.Sublist As/\az K Hs H fl (ds.set k d) (vs.set k v) Bs:=by
 induction k generalizing ds vs As with
 |zero =>
  cases ds with
  |nil=>obtain⟨rfl,rfl⟩:=q.n0;exact⟨[],List.Sublist.refl _,q⟩
  |cons x ds =>
   obtain⟨u,us,A,B,rfl,rfl,_,q2⟩:=q.c
   exact⟨[]++B,oq _ _,az.cons r q2⟩
 |succ k ih =>
  cases ds with
  |nil=>obtain⟨rfl,rfl⟩:=q.n0;exact⟨[],List.Sublist.refl _,q⟩
  |cons x ds =>
   obtain⟨u,us,A,B,rfl,rfl,r1,q2⟩:=q.c
   obtain⟨Bs,sb,q3⟩:=ih q2
   exact⟨A++Bs,List.Sublist.append (List.Sublist.refl _) sb,az.cons r1 q3⟩
def Dq(p:WP)(tk tv:WE):WS:=fun E ρ=>tv ρ fun _ x=>p ρ fun fl d up=>tk ρ fun _ j=>x.flat=true/\R.JA d fun xs=>intD j fun j=>0<=j/\j<xs.length/\E.nx (up fl (.list (xs.set j.toNat x)))
theorem Ci(ho:QP X K a p)(hi:QE X K b tk)(hv:QE X K c tv)(hs:swapsWith c (some (.Subscript a b pos')) pos.line X.env=pure false:=by rfl) :
  QS X K L (.Assign [.Subscript a b pos'] c pos) (Dq p tk tv):=by
 refine PS.imp (De ho hi hv hs) fun D σ H hx=>dO hx fun Hs ρ ag E sr h k1 k2 k3 k4=>?_
 refine⟨Hs,ρ,ag,_,sr,h,fun v H1 ax m1 x As1 g1 r1 f1 q1=>⟨ax,ρ,ag,_,sr.grow g1,q1,fun u H2 aw fl d up g2 p2 q2=>⟨aw,ρ,ag,_,(sr.grow g1).grow g2,q2,fun y H3 dv m3 yd IY g3 r3 f3 q3=>?_⟩⟩⟩
 obtain⟨hx,q3⟩:=q3
 have rx:Rep K dv x v:=((r1.grow g2).grow g3).flat g3.wf hx
 have ry:=r3.rep g3.wf
 cases d with
 |list xs =>
  cases ry with
  |int j =>
   obtain⟨h0,h1,q3⟩:=q3
   obtain⟨a,vs,A,ea,e2,Qy,rs,nd,hn,k⟩:=p2.put g3
   obtain⟨nA,E8⟩:=iA.mp nd
   have hl:=rs.length
   have XB:=p2.short ea Qy
   obtain⟨B,sb,rb⟩:=az.put (bP.sh (fun _=>hx) rx) j.toNat rs
   refine⟨a,vs,j,ea,rfl,e2,h0,by lia,?_⟩
   obtain⟨dz,fT⟩:=k fl _ _ B id rb (by rw[List.length_set];lia) (sb.nodup E8) (fun z=>nA (sb.subset z)) (fun x hx=>.inl (sb.subset hx))
   exact k1 _ _ dv _ dz ((g1.sh.trans g2.sh).trans g3.sh) fT q3
  |_=>exact q3.elim
 |_=>exact q3.elim
def T9(p:WP)(te:WE):WS:=fun E ρ=>p ρ fun fl d up=>R.JA d fun xs=>te ρ fun _ x=>intD x fun k=>∃ ns:List Int,xs=ns.map .int/\k∈ns/\E.nx (up fl (.list ((ns.erase k).map .int)))
theorem Hn (ho:QP X K e p) (he:QE X K e2 te) (hK:X.K=K:=by rfl) (hs:swapsWith (.Call (.Attribute e "remove" apos) [e2] [] dk) none pos.line X.env=pure false:=by rfl)
  (rS:attributeBase e "remove" X.env (eval e X.env)=eval e X.env:=by rfl)
  (rV:((backTo dk (starEach [e2] X.env)).all (fun x=>!x.1) && (backToKw dk (keywordEach [] X.env)).all (fun x=>x.1.isSome)
   && decide ([e2].length+([]:List Keyword).length+(if ([]:List Keyword).isEmpty then 0 else 1)<30))=true:=by rfl)
  (hline:(apos.endLine == dk.line)=true:=by rfl) (tf:starEach (e2 :: []) X.env=(false,eval e2 X.env) :: starEach [] X.env:=by rfl) (xE:(backTo dk (starEach [] X.env)).any (·.1)=false:=by rfl) :
  QS X K L (.Expr (.Call (.Attribute e "remove" apos) [e2] [] dk) pos) (T9 p te):=by
 subst hK
 refine PS.imp (Pg (HC PySem.F.plainAttrs_list PySem.F.slot_list_remove PySem.F.type_list_remove GC ho (rh he vT tf) rS rV hline tf xE) hs) fun D σ H hx=>dO hx fun Hs ρ ag E sr h k1 k2 k3 k4=>?_
 refine⟨Hs,ρ,ag,_,sr,h,fun v H1 ax fl d up g1 p1 q1=>?_⟩
 cases d with
 |list xs =>
  obtain⟨a1,W6,e1,s1⟩:=p1.To g1.wf
  refine⟨by subst e1;exact .inl ⟨rfl,_,s1⟩,ax,ρ,ag,_,sr.grow g1,q1,fun w H2 aw m jd As g2 r2 f2 q2=>?_⟩
  have rj:=r2.rep g2.wf
  cases rj with
  |int k =>
   obtain⟨ns,ens,hk,q2⟩:=q2
   subst ens
   obtain⟨a,vs,A,ea,e2,Qy,rs,nd,hn,kk⟩:=p1.put g2
   have XB:=p1.short ea Qy
   obtain⟨nA,E8⟩:=iA.mp nd
   have ev:vs=ns.map V.int:=Ah (rs.reps g2.wf.sub fun _ _=>rfl)
   obtain⟨B,sb,rb⟩:=rs.erase (ns.idxOf k)
   refine⟨a,ns,k,ea,rfl,by rw[e2,ev],hk,?_⟩
   rw[ev,<- fG,<- fG,<- pJ] at rb
   obtain⟨dz,fT⟩:=kk fl _ _ B id rb (by have:=Q5 (l:=ns) (a:=k);rw[ev,b4] at XB;rw[b4];lia) (sb.nodup E8) (fun z=>nA (sb.subset z)) (fun x hx=>.inl (sb.subset hx))
   exact k1 _ _ aw _ dz (g1.sh.trans g2.sh) fT q2
  |_=>exact q2.elim
 |_=>exact q1.elim
end
end L2.Q
namespace L2.Q.R
open PySem PySem.Spec PyProof.Rows L2.Q
section
variable {tk tv te:WE}{ρ:L2.Q.Env}{E:nT}{p:WP}
theorem KD:Dq p tk tv E ρ=tv ρ fun _ x=>p ρ fun fl d up=>tk ρ fun _ j=>x.flat=true/\bS d (f:=fun d=>JA d fun xs=>bS j (f:=fun j=>intD j fun j=>0<=j/\j<xs.length/\E.nx (up fl (.list (xs.set j.toNat x)))) ⟨⟩) ⟨⟩:=rfl
theorem Mw:T9 p te E ρ=p ρ fun fl d up=>bS d (f:=fun d=>JA d fun xs=>te ρ fun _ x=>bS x (f:=fun x=>intD x fun k=>∃ ns:List Int,xs=ns.map .int/\k∈ns/\E.nx (up fl (.list ((ns.erase k).map .int)))) ⟨⟩) ⟨⟩:=rfl
end
end L2.Q.R
local macro_rules | `(tactic| walk_at "q") => do
 let nm (s:String):Lean.Ident:=Lean.mkIdent ((s.splitOn ".").foldl Lean.Name.mkStr .anonymous)
 let ds ← ("J7 Mp JW J1 Jz J5 Ln Ma JH Ia KN K8 J2 Ko Kd Kl M6 J0 JN JS Mt MK Km K6 Ke K3 Lg Nh Mv Lh MN La MJ Ly J4 Ku Lr Ms JM Ib LK K4 wB_ Lw Lb Mj cI' Lq MT Jp JD wC_ cK' cL' Kw Mq cM' Kh M9 Lp Nf Kz JF Jr Ir Ig Jc Iu JK Iw KR Kv Kc J3 KC Ka LR Li L_ K5 Kr Mf Mr M_ K9 Fo JQ Io HW Il Nb Lj Jo Ja KD Mw Fp Ng Mi M8 Nk LC Mh Mm Nm Ml Lk Mu MP Ks J8 KQ KH Kp Lz Jf Jv Jx cN' J9 Kg Lf Ni Nj K1 I_ Je cO' HR Ls JL MF Lx KY K_ Ih Kq Ji HX Ie H_ gN_ gT_ JV Ld KZ Kf JX Jl cT' M7 Ip Im Mx JZ JT K7 JG Ii JR KJ dJ' J_ JP".splitOn " ").toArray.mapM fun s=>`(Lean.Parser.Tactic.simpLemma| ↓$(nm ("L2.Q.R." ++ s)):ident)
 let us ← ("L2.Q.QC L2.Q.T8 L2.Q.cC' L2.Q.Oc L2.Q.Eu L2.Q.Ef L2.Q.zI L2.Q.IJ L2.Q.E4 L2.Q.DM L2.Q.jo L2.Q.NP L2.Q.NK L2.Q.NM L2.Q.mJ L2.Q.uT L2.Q.asg L2.Q.kP L2.Q.bh L2.Q.D.flat L2.Q.cx L2.Q.D.Qh L2.Q.D.ty L2.Q.Qe L2.Q.D.key1 L2.Q.eX L2.Q.Fx L2.Q.tY List.length_map List.map_cons List.map_nil List.length_cons List.length_nil List.replicate_succ List.replicate_zero List.cons_append List.nil_append List.append_nil List.getElem?_cons_zero List.getElem?_cons_succ List.getElem?_nil List.set_cons_zero List.set_cons_succ List.all_cons List.all_nil Option.some.injEq Option.join_some Option.map_some Option.map_none Nat.reduceAdd Nat.reduceSub true_and and_true Bool.and_true Bool.true_and Bool.and_false Bool.false_and Bool.not_true Bool.not_false Bool.false_eq_true if_true if_false decide_true decide_false reduceIte cond_true cond_false PySem.sizeLine_eq L2.Q.cD' L2.Q.cE' L2.Q.cF' L2.Q.di L2.Q.Hl L2.Q.empty_app Nat.zero_add exists_eq_left' Int.reduceLT Int.reduceLE Int.reducePow Int.reduceNeg Int.reduceToNat Int.reduceAdd Int.reduceMul Int.reduceSub Nat.reduceLeDiff Nat.reduceLT false_or or_false and_self L2.Mz".splitOn " ").toArray.mapM fun s=>`(Lean.Parser.Tactic.simpLemma| $(nm s):ident)
 let as:Lean.TSyntaxArray [`Lean.Parser.Tactic.simpStar,`Lean.Parser.Tactic.simpErase,`Lean.Parser.Tactic.simpLemma]:=(ds++us).map fun x=>⟨x.raw⟩
 `(tactic| simp -dsimp only [$as,*])
local macro_rules | `(tactic| walk_at "o") => `(tactic| repeat (refine And.intro (by first | omega | exact ⟨by omega, by omega⟩ | decide) ?_))
namespace L2.Q.T_
open PySem PySem.Spec PyProof.Rows
def isLet(c:Nat):Bool:=decide (97<=c/\c<=122)
abbrev abc:Str := "abcdefghijklmnopqrstuvwxyz"
theorem Ad:sg abc=(List.range 26).map (97 + ·):=by decide +kernel
theorem yR{i:Int}(h0:0<=i)(h1:i<26):∃ c,eW (sg abc) i=some c/\isLet c=true:=by
 refine⟨97+i.toNat,?_,?_⟩
 ·have:eW (sg abc) ((i.toNat:Nat):Int)=some (97+i.toNat):=He (by
   rw[Ad]
   have:i.toNat<26:=by lia
   simp[this])
  rwa[B7 h0] at this
 ·simp[isLet];lia
theorem sO(x:Int):∃ c,eW (sg abc) (x % 26)=some c/\isLet c=true:=yR (Int.emod_nonneg _ (by decide)) (Rj _ (by decide))
def lets(x:Str):Prop:=∀ c∈sg x,isLet c=true
def Open(x:Str):Prop:=1<=x.length/\x.length<=6/\lets x
def Oi (x:Str):Prop:=x = "*"\/Open x
theorem zR{x y:Str}(hx:lets x)(hy:lets y):lets (x++y):=fun c hc=>by
 rw[uh] at hc
 exact(dy.mp hc).elim (hx c) (hy c)
theorem z9{c:Nat}(h:isLet c=true):lets ⟨#[c]⟩:=fun d hd=>by
 have:d=c:=by simpa[sg] using hd
 rw[this];exact h
theorem iJ(c:Nat):(⟨#[c]⟩:Str).length=1:=rfl
theorem Oi.ok{x:Str}(h:Oi x):PyData.strOk x=true:=by
 rw[Dy]
 rcases h with rfl|h
 ·have:sg "*" = [42]:=by decide +kernel
  intro c hc
  rw[this] at hc
  have:c=42:=by simpa using hc
  lia
 ·intro c hc
  have:=h.2.2 c hc
  simp[isLet] at this
  lia
abbrev bG:=Int × Str × Int
def iq(s:bG):List Key:=[.inl s.1,.inr s.2.1,.inl s.2.2]
def gv(s:bG):D:=.tup [.int s.1,.str s.2.1,.int s.2.2]
def mD(many:Int)(steps:List bG):D:=.tup [.int many,.list (steps.map gv)]
theorem qK:∀ (l:List bG),cx (l.map gv)=true
 |[]=>rfl
 |x :: l=>by simp[cx,qK l,gv,D.flat]
def DZ(many:Int)(s:bG):Prop:=0<=s.1/\s.1<many/\Oi s.2.1/\0<=s.2.2/\s.2.2<many
theorem FQ{many:Int}{s:bG}(n:Nat)(h:DZ many s):cf (n+1) (gv s)=true:=by
 have:=h.2.2.1.ok
 simp[cf,gv,this]
theorem E_{many:Int}{l:List bG}(n:Nat)(h:∀ s∈l,DZ many s):cf (n+2) (.list (l.map gv))=true:=by
 simp only[cf,FT,AI]
 intro s hs
 exact FQ n (h s hs)
theorem XC{many:Int}{l:List bG}(n:Nat)(h:∀ s∈l,DZ many s):cf (n+3) (mD many l)=true:=by
 have h2:=E_ n h
 show(cf (n+2) (.int many) && (cf (n+2) (.list (l.map gv)) && true))=true
 rw[h2]
 rfl
theorem xF:∀ (l:List bG),oB (l.map gv)=true
 |[]=>rfl
 |x :: l=>by simp[oB,xF l,gv,D.nb]
theorem ec'(many:Int)(l:List bG):(mD many l).nb=true:=by simp[mD,D.nb,oB,xF]
theorem eq_self{x:D}(h:x.nb=true):fI x x=true:=(fc x x h h).mpr rfl
def b9(s t:bG):Bool:=ft (iq s) (iq t)
theorem rR{P:bG->Prop}:∀ {ks:List (List Key)},(∀ k∈ks,∃ s,k=iq s/\P s)->∃ l:List bG,ks=l.map iq/\∀ s∈l,P s
 |[],_=>⟨[],rfl,fun s h=>nomatch h⟩
 |k :: ks,h=>by
  obtain⟨s,rfl,p⟩:=h k bX
  obtain⟨l,rfl,q⟩:=rR fun k hk=>h k (b5 _ hk)
  refine⟨s :: l,rfl,fun t ht=>?_⟩
  rcases cy.mp ht with rfl|ht
  ·exact p
  ·exact q t ht
abbrev Kn:=List (List Key × D)
def tI(P:bG->Prop)(kvs:Kn):Prop:=(∀ p∈kvs,∃ s,p.1=iq s/\P s)/\(kvs.map (·.1)).Nodup
theorem xu{κ β:Type}[DecidableEq κ](kvs:List (κ × β))(k:κ)(v:β):(kD kvs k v).map (·.1)=if k∈kvs.map (·.1) then kvs.map (·.1) else kvs.map (·.1)++[k]:=by
 unfold kD
 by_cases h:k∈kvs.map (·.1)
 ·have:(kvs.any fun kv=>decide (kv.1=k))=true:=by
   obtain⟨p,hp,e⟩:=cc.mp h
   exact LM.mpr ⟨p,hp,decide_eq_true e⟩
  rw[if_pos this,if_pos h,fA]
  apply D3
  intro p _
  show(if p.1=k then (p.1,v) else p).1=p.1
  split<;>rfl
 ·have:¬ (kvs.any fun kv=>decide (kv.1=k))=true:=by
   intro z
   obtain⟨p,hp,e⟩:=LM.mp z
   exact h (cc.mpr ⟨p,hp,of_decide_eq_true e⟩)
  rw[if_neg this,if_neg h,AO]
  rfl
theorem tI.put{P:bG->Prop}{kvs:Kn}{s:bG}{d:D}(h:tI P kvs)(hs:P s):tI P (kD kvs (iq s) d):=by
 refine⟨fun p hp=>?_,?_⟩
 ·rcases nZ hp with e|e
  ·exact⟨s,e,hs⟩
  ·obtain⟨q,hq,e⟩:=cc.mp e
   rw[<- e]
   exact h.1 q hq
 ·rw[xu]
  split
  ·exact h.2
  ·rename_i hn
   exact iS.mpr ⟨h.2,by simp,fun a ha b hb e=>by
    have:b=iq s:=by simpa using hb
    subst this;subst e;exact hn ha⟩
theorem tI.nil{P:bG->Prop}:tI P []:=⟨(fun p hp=>nomatch hp),n5⟩
theorem tI.sorted{P:bG->Prop}{kvs:Kn}(h:tI P kvs){Q:Md->D->Prop}(k:∀ steps:List bG,(steps.map iq).Perm (kvs.map (·.1))->(∀ s∈steps,P s)->steps.Pairwise (fun a b=>b9 a b=true)->steps.length=kvs.length->Q (.ow true) (.list (steps.map gv))) :
  Fx (.ow true) (.list (kvs.map fun kv=>.tup (kv.1.map lT))) Q:=by
 refine⟨kvs.map (·.1),[false,true],by rw[fA];rfl,fun k hk=>?_,fun ms pm pw=>?_⟩
 ·obtain⟨p,hp,rfl⟩:=cc.mp hk
  obtain⟨s,e,_⟩:=h.1 p hp
  rw[e];rfl
 ·obtain⟨l,rfl,hl⟩:=rR (P:=P) (ks:=ms) fun k hk=>by
   obtain⟨p,hp,e⟩:=cc.mp (pm.mem_iff.mp hk)
   rw[<- e]
   exact h.1 p hp
  have e:(l.map iq).map oj=l.map gv:=by rw[fA];rfl
  rw[e]
  refine k l pm hl ?_ (by have:=pm.length_eq;simpa using this)
  have nd:(l.map iq).Nodup:=pm.nodup_iff.mpr h.2
  rw[ki] at pw
  have Oj:l.Pairwise fun a b=>iq a≠iq b:=by
   rw[List.Nodup,ki] at nd
   exact nd
  refine(pw.and Oj).imp fun {a b} ⟨h1,h2⟩=>?_
  unfold b9
  cases h3:ft (iq a) (iq b) with
  |true=>rfl
  |false=>exact absurd (jK (a:=iq a) (b:=iq b) rfl h3 h1) h2
theorem jT:∀ (l:List Str),cx (l.map D.str)=true
 |[]=>rfl
 |x :: l=>by simp[cx,jT l,D.flat]
theorem qb:∀ (l:List Int),cx (l.map D.int)=true
 |[]=>rfl
 |x :: l=>by simp[cx,qb l,D.flat]
theorem zM(l:List Str)(x:Str):l.map D.str++[D.str x]=(l++[x]).map D.str:=by simp
theorem bx{n i:Nat}{lo:Int}{x:D}(h:(qj lo n)[i]? = some x):i<n/\x=.int (lo+(i:Nat)):=by
 unfold qj at h
 rw[nc] at h
 by_cases hi:i<n
 ·rw[List.getElem?_range hi] at h
  exact⟨hi,(Option.some.inj h).symm⟩
 ·rw[sM (by simpa using hi)] at h
  cases h
theorem bf(lo:Int)(n:Nat):(qj lo n).length=n:=by simp[qj]
theorem xq{names:List Str}{i:Int}(h0:0<=i)(h1:i<names.length):∃ n,n∈names/\eW (names.map D.str) i=some (.str n):=by
 have hn:i.toNat<names.length:=by lia
 refine⟨names[i.toNat],AK hn,?_⟩
 have:=He (xs:=names.map D.str) (j:=i.toNat) (v:=.str names[i.toNat]) (by simp[hn])
 rwa[B7 h0] at this
theorem zP{n d:Nat}{k:Int}(h0:0<=k)(h1:k<=n):HT.bI n d (some k)=k.toNat:=by
 simp only[HT.bI]
 rw[if_neg (by lia)]
 lia
theorem aW{α:Type}[DecidableEq α]:∀ {l m:List α},l.Nodup->(∀ x∈l,x∈m)->l.length<=m.length
 |[],_,_,_=>eh _
 |x :: l,m,nd,h=>by
  obtain⟨hx,nd⟩:=iA.mp nd
  have hm:=h x bX
  have:=aW (l:=l) (m:=m.erase x) nd fun y hy=>(List.mem_erase_of_ne (fun e=>by subst e;exact hx hy)).mpr (h y (b5 _ hy))
  rw[List.length_erase_of_mem hm] at this
  have:=QV hm
  simp only[pe]
  lia
def eQ(n:Nat):List Int:=(List.range n).map fun i=>((i:Nat):Int)
theorem gf(n:Nat):(eQ n).length=n:=by simp[eQ]
theorem gj{n:Nat}{x:Int}:x∈eQ n↔0<=x/\x<n:=by
 unfold eQ
 rw[cc]
 constructor
 ·rintro⟨i,hi,rfl⟩
  have:=qB.mp hi
  lia
 ·intro ⟨h0,h1⟩
  exact⟨x.toNat,qB.mpr (by lia),by lia⟩
theorem sH:∀ {l m:List Int},l.Pairwise (· < ·)->m.Pairwise (· < ·)->(∀ x,x∈l↔x∈m)->l=m
 |[],[],_,_,_=>rfl
 |[],y :: m,_,_,h=>absurd ((h y).mpr bX) (by simp)
 |x :: l,[],_,_,h=>absurd ((h x).mp bX) (by simp)
 |x :: l,y :: m,hl,hm,h=>by
  obtain⟨a1,a2⟩:=FL.mp hl
  obtain⟨b1,b2⟩:=FL.mp hm
  have e:x=y:=by
   rcases cy.mp ((h x).mp bX) with e|e
   ·exact e
   ·rcases cy.mp ((h y).mpr bX) with e'|e'
    ·exact e'.symm
    ·have:=b1 x e;have:=a1 y e';lia
  subst e
  rw[sH a2 b2 fun z=>⟨fun hz=>by
   rcases cy.mp ((h z).mp (b5 _ hz)) with e|e
   ·subst e;exact absurd (a1 z hz) (by lia)
   ·exact e,fun hz=>by
   rcases cy.mp ((h z).mpr (b5 _ hz)) with e|e
   ·subst e;exact absurd (b1 z hz) (by lia)
   ·exact e⟩]
theorem h_{l:List Int}(h:l.Pairwise (· < ·)):l.Nodup:=h.imp fun h=>by lia
def fo(many:Int)(steps:List bG):Prop:=∀ s∈steps,DZ many s
def sA(ks:List Int):List (Key × D):=ks.map fun x=>(.inl x,.bl true)
theorem il(ks:List Int):(sA ks).map (·.1)=ks.map fun x=>(Sum.inl x:Key):=by simp[sA,fA,Function.comp_def]
theorem jt(ks:List Int):(sA ks).length=ks.length:=by simp[sA]
theorem cV{ks:List Int}{x:Int}:((Sum.inl x:Key)∈ks.map fun x=>(Sum.inl x:Key))↔x∈ks:=by
 rw[cc]
 exact⟨fun⟨y,hy,e⟩=>by cases e;exact hy,fun h=>⟨x,h,rfl⟩⟩
def insI(ks:List Int)(x:Int):List Int:=if x∈ks then ks else ks++[x]
theorem rK{κ β:Type}[DecidableEq κ]{kvs:List (κ × β)}{k:κ}:(kvs.any fun kv=>decide (kv.1=k))=true↔k∈kvs.map (·.1):=by
 rw[LM,cc]
 exact⟨fun⟨p,hp,e⟩=>⟨p,hp,of_decide_eq_true e⟩,fun⟨p,hp,e⟩=>⟨p,hp,decide_eq_true e⟩⟩
theorem yj(ks:List Int)(x:Int):kD (sA ks) (.inl x) (.bl true)=sA (insI ks x):=by
 unfold kD insI
 by_cases h:x∈ks
 ·rw[if_pos h,if_pos (rK.mpr (by rw[il];exact cV.mpr h))]
  unfold sA
  rw[fA]
  apply D3
  intro y _
  show(if (Sum.inl y:Key)=Sum.inl x then ((Sum.inl y:Key),D.bl true) else (.inl y,.bl true))=_
  split<;>rfl
 ·rw[if_neg h,if_neg (fun z=>h (cV.mp (by rw[<- il];exact rK.mp z)))]
  simp[sA]
theorem qW{κ β:Type}[DecidableEq κ]:∀ {kvs:List (κ × β)} {k:κ},(fv kvs k).isSome=true↔k∈kvs.map (·.1)
 |[],k=>by simp[fv]
 |p :: kvs,k=>by
  have ih:=qW (kvs:=kvs) (k:=k)
  rw[fi,cy]
  by_cases h:p.1=k
  ·subst h;simp[fv]
  ·have:fv (p :: kvs) k=fv kvs k:=by simp[fv,h]
   rw[this,ih]
   exact⟨.inr,fun z=>z.elim (fun e=>absurd e.symm h) id⟩
theorem get_set(ks:List Int)(x:Int):(fv (sA ks) (.inl x)).isSome=decide (x∈ks):=by
 rw[xk,qW,il,cV,decide_eq_true_iff]
theorem uL{ks:List Int}{x y:Int}:y∈insI ks x↔y∈ks\/y=x:=by
 unfold insI
 split
 ·rename_i h;exact⟨.inl,fun z=>z.elim id fun e=>by subst e;exact h⟩
 ·simp
theorem vd{ks:List Int}{x:Int}(h:ks.Nodup):(insI ks x).Nodup:=by
 unfold insI
 split
 ·exact h
 ·rename_i hx
  exact iS.mpr ⟨h,by simp,fun a ha b hb e=>by
   have:b=x:=by simpa using hb
   subst this;subst e;exact hx ha⟩
inductive Reach(steps:List bG):Int->Prop
 |zero:Reach steps 0
 |step {s:bG}:Reach steps s.1->s∈steps->Reach steps s.2.2
theorem Reach.lt{many:Int}{steps:List bG}(h:fo many steps)(hm:1<=many){x:Int}(r:Reach steps x):0<=x/\x<many:=by
 cases r with
 |zero=>lia
 |step r hs=>exact⟨(h _ hs).2.2.2.1,(h _ hs).2.2.2.2⟩
def oP(ms:List Int):List (Key × D):=ms.mapIdx fun k x=>(.inl x,.int k)
theorem pK(ms:List Int):(oP ms).map (·.1)=ms.map fun x=>(Sum.inl x:Key):=by
 apply AG
 intro i
 simp[oP,List.getElem?_mapIdx]
 cases ms[i]?<;>rfl
theorem yf(ms:List Int)(x:Int):oP (ms++[x])=oP ms++[(.inl x,.int ms.length)]:=by simp[oP,List.mapIdx_append]
theorem Fg{ms:List Int}{x:Int}(h:x∉ms):kD (oP ms) (.inl x) (.int ms.length)=oP (ms++[x]):=by
 unfold kD
 rw[if_neg (fun z=>h (cV.mp (by rw[<- pK];exact rK.mp z))),yf]
theorem zb(ms:List Int):(oP ms).length=ms.length:=by simp[oP]
def QH(ms:List Int)(x:Int):Int:=(ms.idxOf x:Nat)
theorem yE:∀ (l ms:List Int) {x:Int},x∈ms->(l++ms).Nodup->fv (ms.mapIdx fun k y=>((Sum.inl y:Key),D.int ((l.length+k:Nat):Int))) (.inl x)=some (.int ((l.length+ms.idxOf x:Nat):Int))
 |_,[],_,h,_=>nomatch h
 |l,y :: ms,x,h,nd=>by
  rw[List.mapIdx_cons]
  by_cases e:y=x
  ·subst e
   simp[fv]
  ·have hx:x∈ms:=by
    rcases cy.mp h with z|z
    ·exact absurd z.symm e
    ·exact z
   have ih:=yE (l++[y]) ms hx (by simpa using nd)
   have:∀ (v:D) (r:List (Key × D)),fv (((Sum.inl y:Key),v) :: r) (.inl x)=fv r (.inl x):=fun v r=>by
    simp[fv,e]
   rw[this]
   rw[List.idxOf_cons]
   have hb:(y == x)=false:=by simpa using e
   rw[hb]
   simp only[cond_false]
   simp only[pd,OJ] at ih
   rw[show(fun(k:Nat) (y':Int)=>((Sum.inl y':Key),D.int ((l.length+(k+1):Nat):Int)))=fun k y'=>((Sum.inl y':Key),D.int ((l.length+1+k:Nat):Int)) by funext k y';rw[show l.length+(k+1)=l.length+1+k by lia]]
   rw[ih]
   rw[show l.length+1+ms.idxOf x=l.length+(ms.idxOf x+1) by lia]
theorem Fq{ms:List Int}{x:Int}(h:x∈ms)(nd:ms.Nodup):fv (oP ms) (.inl x)=some (.int (QH ms x)):=by
 have:=yE [] ms h (by simpa using nd)
 simpa[oP,QH] using this
theorem vW(ms:List Int)(x:Int):(fv (oP ms) (.inl x)).isSome=decide (x∈ms):=by
 rw[xk,qW,pK,cV,decide_eq_true_iff]
structure Met(steps:List bG)(ms:List Int):Prop where
 up:ms.Pairwise (· < ·)
 mem:∀ x,x∈ms↔Reach steps x
theorem Met.uniq{steps:List bG}{l m:List Int}(a:Met steps l)(b:Met steps m):l=m:=sH a.up b.up fun x=>(a.mem x).trans (b.mem x).symm
theorem Met.zero{steps:List bG}{ms:List Int}(a:Met steps ms):0∈ms:=(a.mem 0).mpr .zero
theorem Met.len{many:Int}{steps:List bG}{ms:List Int}(a:Met steps ms)(h:fo many steps)(hm:1<=many):1<=ms.length/\(ms.length:Int)<=many:=by
 refine⟨QV a.zero,?_⟩
 have:=aW (m:=eQ many.toNat) (h_ a.up) fun x hx=>by
  have:=((a.mem x).mp hx).lt h hm
  exact gj.mpr (by lia)
 rw[gf] at this
 lia
theorem sZ{steps:List bG}{i:Nat}{x:D}(h:(steps.map gv)[i]? = some x):∃ p d r,x=.tup [.int p,.str d,.int r]/\(p,d,r)∈steps/\steps.take (i+1)=steps.take i++[(p,d,r)]:=by
 rw[nc] at h
 cases e:steps[i]? with
 |none=>rw[e] at h;cases h
 |some s =>
  rw[e] at h
  cases h
  obtain⟨p,d,r⟩:=s
  exact⟨p,d,r,rfl,nX e,by rw[B1,e];rfl⟩
theorem gC{l:List Int}{i:Int}(h0:0<=i)(h1:i<l.length):∃ c,c∈l/\eW (l.map D.int) i=some (.int c):=by
 have hn:i.toNat<l.length:=by lia
 refine⟨l[i.toNat],AK hn,?_⟩
 have:=He (xs:=l.map D.int) (j:=i.toNat) (v:=.int l[i.toNat]) (by simp[hn])
 rwa[B7 h0] at this
theorem Bj(x:Int){m:Int}(h:0<m):0<=x % m/\x % m<m:=⟨Int.emod_nonneg _ (by lia),Rj _ h⟩
theorem bj{a b:Int}(h0:-1000<=b)(h1:b<=10000000000):y6 a b:=.inr ⟨by lia,by lia⟩
theorem iD{a b:Int}(h0:-1000<=a)(h1:a<=10000000000):y6 a b:=.inl ⟨by lia,by lia⟩
theorem iW:∀ l:List Nat,sg (Str.join "" (l.map fun c=>(⟨#[c]⟩:Str)))=l
 |[]=>by decide +kernel
 |[c]=>rfl
 |c :: d :: l=>by
  have ih:=iW (d :: l)
  show sg ((⟨#[c]⟩:Str) ++ "" ++ Str.join "" ((d :: l).map fun c=>(⟨#[c]⟩:Str)))=_
  rw[uh,uh,ih,show sg ("" : Str)=[] by decide +kernel]
  rfl
theorem uz:∀ l:List Nat,(l.map fun _=>1).sum=l.length
 |[]=>rfl
 |x :: l=>by simp[uz l];lia
theorem mH:∀ (l:List Str),jo (l.map D.str)=some l
 |[]=>rfl
 |x :: l=>by simp[jo,mH l]
def sC(n:Nat)(out:List D):Prop:=∃ cs:List Nat,out=cs.map (fun c=>D.str ⟨#[c]⟩)/\cs.length=n/\∀ c∈cs,isLet c=true
theorem sC.nil:sC 0 []:=⟨[],rfl,rfl,fun c hc=>nomatch hc⟩
theorem sC.push{n:Nat}{out:List D}{c:Nat}(h:sC n out)(hc:isLet c=true):sC (n+1) (out++[.str ⟨#[c]⟩]):=by
 obtain⟨cs,rfl,hl,ha⟩:=h
 refine⟨cs++[c],by simp,by simp[hl],fun d hd=>?_⟩
 rcases dy.mp hd with hd|hd
 ·exact ha d hd
 ·rw[kU.mp hd];exact hc
theorem sC.join{n:Nat}{out:List D}(h:sC n out)(hn:n<=100) :
  ∃ zs,jo out=some zs/\(zs.map (·.length)).sum+zs.length*(Str.ofString "").length<=16777216/\(Str.join "" zs).length=n/\lets (Str.join "" zs):=by
 obtain⟨cs,rfl,hl,ha⟩:=h
 refine⟨cs.map fun c=>⟨#[c]⟩,?_,?_,?_⟩
 ·rw[<- mH,fA];rfl
 ·rw[show(Str.ofString "").length=0 by decide,fA,Nat.mul_zero,GB]
  show(cs.map fun _=>1).sum<=_
  rw[uz];lia
 ·have hw:=iW cs
  generalize Str.join "" (cs.map fun c=>(⟨#[c]⟩:Str))=word at hw ⊢
  refine⟨?_,fun c hc=>ha c (by rwa[hw] at hc)⟩
  have:(sg word).length=n:=by rw[hw,hl]
  rw[<- this];unfold sg Str.length;simp
theorem zc(l:List Str)(lo hi:Option Int):om (l.map D.str) lo hi=(om l lo hi).map D.str:=by
 unfold om
 rw[b4,List.map_take,List.map_drop]
theorem Hm{α:Type}{l:List α}{a b:Int}(h0:0<=a)(h1:a<b)(h2:a<l.length):1<=(om l (some a) (some b)).length/\(om l (some a) (some b)).length<=l.length/\∀ x∈om l (some a) (some b),x∈l:=by
 have e:HT.bI l.length 0 (some a)=a.toNat:=zP h0 (by lia)
 have e2:a.toNat<HT.bI l.length l.length (some b):=by
  simp only[HT.bI]
  rw[if_neg (by lia)]
  lia
 unfold om
 rw[e,mr,AH]
 exact⟨by lia,by lia,fun x hx=>Q0 (LB hx)⟩
theorem tI.CN{P:bG->Prop}{kvs:Kn}(h:tI P kvs){R:List (List Key)->Prop}(k:∀ steps:List bG,(steps.map iq).Perm (kvs.map (·.1))->(∀ s∈steps,P s)->steps.Pairwise (fun a b=>b9 a b=true)->steps.length=kvs.length->R (steps.map iq)) :
  ∃ b0 sh,(∀ p∈kvs,gu p.1=b0 :: sh)/\∀ ms:List (List Key),ms.Perm (kvs.map (·.1))->(ms.Pairwise fun a b=>ft b a=false)->R ms:=by
 refine⟨true,[false,true],fun p hp=>?_,fun ms pm pw=>?_⟩
 ·obtain⟨s,e,_⟩:=h.1 p hp
  rw[e];rfl
 ·obtain⟨l,rfl,hl⟩:=rR (P:=P) (ks:=ms) fun k hk=>by
   obtain⟨p,hp,e⟩:=cc.mp (pm.mem_iff.mp hk)
   rw[<- e]
   exact h.1 p hp
  refine k l pm hl ?_ (by have:=pm.length_eq;simpa using this)
  have nd:(l.map iq).Nodup:=pm.nodup_iff.mpr h.2
  rw[ki] at pw
  have Oj:l.Pairwise fun a b=>iq a≠iq b:=by
   rw[List.Nodup,ki] at nd
   exact nd
  refine(pw.and Oj).imp fun {a b} ⟨h1,h2⟩=>?_
  unfold b9
  cases h3:ft (iq a) (iq b) with
  |true=>rfl
  |false=>exact absurd (jK (a:=iq a) (b:=iq b) rfl h3 h1) h2
theorem uR(l:List bG):(l.map iq).map oj=l.map gv:=by rw[fA];rfl
theorem yW{one states j copies:Int}(h0:0<=one)(h1:one<states)(hj:0<=j)(JJ:j<copies):0<=one+states*j/\one+states*j<copies*states:=by
 have a:=Int.mul_le_mul_of_nonneg_left (show j+1<=copies by lia) (show 0<=states by lia)
 rw[Int.mul_add,Int.mul_one,Int.mul_comm states copies] at a
 have b:=Int.mul_nonneg (show 0<=states by lia) hj
 lia
abbrev Pr:=Str × Int
abbrev Ky:=Int × List Pr
def oQ(p:Pr):List Key:=[.inr p.1,.inl p.2]
def kF(p:Pr):D:=.tup [.str p.1,.int p.2]
def dP(k:Ky):D:=.tup [.int k.1,.list (k.2.map kF)]
def Ap(r:List Int):D:=.list (r.map .int)
def iP(a b:Ky):Bool:=PySem.SeqAt.b9 3 (dP a).py (dP b).py
def kg(k:Ky):Prop:=∀ p∈k.2,PyData.strOk p.1=true
theorem Dn(k:Ky):(dP k).py=.tuple [.int k.1,.list (k.2.map L2.lE)]:=by
 show PyData.tuple [.int k.1,.list (kN (k.2.map kF))]=_
 rw[iV,fA]
 rfl
theorem kg.qk{k:Ky}(h:kg k):L2.qk (dP k).py:=⟨k.1,k.2,Dn k,h⟩
theorem fV(a:Ky)(h:kg a):iP a a=false:=L2.Oh.ag.oI _ h.qk
theorem uq{a b c:Ky}(ha:kg a)(hb:kg b)(hc:kg c):iP a b=true->iP b c=true->iP a c=true:=L2.Oh.ag.tr _ _ _ ha.qk hb.qk hc.qk
theorem Cj{p q:Pr}(h:kF p=kF q):p=q:=by
 obtain⟨a,b⟩:=p
 obtain⟨c,d⟩:=q
 simp[kF] at h
 rw[h.1,h.2]
theorem Dj{p q:Pr}(h:oQ p=oQ q):p=q:=by
 obtain⟨a,b⟩:=p
 obtain⟨c,d⟩:=q
 simp[oQ] at h
 rw[h.1,h.2]
theorem map_inj{α β:Type}{f:α->β}(hf:∀ a b,f a=f b->a=b):∀ {l m:List α},l.map f=m.map f->l=m
 |[],[],_=>rfl
 |[],_ :: _,h=>by simp at h
 |_ :: _,[],h=>by simp at h
 |x :: l,y :: m,h=>by
  simp only[fi,List.cons.injEq] at h
  rw[hf _ _ h.1,map_inj hf h.2]
theorem xV{a b:Ky}(h:dP a=dP b):a=b:=by
 simp only[dP,D.tup.injEq,List.cons.injEq,D.int.injEq,D.list.injEq] at h
 exact Prod.ext h.1 (map_inj (fun _ _=>Cj) h.2.1)
theorem Bx:∀ l:List Pr,oB (l.map kF)=true
 |[]=>rfl
 |x :: l=>by simp[oB,Bx l,kF,D.nb]
theorem HQ(k:Ky):(dP k).nb=true:=by simp[dP,D.nb,oB,Bx]
theorem vf(a b:Ky):fI (dP a) (dP b)=decide (a=b):=by
 rw[xk,fc _ _ (HQ a) (HQ b),decide_eq_true_iff]
 exact⟨xV,fun e=>by rw[e]⟩
theorem yO{a b:Ky}(ha:kg a)(hb:kg b)(h1:iP a b=false)(h2:iP b a=false):a=b:=by
 have e:=L2.Oh.ag.ag _ _ ha.qk hb.qk h1 h2
 have:fI (dP a) (dP b)=fI (dP a) (dP a):=by unfold fI;rw[e]
 rw[vf,vf] at this
 simpa using this
theorem Du{a b:Ky}(h:a.1<b.1):iP a b=true:=by
 unfold iP
 rw[Dn,Dn,PySem.SeqAt.b9,PySem.SeqAt.mN]
 have:PyData.eqv (.int a.1) (.int b.1)=false:=by
  have:a.1≠b.1:=by lia
  simpa[PyData.eqv] using this
 rw[this,if_neg gy,PySem.SeqAt.b9]
 exact decide_eq_true h
theorem rP{k:Ky}(h:kg k)(n:Nat):cf (n+3) (dP k)=true:=by
 have:∀ p∈k.2.map kF,cf (n+1) p=true:=fun d hd=>by
  obtain⟨p,hp,rfl⟩:=cc.mp hd
  simp[kF,cf,h p hp]
 simp only[dP,cf,AQ,List.all_nil,O1,Bool.true_and,AI]
 exact this
theorem yl{l:List Ky}(h:∀ k∈l,kg k)(n:Nat):cf (n+4) (.list (l.map dP))=true:=by
 simp only[cf,FT,AI]
 exact fun k hk=>rP (h k hk) n
theorem Bu(l:List Ky)(k:Ky):BG (l.map dP) (dP k)=decide (k∈l):=by
 unfold BG
 rw[List.any_map,xk,LM,decide_eq_true_iff]
 constructor
 ·rintro⟨j,hj,e⟩
  have e:fI (dP j) (dP k)=true:=e
  rw[vf,decide_eq_true_iff] at e
  rwa[<- e]
 ·exact fun hk=>⟨k,hk,by show fI (dP k) (dP k)=true;rw[vf];exact decide_eq_true rfl⟩
theorem q_:∀ l:List Int,oB (l.map D.int)=true
 |[]=>rfl
 |x :: l=>by simp[oB,q_ l,D.nb]
theorem JB(a b:List Int):fI (.list (a.map .int)) (.list (b.map .int))=decide (a=b):=by
 rw[xk,fc _ _ (by simp[D.nb,q_]) (by simp[D.nb,q_]),decide_eq_true_iff]
 refine⟨fun h=>map_inj (f:=D.int) (fun _ _=>D.int.inj) (D.list.inj h),fun e=>by rw[e]⟩
theorem sU(l:List Int)(n:Nat):cf (n+1) (.list (l.map .int))=true:=by
 simp[cf,FT]
theorem Ol{α β:Type}{f:β->α}{P:β->Prop}:∀ {ks:List α},(∀ k∈ks,∃ s,k=f s/\P s)->∃ l:List β,ks=l.map f/\∀ s∈l,P s
 |[],_=>⟨[],rfl,fun s h=>nomatch h⟩
 |k :: ks,h=>by
  obtain⟨s,rfl,p⟩:=h k bX
  obtain⟨l,rfl,q⟩:=Ol fun k hk=>h k (b5 _ hk)
  refine⟨s :: l,rfl,fun t ht=>?_⟩
  rcases cy.mp ht with rfl|ht
  ·exact p
  ·exact q t ht
theorem n6{α:Type}{lt:α->α->Prop}:∀ {l m:List α},(∀ a∈l,∀ b∈l,lt a b->lt b a->False)->l.Pairwise lt->m.Pairwise lt->(∀ x,x∈l↔x∈m)->l=m
 |[],[],_,_,_,_=>rfl
 |[],y :: m,_,_,_,h=>absurd ((h y).mpr bX) (by simp)
 |x :: l,[],_,_,_,h=>absurd ((h x).mp bX) (by simp)
 |x :: l,y :: m,as,hl,hm,h=>by
  obtain⟨a1,a2⟩:=FL.mp hl
  obtain⟨b1,b2⟩:=FL.mp hm
  have e:x=y:=by
   rcases cy.mp ((h x).mp bX) with e|e
   ·exact e
   ·rcases cy.mp ((h y).mpr bX) with e'|e'
    ·exact e'.symm
    ·exact(as x bX y (b5 _ e') (a1 y e') (b1 x e)).elim
  subst e
  have oI:¬ lt x x:=fun z=>as x bX x bX z z
  rw[n6 (fun a ha b hb=>as a (b5 _ ha) b (b5 _ hb)) a2 b2 fun z=>⟨fun hz=>by
   rcases cy.mp ((h z).mp (b5 _ hz)) with e|e
   ·subst e;exact absurd (a1 z hz) oI
   ·exact e,fun hz=>by
   rcases cy.mp ((h z).mpr (b5 _ hz)) with e|e
   ·subst e;exact absurd (b1 z hz) oI
   ·exact e⟩]
def rk(aE:List Int)(s:Int):Int:=aE.getD s.toNat 0
structure vk(steps:List bG)(aE:List Int)(s:Int)(k:Ky):Prop where
 fst:k.1=rk aE s
 up:k.2.Pairwise fun a b=>ft (oQ a) (oQ b)=true
 mem:∀ p,p∈k.2↔∃ t∈steps,t.1=s/\p=(t.2.1,rk aE t.2.2)
theorem vk.uniq{steps:List bG}{aE:List Int}{s:Int}{k j:Ky}(a:vk steps aE s k)(b:vk steps aE s j):k=j:=by
 have h2:k.2=j.2:=n6 (fun x _ y _ h1 h2=>by have:=tQ h1 h2;rw[qZ] at this;cases this) a.up b.up fun p=>(a.mem p).trans (b.mem p).symm
 exact Prod.ext (a.fst.trans b.fst.symm) h2
theorem vk.ok{many:Int}{steps:List bG}{aE:List Int}{s:Int}{k:Ky}(a:vk steps aE s k)(h:fo many steps):kg k:=fun p hp=>by
 obtain⟨t,ht,_,rfl⟩:=(a.mem p).mp hp
 exact(h t ht).2.2.1.ok
structure qo(many:Int)(steps:List bG)(aE r:List Int)(ky:Int->Ky)(diff:List Ky):Prop where
 len:r.length=many.toNat
 key:∀ s,0<=s->s<many->vk steps aE s (ky s)
 up:diff.Pairwise fun a b=>iP a b=true
 mem:∀ k,k∈diff↔∃ s,(0<=s/\s<many)/\k=ky s
 pos:∀ s,0<=s->s<many->0<=rk r s/\diff[(rk r s).toNat]? = some (ky s)
def RB(many:Int)(steps:List bG)(aE r:List Int):Prop:=∃ ky diff,qo many steps aE r ky diff
section
variable {many:Int}{steps:List bG}{aE r r2:List Int}{ky XD:Int->Ky}{diff XE:List Ky}
theorem qo.ok(h:qo many steps aE r ky diff)(aS:fo many steps){k:Ky}(hk:k∈diff):kg k:=by
 obtain⟨s,hs,rfl⟩:=(h.mem k).mp hk
 exact(h.key s hs.1 hs.2).ok aS
theorem qo.as(h:qo many steps aE r ky diff)(aS:fo many steps):∀ a∈diff,∀ b∈diff,iP a b=true->iP b a=true->False:=fun a ha b hb h1 h2=>by
 have:=uq (h.ok aS ha) (h.ok aS hb) (h.ok aS ha) h1 h2
 rw[fV a (h.ok aS ha)] at this
 cases this
theorem BW{l m:List Int}(hl:l.length=many.toNat)(hm:m.length=many.toNat)(h:∀ s,0<=s->s<many->rk l s=rk m s):l=m:=by
 apply List.ext_getElem (by lia)
 intro i h1 h2
 have:=h (i:Nat) (by lia) (by lia)
 unfold rk at this
 simpa[List.getD,h1,h2] using this
theorem qo.inj(h:qo many steps aE r ky diff)(aS:fo many steps){i j:Nat}{k:Ky}(hi:diff[i]? = some k)(hj:diff[j]? = some k):i=j:=by
 obtain⟨kz,hU⟩:=i7.mp hi
 obtain⟨Ic,JJ⟩:=i7.mp hj
 have hk:k∈diff:=nX hi
 have oI:=fV k (h.ok aS hk)
 have pw:=xa.mp h.up
 rcases Nat.lt_trichotomy i j with e|e|e
 ·have:=pw i j kz Ic e
  rw[hU,JJ,oI] at this;cases this
 ·exact e
 ·have:=pw j i Ic kz e
  rw[hU,JJ,oI] at this;cases this
theorem qo.same(h:qo many steps aE r ky diff)(h2:qo many steps aE r2 XD XE)(aS:fo many steps):r=r2:=by
 have ek:∀ s,0<=s->s<many->ky s=XD s:=fun s a b=>(h.key s a b).uniq (h2.key s a b)
 have ed:diff=XE:=n6 (h.as aS) h.up h2.up fun k=>by
  rw[h.mem,h2.mem]
  exact⟨fun⟨s,a,e⟩=>⟨s,a,e.trans (ek s a.1 a.2)⟩,fun⟨s,a,e⟩=>⟨s,a,e.trans (ek s a.1 a.2).symm⟩⟩
 subst ed
 refine BW h.len h2.len fun s a b=>?_
 have p1:=h.pos s a b
 have p2:=h2.pos s a b
 rw[<- ek s a b] at p2
 have:=h.inj aS p1.2 p2.2
 lia
theorem RB.uniq(h:RB many steps aE r)(h2:RB many steps aE r2)(aS:fo many steps):r=r2:=by
 obtain⟨_,_,h⟩:=h
 obtain⟨_,_,h2⟩:=h2
 exact h.same h2 aS
theorem qo.Gk(h:qo many steps aE r ky diff){s t:Int}(hs:0<=s/\s<many)(ht:0<=t/\t<many)(e:rk r s=rk r t):ky s=ky t:=by
 have p1:=(h.pos s hs.1 hs.2).2
 have p2:=(h.pos t ht.1 ht.2).2
 rw[e,p2] at p1
 exact(Option.some.inj p1).symm
theorem qo.lt(h:qo many steps aE r ky diff)(aS:fo many steps){s t:Int}(hs:0<=s/\s<many)(ht:0<=t/\t<many):rk r s<rk r t↔iP (ky s) (ky t)=true:=by
 have p1:=h.pos s hs.1 hs.2
 have p2:=h.pos t ht.1 ht.2
 have k1:=h.ok aS (nX p1.2)
 have k2:=h.ok aS (nX p2.2)
 obtain⟨a1,a2⟩:=i7.mp p1.2
 obtain⟨b1,b2⟩:=i7.mp p2.2
 have pw:=xa.mp h.up
 constructor
 ·intro l
  have:=pw _ _ a1 b1 (by lia)
  rwa[a2,b2] at this
 ·intro l
  by_cases z:rk r t<rk r s
  ·have:=pw _ _ b1 a1 (by lia)
   rw[a2,b2] at this
   have:=uq k1 k2 k1 l this
   rw[fV _ k1] at this;cases this
  ·by_cases z2:rk r s=rk r t
   ·have:=h.Gk hs ht z2
    rw[this,fV _ k2] at l;cases l
   ·lia
theorem RB.mono(h:RB many steps aE r)(aS:fo many steps){s t:Int}(hs:0<=s/\s<many)(ht:0<=t/\t<many)(l:rk aE s<rk aE t):rk r s<rk r t:=by
 obtain⟨ky,diff,h⟩:=h
 refine(h.lt aS hs ht).mpr (Du ?_)
 rw[(h.key s hs.1 hs.2).fst,(h.key t ht.1 ht.2).fst]
 exact l
def pF(many:Int)(r:List Int):Prop:=r.length=many.toNat/\(∀ s,0<=s->s<many->0<=rk r s/\rk r s<many)/\∀ s,0<=s->s<many->0<rk r s->∃ t,(0<=t/\t<many)/\rk r t=rk r s-1
theorem qo.short(h:qo many steps aE r ky diff)(aS:fo many steps):diff.length<=many.toNat:=by
 have nd:diff.Nodup:=by
  rw[KL]
  have:=xa.mp h.up
  rw[xa]
  intro i j hi hj hX e
  have z:=this i j hi hj hX
  rw[e,fV _ (h.ok aS (AK hj))] at z
  cases z
 have:=aW (m:=(eQ many.toNat).map ky) nd fun k hk=>by
  obtain⟨s,hs,rfl⟩:=(h.mem k).mp hk
  exact cc.mpr ⟨s,gj.mpr (by lia),rfl⟩
 rwa[b4,gf] at this
theorem RB.wM(h:RB many steps aE r)(aS:fo many steps):pF many r:=by
 obtain⟨ky,diff,h⟩:=h
 have sh:=h.short aS
 refine⟨h.len,fun s a b=>?_,fun s a b c=>?_⟩
 ·have p:=h.pos s a b
  have:=(i7.mp p.2).1
  lia
 ·have p:=h.pos s a b
  have l:=(i7.mp p.2).1
  have l2:(rk r s-1).toNat<diff.length:=by lia
  obtain⟨t,ht,e⟩:=(h.mem _).mp (AK l2)
  have p2:=h.pos t ht.1 ht.2
  have:=h.inj aS p2.2 (i7.mpr ⟨l2,e⟩)
  exact⟨t,ht,by lia⟩
theorem RB.grows(h:RB many steps aE r)(aS:fo many steps)(d:pF many aE):∀ (n:Nat) (s:Int),0<=s->s<many->rk aE s=n->rk aE s<=rk r s
 |0,s,a,b,e=>by rw[e];exact((h.wM aS).2.1 s a b).1
 |n+1,s,a,b,e=>by
  obtain⟨t,ht,et⟩:=d.2.2 s a b (by lia)
  have:=RB.grows h aS d n t ht.1 ht.2 (by lia)
  have:=h.mono aS ht ⟨a,b⟩ (by lia)
  lia
theorem RB.le(h:RB many steps aE r)(aS:fo many steps)(d:pF many aE){s:Int}(a:0<=s)(b:s<many):rk aE s<=rk r s :=
 h.grows aS d (rk aE s).toNat s a b (by have:=(d.2.1 s a b).1;lia)
end
theorem Ax:∀ {l m:List Int},l.length=m.length->(∀ (i:Nat) (h1:i<l.length) (h2:i<m.length),l[i]<=m[i])->l.sum<=m.sum/\(l≠m->l.sum<m.sum)
 |[],[],_,_=>⟨by simp,fun h=>absurd rfl h⟩
 |[],y :: m,h,_=>by simp at h
 |x :: l,[],h,_=>by simp at h
 |x :: l,y :: m,h,hl=>by
  have ih:=Ax (l:=l) (m:=m) (by simpa using h) fun i h1 h2=>by
   have:=hl (i+1) (by simp;lia) (by simp;lia)
   simpa using this
  have h0:x<=y:=by have:=hl 0 (by simp) (by simp);simpa using this
  simp only[List.sum_cons]
  refine⟨by have:=ih.1;lia,fun ne=>?_⟩
  by_cases e:x=y
  ·subst e
   have:l≠m:=fun z=>ne (by rw[z])
   have:=ih.2 this
   lia
  ·have:=ih.1
   lia
theorem sum_bound{l:List Int}{b:Int}(h:∀ x∈l,x<=b)(hb:0<=b):l.sum<=l.length*b:=by
 induction l with
 |nil=>simp
 |cons x l ih =>
  have:=ih fun y hy=>h y (b5 _ hy)
  have:=h x bX
  simp only[List.sum_cons,pe]
  have e:((l.length+1:Nat):Int)*b=l.length*b+b:=by rw[Int.natCast_add,Int.add_mul];simp
  lia
theorem Dc{r:List Int}{i:Nat}(h:i<r.length):r[i]=rk r i:=by simp[rk,List.getD,h]
theorem RB.sum{many:Int}{steps:List bG}{aE r:List Int}(h:RB many steps aE r)(aS:fo many steps)(d:pF many aE)(hm:0<=many)(ne:r≠aE):aE.sum<r.sum/\r.sum<=many*many:=by
 have d2:=h.wM aS
 have hl:=d.1
 have wc:=d2.1
 refine⟨(Ax (by lia) fun i h1 h2=>?_).2 fun e=>ne e.symm,?_⟩
 ·rw[Dc h1,Dc h2]
  exact h.le aS d (by lia) (by lia)
 ·have:=sum_bound (l:=r) (b:=many) (fun x hx=>by
   obtain⟨i,hi,rfl⟩:=LD.mp hx
   rw[Dc hi]
   have:=(d2.2.1 i (by lia) (by lia)).2
   lia) hm
  rwa[wc,B7 hm] at this
def Chain(many:Int)(steps:List bG):List Int->List (List Int)->Prop
 |cur,[]=>RB many steps cur cur
 |cur,kR :: rest=>RB many steps cur kR/\kR≠cur/\Chain many steps kR rest
theorem Chain.uniq{many:Int}{steps:List bG}(aS:fo many steps):∀ {cur:List Int} {a b:List (List Int)},Chain many steps cur a->Chain many steps cur b->a=b
 |_,[],[],_,_=>rfl
 |_,[],y :: b,h,g=>absurd (g.1.uniq h aS) g.2.1
 |_,x :: a,[],h,g=>absurd (h.1.uniq g aS) h.2.1
 |_,x :: a,y :: b,h,g=>by
  have:=h.1.uniq g.1 aS
  subst this
  rw[Chain.uniq aS h.2.2 g.2.2]
def gW(cur:List Int)(rest:List (List Int)):List Int:=(cur :: rest).getLast (by simp)
theorem vy(cur kR:List Int)(rest:List (List Int)):gW cur (kR :: rest)=gW kR rest:=by simp[gW]
theorem Chain.last{many:Int}{steps:List bG}:∀ {cur:List Int} {rest:List (List Int)},Chain many steps cur rest->RB many steps (gW cur rest) (gW cur rest)
 |_,[],h=>h
 |cur,kR :: rest,h=>by rw[vy];exact h.2.2.last
def zeros(many:Int):List Int:=List.replicate many.toNat 0
theorem oK(many s:Int):rk (zeros many) s=0:=by
 unfold rk zeros
 by_cases h:s.toNat<many.toNat
 ·simp[List.getD,h]
 ·rw[List.getD,sM (by simpa using h)];rfl
theorem jX{many:Int}(h:1<=many):pF many (zeros many) :=
 ⟨by simp[zeros],fun s _ _=>by rw[oK];lia,fun s _ _ z=>by rw[oK] at z;lia⟩
def Kinds(many:Int)(steps:List bG)(k:List Int):Prop:=∃ rest,Chain many steps (zeros many) rest/\k=gW (zeros many) rest
theorem Kinds.uniq{many:Int}{steps:List bG}(aS:fo many steps){k l:List Int}(h:Kinds many steps k)(g:Kinds many steps l):k=l:=by
 obtain⟨a,ha,rfl⟩:=h
 obtain⟨b,hb,rfl⟩:=g
 rw[ha.uniq aS hb]
theorem Kinds.fq{many:Int}{steps:List bG}{k:List Int}(h:Kinds many steps k):RB many steps k k:=by
 obtain⟨a,ha,rfl⟩:=h
 exact ha.last
theorem Kinds.len{many:Int}{steps:List bG}{k:List Int}(h:Kinds many steps k):k.length=many.toNat:=by
 obtain⟨ky,diff,r⟩:=h.fq
 exact r.len
theorem uG{ps:List Pr}(hl:ps.length<=1000){m:Md}{Q:Md->D->Prop}(k:∀ l:List Pr,l.Pairwise (fun a b=>ft (oQ a) (oQ b)=true)->(∀ p,p∈l↔p∈ps)->Q (.ow true) (.list (l.map kF))) :
  d_ m (.list (ps.map kF)) Q:=by
 refine⟨ps.map oQ,[true],by rw[fA];rfl,by rw[b4];exact hl,fun k hk=>?_,fun ms nd mm pw=>?_⟩
 ·obtain⟨p,_,rfl⟩:=cc.mp hk
  rfl
 ·obtain⟨l,rfl,hp⟩:=Ol (f:=oQ) (P:=fun p=>p∈ps) (ks:=ms) fun k hk=>by
   obtain⟨p,hp,e⟩:=cc.mp ((mm k).mp hk)
   exact⟨p,e.symm,hp⟩
  have e:(l.map oQ).map oj=l.map kF:=by rw[fA];rfl
  rw[e]
  refine k l ?_ fun p=>⟨hp p,fun g9=>?_⟩
  ·rw[ki] at pw
   have Oj:l.Pairwise fun a b=>oQ a≠oQ b:=by
    rw[List.Nodup,ki] at nd
    exact nd
   refine(pw.and Oj).imp fun {a b} ⟨h1,h2⟩=>?_
   cases h3:ft (oQ a) (oQ b) with
   |true=>rfl
   |false=>exact absurd (jK (a:=oQ a) (b:=oQ b) rfl h3 h1) h2
  ·obtain⟨q,hq,e⟩:=cc.mp ((mm (oQ p)).mpr (cc.mpr ⟨p,g9,rfl⟩))
   rw[<- Dj e]
   exact hq
def mP(steps:List bG)(s:Int):List Pr:=(steps.filter fun t=>decide (t.1=s)).map (·.2)
def oS(many:Int)(steps:List bG):List D:=(eQ many.toNat).map fun s=>.list ((mP steps s).map kF)
def JY(many:Int)(steps:List bG):D:=.list (oS many steps)
theorem Bt(many:Int):((qj 0 many.toNat).filter fun _=>true).map (fun _=>D.list [])=oS many []:=by
 unfold oS qj eQ
 rw[D4.mpr fun _ _=>rfl,fA,fA]
 rfl
theorem za{many s:Int}(steps:List bG)(h0:0<=s)(h1:s<many):(oS many steps)[s.toNat]? = some (.list ((mP steps s).map kF)):=by
 have:s.toNat<many.toNat:=by lia
 simp[oS,eQ,this,B7 h0]
theorem mq(many:Int)(steps:List bG):(oS many steps).length=many.toNat:=by simp[oS,eQ]
theorem ug{n:Nat}{i:Int}(h0:0<=i)(h1:i<n):ll n i=some i.toNat:=by unfold ll;rw[if_pos h0,if_pos h1]
theorem Ag(steps:List bG)(p:Int)(d:Str)(r s:Int):mP (steps++[(p,d,r)]) s=if p=s then mP steps s++[(d,r)] else mP steps s:=by
 unfold mP
 by_cases h:p=s
 ·simp[h]
 ·simp[h]
theorem BV{many p:Int}(steps:List bG)(d:Str)(r:Int)(h0:0<=p)(h1:p<many):(oS many steps).set p.toNat (.list ((mP steps p).map kF++[.tup [.str d,.int r]]))=oS many (steps++[(p,d,r)]):=by
 apply AG
 intro i
 by_cases hi:i<many.toNat
 ·have e:∀ st,(oS many st)[i]? = some (.list ((mP st (i:Nat)).map kF)):=fun st=>by
   have:=za (many:=many) (s:=(i:Nat)) st (by lia) (by lia)
   simpa using this
  rw[e,Ag]
  by_cases hp:p=(i:Nat)
  ·subst hp
   rw[if_pos rfl]
   simp[mq,hi,kF]
  ·rw[if_neg hp,Lv (by lia),e]
 ·rw[sM (by rw[List.length_set,mq];lia),sM (by rw[mq];lia)]
theorem Hc{many s:Int}(steps:List bG)(h0:0<=s)(h1:s<many):eW (oS many steps) s=some (.list ((mP steps s).map kF)) :=
 yw (ug h0 (by rw[mq];lia)) (za steps h0 h1)
theorem qe{many s:Int}{r:List Int}(hl:r.length=many.toNat)(h0:0<=s)(h1:s<many):eW (r.map D.int) s=some (.int (rk r s)):=by
 have h:s.toNat<r.length:=by lia
 refine yw (ug h0 (by rw[b4];lia)) ?_
 simp[rk,List.getD,h]
theorem rH{steps:List bG}{s:Int}{p:Pr}(h:p∈mP steps s):∃ t∈steps,t.1=s/\t.2=p:=by
 obtain⟨t,ht,e⟩:=cc.mp h
 obtain⟨ht,hs⟩:=xi.mp ht
 exact⟨t,ht,of_decide_eq_true hs,e⟩
theorem xR{steps:List bG}{t:bG}(h:t∈steps):t.2∈mP steps t.1:=cc.mpr ⟨t,xi.mpr ⟨h,decide_eq_true rfl⟩,rfl⟩
theorem mX(steps:List bG)(s:Int):(mP steps s).length<=steps.length:=by
 unfold mP
 rw[b4]
 exact List.length_filter_le _ _
theorem qw(many:Int):(List.replicate many.toNat [D.int 0]).flatten=(zeros many).map D.int:=by
 unfold zeros
 generalize many.toNat=n
 induction n with
 |zero=>rfl
 |succ n ih=>rw[yy,AF,ih,yy];rfl
theorem xM:∀ {l:List Ky},l.Nodup->(∀ k∈l,kg k)->∃ d:List Ky,d.Pairwise (fun a b=>iP a b=true)/\∀ k,k∈d↔k∈l
 |[],_,_=>⟨[],.nil,fun k=>Iff.rfl⟩
 |x :: l,nd,ok=>by
  obtain⟨hx,nd⟩:=iA.mp nd
  obtain⟨d,pw,mem⟩:=xM nd fun k hk=>ok k (b5 _ hk)
  have FG:=ok x bX
  have qq:∀ k∈d,kg k:=fun k hk=>ok k (b5 _ ((mem k).mp hk))
  refine⟨d.filter (fun a=>iP a x)++x :: d.filter (fun a=>iP x a),?_,fun k=>?_⟩
  ·refine FK.mpr ⟨pw.filter _,FL.mpr ⟨fun b hb=>(xi.mp hb).2,pw.filter _⟩,fun a ha b hb=>?_⟩
   obtain⟨ha1,XF⟩:=xi.mp ha
   rcases cy.mp hb with rfl|hb
   ·exact XF
   ·obtain⟨hb1,hb2⟩:=xi.mp hb
    exact uq (qq a ha1) FG (qq b hb1) XF hb2
  ·rw[dy,cy,xi,xi,cy,<- mem]
   constructor
   ·rintro(h|h|h)
    ·exact .inr h.1
    ·exact .inl h
    ·exact .inr h.1
   ·rintro(rfl|h)
    ·exact .inr (.inl rfl)
    ·cases h1:iP k x with
     |true=>exact .inl ⟨h,rfl⟩
     |false =>
      cases h2:iP x k with
      |true=>exact .inr (.inr ⟨h,rfl⟩)
      |false=>exact .inr (.inl (yO (qq k h) FG h1 h2))
theorem pB:∀ {d:List Ky},(∀ k∈d,kg k)->d.Pairwise (fun a b=>iP a b=true)->∀ (i:Nat) (k:Ky),d[i]? = some k->d.countP (fun a=>iP a k)=i
 |[],_,_,i,k,h=>by simp at h
 |x :: d,ok,pw,i,k,h=>by
  obtain⟨p1,p2⟩:=FL.mp pw
  have qq:∀ k∈d,kg k:=fun k hk=>ok k (b5 _ hk)
  have FG:=ok x bX
  cases i with
  |zero =>
   cases h
   rw[FP,fV _ FG]
   have:d.countP (fun a=>iP a x)=0:=List.countP_eq_zero.mpr fun a ha z=>by
    have:=uq FG (qq a ha) FG (p1 a ha) z
    rw[fV _ FG] at this
    cases this
   rw[this]
   rfl
  |succ i =>
   have h:d[i]? = some k:=by simpa using h
   rw[FP,pB qq p2 i k h,p1 k (nX h)]
   rfl
theorem wQ{d:List Ky}(ok:∀ k∈d,kg k)(pw:d.Pairwise (fun a b=>iP a b=true)):d.Nodup:=by
 rw[KL]
 have:=xa.mp pw
 rw[xa]
 intro i j hi hj hX e
 have z:=this i j hi hj hX
 rw[e,fV _ (ok _ (AK hj))] at z
 cases z
theorem RB.zH{many:Int}{steps:List bG}{aE r:List Int}(aS:fo many steps)(ky:Int->Ky)(js:List Ky)(nd:js.Nodup)(mem:∀ k,k∈js↔∃ s,(0<=s/\s<many)/\k=ky s)(hl:r.length=many.toNat)
  (hk:∀ s,0<=s->s<many->vk steps aE s (ky s)) (hr:∀ s,0<=s->s<many->rk r s=(js.countP fun d=>iP d (ky s):Nat)):RB many steps aE r:=by
 have ok:∀ k∈js,kg k:=fun k gV=>by
  obtain⟨s,hs,rfl⟩:=(mem k).mp gV
  exact(hk s hs.1 hs.2).ok aS
 obtain⟨d,pw,md⟩:=xM nd ok
 have qq:∀ k∈d,kg k:=fun k gV=>ok k ((md k).mp gV)
 have pm:d.Perm js:=(List.perm_ext_iff_of_nodup (wQ qq pw) nd).mpr md
 refine⟨ky,d,hl,hk,pw,fun k=>(md k).trans (mem k),fun s a b=>?_⟩
 have BH:ky s∈d:=(md _).mpr ((mem _).mpr ⟨s,⟨a,b⟩,rfl⟩)
 obtain⟨i,hi⟩:=BU.mp BH
 have:=pB qq pw i _ hi
 rw[pm.countP_eq] at this
 rw[hr s a b,this]
 exact⟨by lia,by simpa using hi⟩
theorem RB.len{many:Int}{steps:List bG}{aE r:List Int}(h:RB many steps aE r):r.length=many.toNat:=by
 obtain⟨ky,diff,h⟩:=h
 exact h.len
theorem RB.top{many:Int}{steps:List bG}{aE r:List Int}(h:RB many steps aE r)(aS:fo many steps)(d:pF many aE){s0:Int}(hs0:0<=s0/\s0<many)(hM:∀ s,0<=s->s<many->rk r s<=rk aE s0):r=aE:=by
 have A:∀ (n:Nat) (j:Int),rk aE s0-j=n->0<=j->∃ u,(0<=u/\u<many)/\rk aE u=j:=by
  intro n
  induction n with
  |zero=>exact fun j e _=>⟨s0,hs0,by lia⟩
  |succ n ih =>
   intro j e hj
   obtain⟨u,hu,eu⟩:=ih (j+1) (by lia) (by lia)
   obtain⟨t,ht,et⟩:=d.2.2 u hu.1 hu.2 (by lia)
   exact⟨t,ht,by lia⟩
 have B:∀ (n:Nat) (s:Int),0<=s->s<many->rk aE s0-rk aE s=n->rk r s<=rk aE s:=by
  intro n
  induction n with
  |zero=>exact fun s a b e=>by have:=hM s a b;lia
  |succ n ih =>
   intro s a b e
   obtain⟨u,hu,eu⟩:=A n (rk aE s+1) (by lia) (by have:=(d.2.1 s a b).1;lia)
   have:=h.mono aS ⟨a,b⟩ hu (by lia)
   have:=ih u hu.1 hu.2 (by lia)
   lia
 refine BW h.len d.1 fun s a b=>?_
 have h1:=h.le aS d a b
 have h2:=hM s a b
 have:=B (rk aE s0-rk aE s).toNat s a b (by lia)
 lia
theorem xK(f:Int->Int):∀ n:Nat,1<=n->∃ s0:Int,(0<=s0/\s0<n)/\∀ s:Int,0<=s->s<n->f s<=f s0
 |0,h=>by lia
 |1,_=>⟨0,by lia,fun s a b=>by
  have e:s=0:=by lia
  rw[e]
  exact pj _⟩
 |n+2,_=>by
  obtain⟨s0,h0,hm⟩:=xK f (n+1) (by lia)
  by_cases z:f s0<=f (n+1:Nat)
  ·refine⟨(n+1:Nat),by lia,fun s a b=>?_⟩
   by_cases e:s<(n+1:Nat)
   ·have:=hm s a e;lia
   ·have:s=(n+1:Nat):=by lia
    subst this;exact pj _
  ·refine⟨s0,by lia,fun s a b=>?_⟩
   by_cases e:s<(n+1:Nat)
   ·exact hm s a e
   ·have:s=(n+1:Nat):=by lia
    subst this;lia
def og(many:Int)(steps:List bG)(i:Nat)(aE:List Int):Prop:=Kinds many steps aE\/∃ pre,(∀ rest,Chain many steps aE rest->Chain many steps (zeros many) (pre++rest))/\gW (zeros many) pre=aE/\pF many aE/\∃ s,(0<=s/\s<many)/\(i:Int)<=rk aE s
theorem og.zero{many:Int}{steps:List bG}(h:1<=many):og many steps 0 (zeros many):=.inr ⟨[],fun _ hc=>hc,rfl,jX h,0,by lia,by rw[oK];lia⟩
theorem rZ(cur kR:List Int)(pre:List (List Int)):gW cur (pre++[kR])=kR:=by
 unfold gW
 rw[List.getLast_cons (by simp),List.getLast_concat]
theorem og.next{many:Int}{steps:List bG}{i:Nat}{aE r:List Int}(h:og many steps i aE)(aS:fo many steps)(hm:1<=many)(b:RB many steps aE r):og many steps (i+1) r:=by
 rcases h with k|⟨pre,hc,hl,d,s,hs,hi⟩
 ·have:=b.uniq k.fq aS
  subst this
  exact .inl k
 ·by_cases e:r=aE
  ·subst e
   have:=hc [] b
   rw[n4] at this
   exact .inl ⟨pre,this,hl.symm⟩
  ·refine .inr ⟨pre++[r],fun rest hr=>?_,rZ _ _ _,b.wM aS,?_⟩
   ·have:=hc (r :: rest) ⟨b,e,hr⟩
    simpa using this
   ·obtain⟨s0,h0,hmx⟩:=xK (rk aE) many.toNat (by lia)
    apply Classical.byContradiction
    intro no
    refine e (b.top aS d (s0:=s0) (by lia) fun t a c=>?_)
    have h1:=hmx s hs.1 (by lia)
    apply Classical.byContradiction
    intro z
    exact no ⟨t,⟨a,c⟩,by lia⟩
theorem og.done{many:Int}{steps:List bG}{aE:List Int}(h:og many steps many.toNat aE):Kinds many steps aE:=by
 rcases h with k|⟨pre,hc,hl,d,s,hs,hi⟩
 ·exact k
 ·have:=(d.2.1 s hs.1 hs.2).2
  lia
theorem og.len{many:Int}{steps:List bG}{i:Nat}{aE:List Int}(h:og many steps i aE):aE.length=many.toNat:=by
 rcases h with k|⟨pre,hc,hl,d,s,hs,hi⟩
 ·exact k.len
 ·exact d.1
def BI(aE:List Int)(t:bG):bG:=(t.1,t.2.1,rk aE t.2.2)
theorem Fy(steps:List bG)(aE:List Int)(s:Int)(p:Pr):p∈mP (steps.map (BI aE)) s↔∃ t∈steps,t.1=s/\p=(t.2.1,rk aE t.2.2):=by
 constructor
 ·intro h
  obtain⟨u,hu,e1,e2⟩:=rH h
  obtain⟨t,ht,rfl⟩:=cc.mp hu
  exact⟨t,ht,e1,e2.symm⟩
 ·rintro⟨t,ht,rfl,rfl⟩
  exact xR (t:=BI aE t) (cc.mpr ⟨t,ht,rfl⟩)
def fu(nums:List Int)(k:Int):Option Int:=if k∈nums then some (QH nums k) else none
def numsOf(k0:Int)(eB:List Int):List Int:=k0 :: eB.filter fun x=>decide (x≠k0)
def hm(hs:List (Option Int))(s:Int):Option Int:=hs.getD s.toNat none
structure CG(many:Int)(steps:List bG)(kinds ms eB:List Int)(hs:List (Option Int)):Prop where
 EE:Kinds many steps kinds
 met:Met steps ms
 up:eB.Pairwise (· < ·)
 mem:∀ x,x∈eB↔∃ s∈ms,x=rk kinds s
 eq:hs=kinds.map (fu (numsOf (rk kinds 0) eB))
def lN(many:Int)(steps:List bG)(hs:List (Option Int)):Prop:=∃ kinds ms eB,CG many steps kinds ms eB hs
theorem lN.uniq{many:Int}{steps:List bG}(aS:fo many steps){hs gs:List (Option Int)}(h:lN many steps hs)(g:lN many steps gs):hs=gs:=by
 obtain⟨k,m,s,h⟩:=h
 obtain⟨k2,m2,s2,g⟩:=g
 have ek:=h.EE.uniq aS g.EE
 subst ek
 have em:=h.met.uniq g.met
 subst em
 have es:=sH h.up g.up fun x=>(h.mem x).trans (g.mem x).symm
 subst es
 rw[h.eq,g.eq]
theorem lN.len{many:Int}{steps:List bG}{hs:List (Option Int)}(h:lN many steps hs):hs.length=many.toNat:=by
 obtain⟨k,m,s,h⟩:=h
 rw[h.eq,b4,h.EE.len]
def hJ:Option Int->D
 |some i=>.int i
 |none=>.non
theorem uv(l:List Int):(l.map fun x=>(Sum.inl x:Key)).map lT=l.map D.int:=by rw[fA];rfl
theorem wH{l:List Int}(h:(l.map fun x=>(Sum.inl x:Key)).Nodup):l.Nodup:=by
 unfold List.Nodup at *
 rw[ki] at h
 exact h.imp fun h e=>h (by rw[e])
theorem Bp{l:List Int}(h:(l.map fun x=>(Sum.inl x:Key)).Nodup)(pw:(l.map fun x=>(Sum.inl x:Key)).Pairwise fun a b=>lS b a=false):l.Pairwise (· < ·):=by
 have nd:=wH h
 rw[ki] at pw
 refine(pw.and nd).imp fun {a b} ⟨h1,h2⟩=>?_
 have h1:¬ b<a:=by simpa[lS] using h1
 lia
theorem z7(o:Option Int):(hJ o).flat=true:=by cases o<;>rfl
theorem mR(k0:Int){eB:List Int}(h:eB.Pairwise (· < ·)):(numsOf k0 eB).Nodup :=
 iA.mpr ⟨fun z=>by have:=(xi.mp z).2;simp at this,(h_ h).filter _⟩
theorem Al{nums:List Int}(nd:nums.Nodup){x:Int}{Q:Md->D->Prop}(h:Q .sh (hJ (fu nums x))):DV (fv (oP nums) (.inl x)) .sh .sh .non Q:=by
 unfold fu at h
 by_cases e:x∈nums
 ·rw[Fq e nd]
  rw[if_pos e] at h
  exact h
 ·have:fv (oP nums) (.inl x)=none:=by
   have:=vW nums x
   rw[decide_eq_false e] at this
   cases z:fv (oP nums) (.inl x) with
   |none=>rfl
   |some v=>rw[z] at this;cases this
  rw[this]
  rw[if_neg e] at h
  exact h
def iT:WS :=
 (cp (dQ 1 (cY (b_ (aC eT (ai 0) (wC (.int 0)))) (gN 0) mI (sR df) 1 []))
 (cp (nL 0 (qc (gB (aC eT (ai 0) (wC (.int 1)))) (gT 3 (dJ (gN 2) (dJ (gN 3) (dJ (gN 4) rW))))
 (nL 4 (nL 3 (z5 (NS (nV 1) (ai 2)) (wx (ak (ai 3) (ak (ai 4) df))))))))
 (vm 1)))
def cA:kE:=fun ds Q=>∃ (many:Int) (steps:List bG),ds=[mD many steps]/\(0<=many/\many<=1000)/\fo many steps/\steps.length<=1000/\Q (.ow true) (JY many steps)
theorem pC (ds Q) (h:cA ds Q):ds.length=["m"].length:=by obtain⟨_,_,rfl,_⟩:=h;rfl
theorem vI:∀ ds Q,cA ds Q->iT { nx:=fun _=>Q .sh .non,rt:=Q } (bh 5 ds):=by
 rintro ds Q ⟨many,steps,rfl,hm,aS,hl,h⟩
 unfold iT mD
 walk_at "q"
 refine⟨by lia,by lia,?_⟩
 refine bM (fun _=>true) (fun _=>.list []) (fun ρ=>∃ o,ρ=[o]) _ _ _ ⟨_,rfl⟩ ?_ ?_
 ·rintro x hx ρ ⟨o,rfl⟩ N1 N2 n1 n2
  walk_at "q"
  exact⟨.inr rfl,n2 _ ⟨_,rfl⟩ rfl⟩
 rw[Bt]
 refine b8 _ (fun i ρ=>∃ o2 o3 o4,ρ=[some (.sh (.tup [.int many,.list (steps.map gv)])),some (.ow true (.list (oS many (steps.take i)))),o2,o3,o4]) ⟨none,none,none,by simp⟩ ?_ ?_
 ·rintro i x ρ hx ⟨o2,o3,o4,rfl⟩ N hN
  obtain⟨p,d,r,rfl,hs,ht⟩:=sZ hx
  have ok:=aS _ hs
  walk_at "q"
  refine⟨p.toNat,.list ((mP (steps.take i) p).map kF),ug ok.1 (by rw[mq];have:=ok.2.1;lia),za _ ok.1 ok.2.1,rfl,?_⟩
  walk_at "q"
  refine⟨?_,?_⟩
  ·have:=mX (steps.take i) p
   have:(steps.take i).length<=steps.length:=by rw[mr];lia
   lia
  ·refine hN _ ⟨some (.sh (.int p)),some (.sh (.str d)),some (.sh (.int r)),?_⟩
   rw[BV _ _ _ ok.1 ok.2.1,<- ht]
 ·rintro ρ ⟨o2,o3,o4,rfl⟩
  walk_at "q"
  rw[AJ]
  exact h
def BZ:WS :=
 (cp (dQ 1 (NW (wC (.int 0)) (wC (.bl true))))
 (cp (dQ 2 (sR (ak (wC (.int 0)) df)))
 (cp (wF (S7 (ai 2))
 (cp (Ql 3 (nV 2))
 (nL 0 (qc (gB (aC eT (ai 0) (wC (.int 1)))) (gN 4)
 (oo (Qa (wB (aC mG (aC eT (ai 4) (wC (.int 0))) (ai 3))) (wB (aC (wt true) (aC eT (ai 4) (wC (.int 2))) (ai 1))))
 (cp (oU (nV 1) (aC eT (ai 4) (wC (.int 2))) (wC (.bl true)))
 (z5 (nV 2) (aC eT (ai 4) (wC (.int 2)))))
 eY)))))
 (nK (h9 tY (ai 1))))))
def lR:kE:=fun ds Q=>∃ (many:Int) (steps:List bG),ds=[mD many steps]/\1<=many/\many<=20/\fo many steps/\∀ ms,Met steps ms->Q (.ow true) (.list (ms.map .int))
theorem Ck (ds Q) (h:lR ds Q):ds.length=["m"].length:=by obtain⟨_,_,rfl,_⟩:=h;rfl
structure sD(many:Int)(steps:List bG)(ks:List Int):Prop where
 nd:ks.Nodup
 z:0∈ks
 r:∀ x∈ks,Reach steps x/\0<=x/\x<many
theorem sD.len{many:Int}{steps:List bG}{ks:List Int}(c:sD many steps ks)(h:many<=20):ks.length<=20:=by
 have:=aW (m:=eQ 20) c.nd fun x hx=>gj.mpr (by have:=(c.r x hx).2;lia)
 rwa[gf] at this
theorem sD.ins{many:Int}{steps:List bG}{ks:List Int}(c:sD many steps ks)(hm:fo many steps){s:bG}(hs:s∈steps)(h:s.1∈ks):sD many steps (insI ks s.2.2) :=
 ⟨vd c.nd,uL.mpr (.inl c.z),fun x hx=>by
  rcases uL.mp hx with hx|rfl
  ·exact c.r x hx
  ·exact⟨.step (c.r _ h).1 hs,(hm s hs).2.2.2⟩⟩
theorem sD.one{many:Int}{steps:List bG}(h:1<=many):sD many steps [0]:=⟨by simp,by simp,fun x hx=>by
 have:x=0:=by simpa using hx
 subst this;exact⟨.zero,by lia,by lia⟩⟩
theorem uZ{steps:List bG}{ks:List Int}(z:0∈ks)(h:∀ s∈steps,s.1∈ks->s.2.2∈ks){x:Int}(r:Reach steps x):x∈ks:=by
 induction r with
 |zero=>exact z
 |step r hs ih=>exact h _ hs ih
theorem uA{steps:List bG}{ks:List Int}{many:Int}(c:sD many steps ks)(h:∀ s∈steps,s.1∈ks->s.2.2∈ks){Q:Md->D->Prop}(k:∀ ms,Met steps ms->Q (.ow true) (.list (ms.map .int))):tY .bo (.dK (sA ks)) Q:=by
 refine⟨true,fun p hp=>?_,fun ms pm pw=>?_⟩
 ·obtain⟨x,_,rfl⟩:=cc.mp hp
  rfl
 ·rw[il] at pm
  obtain⟨l,rfl⟩:∃ l:List Int,ms=l.map fun x=>(Sum.inl x:Key):=by
   have hm:∀ k∈ms,∃ x:Int,k=Sum.inl x:=fun k hk=>by
    obtain⟨x,_,rfl⟩:=cc.mp (pm.mem_iff.mp hk)
    exact⟨x,rfl⟩
   clear pm pw
   induction ms with
   |nil=>exact⟨[],rfl⟩
   |cons k ms ih =>
    obtain⟨l,rfl⟩:=ih fun j hj=>hm j (b5 _ hj)
    obtain⟨x,rfl⟩:=hm k bX
    exact⟨x :: l,rfl⟩
  have e:(l.map fun x=>(Sum.inl x:Key)).map lT=l.map D.int:=by rw[fA];rfl
  rw[e]
  have mem:∀ x,x∈l↔x∈ks:=fun x=>by rw[<- cV (ks:=l),<- cV (ks:=ks)];exact pm.mem_iff
  have nd:l.Nodup:=by
   have:(l.map fun x=>(Sum.inl x:Key)).Nodup:=pm.nodup_iff.mpr (by
    have:=c.nd
    unfold List.Nodup at *
    rw[ki]
    exact this.imp fun h e=>h (Sum.inl.inj e))
   unfold List.Nodup at *
   rw[ki] at this
   exact this.imp fun h e=>h (by rw[e])
  refine k l ⟨?_,fun x=>(mem x).trans ⟨fun hx=>(c.r x hx).1,uZ c.z h⟩⟩
  rw[ki] at pw
  refine(pw.and nd).imp fun {a b} ⟨h1,h2⟩=>?_
  have h1:¬ b<a:=by simpa[lS] using h1
  lia
theorem Jy:∀ ds Q,lR ds Q->BZ { nx:=fun _=>Q .sh .non,rt:=Q } (bh 5 ds):=by
 rintro ds Q ⟨many,steps,rfl,h0,h1,aS,h⟩
 unfold BZ mD
 walk_at "q"
 refine⟨fun ρ=>∃ (ks wait:List Int) (o3 o4:Option Sl),sD many steps ks/\(∀ x∈wait,x∈ks)/\wait.length<=ks.length/\(∀ s∈steps,s.1∈ks->s.1∉wait->s.2.2∈ks) /\
   ρ=[some (.sh (.tup [.int many,.list (steps.map gv)])),some (.ow true (.dK (sA ks))),some (.ow true (.list (wait.map .int))),o3,o4],
  fun ρ=>match ρ with
   |[_,some (.ow _ (.dK kvs)),some (.ow _ (.list w)),_,_]=>2*(20-kvs.length)+w.length
   |_=>0,⟨[0],[0],none,none,sD.one h0,by simp,by simp,fun s _ e hn=>absurd (by simpa using e) (by simpa using hn),rfl⟩,?_⟩
 rintro ρ ⟨Au,wait,o3,o4,hc,hw,A4,pE,rfl⟩
 have hG:=hc.len h1
 walk_at "q"
 by_cases iL:wait=[]
 ·subst iL
  rw[if_neg (by simp)]
  exact uA hc (fun s hs hm=>pE s hs hm (by simp)) h
 ·obtain⟨w0,st,rfl⟩:∃ w0 st,wait=w0++[st]:=⟨wait.dropLast,wait.getLast iL,(List.dropLast_concat_getLast iL).symm⟩
  rw[if_pos (by simp)]
  refine⟨.int st,by simp,rfl,?_⟩
  walk_at "q"
  rw[show(List.map D.int (w0++[st])).dropLast=w0.map D.int by simp]
  simp only[pd,OJ,jt] at A4 ⊢
  refine b8 _ (fun i ρ=>∃ (ks wait:List Int) (o4:Option Sl),sD many steps ks/\st∈ks/\(∀ x∈wait,x∈ks)/\wait.length+1<=ks.length/\(∀ s∈steps,s.1∈ks->s.1∉wait->s.1≠st->s.2.2∈ks)/\(∀ s∈steps.take i,s.1=st->s.2.2∈ks) /\
   2*(20-ks.length)+wait.length<2*(20-Au.length)+(w0.length+1) /\
   ρ=[some (.sh (.tup [.int many,.list (steps.map gv)])),some (.ow true (.dK (sA ks))),some (.ow true (.list (wait.map .int))),some (.sh (.int st)),o4])
   ⟨Au,w0,_,hc,hw st (by simp),fun x hx=>hw x (by simp[hx]),by lia,fun s hs h1 h2 h3=>pE s hs h1 (by simp[h2,h3]),by simp,by lia,rfl⟩ ?_ ?_
  ·rintro i x ρ hx ⟨ks,wait,o4,hc,kH,hw,A4,pE,Kb,QJ,rfl⟩ N hN
   obtain⟨p,d,r,rfl,hs,et⟩:=sZ hx
   have hG:=hc.len h1
   walk_at "q"
   have no:p=st->r∈ks->N [some (.sh (.tup [.int many,.list (steps.map gv)])),some (.ow true (.dK (sA ks))),some (.ow true (.list (wait.map .int))),some (.sh (.int st)),some (.sh (.tup [.int p,.str d,.int r]))]:=fun e hr =>
    hN _ ⟨ks,wait,_,hc,kH,hw,A4,pE,fun s hs e=>by
     rw[et] at hs
     rcases dy.mp hs with hs|hs
     ·exact Kb s hs e
     ·obtain rfl:s=(p,d,r):=by simpa using hs
      exact hr,QJ,rfl⟩
   refine R.D (fun e=>?_) fun e=>?_
   ·walk_at "q"
    by_cases hr:r∈ks
    ·refine R.F (by rw[get_set];simp[hr]) ?_
     walk_at "q"
     exact no e hr
    ·refine R.T (by rw[get_set];simp[hr]) ?_
     walk_at "q"
     rw[yj]
     have ei:insI ks r=ks++[r]:=by unfold insI;rw[if_neg hr]
     have xA:sD many steps (insI ks r):=hc.ins aS hs (by rw[show((p,d,r):bG).1=st from e];exact kH)
     have XG:=xA.len h1
     rw[ei] at xA XG ⊢
     rw[pd,OJ] at XG
     rw[jt]
     walk_at "o"
     rw[show wait.map D.int++[D.int r]=(wait++[r]).map D.int by simp]
     refine hN _ ⟨ks++[r],wait++[r],_,xA,by simp[kH],fun x hx=>?_,by simp;lia,fun s hs h1 h2 h3=>?_,fun s hs e'=>?_,by simp;lia,rfl⟩
     ·rcases dy.mp hx with hx|hx
      ·simp[hw x hx]
      ·simp at hx;simp[hx]
     ·simp only[dy,kU,not_or] at h1 h2 ⊢
      rcases h1 with h1|h1
      ·exact .inl (pE s hs h1 h2.1 h3)
      ·exact absurd h1 h2.2
     ·rw[et] at hs
      rcases dy.mp hs with hs|hs
      ·simp[Kb s hs e']
      ·obtain rfl:s=(p,d,r):=by simpa using hs
       simp
   ·walk_at "q"
    refine hN _ ⟨ks,wait,_,hc,kH,hw,A4,pE,fun s hs e'=>?_,QJ,rfl⟩
    rw[et] at hs
    rcases dy.mp hs with hs|hs
    ·exact Kb s hs e'
    ·obtain rfl:s=(p,d,r):=by simpa using hs
     exact absurd e' e
  ·rintro ρ ⟨ks,wait,o4,hc,kH,hw,A4,pE,Kb,QJ,rfl⟩
   rw[b4,AJ] at Kb
   refine⟨⟨ks,wait,_,_,hc,hw,by lia,fun s hs h1 h2=>?_,rfl⟩,by simpa[jt] using QJ⟩
   by_cases e:s.1=st
   ·exact Kb s hs e
   ·exact pE s hs h1 h2 e
def nF:WS :=
 (nK (wx (ak (aC eT (ai 1) (ai 2)) (ak (h9 d_ (cY (dW (aC eT (ai 0) (ai 2))) (gT 2 (dJ (gN 0) (dJ (gN 1) rW))) mI (wx (ak (ai 0) (ak (aC eT (ai 2) (ai 1)) df))) 2 [1])) df))))
def dX:kE:=fun ds Q=>∃ (many:Int) (steps:List bG) (aE:List Int) (s:Int),ds=[JY many steps,.list (aE.map .int),.int s]/\(0<=s/\s<many)/\aE.length=many.toNat/\fo many steps/\steps.length<=1000/\∀ k,vk steps aE s k->Q (.ow true) (dP k)
theorem vB (ds Q) (h:dX ds Q):ds.length=["exits", "ranks", "state"].length:=by obtain⟨_,_,_,_,rfl,_⟩:=h;rfl
theorem Aw:∀ ds Q,dX ds Q->nF { nx:=fun _=>Q .sh .non,rt:=Q } (bh 3 ds):=by
 rintro ds Q ⟨many,steps,aE,s,rfl,hs,hr,aS,hl,h⟩
 unfold nF JY
 walk_at "q"
 refine⟨_,qe hr hs.1 hs.2,?_⟩
 walk_at "q"
 refine⟨_,Hc steps hs.1 hs.2,?_⟩
 walk_at "q"
 refine bM (fun _=>true) (fun d=>match d with
  |.tup [.str x,.int e]=>.tup [.str x,.int (rk aE e)]
  |d=>d) (fun ρ=>∃ o0 o1,ρ=[o0,o1,some (.sh (.list (aE.map .int)))]) _ _ _ ⟨_,_,rfl⟩ ?_ ?_
 ·rintro x hx ρ ⟨o0,o1,rfl⟩ N1 N2 n1 n2
  obtain⟨p,hp,rfl⟩:=cc.mp hx
  obtain⟨t,ht,e1,e2⟩:=rH hp
  obtain⟨x,e⟩:=p
  have ok:=aS t ht
  obtain⟨t1,t2,t3⟩:=t
  cases e2
  unfold kF
  walk_at "q"
  refine⟨_,qe hr ok.2.2.2.1 ok.2.2.2.2,?_⟩
  walk_at "q"
  exact⟨.inl rfl,n2 _ ⟨_,_,rfl⟩ rfl⟩
 have e1:((mP steps s).map kF |>.filter fun _=>true).map (fun d=>match d with
   |.tup [.str x,.int e]=>.tup [.str x,.int (rk aE e)]
   |d=>d)=((mP steps s).map fun p=>(p.1,rk aE p.2)).map kF:=by
  rw[D4.mpr fun _ _=>rfl,fA,fA]
  rfl
 rw[e1]
 refine uG (ps:=(mP steps s).map fun p=>(p.1,rk aE p.2)) (m:=.ow true) (Q:=fun _ d=>Q (.ow true) (.tup [.int (rk aE s),d])) (by rw[b4];exact gx (mX steps s) hl) fun l up mem=>?_
 refine h (rk aE s,l) ⟨rfl,up,fun p=>(mem p).trans ⟨fun hp=>?_,fun hp=>?_⟩⟩
 ·obtain⟨q,hq,rfl⟩:=cc.mp hp
  obtain⟨t,ht,e1,rfl⟩:=rH hq
  exact⟨t,ht,e1,rfl⟩
 ·obtain⟨t,ht,rfl,rfl⟩:=hp
  exact cc.mpr ⟨t.2,xR ht,rfl⟩
def dG:WS :=
 (cp (oo (wB (aC Qg (ai 1) (h9 ya (ai 0))))
 (nK (aC eT (ai 0) (ai 1)))
 eY)
 (nK (wC (.int 0))))
def aG:kE:=fun ds Q=>∃ (ns:List Int) (k:Int),ds=[.list (ns.map .int),.int k]/\0<=k/\Q .sh (.int (ns.getD k.toNat 0))
theorem jr (ds Q) (h:aG ds Q):ds.length=["_law_script", "_law_k"].length:=by obtain⟨_,_,rfl,_⟩:=h;rfl
theorem lL:∀ ds Q,aG ds Q->dG { nx:=fun _=>Q .sh .non,rt:=Q } (bh 2 ds):=by
 rintro ds Q ⟨ns,k,rfl,hk,h⟩
 unfold dG
 walk_at "q"
 refine R.D (fun hl=>?_) fun hl=>?_
 ·walk_at "q"
  have hn:k.toNat<ns.length:=by lia
  refine⟨.int ns[k.toNat],?_,?_⟩
  ·have:=He (xs:=ns.map D.int) (j:=k.toNat) (v:=.int ns[k.toNat]) (by simp[hn])
   rwa[B7 hk] at this
  ·show Q .sh _;simpa[List.getD,hn] using h
 ·walk_at "q"
  have:ns.getD k.toNat 0=0:=by
   have:ns.length<=k.toNat:=by lia
   simp[List.getD,sM this]
  rwa[this] at h
def eZ:WS :=
 (cp (dQ 3 (aC eT (sR (ak (wC (.int 1000003)) (ak (wC (.int 998244353)) (ak (wC (.int 104729)) (ak (wC (.int 2147483647)) (ak (wC (.int 15485863)) (ak (wC (.int 32452843)) df))))))) (ai 1)))
 (nK (aC wq (aC DJ (aC wq (aC oC (ai 0) (aC eT (sR (ak (wC (.int 48271)) (ak (wC (.int 69621)) (ak (wC (.int 16807)) (ak (wC (.int 40692)) (ak (wC (.int 39373)) (ak (wC (.int 22571)) df))))))) (ai 1))) (ai 3)) (wC (.int 11))) (ai 2))))
def aq:kE:=fun ds Q=>∃ c w m:Int,ds=[.int c,.int w,.int m]/\(0<=w/\w<6)/\0<m/\∀ r,0<=r->r<m->Q .sh (.int r)
theorem lF (ds Q) (h:aq ds Q):ds.length=["_law_cell", "_law_way", "_law_many"].length:=by obtain⟨_,_,_,rfl,_⟩:=h;rfl
theorem qt:∀ ds Q,aq ds Q->eZ { nx:=fun _=>Q .sh .non,rt:=Q } (bh 4 ds):=by
 rintro ds Q ⟨c,w,m,rfl,hw,hm,h⟩
 unfold eZ
 walk_at "q"
 obtain⟨p,hp,ep⟩:=gC (l:=[1000003,998244353,104729,2147483647,15485863,32452843]) hw.1 hw.2
 obtain⟨q,hq,eq⟩:=gC (l:=[48271,69621,16807,40692,39373,22571]) hw.1 hw.2
 have g9:=(by decide:∀ p∈([1000003,998244353,104729,2147483647,15485863,32452843]:List Int),0<p) p hp
 have hq':=(by decide:∀ p∈([48271,69621,16807,40692,39373,22571]:List Int),0<p/\p<100000) q hq
 refine⟨.int p,ep,?_⟩
 walk_at "q"
 refine⟨.int q,eq,?_⟩
 walk_at "q"
 have:=Bj (c*q % p / 11) hm
 exact⟨bj (by lia) (by lia),g9,hm,h _ this.1 this.2⟩
def cP:WS :=
 (nK (cY (dW (ai 7)) (gN 0) mI (h9 ya (uB (dW (ai 1)) (gN 0) (wB (aC T7 (ai 0) (ai 1))) (ai 0) 1 [0])) 1 [8]))
def cQ:WS :=
 (cp (dQ 8 (sR df))
 (cp (nL 7 (qc (gB (ai 7)) (gN 9)
 (oo (wB (aC (Ob true) (ai 9) (ai 8)))
 (nL 9 (z5 (nV 8) (ai 9)))
 eY)))
 cP))
def gO:WS :=
 (cp (dQ 3 (cY (b_ (ai 0)) (gN 0) mI (sR df) 1 []))
 (cp (nL 1 (qc (gB (ai 1)) (gT 3 (dJ (gN 4) (dJ (gN 5) (dJ (gN 6) rW))))
 (nL 5 (z5 (NS (nV 3) (ai 4)) (wx (ak (ai 5) (ak (aC eT (ai 2) (ai 6)) df)))))))
 (cp (dQ 7 (cY (b_ (ai 0)) (gN 0) mI (wx (ak (aC eT (ai 1) (ai 0)) (ak (h9 d_ (aC eT (ai 2) (ai 0))) df))) 1 [2,3]))
 cQ)))
def bV:kE:=fun ds Q=>∃ (many:Int) (steps:List bG) (aE:List Int),ds=[.int many,.list (steps.map gv),.list (aE.map .int)]/\(1<=many/\many<=100)/\aE.length=many.toNat/\fo many steps/\steps.length<=1000/\∀ r,RB many steps aE r->Q (.ow true) (.list (r.map .int))
theorem nR (ds Q) (h:bV ds Q):ds.length=["_law_many", "_law_steps", "_law_ranks"].length:=by obtain⟨_,_,_,rfl,_⟩:=h;rfl
theorem mW{Q:Md->D->Prop}{many:Int}{steps:List bG}{aE:List Int}{l js:List Ky}{o1 o2 o3 o4 o5 o6 o9:Option Sl}{fl:Bool}(hm:1<=many/\many<=100)(aS:fo many steps)(hl:l.length=many.toNat)(hk:∀ (i:Nat) k,l[i]? = some k->vk steps aE i k)
  (nd:js.Nodup) (md:∀ k,k∈js↔k∈l) (h:∀ r,RB many steps aE r->Q (.ow true) (.list (r.map .int))) :
  cP { nx:=fun _=>Q .sh .non,rt:=Q } [some (.sh (.int many)),o1,o2,o3,o4,o5,o6,some (.sh (.list (l.map dP))),some (.ow fl (.list (js.map dP))),o9]:=by
 have sF:∀ k∈l,kg k:=fun k gV=>by
  obtain⟨i,hi⟩:=BU.mp gV
  exact(hk i k hi).ok aS
 unfold cP
 walk_at "q"
 refine bM (fun _=>true) (fun d=>.int ((((js.map dP).filter fun e=>PySem.SeqAt.b9 3 e.py d.py).map fun e=>e).length:Nat)) (fun ρ=>∃ o,ρ=[o,some (.sh (.list (js.map dP)))]) _ _ _ ⟨_,rfl⟩ ?_ ?_
 ·rintro x hx ρ ⟨o,rfl⟩ N1 N2 n1 n2
  obtain⟨k,gV,rfl⟩:=cc.mp hx
  walk_at "q"
  refine jO (fun e=>PySem.SeqAt.b9 3 e.py (dP k).py) (fun e=>e) (fun ρ=>∃ o,ρ=[o,some (.sh (dP k))]) _ _ _ ⟨_,rfl⟩ ?_ ?_
  ·rintro y hy ρ ⟨o,rfl⟩ M1 M2 m1 m2
   obtain⟨j,hj,rfl⟩:=cc.mp hy
   have XH:=(md j).mp hj
   walk_at "q"
   refine⟨rP (sF j XH) 9,rP (sF k gV) 9,L2.Oh.cm _ _ (sF j XH).qk (sF k gV).qk,?_⟩
   cases e:PySem.SeqAt.b9 3 (dP j).py (dP k).py with
   |true =>
    rw[if_pos rfl]
    exact⟨.inr rfl,m2 _ ⟨_,rfl⟩ e⟩
   |false =>
    rw[if_neg gy]
    exact m1 _ ⟨_,rfl⟩ e
  exact⟨.inl rfl,n2 _ ⟨_,rfl⟩ rfl⟩
 have e1:((l.map dP).filter fun _=>true).map (fun d=>D.int ((((js.map dP).filter fun e=>PySem.SeqAt.b9 3 e.py d.py).map fun e=>e).length:Nat))=(l.map fun k=>((js.countP fun d=>iP d k:Nat):Int)).map D.int:=by
  rw[D4.mpr fun _ _=>rfl,fA,fA]
  refine D3 fun k _=>?_
  show D.int _=D.int ((js.countP fun d=>iP d k:Nat):Int)
  rw[b4,List.filter_map,b4,List.countP_eq_length_filter]
  rfl
 rw[e1]
 refine h _ (RB.zH aS (fun s=>l.getD s.toNat (0,[])) js nd (fun k=>?_) (by rw[b4,hl]) (fun s a b=>?_) fun s a b=>?_)
 ·rw[md]
  constructor
  ·intro gV
   obtain⟨i,hi,rfl⟩:=LD.mp gV
   exact⟨(i:Nat),by lia,by simp[List.getD,hi]⟩
  ·rintro⟨s,hs,rfl⟩
   have hs:s.toNat<l.length:=by lia
   simp[List.getD,hs]
 ·have hs:s.toNat<l.length:=by lia
  have:=hk s.toNat l[s.toNat] (jv hs)
  rw[B7 a] at this
  simpa[List.getD,hs] using this
 ·have hs:s.toNat<l.length:=by lia
  simp[rk,List.getD,hs]
theorem m5{Q:Md->D->Prop}{many:Int}{steps:List bG}{aE:List Int}{l:List Ky}{o1 o2 o3 o4 o5 o6:Option Sl}(hm:1<=many/\many<=100)(aS:fo many steps)(hl:l.length=many.toNat)(hk:∀ (i:Nat) k,l[i]? = some k->vk steps aE i k)
  (h:∀ r,RB many steps aE r->Q (.ow true) (.list (r.map .int))) :
  cQ { nx:=fun _=>Q .sh .non,rt:=Q } [some (.sh (.int many)),o1,o2,o3,o4,o5,o6,some (.ow true (.list (l.map dP))),none,none]:=by
 have sF:∀ k∈l,kg k:=fun k gV=>by
  obtain⟨i,hi⟩:=BU.mp gV
  exact(hk i k hi).ok aS
 obtain⟨w5,e5⟩:∃ w5,w5=cP:=⟨_,rfl⟩
 unfold cQ
 rw[<- e5]
 walk_at "q"
 refine b8 _ (fun i ρ=>∃ (js:List Ky) (fl:Bool) (o9:Option Sl),js.Nodup/\(∀ k,k∈js↔k∈l.take i)/\js.length<=i/\ρ=[some (.sh (.int many)),o1,o2,o3,o4,o5,o6,some (.sh (.list (l.map dP))),some (.ow fl (.list (js.map dP))),o9]) ⟨[],true,none,n5,by simp,by simp,rfl⟩ ?_ ?_
 ·rintro i x ρ hx ⟨js,fl,o9,nd,mem,dl,rfl⟩ N hN
  obtain⟨hi,Om⟩:=i7.mp hx
  have gI:i<l.length:=by simpa using hi
  have Oo:x=dP l[i]:=by rw[<- Om];simp
  subst Oo
  have gV:l[i]∈l:=AK gI
  have tk:l.take (i+1)=l.take i++[l[i]]:=by rw[B1,jv gI];rfl
  have qq:∀ k∈js,kg k:=fun k BH=>sF k (LB ((mem k).mp BH))
  generalize l[i]=k at *
  walk_at "q"
  refine⟨rP (sF k gV) 9,yl qq 8,?_⟩
  rw[Bu]
  by_cases hd:k∈js
  ·refine R.F (by simp[hd]) ?_
   walk_at "q"
   refine hN _ ⟨js,fl,_,nd,fun k'=>?_,by lia,rfl⟩
   rw[mem,tk,dy,kU]
   exact⟨.inl,fun z=>z.elim id fun e=>by rw[e];exact(mem k).mp hd⟩
  ·refine R.T (by simp[hd]) ?_
   walk_at "q"
   refine⟨by lia,?_⟩
   refine hN _ ⟨js++[k],fl && (dP k).flat,some (.sh (dP k)),?_,fun k'=>?_,by simp;lia,by simp⟩
   ·refine iS.mpr ⟨nd,by simp,fun a ha b hb e=>?_⟩
    rw[kU.mp hb] at e
    exact hd (by rw[<- e];exact ha)
   ·rw[dy,kU,mem,tk,dy,kU]
 ·rintro ρ ⟨js,fl,o9,nd,mem,dl,rfl⟩
  rw[b4,AJ] at mem
  rw[e5]
  exact mW hm aS hl hk nd mem h
theorem qT:∀ ds Q,bV ds Q->gO { nx:=fun _=>Q .sh .non,rt:=Q } (bh 10 ds):=by
 rintro ds Q ⟨many,steps,aE,rfl,hm,hr,aS,hl,h⟩
 obtain⟨w3,e3⟩:∃ w3,w3=cQ:=⟨_,rfl⟩
 unfold gO
 rw[<- e3]
 walk_at "q"
 refine⟨by lia,by lia,?_⟩
 refine bM (fun _=>true) (fun _=>.list []) (fun ρ=>∃ o,ρ=[o]) _ _ _ ⟨_,rfl⟩ ?_ ?_
 ·rintro x hx ρ ⟨o,rfl⟩ N1 N2 n1 n2
  walk_at "q"
  exact⟨.inr rfl,n2 _ ⟨_,rfl⟩ rfl⟩
 rw[Bt]
 refine b8 _ (fun i ρ=>∃ o4 o5 o6,ρ=[some (.sh (.int many)),some (.sh (.list (steps.map gv))),some (.sh (.list (aE.map .int))),some (.ow true (.list (oS many ((steps.take i).map (BI aE))))),o4,o5,o6,none,none,none]) ⟨none,none,none,by simp⟩ ?_ ?_
 ·rintro i x ρ hx ⟨o4,o5,o6,rfl⟩ N hN
  obtain⟨p,d,r,rfl,hs,ht⟩:=sZ hx
  have ok:=aS _ hs
  walk_at "q"
  refine⟨p.toNat,.list ((mP ((steps.take i).map (BI aE)) p).map kF),ug ok.1 (by rw[mq];have:=ok.2.1;lia),za _ ok.1 ok.2.1,rfl,?_⟩
  walk_at "q"
  refine⟨_,qe hr ok.2.2.2.1 ok.2.2.2.2,?_⟩
  walk_at "q"
  refine⟨?_,?_⟩
  ·have:=mX ((steps.take i).map (BI aE)) p
   rw[b4,mr] at this
   lia
  ·refine hN _ ⟨some (.sh (.int p)),some (.sh (.str d)),some (.sh (.int r)),?_⟩
   rw[BV _ _ _ ok.1 ok.2.1,ht,AO]
   rfl
 ·rintro ρ ⟨o4,o5,o6,rfl⟩
  rw[b4,AJ]
  walk_at "q"
  refine⟨by lia,by lia,?_⟩
  refine cj (fun n out=>∃ l:List Ky,out=l.map dP/\l.length=n/\∀ (i:Nat) k,l[i]? = some k->vk steps aE i k) (fun ρ=>∃ o,ρ=[o,some (.sh (.list (aE.map .int))),some (.sh (.list (oS many (steps.map (BI aE)))))]) _ 0 [] _ _ ⟨_,rfl⟩ ⟨[],rfl,rfl,fun i k hk=>by simp at hk⟩ ?_ ?_
  ·rintro j y hy ρ ⟨o,rfl⟩ out ⟨l,rfl,D1,hk⟩ N1 N2 ox
   have hj:=(bx hy).1
   obtain⟨_,rfl⟩:=bx hy
   walk_at "q"
   refine⟨_,qe hr (by lia) (by lia),?_⟩
   walk_at "q"
   refine⟨_,Hc (steps.map (BI aE)) (by lia) (by lia),?_⟩
   walk_at "q"
   refine uG (ps:=mP (steps.map (BI aE)) (0+(j:Nat))) (m:=.ow true) (Q:=fun _ d=>NR (.ow true) (.tup [.int (rk aE (0+(j:Nat))),d])/\N2 _ (.tup [.int (rk aE (0+(j:Nat))),d])) (by have:=mX (steps.map (BI aE)) (0+(j:Nat));rw[b4] at this;lia) fun ps up mem=>?_
   have wo:vk steps aE (0+(j:Nat)) (rk aE (0+(j:Nat)),ps):=⟨rfl,up,fun p=>(mem p).trans (Fy steps aE _ p)⟩
   refine⟨.inr rfl,ox _ _ ⟨_,rfl⟩ ⟨l++[(rk aE (0+(j:Nat)),ps)],by simp[dP],by simp[D1],fun i k' fN=>?_⟩⟩
   rcases D9 i l.length with hi|hi
   ·rw[BQ hi] at fN
    exact hk i k' fN
   ·rw[w_ hi] at fN
    have sf:i-l.length=0:=by
     rcases Rc (i-l.length) with z|z
     ·exact z
     ·rw[sM (by simp;lia)] at fN;cases fN
    rw[sf] at fN
    cases fN
    have:((i:Nat):Int)=0+(j:Nat):=by lia
    rw[this]
    exact wo
  rintro out ⟨l,e,D1,hk⟩
  simp only[B4] at e
  subst e
  rw[bf,qS] at D1
  rw[e3]
  exact m5 hm aS D1 hk h
def iI:WS :=
 (cp (dQ 2 (NW (wC (.int 0)) (wC (.bl true))))
 (cp (qc (b_ (ai 0)) (gN 3)
 (nL 1 (qc (gB (ai 1)) (gT 3 (dJ (gN 4) (dJ (gN 5) (dJ (gN 6) rW))))
 (oo (wB (aC (wt false) (ai 4) (ai 2)))
 (oU (nV 2) (ai 6) (wC (.bl true)))
 eY))))
 (nK (h9 tY (ai 2)))))
def cC:kE:=fun ds Q=>∃ (many:Int) (steps:List bG),ds=[.int many,.list (steps.map gv)]/\(1<=many/\many<=20)/\fo many steps/\∀ ms,Met steps ms->Q (.ow true) (.list (ms.map .int))
theorem qI (ds Q) (h:cC ds Q):ds.length=["_law_many", "_law_steps"].length:=by obtain⟨_,_,rfl,_⟩:=h;rfl
def Ua(steps:List bG)(ks:List Int):Prop:=∀ s∈steps,s.1∈ks->s.2.2∈ks
theorem xJ{ks:List Int}{x:Int}(h:x∈ks):insI ks x=ks:=if_pos h
theorem Ac{ks:List Int}{x:Int}(h:x∉ks):(insI ks x).length=ks.length+1:=by unfold insI;rw[if_neg h];simp
theorem uV:∀ ds Q,cC ds Q->iI { nx:=fun _=>Q .sh .non,rt:=Q } (bh 7 ds):=by
 rintro ds Q ⟨many,steps,rfl,hm,aS,h⟩
 unfold iI
 walk_at "q"
 refine⟨by lia,by lia,?_⟩
 refine b8 _ (fun i ρ=>∃ (ks:List Int) (o3 o4 o5 o6:Option Sl),sD many steps ks/\(Ua steps ks\/i+1<=ks.length)/\ρ=[some (.sh (.int many)),some (.sh (.list (steps.map gv))),some (.ow true (.dK (sA ks))),o3,o4,o5,o6]) ⟨[0],_,_,_,_,sD.one hm.1,.inr (by simp),rfl⟩ ?_ ?_
 ·rintro i x ρ hx ⟨Au,o3,o4,o5,o6,hc,HZ,rfl⟩ N hN
  obtain⟨hi,rfl⟩:=bx hx
  walk_at "q"
  refine b8 _ (fun j ρ=>∃ (ks:List Int) (o4 o5 o6:Option Sl),sD many steps ks/\(Ua steps Au->ks=Au)/\((ks=Au/\∀ s∈steps.take j,s.1∈Au->s.2.2∈Au)\/Au.length<ks.length) /\
    ρ=[some (.sh (.int many)),some (.sh (.list (steps.map gv))),some (.ow true (.dK (sA ks))),some (.sh (.int (0+(i:Nat)))),o4,o5,o6]) ⟨Au,_,_,_,hc,fun _=>rfl,.inl ⟨rfl,by simp⟩,rfl⟩ ?_ ?_
  ·rintro j x ρ hx ⟨ks,o4,o5,o6,Oq,xI,hj,rfl⟩ N hN
   obtain⟨p,d,r,rfl,hs,ht⟩:=sZ hx
   have hG:=Oq.len hm.2
   walk_at "q"
   rw[get_set]
   by_cases hp:p∈ks
   ·refine R.T (by simp[hp]) ?_
    walk_at "q"
    rw[yj,jt]
    refine⟨by lia,hN _ ⟨_,_,_,_,Oq.ins aS hs hp,fun sh=>?_,?_,rfl⟩⟩
    ·have e:=xI sh
     subst e
     exact xJ (sh _ hs hp)
    ·by_cases hr:r∈ks
     ·rw[show insI ks (p,d,r).2.2=ks from xJ hr]
      rcases hj with⟨e,z⟩|z
      ·subst e
       refine .inl ⟨rfl,fun s A6=>?_⟩
       rw[ht] at A6
       rcases dy.mp A6 with y|y
       ·exact z s y
       ·rw[kU.mp y];exact fun _=>hr
      ·exact .inr z
     ·refine .inr ?_
      rw[show(insI ks (p,d,r).2.2).length=ks.length+1 from Ac hr]
      rcases hj with⟨e,z⟩|z
      ·subst e;lia
      ·lia
   ·refine R.F (by simp[hp]) ?_
    walk_at "q"
    refine hN _ ⟨_,_,_,_,Oq,xI,?_,rfl⟩
    rcases hj with⟨e,z⟩|z
    ·subst e
     refine .inl ⟨rfl,fun s A6=>?_⟩
     rw[ht] at A6
     rcases dy.mp A6 with y|y
     ·exact z s y
     ·rw[kU.mp y];exact fun w=>absurd w hp
    ·exact .inr z
  ·rintro ρ ⟨ks,o4,o5,o6,Oq,xI,hj,rfl⟩
   rw[b4,AJ] at hj
   refine hN _ ⟨ks,_,_,_,_,Oq,?_,rfl⟩
   rcases HZ with z|z
   ·rw[xI z];exact .inl z
   ·rcases hj with⟨e,y⟩|y
    ·rw[e];exact .inl y
    ·exact .inr (by lia)
 ·rintro ρ ⟨ks,o3,o4,o5,o6,hc,HZ,rfl⟩
  rw[bf] at HZ
  have sh:Ua steps ks:=by
   rcases HZ with z|z
   ·exact z
   ·have:=aW (m:=eQ many.toNat) hc.nd fun x hx=>gj.mpr (by have:=(hc.r x hx).2;lia)
    rw[gf] at this
    lia
  exact uA hc sh h
def dD:WS :=
 (cp (dQ 2 (cY (b_ (h9 ya (ai 1))) (gN 0) mI (aV dX (ak (ai 1) (ak (ai 2) (ak (ai 0) df)))) 1 [0,1]))
 (cp (dQ 3 (sR df))
 (cp (nL 2 (qc (gB (h9 ye (ai 2))) (gN 4)
 (oo (wB (aC (Ob true) (ai 4) (ai 3)))
 (nL 4 (z5 (nV 3) (ai 4)))
 eY)))
 (nK (cY (dW (ai 2)) (gN 0) mI (qL (ai 1) (ai 0)) 1 [3])))))
def aN:kE:=fun ds Q=>∃ (many:Int) (steps:List bG) (aE:List Int),ds=[JY many steps,.list (aE.map .int)]/\(0<=many/\many<=1000)/\aE.length=many.toNat/\fo many steps/\steps.length<=1000/\∀ r,RB many steps aE r->Q (.ow true) (.list (r.map .int))
theorem jj (ds Q) (h:aN ds Q):ds.length=["exits", "ranks"].length:=by obtain⟨_,_,_,rfl,_⟩:=h;rfl
theorem lC:∀ ds Q,aN ds Q->dD { nx:=fun _=>Q .sh .non,rt:=Q } (bh 5 ds):=by
 rintro ds Q ⟨many,steps,aE,rfl,hm,hr,aS,hl,h⟩
 unfold dD JY
 walk_at "q"
 refine⟨by lia,by lia,?_⟩
 refine cj (fun n out=>∃ l:List Ky,out=l.map dP/\l.length=n/\∀ (i:Nat) k,l[i]? = some k->vk steps aE i k) (fun ρ=>∃ o,ρ=[o,some (.sh (.list (oS many steps))),some (.sh (.list (aE.map .int)))]) _ 0 [] _ _ ⟨_,rfl⟩ ⟨[],rfl,rfl,fun i k hk=>by simp at hk⟩ ?_ ?_
 ·rintro j y hy ρ ⟨o,rfl⟩ out ⟨l,rfl,D1,hk⟩ N1 N2 ox
  have hj:=(bx hy).1
  obtain⟨_,rfl⟩:=bx hy
  walk_at "q"
  refine⟨many,steps,aE,0+(j:Nat),rfl,by lia,hr,aS,hl,fun k wo=>?_⟩
  walk_at "q"
  refine⟨.inr rfl,ox _ _ ⟨_,rfl⟩ ⟨l++[k],by simp,by simp[D1],fun i k' fN=>?_⟩⟩
  rcases D9 i l.length with hi|hi
  ·rw[BQ hi] at fN
   exact hk i k' fN
  ·rw[w_ hi] at fN
   have sf:i-l.length=0:=by
    rcases Rc (i-l.length) with z|z
    ·exact z
    ·rw[sM (by simp;lia)] at fN;cases fN
   rw[sf] at fN
   cases fN
   have:((i:Nat):Int)=0+(j:Nat):=by lia
   rw[this]
   exact wo
 rintro out ⟨l,e,D1,hk⟩
 simp only[B4] at e
 subst e
 rw[bf,qS] at D1
 have sF:∀ k∈l,kg k:=fun k gV=>by
  obtain⟨i,hi⟩:=BU.mp gV
  exact(hk i k hi).ok aS
 refine⟨fun d hd=>?_,fun ms pm pw=>?_⟩
 ·obtain⟨k,gV,rfl⟩:=cc.mp hd
  exact⟨rP (sF k gV) 9,(sF k gV).qk⟩
 obtain⟨l2,rfl,wc⟩:=Ol (f:=dP) (P:=fun k=>k∈l) (ks:=ms) fun d hd=>by
  obtain⟨k,gV,e⟩:=cc.mp (pm.mem_iff.mp hd)
  exact⟨k,e.symm,gV⟩
 have back:∀ k∈l,k∈l2:=fun k gV=>by
  obtain⟨j,hj,e⟩:=cc.mp (pm.mem_iff.mpr (cc.mpr ⟨k,gV,rfl⟩))
  rw[<- xV e];exact hj
 have fQ':l2.length=l.length:=by have:=pm.length_eq;simpa using this
 rw[ki] at pw
 have pw:l2.Pairwise fun a b=>iP b a=false:=pw
 refine b8 _ (fun i ρ=>∃ (diff:List Ky) (fl:Bool) (o4:Option Sl),diff.Pairwise (fun a b=>iP a b=true)/\(∀ k,k∈diff↔k∈l2.take i)/\diff.length<=i/\ρ=[some (.sh (.list (oS many steps))),some (.sh (.list (aE.map .int))),some (.sh (.list (l.map dP))),some (.ow fl (.list (diff.map dP))),o4]) ⟨[],true,none,.nil,by simp,by simp,rfl⟩ ?_ ?_
 ·rintro i x ρ hx ⟨diff,fl,o4,up,mem,dl,rfl⟩ N hN
  obtain⟨hi,Om⟩:=i7.mp hx
  have gI:i<l2.length:=by simpa using hi
  have Oo:x=dP l2[i]:=by rw[<- Om];simp
  subst Oo
  have gV:l2[i]∈l:=wc _ (AK gI)
  have tk:l2.take (i+1)=l2.take i++[l2[i]]:=by rw[B1,jv gI];rfl
  have qq:∀ k∈diff,kg k:=fun k BH=>sF k (wc k (LB ((mem k).mp BH)))
  generalize ek:l2[i]=k at *
  walk_at "q"
  refine⟨rP (sF k gV) 9,yl qq 8,?_⟩
  rw[Bu]
  by_cases hd:k∈diff
  ·refine R.F (by simp[hd]) ?_
   walk_at "q"
   refine hN _ ⟨diff,fl,_,up,fun k'=>?_,by lia,rfl⟩
   rw[mem,tk,dy,kU]
   exact⟨.inl,fun z=>z.elim id fun e=>by rw[e];exact(mem k).mp hd⟩
  ·refine R.T (by simp[hd]) ?_
   walk_at "q"
   refine⟨by lia,?_⟩
   refine hN _ ⟨diff++[k],fl && (dP k).flat,some (.sh (dP k)),?_,fun k'=>?_,by simp;lia,by simp⟩
   ·refine FK.mpr ⟨up,by simp,fun a ha b hb=>?_⟩
    rw[kU.mp hb]
    cases h3:iP a k with
    |true=>rfl
    |false =>
     have h4:iP k a=false:=by
      obtain⟨j,hj⟩:=BU.mp ((mem a).mp ha)
      obtain⟨Ic,JJ⟩:=i7.mp hj
      have Tt:j<i:=by rw[mr] at Ic;lia
      have:=xa.mp pw j i (by lia) gI Tt
      rw[ek] at this
      rw[List.getElem_take] at JJ
      rwa[JJ] at this
     exact absurd (yO (qq a ha) (sF k gV) h3 h4) fun e=>hd (by rw[<- e];exact ha)
   ·rw[dy,kU,mem,tk,dy,kU]
 ·rintro ρ ⟨diff,fl,o4,up,mem,dl,rfl⟩
  rw[b4,AJ] at mem
  have md:∀ k,k∈diff↔k∈l:=fun k=>(mem k).trans ⟨wc k,back k⟩
  have qq:∀ k∈diff,kg k:=fun k BH=>sF k ((md k).mp BH)
  walk_at "q"
  refine cj (fun n out=>∃ r:List Int,out=r.map .int/\r.length=n/\∀ (i:Nat) x,r[i]? = some x->0<=x/\diff[x.toNat]? = l[i]?) (fun ρ=>∃ o,ρ=[o,some (.sh (.list (diff.map dP)))]) _ 0 [] _ _ ⟨_,rfl⟩ ⟨[],rfl,rfl,fun i k hk=>by simp at hk⟩ ?_ ?_
  ·rintro j y hy ρ ⟨o,rfl⟩ out ⟨r,rfl,Ub,EZ⟩ N1 N2 ox
   obtain⟨hj,R3⟩:=i7.mp hy
   have oz:j<l.length:=by simpa using hj
   have hye:y=dP l[j]:=by rw[<- R3];simp
   subst hye
   have gV:l[j]∈l:=AK oz
   have hlj:l[j]? = some l[j]:=jv oz
   generalize l[j]=k at *
   have BH:=(md k).mpr gV
   have qa:=QN BH
   walk_at "q"
   refine⟨yl qq 8,rP (sF k gV) 9,diff.idxOf k,⟨dP k,?_,by rw[vf];exact decide_eq_true rfl⟩,fun i z hi hz=>?_,.inl rfl,ox _ _ ⟨_,rfl⟩ ⟨r++[((diff.idxOf k:Nat):Int)],by simp,by simp[Ub],fun i x hx=>?_⟩⟩
   ·rw[nc,jv qa,OL qa];rfl
   ·rw[nc,jv (by lia)] at hz
    cases hz
    rw[vf]
    refine decide_eq_false fun e=>?_
    have:=QY (p:=(· == k)) (xs:=diff) hi
    rw[show diff[i]=k from e] at this
    simp at this
   ·rcases D9 i r.length with hi|hi
    ·rw[BQ hi] at hx
     exact EZ i x hx
    ·rw[w_ hi] at hx
     have sf:i-r.length=0:=by
      rcases Rc (i-r.length) with z|z
      ·exact z
      ·rw[sM (by simp;lia)] at hx;cases hx
     rw[sf] at hx
     cases hx
     have:i=j:=by lia
     subst this
     refine⟨by lia,?_⟩
     rw[hlj,GN,jv qa,OL qa]
  rintro out ⟨r,e,Ub,EZ⟩
  simp only[B4] at e
  subst e
  rw[b4,qS] at Ub
  refine h r ⟨fun s=>l.getD s.toNat (0,[]),diff,by lia,fun s a b=>?_,up,fun k=>?_,fun s a b=>?_⟩
  ·have hs:s.toNat<l.length:=by lia
   have:=hk s.toNat l[s.toNat] (jv hs)
   rw[B7 a] at this
   simpa[List.getD,hs] using this
  ·rw[md]
   constructor
   ·intro gV
    obtain⟨i,hi,rfl⟩:=LD.mp gV
    exact⟨(i:Nat),by lia,by simp[List.getD,hi]⟩
   ·rintro⟨s,hs,rfl⟩
    have hs:s.toNat<l.length:=by lia
    simp[List.getD,hs]
  ·have hs:s.toNat<r.length:=by lia
   have gL:s.toNat<l.length:=by lia
   have:=EZ s.toNat r[s.toNat] (jv hs)
   simpa[rk,List.getD,hs,gL] using this
def eG:WS :=
 (cp (qc (b_ (wC (.int 6))) (gN 7)
 (cp (dQ 8 (lu (wC (.str "")) (cY (b_ (ai 2)) (gN 0) mI (aC eT (ai 4) (aC wq (aC fR (aC eT (ai 2) (ai 0)) (aC oC (ai 3) (h9 Qx (aC mG (ai 0) (ai 1))))) (wC (.int 26)))) 1 [3,4,7,1])))
 (cp (oo (wB (aC mG (ai 5) (wC (.int 1))))
 (dQ 8 (lu (wC (.str "")) (cY (b_ (aC fR (ai 7) (wC (.int 1)))) (gN 0) mI (aC eT (ai 2) (aC eT (ai 1) (ai 0))) 1 [4,1])))
 eY)
 (cp (oo (wB (aC mG (ai 5) (wC (.int 2))))
 (cp (dQ 9 (cY (b_ (aV aq (ak (aC fR (ai 0) (ai 7)) (ak (wC (.int 4)) (ak (wC (.int 6)) df))))) (gN 0) mI (aC eT (ai 2) (aC eT (ai 1) (ai 0))) 1 [4,1]))
 (dQ 8 (aC fR (aC eT (ai 1) (aC wq (aC fR (aC eT (ai 4) (wC (.int 0))) (aC oC (wC (.int 11)) (ai 7))) (wC (.int 26)))) (lu (wC (.str "")) (ai 9)))))
 eY)
 (cp (oo (wB (aC mG (ai 5) (wC (.int 3))))
 (dQ 8 (lu (wC (.str "")) (cY (b_ (wC (.int 6))) (gN 0) mI (aC eT (ai 3) (aC wq (aC fR (aC eT (ai 1) (wC (.int 0))) (aC wq (aC fR (ai 0) (ai 2)) (wC (.int 6)))) (wC (.int 26)))) 1 [4,7,1])))
 eY)
 (nL 8 (z5 (nV 6) (ai 8))))))))
 (cp (dQ 10 (aV aq (ak (ai 0) (ak (wC (.int 4)) (ak (wC (.int 2)) df)))))
 (nK (Ta (aC fR (sR (ak (wC (.str "*")) df)) (ai 6)) (wL (ai 10)) (wL (aC fR (aC fR (ai 10) (wC (.int 1))) (aV aq (ak (ai 0) (ak (wC (.int 5)) (ak (wC (.int 7)) df))))))))))
def gM:WS :=
 (cp (dQ 1 (wC (.str "abcdefghijklmnopqrstuvwxyz")))
 (cp (dQ 2 (aC fR (wC (.int 1)) (aV aq (ak (ai 0) (ak (wC (.int 0)) (ak (wC (.int 6)) df))))))
 (cp (dQ 3 (aV aq (ak (ai 0) (ak (wC (.int 1)) (ak (ai 2) df)))))
 (cp (dQ 4 (cY (b_ (wC (.int 6))) (gN 0) mI (aV aq (ak (aC fR (aC oC (ai 1) (aC fR (ai 0) (wC (.int 1)))) (ai 0)) (ak (wC (.int 2)) (ak (wC (.int 26)) df)))) 1 [0]))
 (cp (dQ 5 (aV aq (ak (ai 0) (ak (wC (.int 3)) (ak (wC (.int 4)) df)))))
 (cp (dQ 6 (sR df))
 eG))))))
def bY:kE:=fun ds Q=>∃ c:Int,ds=[.int c]/\∀ names:List Str,1<=names.length->names.length<=7->(∀ n∈names,Oi n)->Q (.ow true) (.list (names.map .str))
theorem oJ (ds Q) (h:bY ds Q):ds.length=["_law_cell"].length:=by obtain⟨_,rfl,_⟩:=h;rfl
theorem oF(Q:Md->D->Prop)(c size at' kind:Int)(base:List Int)(hs:1<=size/\size<=6)(hk:0<=kind/\kind<4)(hb:base.length=6)(zh:∀ b∈base,0<=b/\b<26)
  (h:∀ names:List Str,1<=names.length->names.length<=7->(∀ n∈names,Oi n)->Q (.ow true) (.list (names.map .str))) :
  eG { nx:=fun _=>Q .sh .non,rt:=Q } [some (.sh (.int c)),some (.sh (.str abc)),some (.sh (.int size)),some (.sh (.int at')),some (.ow true (.list (base.map .int))),some (.sh (.int kind)),some (.ow true (.list [])),none,none,none,none]:=by
 unfold eG
 walk_at "q"
 refine b8 _ (fun i ρ=>∃ (words:List Str) (o7 o8 o9:Option Sl),words.length=i/\(∀ n∈words,Open n)/\ρ=[some (.sh (.int c)),some (.sh (.str abc)),some (.sh (.int size)),some (.sh (.int at')),some (.ow true (.list (base.map .int))),some (.sh (.int kind)),some (.ow true (.list (words.map .str))),o7,o8,o9,none]) ⟨[],_,_,_,rfl,(fun n hn=>nomatch hn),rfl⟩ ?_ ?_
 ·rintro i x ρ hx ⟨words,o7,o8,o9,hl,ho,rfl⟩ N hN
  obtain⟨hi,rfl⟩:=bx hx
  have hi:i<6:=hi
  have push:∀ (w:Str) (XI:Option Sl),Open w->N [some (.sh (.int c)),some (.sh (.str abc)),some (.sh (.int size)),some (.sh (.int at')),some (.ow true (.list (base.map .int))),some (.sh (.int kind)),some (.ow true (.list (words.map .str++[.str w]))),some (.sh (.int (0+(i:Nat)))),some (.sh (.str w)),XI,none]:=fun w XI hw=>by
   rw[zM]
   refine hN _ ⟨words++[w],_,_,_,by simp[hl],fun n hn=>?_,rfl⟩
   rcases dy.mp hn with hn|hn
   ·exact ho n hn
   ·rw[kU.mp hn];exact hw
  walk_at "q"
  refine⟨by lia,by lia,?_⟩
  refine cj (fun n out=>sC n out) (fun ρ=>∃ o,ρ=[o,some (.sh (.int at')),some (.sh (.list (base.map .int))),some (.sh (.int (0+(i:Nat)))),some (.sh (.str abc))]) _ 0 [] _ _ ⟨_,rfl⟩ sC.nil ?_ ?_
  ·rintro j y hy ρ ⟨o,rfl⟩ out ho N1 N2 ox
   obtain⟨hj,rfl⟩:=bx hy
   walk_at "q"
   obtain⟨b,_,eb⟩:=gC (l:=base) (i:=0+(j:Nat)) (by lia) (by lia)
   refine⟨.int b,eb,?_⟩
   walk_at "q"
   refine⟨iD (by lia) (by lia),?_⟩
   obtain⟨ch,ec,lc⟩:=sO (b+(0+(i:Nat))*(if decide (0+(j:Int)=at')=true then 1 else 0))
   refine⟨ch,ec,.inl rfl,ox _ _ ⟨_,rfl⟩ ?_⟩
   rw[qS] at ho ⊢
   exact ho.push lc
  intro out ke
  rw[bf] at ke
  simp only[qS,B4] at ke
  obtain⟨zs,ez,zl,wl0,we0⟩:=ke.join (by lia)
  refine⟨zs,ez,zl,?_⟩
  generalize Str.join _ zs=w0 at *
  have hw0:Open w0:=⟨by lia,by lia,we0⟩
  clear ez zl
  rcases (show kind=0\/kind=1\/kind=2\/kind=3 by lia) with rfl|rfl|rfl|rfl
  ·refine R.F (by decide) ?_
   walk_at "q"
   refine R.F (by decide) ?_
   walk_at "q"
   refine R.F (by decide) ?_
   walk_at "q"
   exact⟨by lia,push w0 _ hw0⟩
  ·refine R.T (by decide) ?_
   walk_at "q"
   refine⟨by lia,by lia,?_⟩
   refine cj (fun n out=>sC n out) (fun ρ=>∃ o,ρ=[o,some (.sh (.list (base.map .int))),some (.sh (.str abc))]) _ 0 [] _ _ ⟨_,rfl⟩ sC.nil ?_ ?_
   ·rintro j y hy ρ ⟨o,rfl⟩ out ho N1 N2 ox
    obtain⟨hj,rfl⟩:=bx hy
    walk_at "q"
    obtain⟨b,mb,eb⟩:=gC (l:=base) (i:=0+(j:Nat)) (by lia) (by lia)
    refine⟨.int b,eb,?_⟩
    walk_at "q"
    obtain⟨ch,ec,lc⟩:=yR (zh b mb).1 (zh b mb).2
    refine⟨ch,ec,.inl rfl,ox _ _ ⟨_,rfl⟩ ?_⟩
    rw[qS] at ho ⊢
    exact ho.push lc
   intro out ke
   rw[bf] at ke
   simp only[qS,B4] at ke
   obtain⟨zs,ez,zl,QK,Ot⟩:=ke.join (by lia)
   refine⟨zs,ez,zl,?_⟩
   generalize Str.join _ zs=w1 at *
   refine R.F (by decide) ?_
   walk_at "q"
   refine R.F (by decide) ?_
   walk_at "q"
   exact⟨by lia,push w1 _ ⟨by lia,by lia,Ot⟩⟩
  ·refine R.F (by decide) ?_
   walk_at "q"
   refine⟨_,4,6,rfl,by decide,by decide,fun r r0 r1=>?_⟩
   walk_at "q"
   refine⟨by lia,by lia,?_⟩
   refine cj (fun n out=>sC n out) (fun ρ=>∃ o,ρ=[o,some (.sh (.list (base.map .int))),some (.sh (.str abc))]) _ 0 [] _ _ ⟨_,rfl⟩ sC.nil ?_ ?_
   ·rintro j y hy ρ ⟨o,rfl⟩ out ho N1 N2 ox
    obtain⟨hj,rfl⟩:=bx hy
    walk_at "q"
    obtain⟨b,mb,eb⟩:=gC (l:=base) (i:=0+(j:Nat)) (by lia) (by lia)
    refine⟨.int b,eb,?_⟩
    walk_at "q"
    obtain⟨ch,ec,lc⟩:=yR (zh b mb).1 (zh b mb).2
    refine⟨ch,ec,.inl rfl,ox _ _ ⟨_,rfl⟩ ?_⟩
    rw[qS] at ho ⊢
    exact ho.push lc
   intro out ke
   rw[bf] at ke
   simp only[qS,B4] at ke
   obtain⟨b0,mb0,eb0⟩:=gC (l:=base) (i:=0) (by lia) (by lia)
   refine⟨.int b0,eb0,?_⟩
   walk_at "q"
   obtain⟨ch,ec,lc⟩:=sO (b0+11*(0+(i:Nat)))
   refine⟨iD (by lia) (by lia),ch,ec,?_⟩
   obtain⟨zs,ez,zl,QK,Ot⟩:=ke.join (by lia)
   refine⟨zs,ez,zl,?_⟩
   generalize Str.join _ zs=w1 at *
   refine⟨by rw[iJ];lia,?_⟩
   refine R.F (by decide) ?_
   walk_at "q"
   exact⟨by lia,push _ _ ⟨by rw[di,iJ];lia,by rw[di,iJ];lia,zR (z9 lc) Ot⟩⟩
  ·refine R.F (by decide) ?_
   walk_at "q"
   refine R.F (by decide) ?_
   walk_at "q"
   refine cj (fun n out=>sC n out) (fun ρ=>∃ o,ρ=[o,some (.sh (.list (base.map .int))),some (.sh (.int (0+(i:Nat)))),some (.sh (.str abc))]) _ 0 [] _ _ ⟨_,rfl⟩ sC.nil ?_ ?_
   ·rintro j y hy ρ ⟨o,rfl⟩ out ho N1 N2 ox
    obtain⟨hj,rfl⟩:=bx hy
    walk_at "q"
    obtain⟨b,mb,eb⟩:=gC (l:=base) (i:=0) (by lia) (by lia)
    refine⟨.int b,eb,?_⟩
    walk_at "q"
    obtain⟨ch,ec,lc⟩:=sO (b+(0+(j:Int)+(0+(i:Nat))) % 6)
    refine⟨ch,ec,.inl rfl,ox _ _ ⟨_,rfl⟩ ?_⟩
    rw[qS] at ho ⊢
    exact ho.push lc
   intro out ke
   rw[bf] at ke
   simp only[qS,B4] at ke
   obtain⟨zs,ez,zl,QK,Ot⟩:=ke.join (by decide)
   refine⟨zs,ez,zl,?_⟩
   generalize Str.join _ zs=w1 at *
   exact⟨by lia,push w1 _ ⟨by rw[QK];decide,by rw[QK];decide,Ot⟩⟩
 ·rintro ρ ⟨words,o7,o8,o9,hl,ho,rfl⟩
  rw[bf] at hl
  walk_at "q"
  refine⟨c,4,2,rfl,by decide,by decide,fun f f0 f1=>?_⟩
  walk_at "q"
  refine⟨by lia,.inl ⟨jT words,?_⟩⟩
  refine⟨c,5,7,rfl,by decide,by decide,fun r r0 r1=>?_⟩
  walk_at "q"
  refine .inl ⟨jT words,?_⟩
  have e:(D.str "*" :: words.map D.str)=(("*" : Str) :: words).map D.str:=rfl
  rw[e,zc]
  have hc:=Hm (l:=("*" : Str) :: words) (a:=f) (b:=f+1+r) f0 (by lia) (by simp;lia)
  refine h _ hc.1 (gx hc.2.1 (by simp;lia)) fun n hn=>?_
  rcases cy.mp (hc.2.2 n hn) with rfl|hn
  ·exact .inl rfl
  ·exact .inr (ho n hn)
theorem rY:∀ ds Q,bY ds Q->gM { nx:=fun _=>Q .sh .non,rt:=Q } (bh 11 ds):=by
 rintro ds Q ⟨c,rfl,h⟩
 unfold gM
 walk_at "q"
 refine⟨c,0,6,rfl,by decide,by decide,fun s s0 s1=>?_⟩
 walk_at "q"
 refine⟨c,1,1+s,rfl,by decide,by lia,fun at' a0 a1=>?_⟩
 walk_at "q"
 refine cj (fun n out=>∃ bs:List Int,out=bs.map .int/\bs.length=n/\∀ b∈bs,0<=b/\b<26) (fun ρ=>∃ o,ρ=[o,some (.sh (.int c))]) _ 0 [] _ _ ⟨_,rfl⟩ ⟨[],rfl,rfl,fun b hb=>nomatch hb⟩ ?_ ?_
 ·rintro j y hy ρ ⟨o,rfl⟩ out ⟨bs,rfl,hl,zh⟩ N1 N2 ox
  have hj:=(bx hy).1
  obtain⟨hj,rfl⟩:=bx hy
  walk_at "q"
  refine⟨bj (by lia) (by lia),_,2,26,rfl,by decide,by decide,fun r r0 r1=>?_⟩
  walk_at "q"
  refine⟨.inl rfl,ox _ _ ⟨_,rfl⟩ ⟨bs++[r],by simp,by simp[hl],fun b hb=>?_⟩⟩
  rcases dy.mp hb with hb|hb
  ·exact zh b hb
  ·rw[kU.mp hb];exact⟨r0,r1⟩
 rintro out ⟨base,e,hb,zh⟩
 simp only[B4] at e
 subst e
 rw[bf] at hb
 refine⟨c,3,4,rfl,by decide,by decide,fun kind k0 k1=>?_⟩
 walk_at "q"
 exact oF Q c _ at' kind base (by lia) ⟨k0,k1⟩ (by simpa using hb) zh h
def gF:WS :=
 (cp (dQ 4 (aV aG (ak (ai 0) (ak (aC fR (wC (.int 3)) (aC wq (aC fR (aC oC (wC (.int 7)) (ai 1)) (aC oC (wC (.int 11)) (ai 2))) (wC (.int 60)))) df))))
 (nK (aV aq (ak (aC fR (aC fR (ai 4) (aC oC (aV aG (ak (ai 0) (ak (wC (.int 2)) df))) (aC fR (ai 1) (wC (.int 2))))) (aC oC (aC fR (ai 1) (wC (.int 1))) (aC fR (aC fR (ai 1) (wC (.int 5))) (ai 2)))) (ak (ai 2) (ak (ai 3) df))))))
def aQ:kE:=fun ds Q=>∃ (ns:List Int) (k w m:Int),ds=[.list (ns.map .int),.int k,.int w,.int m]/\(0<=k/\k<=1000)/\(0<=w/\w<6)/\0<m/\∀ r,0<=r->r<m->Q .sh (.int r)
theorem oH (ds Q) (h:aQ ds Q):ds.length=["_law_script", "_law_k", "_law_way", "_law_many"].length:=by obtain⟨_,_,_,_,rfl,_⟩:=h;rfl
theorem rQ:∀ ds Q,aQ ds Q->gF { nx:=fun _=>Q .sh .non,rt:=Q } (bh 5 ds):=by
 rintro ds Q ⟨ns,k,w,m,rfl,hk,hw,hm,h⟩
 unfold gF
 walk_at "q"
 have a:=Bj (7*k+11*w) (show(0:Int)<60 by decide)
 refine⟨bj (by lia) (by lia),bj (by lia) (by lia),ns,_,rfl,by lia,?_⟩
 generalize ns.getD _ 0=c1
 walk_at "q"
 refine⟨ns,2,rfl,by decide,?_⟩
 generalize ns.getD _ 0=c2
 walk_at "q"
 refine⟨bj (by lia) (by lia),bj (by lia) (by lia),_,w,m,rfl,hw,hm,fun r r0 r1=>?_⟩
 walk_at "q"
 exact h r r0 r1
def fY:WS :=
 (cp (dQ 2 (aC wY (sR (ak (wC (.int 0)) df)) (ai 0)))
 (cp (qc (b_ (ai 0)) (gN 3)
 (dQ 2 (aV bV (ak (ai 0) (ak (ai 1) (ak (ai 2) df))))))
 (vm 2)))
def bA:kE:=fun ds Q=>∃ (many:Int) (steps:List bG),ds=[.int many,.list (steps.map gv)]/\(1<=many/\many<=100)/\fo many steps/\steps.length<=1000/\∀ k,Kinds many steps k->Q (.ow true) (.list (k.map .int))
theorem lG (ds Q) (h:bA ds Q):ds.length=["_law_many", "_law_steps"].length:=by obtain⟨_,_,rfl,_⟩:=h;rfl
theorem qz:∀ ds Q,bA ds Q->fY { nx:=fun _=>Q .sh .non,rt:=Q } (bh 4 ds):=by
 rintro ds Q ⟨many,steps,rfl,hm,aS,hl,h⟩
 unfold fY
 walk_at "q"
 refine⟨by lia,?_⟩
 rw[qw]
 refine⟨by lia,by lia,?_⟩
 refine b8 _ (fun i ρ=>∃ (aE:List Int) (o3:Option Sl),og many steps i aE/\ρ=[some (.sh (.int many)),some (.sh (.list (steps.map gv))),some (.ow true (.list (aE.map .int))),o3]) ⟨zeros many,_,og.zero hm.1,rfl⟩ ?_ ?_
 ·rintro i x ρ hx ⟨aE,o3,it,rfl⟩ N hN
  obtain⟨hi,rfl⟩:=bx hx
  walk_at "q"
  refine⟨many,steps,aE,rfl,hm,it.len,aS,hl,fun r hr=>?_⟩
  walk_at "q"
  exact hN _ ⟨r,_,it.next aS hm.1 hr,rfl⟩
 ·rintro ρ ⟨aE,o3,it,rfl⟩
  rw[bf] at it
  walk_at "q"
  exact h _ it.done
def gJ:WS :=
 (cp (dQ 1 (aV cA (ak (ai 0) df)))
 (cp (dQ 2 (sR (ak (aC wY (sR (ak (wC (.int 0)) df)) (aC eT (ai 0) (wC (.int 0)))) df)))
 (cp (dQ 3 (aV aN (ak (ai 1) (ak (aC eT (ai 2) (wC (.int 0))) df))))
 (cp (wF (wB (aC DL (ai 3) (aC eT (ai 2) (h9 ND (wC (.int 1))))))
 (yC 2 3 (aV aN (ak (ai 1) (ak (ai 3) df)))))
 (vm 2)))))
def XJ(rs:List (List Int)):D:=.list (rs.map Ap)
def bR:kE:=fun ds Q=>∃ (many:Int) (steps:List bG),ds=[mD many steps]/\(1<=many/\many<=100)/\fo many steps/\steps.length<=1000/\∀ rest,Chain many steps (zeros many) rest->rest.length<=10000->Q (.ow true) (XJ (zeros many :: rest))
theorem n8 (ds Q) (h:bR ds Q):ds.length=["m"].length:=by obtain⟨_,_,rfl,_⟩:=h;rfl
theorem yF(cur:List Int)(pre:List (List Int)):eW ((cur :: pre).map Ap) (-1)=some (Ap (gW cur pre)):=by
 have e:(cur :: pre).map Ap=((cur :: pre).dropLast.map Ap)++[Ap (gW cur pre)]:=by
  conv=>lhs;rw[<- List.dropLast_concat_getLast (show cur :: pre≠[] by simp)]
  rw[AO]
  rfl
 rw[e]
 exact aa' _ _
theorem vL(cur kR:List Int)(pre:List (List Int)):gW cur (pre++[kR])=kR:=by
 unfold gW
 rw[List.getLast_cons (by simp),List.getLast_concat]
theorem sV:∀ ds Q,bR ds Q->gJ { nx:=fun _=>Q .sh .non,rt:=Q } (bh 4 ds):=by
 rintro ds Q ⟨many,steps,rfl,hm,aS,hl,h⟩
 unfold gJ
 have hmm:many*many<=10000:=by
  have:=Int.mul_le_mul hm.2 hm.2 (by lia) (by lia)
  lia
 have e0:bh 4 [mD many steps]=[some (.sh (mD many steps)),none,none,none]:=rfl
 rw[e0]
 walk_at "q"
 refine⟨many,steps,rfl,by lia,aS,hl,?_⟩
 unfold JY
 walk_at "q"
 unfold mD
 walk_at "q"
 refine⟨by lia,?_⟩
 rw[qw]
 refine⟨many,steps,zeros many,rfl,by lia,by simp[zeros],aS,hl,fun r hr=>?_⟩
 walk_at "q"
 refine⟨fun ρ=>∃ (pre:List (List Int)) (cur kR:List Int),pF many cur/\RB many steps cur kR/\(∀ rest,Chain many steps cur rest->Chain many steps (zeros many) (pre++rest))/\gW (zeros many) pre=cur/\(pre.length:Int)<=cur.sum/\cur.sum<=many*many /\
   ρ=[some (.sh (.tup [.int many,.list (steps.map gv)])),some (.ow true (.list (oS many steps))),some (.ow true (.list ((zeros many :: pre).map Ap))),some (.ow true (.list (kR.map .int)))],
  fun ρ=>match ρ with
   |[_,_,some (.ow _ (.list rs)),_]=>20000-rs.length
   |_=>0,⟨[],zeros many,r,jX hm.1,hr,fun rest hc=>hc,rfl,?_,?_,rfl⟩,?_⟩
 ·simp[zeros]
 ·have:0<=many*many:=Int.mul_nonneg (by lia) (by lia)
  simp[zeros];lia
 rintro ρ ⟨pre,cur,kR,hd,hb,hc,hla,hp,hs,rfl⟩
 walk_at "q"
 refine⟨_,yF _ _,?_⟩
 rw[hla]
 unfold Ap
 walk_at "q"
 refine⟨sU _ _,sU _ _,?_⟩
 rw[JB]
 by_cases e:kR=cur
 ·rw[if_neg (by simp[e])]
  rw[e] at hb
  have:=hc [] hb
  rw[n4] at this
  exact h pre this (by lia)
 ·rw[if_pos (by simp[e])]
  have er':=hb.sum aS hd (by lia) e
  refine⟨qb _,by lia,?_⟩
  refine⟨many,steps,kR,rfl,by lia,(hb.wM aS).1,aS,hl,fun r2 SN=>?_⟩
  walk_at "q"
  refine⟨⟨pre++[kR],kR,r2,hb.wM aS,SN,fun rest vw=>?_,vL _ _ _,by simp;lia,er'.2,by simp[Ap]⟩,?_⟩
  ·have:=hc (kR :: rest) ⟨hb,e,vw⟩
   simpa using this
  ·simp
   lia
def bK:WS :=
 (cp (dQ 7 (aV bY (ak (aV aG (ak (ai 0) (ak (wC (.int 1)) df))) df)))
 (cp (dQ 8 yV)
 (cp (qc (b_ (aC Fd (ai 6) (aC DJ (ai 1) (aC oC (ai 3) (ai 3))))) (gN 9)
 (cp (dQ 10 (aV aQ (ak (ai 0) (ak (ai 9) (ak (wC (.int 0)) (ak (ai 4) df))))))
 (cp (dQ 11 (aV aQ (ak (ai 0) (ak (ai 9) (ak (wC (.int 1)) (ak (ai 4) df))))))
 (cp (dQ 12 (aC eT (ai 7) (aV aQ (ak (ai 0) (ak (ai 9) (ak (wC (.int 2)) (ak (h9 ya (ai 7)) df)))))))
 (cp (dQ 13 (aV aQ (ak (ai 0) (ak (ai 9) (ak (wC (.int 3)) (ak (wC (.int 3)) df))))))
 (qc (b_ (ai 3)) (gN 14)
 (qc (b_ (ai 3)) (gN 15)
 (oo (NC (wB (aC mG (ai 13) (wC (.int 2)))) (wB (aC mG (ai 15) (aC wq (aC fR (ai 13) (ai 14)) (ai 3)))))
 (oU (nV 8) (wx (ak (aC fR (ai 10) (aC oC (ai 4) (ai 14))) (ak (ai 12) (ak (aC fR (ai 11) (aC oC (ai 4) (ai 15))) df)))) (wC (.bl true)))
 eY))))))))
 (cp (qc (b_ (aC Qf (aC oC (ai 3) (ai 4)) (wC (.int 1)))) (gN 9)
 (oo (Qa (wB (aC mG (aV aq (ak (ai 2) (ak (wC (.int 4)) (ak (wC (.int 3)) df)))) (wC (.int 1)))) (wB (aC S8 (aC wq (aC fR (ai 9) (wC (.int 1))) (ai 4)) (wC (.int 0)))))
 (oU (nV 8) (wx (ak (ai 9) (ak (aC eT (ai 7) (wC (.int 0))) (ak (aC fR (ai 9) (wC (.int 1))) df)))) (wC (.bl true)))
 eY))
 (nK (wx (ak (aC oC (ai 3) (ai 4)) (ak (h9 qU (ai 8)) df))))))))
def bL:WS :=
 (cp (dQ 6 (aV aq (ak (ai 2) (ak (wC (.int 3)) (ak (aC oC (wC (.int 3)) (ai 4)) df)))))
 (cp (oo (wB (aC mG (ai 5) (wC (.int 2))))
 (nL 1 (dQ 6 (ai 1)))
 eY)
 bK))
def dH:WS :=
 (cp (dQ 2 (aV aG (ak (ai 0) (ak (wC (.int 0)) df))))
 (cp (dQ 3 (aC fR (wC (.int 1)) (aC DJ (aV aq (ak (ai 2) (ak (wC (.int 0)) (ak (wC (.int 3)) df)))) (wC (.int 2)))))
 (cp (dQ 4 (aC fR (wC (.int 1)) (aV aq (ak (ai 2) (ak (wC (.int 1)) (ak (wC (.int 8)) df))))))
 (cp (dQ 5 (aV aq (ak (ai 2) (ak (wC (.int 2)) (ak (wC (.int 8)) df)))))
 (cp (oo (wB (aC mG (ai 5) (wC (.int 1))))
 (dQ 4 (aC DJ (wC (.int 20)) (ai 3)))
 eY)
 (cp (oo (wB (aC mG (ai 5) (wC (.int 3))))
 (dQ 4 (aC fR (wC (.int 1)) (aV aq (ak (ai 2) (ak (wC (.int 5)) (ak (aC DJ (wC (.int 20)) (ai 3)) df))))))
 eY)
 bL))))))
def aU:kE:=fun ds Q=>∃ (ns:List Int) (most:Int),ds=[.list (ns.map .int),.int most]/\(1<=most/\most<=100)/\∀ (many:Int) (steps:List bG),1<=many->many<=20->fo many steps->steps.length<=500->steps.Pairwise (fun a b=>b9 a b=true)->Q (.ow true) (mD many steps)
theorem jk (ds Q) (h:aU ds Q):ds.length=["_law_script", "_law_most"].length:=by obtain⟨_,_,rfl,_⟩:=h;rfl
theorem eU{Q:Md->D->Prop}{ns:List Int}{most shape copies states size many:Int}(hc:copies=1\/copies=2)(hs:1<=states)(jI:copies*states<=20)(hmm:0<=many/\many<=1000)(FH:1<=most/\most<=100)
  (h:∀ (many:Int) (steps:List bG),1<=many->many<=20->fo many steps->steps.length<=500->steps.Pairwise (fun a b=>b9 a b=true)->Q (.ow true) (mD many steps)) :
  bK { nx:=fun _=>Q .sh .non,rt:=Q } [some (.sh (.list (ns.map .int))),some (.sh (.int most)),some (.sh (.int shape)),some (.sh (.int copies)),some (.sh (.int states)),some (.sh (.int size)),some (.sh (.int many)),none,none,none,none,none,none,none,none,none]:=by
 have kH:states<=20:=by rcases hc with rfl|rfl<;>lia
 unfold bK
 walk_at "q"
 refine⟨ns,1,rfl,by decide,?_⟩
 generalize ns.getD _ 0=c1
 walk_at "q"
 refine⟨c1,rfl,fun names n1 n7 hd=>?_⟩
 walk_at "q"
 have GV:copies*copies=1\/copies*copies=4:=by rcases hc with rfl|rfl<;>decide
 refine⟨bj (by lia) (by lia),by lia,?_⟩
 have et':∃ r:Int,(if most / (copies*copies)<many then most / (copies*copies) else many)=r/\0<=r/\r<=100:=by
  refine⟨_,rfl,?_⟩
  have:0<=most / (copies*copies)/\most / (copies*copies)<=100:=by rcases GV with e|e<;>rw[e]<;>lia
  split<;>lia
 obtain⟨r,er,r0,r1⟩:=et'
 rw[er]
 refine⟨by lia,by lia,?_⟩
 refine b8 _ (fun i ρ=>∃ (kvs:Kn) (o9 Ou Ov Ow Ox BM vn:Option Sl),tI (DZ (copies*states)) kvs/\kvs.length<=4*i/\ρ=[some (.sh (.list (ns.map .int))),some (.sh (.int most)),some (.sh (.int shape)),some (.sh (.int copies)),some (.sh (.int states)),some (.sh (.int size)),some (.sh (.int many)),some (.ow true (.list (names.map .str))),some (.ow true (.dT kvs)),o9,Ou,Ov,Ow,Ox,BM,vn]) ⟨[],_,_,_,_,_,_,_,tI.nil,bT _,rfl⟩ ?_ ?_
 ·rintro i x ρ hx ⟨kvs,o9,Ou,Ov,Ow,Ox,BM,vn,hk,hG,rfl⟩ N hN
  obtain⟨hi,rfl⟩:=bx hx
  walk_at "q"
  refine⟨ns,_,0,states,rfl,by lia,by decide,by lia,fun one a0 a1=>?_⟩
  walk_at "q"
  refine⟨ns,_,1,states,rfl,by lia,by decide,by lia,fun two b0 b1=>?_⟩
  walk_at "q"
  refine⟨ns,_,2,(names.length:Nat),rfl,by lia,by decide,by lia,fun w w0 w1=>?_⟩
  obtain⟨n,hn,en⟩:=xq (names:=names) w0 w1
  walk_at "q"
  refine⟨_,en,?_⟩
  walk_at "q"
  refine⟨ns,_,3,3,rfl,by lia,by decide,by decide,fun way y0 y1=>?_⟩
  walk_at "q"
  refine⟨by lia,by lia,?_⟩
  refine b8 _ (fun j ρ=>∃ (kvs:Kn) (BM vn:Option Sl),tI (DZ (copies*states)) kvs/\kvs.length<=4*i+2*j/\ρ=[some (.sh (.list (ns.map .int))),some (.sh (.int most)),some (.sh (.int shape)),some (.sh (.int copies)),some (.sh (.int states)),some (.sh (.int size)),some (.sh (.int many)),some (.ow true (.list (names.map .str))),some (.ow true (.dT kvs)),some (.sh (.int (0+(i:Nat)))),some (.sh (.int one)),some (.sh (.int two)),some (.sh (.str n)),some (.sh (.int way)),BM,vn]) ⟨kvs,_,_,hk,by lia,rfl⟩ ?_ ?_
  ·clear hk hG
   rintro j x ρ hx ⟨kvs,BM,vn,hk,hG,rfl⟩ N hN
   obtain⟨hj,rfl⟩:=bx hx
   walk_at "q"
   refine⟨by lia,by lia,?_⟩
   refine b8 _ (fun l ρ=>∃ (kvs:Kn) (vn:Option Sl),tI (DZ (copies*states)) kvs/\kvs.length<=4*i+2*j+l/\ρ=[some (.sh (.list (ns.map .int))),some (.sh (.int most)),some (.sh (.int shape)),some (.sh (.int copies)),some (.sh (.int states)),some (.sh (.int size)),some (.sh (.int many)),some (.ow true (.list (names.map .str))),some (.ow true (.dT kvs)),some (.sh (.int (0+(i:Nat)))),some (.sh (.int one)),some (.sh (.int two)),some (.sh (.str n)),some (.sh (.int way)),some (.sh (.int (0+(j:Nat)))),vn]) ⟨kvs,_,hk,by lia,rfl⟩ ?_ ?_
   ·clear hk hG
    rintro l x ρ hx ⟨kvs,vn,hk,hG,rfl⟩ N hN
    obtain⟨hl,rfl⟩:=bx hx
    have go:y6 states (0+(j:Nat))/\y6 states (0+(l:Nat))/\kvs.length<16777216/\N [some (.sh (.list (ns.map .int))),some (.sh (.int most)),some (.sh (.int shape)),some (.sh (.int copies)),some (.sh (.int states)),some (.sh (.int size)),some (.sh (.int many)),some (.ow true (.list (names.map .str))),some (.ow true (.dT (kD kvs (iq (one+states*(0+(j:Nat)),n,two+states*(0+(l:Nat)))) (.bl true)))),some (.sh (.int (0+(i:Nat)))),some (.sh (.int one)),some (.sh (.int two)),some (.sh (.str n)),some (.sh (.int way)),some (.sh (.int (0+(j:Nat)))),some (.sh (.int (0+(l:Nat))))]:=by
     have c1:=yW (one:=one) (states:=states) (j:=0+(j:Nat)) (copies:=copies) a0 a1 (by lia) (by lia)
     have c2:=yW (one:=two) (states:=states) (j:=0+(l:Nat)) (copies:=copies) b0 b1 (by lia) (by lia)
     refine⟨bj (by lia) (by lia),bj (by lia) (by lia),by lia,?_⟩
     have:=jw kvs (iq (one+states*(0+(j:Nat)),n,two+states*(0+(l:Nat)))) (D.bl true)
     exact hN _ ⟨_,_,hk.put (s:=(one+states*(0+(j:Nat)),n,two+states*(0+(l:Nat)))) ⟨c1.1,c1.2,hd n hn,c2.1,c2.2⟩,by omega,rfl⟩
    walk_at "q"
    refine R.D (fun e=>?_) fun e=>?_
    ·walk_at "q"
     exact go
    ·walk_at "q"
     refine⟨by lia,R.D (fun e=>?_) fun e=>?_⟩
     ·walk_at "q"
      exact go
     ·walk_at "q"
      exact hN _ ⟨kvs,_,hk,by lia,rfl⟩
   ·clear hk hG
    rintro ρ ⟨kvs,vn,hk,hG,rfl⟩
    rw[bf] at hG
    exact hN _ ⟨kvs,_,_,hk,by lia,rfl⟩
  ·clear hk hG
   rintro ρ ⟨kvs,BM,vn,hk,hG,rfl⟩
   rw[bf] at hG
   exact hN _ ⟨kvs,_,_,_,_,_,_,_,hk,by lia,rfl⟩
 ·rintro ρ ⟨kvs,o9,Ou,Ov,Ow,Ox,BM,vn,hk,hG,rfl⟩
  rw[bf] at hG
  walk_at "q"
  have fT':1<=copies*states:=by rcases hc with rfl|rfl<;>lia
  refine⟨bj (by lia) (by lia),by lia,by lia,?_⟩
  refine b8 _ (fun i ρ=>∃ (kvs:Kn) (o9:Option Sl),tI (DZ (copies*states)) kvs/\kvs.length<=400+i/\ρ=[some (.sh (.list (ns.map .int))),some (.sh (.int most)),some (.sh (.int shape)),some (.sh (.int copies)),some (.sh (.int states)),some (.sh (.int size)),some (.sh (.int many)),some (.ow true (.list (names.map .str))),some (.ow true (.dT kvs)),o9,Ou,Ov,Ow,Ox,BM,vn]) ⟨kvs,_,hk,by lia,rfl⟩ ?_ ?_
  ·clear hk hG
   rintro i x ρ hx ⟨kvs,o9,hk,hG,rfl⟩ N hN
   obtain⟨hi,rfl⟩:=bx hx
   walk_at "q"
   refine⟨_,4,3,rfl,by decide,by decide,fun q q0 q1=>?_⟩
   walk_at "q"
   refine R.D (fun e=>?_) fun e=>?_
   ·walk_at "q"
    refine⟨by lia,R.D (fun e2=>?_) fun e2=>?_⟩
    ·obtain⟨n,hn,en⟩:=xq (names:=names) (i:=0) (by decide) (by lia)
     walk_at "q"
     refine⟨_,en,?_⟩
     walk_at "q"
     refine⟨by lia,?_⟩
     have:=jw kvs (iq (0+(i:Nat),n,0+(i:Nat)+1)) (D.bl true)
     exact hN _ ⟨_,_,hk.put (s:=(0+(i:Nat),n,0+(i:Nat)+1)) ⟨(by lia : (0:Int)<=0+(i:Nat)),(by lia : 0+((i:Nat):Int)<copies*states),hd n hn,(by lia : (0:Int)<=0+(i:Nat)+1),(by lia : 0+((i:Nat):Int)+1<copies*states)⟩,by lia,rfl⟩
    ·walk_at "q"
     exact hN _ ⟨kvs,_,hk,by lia,rfl⟩
   ·walk_at "q"
    exact hN _ ⟨kvs,_,hk,by lia,rfl⟩
  ·clear hk hG
   rintro ρ ⟨kvs,o9,hk,hG,rfl⟩
   rw[bf] at hG
   walk_at "q"
   refine⟨bj (by lia) (by lia),?_⟩
   refine hk.CN fun steps pm hP pw hlen=>?_
   rw[uR]
   exact h _ steps (by rcases hc with rfl|rfl<;>lia) jI hP (by lia) pw
theorem cM{Q:Md->D->Prop}{ns:List Int}{most shape copies states size:Int}(hc:copies=1\/copies=2)(hs:1<=states)(jI:copies*states<=20)(FH:1<=most/\most<=100)
  (h:∀ (many:Int) (steps:List bG),1<=many->many<=20->fo many steps->steps.length<=500->steps.Pairwise (fun a b=>b9 a b=true)->Q (.ow true) (mD many steps)) :
  bL { nx:=fun _=>Q .sh .non,rt:=Q } [some (.sh (.list (ns.map .int))),some (.sh (.int most)),some (.sh (.int shape)),some (.sh (.int copies)),some (.sh (.int states)),some (.sh (.int size)),none,none,none,none,none,none,none,none,none,none]:=by
 have kH:states<=20:=by rcases hc with rfl|rfl<;>lia
 obtain⟨w8,e8⟩:∃ w8,w8=bK:=⟨_,rfl⟩
 unfold bL
 rw[<- e8]
 walk_at "q"
 refine⟨iD (by lia) (by lia),_,3,_,rfl,by decide,by lia,fun many m0 m1=>?_⟩
 walk_at "q"
 refine R.D (fun e=>?_) fun e=>?_
 ·walk_at "q"
  rw[e8]
  exact eU hc hs jI ⟨by lia,by lia⟩ FH h
 ·walk_at "q"
  rw[e8]
  exact eU hc hs jI ⟨by lia,by lia⟩ FH h
theorem lD:∀ ds Q,aU ds Q->dH { nx:=fun _=>Q .sh .non,rt:=Q } (bh 16 ds):=by
 rintro ds Q ⟨ns,most,rfl,FH,h⟩
 obtain⟨w6,e6⟩:∃ w6,w6=bL:=⟨_,rfl⟩
 unfold dH
 rw[<- e6]
 walk_at "q"
 refine⟨ns,0,rfl,by decide,?_⟩
 generalize ns.getD _ 0=shape
 walk_at "q"
 refine⟨shape,0,3,rfl,by decide,by decide,fun c c0 c1=>?_⟩
 walk_at "q"
 refine⟨shape,1,8,rfl,by decide,by decide,fun st s0 s1=>?_⟩
 walk_at "q"
 refine⟨shape,2,8,rfl,by decide,by decide,fun size z0 z1=>?_⟩
 walk_at "q"
 have hc:1+c / 2=1\/1+c / 2=2:=by lia
 generalize 1+c / 2=copies at hc ⊢
 refine R.D (fun e=>?_) fun e=>?_
 ·walk_at "q"
  refine⟨by lia,?_⟩
  refine R.F (by simp;lia) ?_
  walk_at "q"
  rw[e6]
  exact cM hc (by rcases hc with rfl|rfl<;>lia) (by rcases hc with rfl|rfl<;>lia) FH h
 ·walk_at "q"
  refine R.D (fun e=>?_) fun e=>?_
  ·walk_at "q"
   refine⟨by lia,?_⟩
   refine⟨shape,5,_,rfl,by decide,by rcases hc with rfl|rfl<;>lia,fun q q0 q1=>?_⟩
   walk_at "q"
   rw[e6]
   exact cM hc (by lia) (by rcases hc with rfl|rfl<;>lia) FH h
  ·walk_at "q"
   rw[e6]
   exact cM hc (by lia) (by rcases hc with rfl|rfl<;>lia) FH h
def du:WS :=
 (cp (T9 (nV 3) (aC eT (ai 2) (wC (.int 0))))
 (cp (TX (nV 3) (wC (.int 0)) (aC eT (ai 2) (wC (.int 0))))
 (nK (cY (dW (ai 2)) (gN 0) mI (S6 (wB (aC (wt false) (ai 0) (ai 1))) (qL (ai 1) (ai 0)) (wC .non)) 1 [3]))))
def iH:WS :=
 (cp (dQ 2 (aV bA (ak (ai 0) (ak (ai 1) df))))
 (cp (dQ 3 (h9 fM (cY (dW (aV cC (ak (ai 0) (ak (ai 1) df)))) (gN 0) mI (aC eT (ai 1) (ai 0)) 1 [2])))
 du))
def cB:kE:=fun ds Q=>∃ (many:Int) (steps:List bG),ds=[.int many,.list (steps.map gv)]/\(1<=many/\many<=20)/\fo many steps/\steps.length<=1000/\∀ hs,lN many steps hs->Q (.ow true) (.list (hs.map hJ))
theorem pq (ds Q) (h:cB ds Q):ds.length=["_law_many", "_law_steps"].length:=by obtain⟨_,_,rfl,_⟩:=h;rfl
theorem vg{eB:List Int}(nd:eB.Nodup)(k0:Int):k0 :: eB.erase k0=numsOf k0 eB:=by
 unfold numsOf
 rw[nd.erase_eq_filter]
 congr 1
 refine List.filter_congr fun x _=>?_
 by_cases h:x=k0<;>simp[h]
theorem Dz(x:Int)(l:List Int):inD (.int x) (l.map .int)=decide (x∈l):=by
 unfold inD
 rw[List.any_map,xk,LM,decide_eq_true_iff]
 constructor
 ·rintro⟨y,hy,e⟩
  have e:fI (.int y) (.int x)=true:=e
  rw[fc _ _ rfl rfl] at e
  cases e
  exact hy
 ·exact fun h=>⟨x,h,(fc _ _ rfl rfl).mpr rfl⟩
theorem yo(l:List Int):(l.map D.int).all eV=true:=by
 rw[FT,AI]
 exact fun _ _=>rfl
theorem pY{Q:Md->D->Prop}{many:Int}{steps:List bG}{k ms eB:List Int}{o1:Option Sl}(hm:1<=many/\many<=20)(aS:fo many steps)(hk:Kinds many steps k)(AA:Met steps ms)(up:eB.Pairwise (· < ·))(mem:∀ x,x∈eB↔∃ s∈ms,x=rk k s)(I0:eB.length<=1000)
  (h:∀ hs,lN many steps hs->Q (.ow true) (.list (hs.map hJ))) :
  du { nx:=fun _=>Q .sh .non,rt:=Q } [some (.sh (.int many)),o1,some (.ow true (.list (k.map .int))),some (.ow true (.list (eB.map .int)))]:=by
 have hG:=hk.len
 have k0:=qe hG (pj 0) (by lia)
 have eu':rk k 0∈eB:=(mem _).mpr ⟨0,AA.zero,rfl⟩
 unfold du
 walk_at "q"
 refine⟨_,k0,?_⟩
 walk_at "q"
 refine⟨eB,rfl,eu',?_⟩
 refine⟨_,k0,?_⟩
 walk_at "q"
 have Fc:=Q5 (l:=eB) (a:=rk k 0)
 refine⟨by lia,by lia,?_⟩
 have e0:tq ((eB.erase (rk k 0)).map D.int) (Int.toNat 0) (.int (rk k 0))=(numsOf (rk k 0) eB).map D.int:=by
  rw[<- vg (h_ up)]
  simp[tq]
 have nd:=mR (rk k 0) up
 generalize hnu:numsOf (rk k 0) eB=nums at *
 have e1:((k.map D.int).filter fun _=>true).map (fun d=>match d with
   |.int x=>hJ (fu nums x)
   |d=>d)=(k.map (fu nums)).map hJ:=by
  rw[D4.mpr fun _ _=>rfl,fA,fA]
  rfl
 refine bM (fun _=>true) (fun d=>match d with
   |.int x=>hJ (fu nums x)
   |d=>d) (fun ρ=>∃ o,ρ=[o,some (.sh (.list (nums.map .int)))]) _ _ _ ⟨none,by rw[<- e0];rfl⟩ ?_ ?_
 ·rintro x hx ρ ⟨o,rfl⟩ N1 N2 n1 n2
  obtain⟨x,_,rfl⟩:=cc.mp hx
  walk_at "q"
  refine⟨rfl,yo _,?_⟩
  rw[Dz]
  by_cases hx:x∈nums
  ·refine R.T (by simp[hx]) ?_
   have qa:=QN hx
   walk_at "q"
   refine⟨sU _ _,rfl,nums.idxOf x,⟨.int x,?_,(fc _ _ rfl rfl).mpr rfl⟩,fun i z hi hz=>?_,.inl rfl,?_⟩
   ·rw[nc,jv qa,OL qa];rfl
   ·rw[nc,jv (by lia)] at hz
    cases hz
    have:=QY (p:=(· == x)) (xs:=nums) hi
    cases e:fI (.int nums[i]) (.int x) with
    |false=>rfl
    |true =>
     rw[fc _ _ rfl rfl] at e
     rw[D.int.inj e] at this
     simp at this
   ·have:=n2 [some (.sh (.int x)),some (.sh (.list (nums.map .int)))] ⟨_,rfl⟩ rfl
    simp only[fu,if_pos hx,hJ,QH] at this
    exact this
  ·refine R.F (by simp[hx]) ?_
   walk_at "q"
   have:=n2 [some (.sh (.int x)),some (.sh (.list (nums.map .int)))] ⟨_,rfl⟩ rfl
   simp only[fu,if_neg hx,hJ] at this
   exact⟨.inl rfl,this⟩
 ·rw[e1]
  exact h _ ⟨k,ms,eB,hk,AA,up,mem,by rw[hnu]⟩
theorem vJ:∀ ds Q,cB ds Q->iH { nx:=fun _=>Q .sh .non,rt:=Q } (bh 4 ds):=by
 rintro ds Q ⟨many,steps,rfl,hm,aS,hl,h⟩
 obtain⟨w2,e2⟩:∃ w2,w2=du:=⟨_,rfl⟩
 unfold iH
 rw[<- e2]
 walk_at "q"
 refine⟨many,steps,rfl,by lia,aS,hl,fun k hk=>?_⟩
 have hG:=hk.len
 walk_at "q"
 refine⟨many,steps,rfl,hm,aS,fun ms AA=>?_⟩
 have Xp:=AA.len aS hm.1
 walk_at "q"
 refine bM (fun _=>true) (fun d=>match d with
  |.int s=>.int (rk k s)
  |d=>d) (fun ρ=>∃ o,ρ=[o,some (.sh (.list (k.map .int)))]) _ _ _ ⟨_,rfl⟩ ?_ ?_
 ·rintro x hx ρ ⟨o,rfl⟩ N1 N2 n1 n2
  obtain⟨s,hs,rfl⟩:=cc.mp hx
  have:=((AA.mem s).mp hs).lt aS hm.1
  walk_at "q"
  refine⟨_,qe hG this.1 this.2,?_⟩
  walk_at "q"
  exact⟨.inl rfl,n2 _ ⟨_,rfl⟩ rfl⟩
 have e1:((ms.map D.int).filter fun _=>true).map (fun d=>match d with
   |.int s=>.int (rk k s)
   |d=>d)=((ms.map (rk k)).map fun x=>(Sum.inl x:Key)).map lT:=by
  rw[D4.mpr fun _ _=>rfl,fA,fA,fA]
  rfl
 rw[e1]
 refine⟨_,true,rfl,by rw[b4,b4];lia,fun x hx=>?_,fun ks nd mm pw=>?_⟩
 ·obtain⟨y,_,rfl⟩:=cc.mp hx
  rfl
 obtain⟨eB,rfl,Oy⟩:=Ol (f:=fun x=>(Sum.inl x:Key)) (P:=fun x=>x∈ms.map (rk k)) (ks:=ks) fun x hx=>by
  obtain⟨y,hy,e⟩:=cc.mp ((mm x).mp hx)
  exact⟨y,e.symm,hy⟩
 have up:=Bp nd pw
 have mem:∀ x,x∈eB↔∃ s∈ms,x=rk k s:=fun x=>by
  constructor
  ·intro hx
   obtain⟨s,hs,e⟩:=cc.mp (Oy x hx)
   exact⟨s,hs,e.symm⟩
  ·rintro⟨s,hs,rfl⟩
   exact cV.mp ((mm _).mpr (cV.mpr (cc.mpr ⟨s,hs,rfl⟩)))
 rw[uv]
 have I0:eB.length<=ms.length:=by
  have:=aW (m:=ms.map (rk k)) (h_ up) Oy
  rwa[b4] at this
 rw[e2]
 exact pY hm aS hk AA up mem (by lia) h
def iQ:WS :=
 (nK (QB (aV bR (ak (ai 0) df)) (h9 ND (wC (.int 1)))))
def cD:kE:=fun ds Q=>∃ (many:Int) (steps:List bG),ds=[mD many steps]/\(1<=many/\many<=100)/\fo many steps/\steps.length<=1000/\∀ k,Kinds many steps k->Q (.ow true) (.list (k.map .int))
theorem pG (ds Q) (h:cD ds Q):ds.length=["m"].length:=by obtain⟨_,_,rfl,_⟩:=h;rfl
theorem vh:∀ ds Q,cD ds Q->iQ { nx:=fun _=>Q .sh .non,rt:=Q } (bh 1 ds):=by
 rintro ds Q ⟨many,steps,rfl,hm,aS,hl,h⟩
 unfold iQ
 rw[show bh 1 [mD many steps]=[some (.sh (mD many steps))] from rfl]
 walk_at "q"
 refine⟨many,steps,rfl,hm,aS,hl,fun rest hc hr=>?_⟩
 unfold XJ
 walk_at "q"
 refine⟨_,yF _ _,?_⟩
 unfold Ap
 walk_at "q"
 exact h _ ⟨rest,hc,rfl⟩
def iM:WS :=
 (cp (dQ 1 (aV cD (ak (ai 0) df)))
 (cp (dQ 2 (NW (aC eT (ai 1) (wC (.int 0))) (wC (.int 0))))
 (cp (qc (gB (h9 fM (cY (dW (aV lR (ak (ai 0) df))) (gN 0) mI (aC eT (ai 1) (ai 0)) 1 [1]))) (gN 3)
 (oo (wB (aC (wt true) (ai 3) (ai 2)))
 (oU (nV 2) (ai 3) (h9 ya (ai 2)))
 eY))
 (nK (cY (dW (ai 1)) (gN 0) mI (Qw (ai 1) (ai 0) (wC .non)) 1 [2])))))
def bN:kE:=fun ds Q=>∃ (many:Int) (steps:List bG),ds=[mD many steps]/\(1<=many/\many<=20)/\fo many steps/\steps.length<=1000/\∀ hs,lN many steps hs->Q (.ow true) (.list (hs.map hJ))
theorem qu (ds Q) (h:bN ds Q):ds.length=["m"].length:=by obtain⟨_,_,rfl,_⟩:=h;rfl
theorem vQ:∀ ds Q,bN ds Q->iM { nx:=fun _=>Q .sh .non,rt:=Q } (bh 4 ds):=by
 rintro ds Q ⟨many,steps,rfl,hm,aS,hl,h⟩
 unfold iM
 rw[show bh 4 [mD many steps]=[some (.sh (mD many steps)),none,none,none] from rfl]
 walk_at "q"
 refine⟨many,steps,rfl,by lia,aS,hl,fun k hk=>?_⟩
 have hG:=hk.len
 walk_at "q"
 refine⟨_,qe hG (pj 0) (by lia),?_⟩
 walk_at "q"
 refine⟨many,steps,rfl,hm.1,hm.2,aS,fun ms AA=>?_⟩
 have Xp:=AA.len aS hm.1
 walk_at "q"
 refine bM (fun _=>true) (fun d=>match d with
  |.int s=>.int (rk k s)
  |d=>d) (fun ρ=>∃ o,ρ=[o,some (.sh (.list (k.map .int)))]) _ _ _ ⟨_,rfl⟩ ?_ ?_
 ·rintro x hx ρ ⟨o,rfl⟩ N1 N2 n1 n2
  obtain⟨s,hs,rfl⟩:=cc.mp hx
  have:=((AA.mem s).mp hs).lt aS hm.1
  walk_at "q"
  refine⟨_,qe hG this.1 this.2,?_⟩
  walk_at "q"
  exact⟨.inl rfl,n2 _ ⟨_,rfl⟩ rfl⟩
 have e1:((ms.map D.int).filter fun _=>true).map (fun d=>match d with
   |.int s=>.int (rk k s)
   |d=>d)=((ms.map (rk k)).map fun x=>(Sum.inl x:Key)).map lT:=by
  rw[D4.mpr fun _ _=>rfl,fA,fA,fA]
  rfl
 rw[e1]
 refine⟨_,true,rfl,by rw[b4,b4];lia,fun x hx=>?_,fun ks nd mm pw=>?_⟩
 ·obtain⟨y,_,rfl⟩:=cc.mp hx
  rfl
 obtain⟨eB,rfl,Oy⟩:=Ol (f:=fun x=>(Sum.inl x:Key)) (P:=fun x=>x∈ms.map (rk k)) (ks:=ks) fun x hx=>by
  obtain⟨y,hy,e⟩:=cc.mp ((mm x).mp hx)
  exact⟨y,e.symm,hy⟩
 have up:=Bp nd pw
 have mem:∀ x,x∈eB↔∃ s∈ms,x=rk k s:=fun x=>by
  constructor
  ·intro hx
   obtain⟨s,hs,e⟩:=cc.mp (Oy x hx)
   exact⟨s,hs,e.symm⟩
  ·rintro⟨s,hs,rfl⟩
   exact cV.mp ((mm _).mpr (cV.mpr (cc.mpr ⟨s,hs,rfl⟩)))
 rw[uv]
 have I0:eB.length<=ms.length:=by
  have:=aW (m:=ms.map (rk k)) (h_ up) Oy
  rwa[b4] at this
 refine b8 _ (fun i ρ=>∃ o3,ρ=[some (.sh (mD many steps)),some (.ow true (.list (k.map .int))),some (.ow true (.dK (oP (numsOf (rk k 0) (eB.take i))))),o3]) ⟨none,rfl⟩ ?_ ?_
 ·rintro i x ρ hx ⟨o3,rfl⟩ N hN
  obtain⟨hi,Om⟩:=i7.mp hx
  have gI:i<eB.length:=by simpa using hi
  have Oo:x=.int eB[i]:=by rw[<- Om];simp
  subst Oo
  have tk:eB.take (i+1)=eB.take i++[eB[i]]:=by rw[B1,jv gI];rfl
  have nin:eB[i]∉eB.take i:=fun z=>by
   obtain⟨j,hj,e⟩:=LD.mp z
   have oz:j<i:=by rw[mr] at hj;lia
   have:=xa.mp up j i (by lia) gI oz
   rw[List.getElem_take] at e
   lia
  generalize eB[i]=x at *
  have nl:(numsOf (rk k 0) (eB.take i)).length<=1+i:=by
   unfold numsOf
   have:=List.length_filter_le (fun x=>decide (x≠rk k 0)) (eB.take i)
   rw[mr] at this
   simp only[pe]
   lia
  walk_at "q"
  rw[vW]
  by_cases e:x=rk k 0
  ·refine R.F (by simp[numsOf,e]) ?_
   walk_at "q"
   refine hN _ ⟨some (.sh (.int x)),?_⟩
   rw[tk,numsOf,numsOf,List.filter_append]
   simp[e]
  ·have nn:x∉numsOf (rk k 0) (eB.take i):=by
    unfold numsOf
    simp[e,nin]
   refine R.T (by simp[nn]) ?_
   walk_at "q"
   rw[zb]
   refine⟨by lia,?_⟩
   refine hN _ ⟨some (.sh (.int x)),?_⟩
   rw[Fg nn,tk]
   simp[numsOf,e]
 ·rintro ρ ⟨o3,rfl⟩
  rw[b4,AJ]
  have nd:=mR (rk k 0) up
  walk_at "q"
  refine bM (fun _=>true) (fun d=>match d with
   |.int x=>hJ (fu (numsOf (rk k 0) eB) x)
   |d=>d) (fun ρ=>∃ o,ρ=[o,some (.sh (.dK (oP (numsOf (rk k 0) eB))))]) _ _ _ ⟨_,rfl⟩ ?_ ?_
  ·rintro x hx ρ ⟨o,rfl⟩ N1 N2 n1 n2
   obtain⟨s,hs,rfl⟩:=cc.mp hx
   walk_at "q"
   exact Al nd ⟨.inl (z7 _),n2 _ ⟨_,rfl⟩ rfl⟩
  have e2:((k.map D.int).filter fun _=>true).map (fun d=>match d with
    |.int x=>hJ (fu (numsOf (rk k 0) eB) x)
    |d=>d)=(k.map (fu (numsOf (rk k 0) eB))).map hJ:=by
   rw[D4.mpr fun _ _=>rfl,fA,fA]
   rfl
  rw[e2]
  exact h _ ⟨k,ms,eB,hk,AA,up,mem,rfl⟩
def oh:WS :=
 (cp (Dq (nV 5) (wC (.int 0)) (wC .non))
 (cp (z5 (nV 5) (wC (.int 0)))
 (nL 2 (nL 1 (nK (zT (aC mG (aV bN (ak (ai 4) df)) (ai 3)) (aC mG (ai 4) (wx (ak (ai 1) (ak (ai 2) df))))))))))
def m8:WS :=
 (cp (oo (NC (S5 (wB (h9 (NH "list") (ai 5)))) (NC (wB (aC DL (ai 5) (ai 3))) (wB (aC (wt false) (wC (.bl true)) (cY (dW (ai 5)) (gN 0) mI (h9 (NH "bool") (ai 0)) 1 [])))))
 (nK (wC (.bl false)))
 eY)
 (cp (oo (wB (aC (wt false) (wC (.bl false)) (cY (dW (ai 5)) (gN 0) mI (Qc (aC S9 (ai 0) (wC .non)) (h9 (NH "int") (ai 0))) 1 [])))
 (nK (wC (.bl false)))
 eY)
 oh))
def CV:WS :=
 (cp (DY 1 2 (TQ (aV aU (ak (ai 0) (ak (wC (.int 100)) df)))))
 (cp (dQ 3 (aV cB (ak (ai 1) (ak (ai 2) df))))
 (cp (nL 1 (dQ 4 (wx (ak (ai 1) (ak (h9 wz (ai 2)) df)))))
 (cp (dQ 5 (aV bN (ak (ai 4) df)))
 m8))))
abbrev Ki:kE:=W7
theorem DK (ds Q) (h:Ki ds Q):ds.length=["_law_script"].length:=by obtain⟨_,rfl,_⟩:=h;rfl
theorem mY(hs:List (Option Int))(n:Nat):cf (n+1) (.list (hs.map hJ))=true:=by
 simp only[cf,FT,AI]
 intro o _
 cases o<;>simp[hJ,cf]
theorem rM:∀ l:List (Option Int),oB (l.map hJ)=true
 |[]=>rfl
 |none :: l=>by simp[oB,rM l,hJ,D.nb]
 |some i :: l=>by simp[oB,rM l,hJ,D.nb]
theorem wO(hs:List (Option Int)):fI (.list (hs.map hJ)) (.list (hs.map hJ))=true:=eq_self (by simp[D.nb,rM])
theorem Fv(b:Bool)(l:List D):inD (.bl (!b)) ((l.filter fun _=>true).map fun _=>D.bl b)=false/\((l.filter fun _=>true).map fun _=>D.bl b).all eV=true:=by
 constructor
 ·unfold inD
  rw[List.any_map]
  refine List.any_eq_false.mpr fun x _=>?_
  show ¬ fI (.bl b) (.bl (!b))=true
  cases b<;>decide
 ·rw[FT,AI]
  exact fun _ _=>rfl
theorem Fj{Q:Md->D->Prop}{ns:List Int}{many:Int}{steps:List bG}{hs:List (Option Int)}(m1:1<=many)(m2:many<=20)(aS:fo many steps)(hl:steps.length<=1000)(H:lN many steps hs)(h:∀ m,Q m (.bl true)) :
  oh { nx:=fun _=>Q .sh .non,rt:=Q } [some (.sh (.list (ns.map .int))),some (.sh (.int many)),some (.sh (.list (steps.map gv))),some (.ow true (.list (hs.map hJ))),some (.ow true (.tup [.int many,.list (steps.map gv)])),some (.ow true (.list (hs.map hJ)))]:=by
 have hhl:=H.len
 unfold oh
 walk_at "q"
 refine⟨by lia,?_⟩
 refine⟨by simp;lia,?_⟩
 refine⟨many,steps,rfl,⟨m1,m2⟩,aS,hl,fun sq H2=>?_⟩
 obtain rfl:=H.uniq aS H2
 walk_at "q"
 refine⟨mY _ _,mY _ _,?_⟩
 refine R.T (wO _) ?_
 walk_at "q"
 refine⟨XC 9 aS,XC 9 aS,?_⟩
 rw[show fI (.tup [.int many,.list (steps.map gv)]) (.tup [.int many,.list (steps.map gv)])=true from eq_self (ec' _ _)]
 exact h _
theorem Cq{Q:Md->D->Prop}{ns:List Int}{many:Int}{steps:List bG}{hs:List (Option Int)}(m1:1<=many)(m2:many<=20)(aS:fo many steps)(hl:steps.length<=1000)(H:lN many steps hs)(h:∀ m,Q m (.bl true)) :
  m8 { nx:=fun _=>Q .sh .non,rt:=Q } [some (.sh (.list (ns.map .int))),some (.sh (.int many)),some (.sh (.list (steps.map gv))),some (.ow true (.list (hs.map hJ))),some (.ow true (.tup [.int many,.list (steps.map gv)])),some (.ow true (.list (hs.map hJ)))]:=by
 obtain⟨w6,e6⟩:∃ w6,w6=oh:=⟨_,rfl⟩
 unfold m8
 rw[<- e6]
 walk_at "q"
 refine R.F (by decide) ?_
 walk_at "q"
 refine⟨mY _ _,mY _ _,?_⟩
 refine R.F (by rw[wO];rfl) ?_
 walk_at "q"
 refine bM (fun _=>true) (fun _=>.bl false) (fun ρ=>∃ o,ρ=[o]) _ _ _ ⟨_,rfl⟩ ?_ ?_
 ·rintro x hx ρ ⟨o,rfl⟩ N1 N2 n1 n2
  obtain⟨o,ho,rfl⟩:=cc.mp hx
  have n2:=fun bp e=>n2 bp e rfl
  cases o with
  |none =>
   simp only[hJ] at n2 ⊢
   walk_at "q"
   exact⟨.inl rfl,n2 _ ⟨_,rfl⟩⟩
  |some i =>
   simp only[hJ] at n2 ⊢
   walk_at "q"
   exact⟨.inl rfl,n2 _ ⟨_,rfl⟩⟩
 have nb:=Fv false (hs.map hJ)
 refine⟨rfl,nb.2,?_⟩
 refine R.F nb.1 ?_
 walk_at "q"
 refine bM (fun _=>true) (fun _=>.bl true) (fun ρ=>∃ o,ρ=[o]) _ _ _ ⟨_,rfl⟩ ?_ ?_
 ·rintro x hx ρ ⟨o,rfl⟩ N1 N2 n1 n2
  obtain⟨o,ho,rfl⟩:=cc.mp hx
  have n2:=fun bp e=>n2 bp e rfl
  cases o with
  |none =>
   simp only[hJ] at n2 ⊢
   walk_at "q"
   exact⟨.inl rfl,n2 _ ⟨_,rfl⟩⟩
  |some i =>
   simp only[hJ] at n2 ⊢
   walk_at "q"
   exact⟨.inl rfl,n2 _ ⟨_,rfl⟩⟩
 have nb:=Fv true (hs.map hJ)
 refine⟨rfl,nb.2,?_⟩
 refine R.F nb.1 ?_
 walk_at "q"
 rw[e6]
 exact Fj m1 m2 aS hl H h
theorem Jh:∀ ds Q,Ki ds Q->CV { nx:=fun _=>Q .sh .non,rt:=Q } (bh 6 ds):=by
 rintro ds Q ⟨ns,rfl,hn,h⟩
 obtain⟨w4,e4⟩:∃ w4,w4=m8:=⟨_,rfl⟩
 unfold CV
 rw[<- e4]
 walk_at "q"
 refine⟨ns,100,rfl,by decide,fun many steps m1 m2 aS hl pw=>?_⟩
 have hl:=gx hl (show 500<=1000 by decide)
 unfold mD
 walk_at "q"
 refine⟨many,steps,rfl,⟨m1,m2⟩,aS,hl,fun hs H=>?_⟩
 walk_at "q"
 refine .inl ⟨qK _,?_⟩
 refine⟨many,steps,rfl,⟨m1,m2⟩,aS,hl,fun sq H2=>?_⟩
 obtain rfl:=H.uniq aS H2
 walk_at "q"
 rw[e4]
 exact Cq m1 m2 aS hl H h
def top(i:Nat):Stmt:=PySem.Challenge.pw_kinlook_k43_homes.main.body.getD i (.Pass ⟨0,0,0,0⟩)
abbrev cF:Stmt:=top 1
abbrev k_:List Str:=["m", "exits", "start", "deed", "end"]
abbrev vG:Stmt:=top 2
abbrev GF:List Str:=["m", "reached", "waiting", "state", "step"]
abbrev eF:Stmt:=top 4
abbrev ql:List Str:=["exits", "ranks", "state"]
abbrev aK:Stmt:=top 5
abbrev cX:List Str:=["exits", "ranks", "keys", "different", "key"]
abbrev cH:Stmt:=top 6
abbrev qF:List Str:=["m", "exits", "rounds", "ranks"]
abbrev cT:Stmt:=top 7
abbrev rn:List Str:=["m"]
abbrev bU:Stmt:=top 9
abbrev gP:List Str:=["m", "kinds", "numbers", "kind"]
abbrev aY:Stmt:=top 11
abbrev kJ:List Str:=["_law_script", "_law_k"]
abbrev b7:Stmt:=top 12
abbrev nq:List Str:=["_law_cell", "_law_way", "_law_many", "_law_prime"]
abbrev aP:Stmt:=top 13
abbrev bO:List Str:=["_law_cell", "_law_letters", "_law_size", "_law_at", "_law_base", "_law_kind", "_law_words", "_law_k", "_law_word", "_law_tail", "_law_first"]
abbrev cG:Stmt:=top 14
abbrev pP:List Str:=["_law_script", "_law_k", "_law_way", "_law_many", "_law_cell"]
abbrev aX:Stmt:=top 15
abbrev jE:List Str:=["_law_script", "_law_most", "_law_shape", "_law_copies", "_law_states", "_law_size", "_law_many", "_law_menu_here", "_law_steps", "_law_k", "_law_one", "_law_two", "_law_deed", "_law_way", "_law_j", "_law_i"]
abbrev aR:Stmt:=top 16
abbrev dq:List Str:=["_law_many", "_law_steps", "_law_ranks", "_law_seen", "_law_at", "_law_deed", "_law_to", "_law_keys", "_law_different", "_law_key"]
abbrev bZ:Stmt:=top 17
abbrev oA:List Str:=["_law_many", "_law_steps", "_law_ranks", "_law_k"]
abbrev cU:Stmt:=top 18
abbrev rD:List Str:=["_law_many", "_law_steps", "_law_known", "_law_k", "_law_one", "_law_deed", "_law_two"]
abbrev bW:Stmt:=top 19
abbrev gH:List Str:=["_law_many", "_law_steps", "_law_ranks", "_law_order"]
abbrev jz:Stmt:=top 20
abbrev xf:List Str:=["_law_script", "_law_many", "_law_steps", "_law_due_here", "_law_handed", "_law_told"]
structure Txt(K:PySem.W.Frag)(mg:Str->Option Value):Prop where
 QL:mg "_law_other" = none
 Oz:mg "bool" = none
 Kj:mg "int" = none
 FI:mg "isinstance" = none
 BO:mg "len" = none
 Kk:mg "list" = none
 OB:mg "min" = none
 mS:mg "range" = none
 D2:mg "set" = none
 w9:mg "sorted" = none
section
variable {P:Program}{w:World}{K:PySem.W.Frag}{mg:Str->Option Value}{base:Heap}
theorem lA:lh k_ ["m"] (cE cF):=⟨rfl,rfl,rfl,by decide +kernel,rfl,by decide +kernel,by decide +kernel⟩
theorem qQ {f:Addr} {fd:FuncData} (F:kc K "exits_of" "exits_of" cF f fd) (T:Txt K mg)  : iF P w K mg base i5 1 f fd ["m"] (aA K cA) :=
 oD.ok (t:=iT) F lA pC (fun eI A outer s H E hr =>
  have nd:=lA.nd
  have hu:=hr.units
  (aj (gk (i:=1) (tn:=["state"]) (cn:=[]) (ix:=[]) nd rfl (Or.inl rfl) rfl (gY (bD T.mS (fS hu (qv 0) ao))) (aO.of (sc:=cE cF) (N:=k_) rfl rfl (by decide +kernel)) (fun _ _ _ _=>(aD (i:=0) (show(["state"]:List Str).Nodup by decide +kernel) rfl (Or.inl rfl) (.inr rfl))) (fun _ _ _ _=>aZ) (fun _ _ _ _=>(jq aB)))
   (aj (cO 0 (dw PassesOwn.never rfl (gK (fS hu (qv 0) ao)) (ue rfl (cu (aD (i:=2) nd rfl (Or.inl rfl)) (cu (aD (i:=3) nd rfl (Or.inl rfl)) (cu (aD (i:=4) nd rfl (Or.inl rfl)) nu))))
   (au (cO 4 (cO 3 (jN (Gr hu (bF (pv 1)) (qv 2)) (lB (aa (qv 3) (aa (qv 4) aB)))))))))
   (au (rC (pv 1)))))) vI
theorem Bq:lh GF ["m"] (cE vG):=⟨rfl,rfl,rfl,by decide +kernel,rfl,by decide +kernel,by decide +kernel⟩
theorem GX {f:Addr} {fd:FuncData} (F:kc K "met" "met" vG f fd) (T:Txt K mg)  : iF P w K mg base i5 1 f fd ["m"] (aA K lR) :=
 oD.ok (t:=BZ) F Bq Ck (fun eI A outer s H E hr =>
  have nd:=Bq.nd
  have hu:=hr.units
  (aj (aF (i:=1) nd rfl (Or.inl rfl) (rB ao zD))
   (aj (aF (i:=2) nd rfl (Or.inl rfl) (jq (aa ao aB)))
   (aj (um PassesOwn.never (Ff (qv 2))
   (aj (GZ (i:=3) nd rfl (Or.inl rfl) (bF (pv 2)))
   (au (cO 0 (dw PassesOwn.never rfl (gK (fS hu (qv 0) ao)) (aD (i:=4) nd rfl (Or.inl rfl))
   (au (gq (Qb (Bk (bu (tT (K:=K) hu) iR (fS hu (qv 4) ao) (qv 3) (nk _)) (xg (bu (BL (K:=K) hu) uW (fS hu (qv 4) ao) (qv 1) (by rfl)))))
   (aj (kY hu (bF (pv 1)) (fS hu (qv 4) ao) zD)
   (au (jN (bF (pv 2)) (fS hu (qv 4) ao))))
   bH)))))))
   (au (cJ (eO BR uI rfl T.w9 dU (qv 1)))))))) Jy
theorem qg:lh ql ["exits", "ranks", "state"] (cE eF):=⟨rfl,rfl,rfl,by decide +kernel,rfl,by decide +kernel,by decide +kernel⟩
theorem yh {f:Addr} {fd:FuncData} (F:kc K "key_of" "key_of" eF f fd) (T:Txt K mg)  : iF P w K mg base i5 1 f fd ["exits", "ranks", "state"] (aA K dX) :=
 oD.ok (t:=nF) F qg vB (fun eI A outer s H E hr =>
  have nd:=qg.nd
  have hu:=hr.units
  (au (cJ (lB (aa (fS hu (qv 1) (qv 2)) (aa (mL hu rfl T.w9 rfl T.D2 (dM (tn:=["deed", "end"]) (cn:=["ranks"]) (ix:=[1]) rfl (dI (fS hu (qv 0) (qv 2))) (aO.of (sc:=cE eF) (N:=ql) rfl rfl (by decide +kernel)) (fun _ _ _ _=>(ue rfl (cu (aD (i:=0) (show(["deed", "end", "ranks"]:List Str).Nodup by decide +kernel) rfl (Or.inl rfl) (.inr rfl)) (cu (aD (i:=1) (show(["deed", "end", "ranks"]:List Str).Nodup by decide +kernel) rfl (Or.inl rfl) (.inr rfl)) nu)))) (fun _ _ _ _=>aZ) (fun _ _ _ _=>(lB (aa (qv 0) (aa (fS hu (qv 2) (qv 1)) aB)))))) aB)))))) Aw
theorem fO:lh kJ ["_law_script", "_law_k"] (cE aY):=⟨rfl,rfl,rfl,by decide +kernel,rfl,by decide +kernel,by decide +kernel⟩
theorem jR {f:Addr} {fd:FuncData} (F:kc K "_law_cell_at" "_law_cell_at" aY f fd) (T:Txt K mg)  : iF P w K mg base i5 1 f fd ["_law_script", "_law_k"] (aA K aG) :=
 oD.ok (t:=dG) F fO jr (fun eI A outer s H E hr =>
  have nd:=fO.nd
  have hu:=hr.units
  (aj (gq (bu Ft Jg (qv 1) (eO dR qi rfl T.BO oW (qv 0)) (nk _))
   (au (cJ (fS hu (qv 0) (qv 1))))
   bH)
   (au (cJ ao)))) lL
theorem gU:lh nq ["_law_cell", "_law_way", "_law_many"] (cE b7):=⟨rfl,rfl,rfl,by decide +kernel,rfl,by decide +kernel,by decide +kernel⟩
theorem oR {f:Addr} {fd:FuncData} (F:kc K "_law_digit" "_law_digit" b7 f fd) (T:Txt K mg)  : iF P w K mg base i5 1 f fd ["_law_cell", "_law_way", "_law_many"] (aA K aq) :=
 oD.ok (t:=eZ) F gU lF (fun eI A outer s H E hr =>
  have nd:=gU.nd
  have hu:=hr.units
  (aj (aF (i:=3) nd rfl (Or.inl rfl) (fS hu (jq (aa ao (aa ao (aa ao (aa ao (aa ao (aa ao aB))))))) (qv 1)))
   (au (cJ (nP (wG (nP (gR (qv 0) (fS hu (jq (aa ao (aa ao (aa ao (aa ao (aa ao (aa ao aB))))))) (qv 1))) (qv 3)) ao) (qv 2)))))) qt
theorem i_:lh dq ["_law_many", "_law_steps", "_law_ranks"] (cE aR):=⟨rfl,rfl,rfl,by decide +kernel,rfl,by decide +kernel,by decide +kernel⟩
theorem pA {f:Addr} {fd:FuncData} (F:kc K "_law_next" "_law_next" aR f fd) (T:Txt K mg)  : iF P w K mg base i5 1 f fd ["_law_many", "_law_steps", "_law_ranks"] (aA K bV) :=
 oD.ok (t:=gO) F i_ nR (fun eI A outer s H E hr =>
  have nd:=i_.nd
  have hu:=hr.units
  (aj (aF (i:=3) nd rfl (Or.inr rfl) (dM (tn:=["_law_k"]) (cn:=[]) (ix:=[]) rfl (gY (bD T.mS (qv 0))) (aO.of (sc:=cE aR) (N:=dq) rfl rfl (by decide +kernel)) (fun _ _ _ _=>(aD (i:=0) (show(["_law_k"]:List Str).Nodup by decide +kernel) rfl (Or.inl rfl) (.inr rfl))) (fun _ _ _ _=>aZ) (fun _ _ _ _=>(jq aB))))
   (aj (cO 1 (dw PassesOwn.never rfl (gK (qv 1)) (ue rfl (cu (aD (i:=4) nd rfl (Or.inl rfl)) (cu (aD (i:=5) nd rfl (Or.inl rfl)) (cu (aD (i:=6) nd rfl (Or.inl rfl)) nu))))
   (au (cO 5 (jN (Gr hu (bF (pv 3)) (qv 4)) (lB (aa (qv 5) (aa (fS hu (qv 2) (qv 6)) aB))))))))
   (aj (gk (i:=7) (tn:=["_law_k"]) (cn:=["_law_ranks", "_law_seen"]) (ix:=[2,3]) nd rfl (Or.inl rfl) rfl (gY (bD T.mS (qv 0))) (aO.of (sc:=cE aR) (N:=dq) rfl rfl (by decide +kernel)) (fun _ _ _ _=>(aD (i:=0) (show(["_law_k", "_law_ranks", "_law_seen"]:List Str).Nodup by decide +kernel) rfl (Or.inl rfl) (.inr rfl))) (fun _ _ _ _=>aZ) (fun _ _ _ _=>(lB (aa (fS hu (qv 1) (qv 0)) (aa (mL hu rfl T.w9 rfl T.D2 (fS hu (qv 2) (qv 0))) aB)))))
   (aj (aF (i:=8) nd rfl (Or.inr rfl) (jq aB))
   (aj (cO 7 (dw PassesOwn.never rfl (gK (qv 7)) (aD (i:=9) nd rfl (Or.inl rfl))
   (au (gq (bu (wI (K:=K) hu) A_ (qv 9) (qv 8) (by rfl))
   (au (cO 9 (jN (bF (pv 8)) (qv 9))))
   bH))))
   (au (cJ (C_ (tn:=["_law_key"]) (cn:=["_law_different"]) (ix:=[8]) rfl (dI (qv 7)) (e_.of (sc:=cE aR) (N:=dq) rfl rfl (by decide +kernel)) (fun _ _ _ _=>(aD (i:=0) (show(["_law_key", "_law_different"]:List Str).Nodup by decide +kernel) rfl (Or.inr rfl) (.inl rfl))) (fun _ _ _ _=>aZ) (fun _ _ _ _=>(eO dR qi rfl T.BO oW (Dt (tn:=["_law_other"]) (cn:=["_law_key"]) (ix:=[0]) rfl (dI (qv 1)) (aO.inC (sc:=cE aR) rfl (by decide +kernel)) (fun _ _ _ _=>(aD (i:=0) (show(["_law_other", "_law_key"]:List Str).Nodup by decide +kernel) rfl (Or.inl rfl) (.inr rfl))) (fun _ _ _ _=>(Ew (bu (dW' (K:=K) hu) Gw (qv 0) (qv 1) (nk _)))) (fun _ _ _ _=>(qv 0)))))))))))))) qT
theorem lr:lh rD ["_law_many", "_law_steps"] (cE cU):=⟨rfl,rfl,rfl,by decide +kernel,rfl,by decide +kernel,by decide +kernel⟩
theorem sG {f:Addr} {fd:FuncData} (F:kc K "_law_met" "_law_met" cU f fd) (T:Txt K mg)  : iF P w K mg base i5 1 f fd ["_law_many", "_law_steps"] (aA K cC) :=
 oD.ok (t:=iI) F lr qI (fun eI A outer s H E hr =>
  have nd:=lr.nd
  have hu:=hr.units
  (aj (aF (i:=2) nd rfl (Or.inl rfl) (rB ao zD))
   (aj (dw PassesOwn.never rfl (bD T.mS (qv 0)) (aD (i:=3) nd rfl (Or.inl rfl))
   (au (cO 1 (dw PassesOwn.never rfl (gK (qv 1)) (ue rfl (cu (aD (i:=4) nd rfl (Or.inl rfl)) (cu (aD (i:=5) nd rfl (Or.inl rfl)) (cu (aD (i:=6) nd rfl (Or.inl rfl)) nu))))
   (au (gq (bu (kB (K:=K) hu) uW (qv 4) (qv 2) (by rfl))
   (au (kY hu (bF (pv 2)) (qv 6) zD))
   bH))))))
   (au (cJ (eO BR uI rfl T.w9 dU (qv 2))))))) uV
theorem fQ:lh cX ["exits", "ranks"] (cE aK):=⟨rfl,rfl,rfl,by decide +kernel,rfl,by decide +kernel,by decide +kernel⟩
theorem lg {f:Addr} {fd:FuncData} (F:kc K "ranks_behind" "ranks_behind" aK f fd) (T:Txt K mg) (ew':fF P w K mg base 1 "key_of" ["exits", "ranks", "state"] (aA K dX)):iF P w K mg base i5 2 f fd ["exits", "ranks"] (aA K aN) :=
 oD.ok (t:=dD) F fQ jj (fun eI A outer s H E hr =>
  have nd:=fQ.nd
  have hu:=hr.units
  (aj (gk (i:=2) (tn:=["state"]) (cn:=["exits", "ranks"]) (ix:=[0,1]) nd rfl (Or.inl rfl) rfl (gY (bD T.mS (eO dR qi rfl T.BO oW (qv 1)))) (aO.of (sc:=cE aK) (N:=cX) rfl rfl (by decide +kernel)) (fun _ _ _ _=>(aD (i:=0) (show(["state", "exits", "ranks"]:List Str).Nodup by decide +kernel) rfl (Or.inl rfl) (.inr rfl))) (fun _ _ _ _=>aZ) (fun _ _ _ _=>(a_ ew' (hr.mono (by decide)) (aa (qv 1) (aa (qv 2) (aa (qv 0) aB))))))
   (aj (aF (i:=3) nd rfl (Or.inr rfl) (jq aB))
   (aj (cO 2 (dw PassesOwn.never rfl (gK (eO (HB hu) zF rfl T.w9 dU (qv 2))) (aD (i:=4) nd rfl (Or.inl rfl))
   (au (gq (bu (wI (K:=K) hu) A_ (qv 4) (qv 3) (by rfl))
   (au (cO 4 (jN (bF (pv 3)) (qv 4))))
   bH))))
   (au (cJ (dM (tn:=["key"]) (cn:=["different"]) (ix:=[3]) rfl (dI (qv 2)) (aO.of (sc:=cE aK) (N:=cX) rfl rfl (by decide +kernel)) (fun _ _ _ _=>(aD (i:=0) (show(["key", "different"]:List Str).Nodup by decide +kernel) rfl (Or.inl rfl) (.inr rfl))) (fun _ _ _ _=>aZ) (fun _ _ _ _=>(wj hu (qv 1) (qv 0)))))))))) lC
theorem jh:lh bO ["_law_cell"] (cE aP):=⟨rfl,rfl,rfl,by decide +kernel,rfl,by decide +kernel,by decide +kernel⟩
theorem pW {f:Addr} {fd:FuncData} (F:kc K "_law_menu" "_law_menu" aP f fd) (T:Txt K mg) (qA:fF P w K mg base 1 "_law_digit" ["_law_cell", "_law_way", "_law_many"] (aA K aq)):iF P w K mg base i5 2 f fd ["_law_cell"] (aA K bY) :=
 oD.ok (t:=gM) F jh oJ (fun eI A outer s H E hr =>
  have nd:=jh.nd
  have hu:=hr.units
  (aj (aF (i:=1) nd rfl (Or.inr rfl) vH)
   (aj (aF (i:=2) nd rfl (Or.inl rfl) (cg ao (a_ qA (hr.mono (by decide)) (aa (qv 0) (aa ao (aa ao aB))))))
   (aj (aF (i:=3) nd rfl (Or.inr rfl) (a_ qA (hr.mono (by decide)) (aa (qv 0) (aa ao (aa (qv 2) aB)))))
   (aj (aF (i:=4) nd rfl (Or.inr rfl) (dM (tn:=["_law_j"]) (cn:=["_law_cell"]) (ix:=[0]) rfl (gY (bD T.mS ao)) (aO.of (sc:=cE aP) (N:=bO) rfl rfl (by decide +kernel)) (fun _ _ _ _=>(aD (i:=0) (show(["_law_j", "_law_cell"]:List Str).Nodup by decide +kernel) rfl (Or.inl rfl) (.inr rfl))) (fun _ _ _ _=>aZ) (fun _ _ _ _=>(a_ qA (hr.mono (by decide)) (aa (cg (gR (qv 1) (cg (qv 0) ao)) (qv 0)) (aa ao (aa ao aB)))))))
   (aj (aF (i:=5) nd rfl (Or.inl rfl) (a_ qA (hr.mono (by decide)) (aa (qv 0) (aa ao (aa ao aB)))))
   (aj (aF (i:=6) nd rfl (Or.inl rfl) (jq aB))
   (aj (dw PassesOwn.never rfl (bD T.mS ao) (aD (i:=7) nd rfl (Or.inr rfl))
   (aj (aF (i:=8) nd rfl (Or.inl rfl) (sX vH (dM (tn:=["_law_j"]) (cn:=["_law_at", "_law_base", "_law_k", "_law_letters"]) (ix:=[3,4,7,1]) rfl (gY (bD T.mS (qv 2))) (aO.of (sc:=cE aP) (N:=bO) rfl rfl (by decide +kernel)) (fun _ _ _ _=>(aD (i:=0) (show(["_law_j", "_law_at", "_law_base", "_law_k", "_law_letters"]:List Str).Nodup by decide +kernel) rfl (Or.inl rfl) (.inr rfl))) (fun _ _ _ _=>aZ) (fun _ _ _ _=>(fS hu (qv 4) (nP (cg (fS hu (qv 2) (qv 0)) (gR (qv 3) (uw ZG Gh rfl T.Kj xH (Ab (tT (K:=K) hu) iR (qv 0) (qv 1) (nk _))))) ao))))))
   (aj (gq (bu (tT (K:=K) hu) iR (qv 5) ao (nk _))
   (au (aF (i:=8) nd rfl (Or.inl rfl) (sX vH (dM (tn:=["_law_j"]) (cn:=["_law_base", "_law_letters"]) (ix:=[4,1]) rfl (gY (bD T.mS (cg (qv 7) ao))) (aO.of (sc:=cE aP) (N:=bO) rfl rfl (by decide +kernel)) (fun _ _ _ _=>(aD (i:=0) (show(["_law_j", "_law_base", "_law_letters"]:List Str).Nodup by decide +kernel) rfl (Or.inl rfl) (.inr rfl))) (fun _ _ _ _=>aZ) (fun _ _ _ _=>(fS hu (qv 2) (fS hu (qv 1) (qv 0))))))))
   bH)
   (aj (gq (bu (tT (K:=K) hu) iR (qv 5) ao (nk _))
   (aj (gk (i:=9) (tn:=["_law_j"]) (cn:=["_law_base", "_law_letters"]) (ix:=[4,1]) nd rfl (Or.inl rfl) rfl (gY (bD T.mS (a_ qA (hr.mono (by decide)) (aa (cg (qv 0) (qv 7)) (aa ao (aa ao aB)))))) (aO.of (sc:=cE aP) (N:=bO) rfl rfl (by decide +kernel)) (fun _ _ _ _=>(aD (i:=0) (show(["_law_j", "_law_base", "_law_letters"]:List Str).Nodup by decide +kernel) rfl (Or.inl rfl) (.inr rfl))) (fun _ _ _ _=>aZ) (fun _ _ _ _=>(fS hu (qv 2) (fS hu (qv 1) (qv 0)))))
   (au (aF (i:=8) nd rfl (Or.inl rfl) (cg (fS hu (qv 1) (nP (cg (fS hu (qv 4) ao) (gR ao (qv 7))) ao)) (sX vH (qv 9))))))
   bH)
   (aj (gq (bu (tT (K:=K) hu) iR (qv 5) ao (nk _))
   (au (aF (i:=8) nd rfl (Or.inl rfl) (sX vH (dM (tn:=["_law_j"]) (cn:=["_law_base", "_law_k", "_law_letters"]) (ix:=[4,7,1]) rfl (gY (bD T.mS ao)) (aO.of (sc:=cE aP) (N:=bO) rfl rfl (by decide +kernel)) (fun _ _ _ _=>(aD (i:=0) (show(["_law_j", "_law_base", "_law_k", "_law_letters"]:List Str).Nodup by decide +kernel) rfl (Or.inl rfl) (.inr rfl))) (fun _ _ _ _=>aZ) (fun _ _ _ _=>(fS hu (qv 3) (nP (cg (fS hu (qv 1) ao) (nP (cg (qv 0) (qv 2)) ao)) ao)))))))
   bH)
   (au (cO 8 (jN (bF (pv 6)) (qv 8)))))))))
   (aj (aF (i:=10) nd rfl (Or.inl rfl) (a_ qA (hr.mono (by decide)) (aa (qv 0) (aa ao (aa ao aB)))))
   (au (cJ (DP (cg (jq (aa vH aB)) (qv 6)) (yz (qv 10)) (yz (cg (cg (qv 10) ao) (a_ qA (hr.mono (by decide)) (aa (qv 0) (aa ao (aa ao aB)))))))))))))))))) rY
theorem je:lh pP ["_law_script", "_law_k", "_law_way", "_law_many"] (cE cG):=⟨rfl,rfl,rfl,by decide +kernel,rfl,by decide +kernel,by decide +kernel⟩
theorem pO {f:Addr} {fd:FuncData} (F:kc K "_law_draw" "_law_draw" cG f fd) (T:Txt K mg) (OD:fF P w K mg base 1 "_law_cell_at" ["_law_script", "_law_k"] (aA K aG)) (qA:fF P w K mg base 1 "_law_digit" ["_law_cell", "_law_way", "_law_many"] (aA K aq)):iF P w K mg base i5 2 f fd ["_law_script", "_law_k", "_law_way", "_law_many"] (aA K aQ) :=
 oD.ok (t:=gF) F je oH (fun eI A outer s H E hr =>
  have nd:=je.nd
  have hu:=hr.units
  (aj (aF (i:=4) nd rfl (Or.inl rfl) (a_ OD (hr.mono (by decide)) (aa (qv 0) (aa (cg ao (nP (cg (gR ao (qv 1)) (gR ao (qv 2))) ao)) aB))))
   (au (cJ (a_ qA (hr.mono (by decide)) (aa (cg (cg (qv 4) (gR (a_ OD (hr.mono (by decide)) (aa (qv 0) (aa ao aB))) (cg (qv 1) ao))) (gR (cg (qv 1) ao) (cg (cg (qv 1) ao) (qv 2)))) (aa (qv 2) (aa (qv 3) aB)))))))) rQ
theorem ig:lh oA ["_law_many", "_law_steps"] (cE bZ):=⟨rfl,rfl,rfl,by decide +kernel,rfl,by decide +kernel,by decide +kernel⟩
theorem m7 {f:Addr} {fd:FuncData} (F:kc K "_law_kinds" "_law_kinds" bZ f fd) (T:Txt K mg) (ex':fF P w K mg base 1 "_law_next" ["_law_many", "_law_steps", "_law_ranks"] (aA K bV)):iF P w K mg base i5 2 f fd ["_law_many", "_law_steps"] (aA K bA) :=
 oD.ok (t:=fY) F ig lG (fun eI A outer s H E hr =>
  have nd:=ig.nd
  have hu:=hr.units
  (aj (aF (i:=2) nd rfl (Or.inl rfl) (BK (jq (aa ao aB)) (qv 0)))
   (aj (dw PassesOwn.never rfl (bD T.mS (qv 0)) (aD (i:=3) nd rfl (Or.inl rfl))
   (au (aF (i:=2) nd rfl (Or.inl rfl) (a_ ex' (hr.mono (by decide)) (aa (qv 0) (aa (qv 1) (aa (qv 2) aB)))))))
   (au (rC (pv 2)))))) qz
theorem iZ:lh qF ["m"] (cE cH):=⟨rfl,rfl,rfl,by decide +kernel,rfl,by decide +kernel,by decide +kernel⟩
theorem pI {f:Addr} {fd:FuncData} (F:kc K "rounds_of" "rounds_of" cH f fd) (T:Txt K mg) (ey':fF P w K mg base 1 "exits_of" ["m"] (aA K cA)) (XM:fF P w K mg base 2 "ranks_behind" ["exits", "ranks"] (aA K aN)):iF P w K mg base i5 3 f fd ["m"] (aA K bR) :=
 oD.ok (t:=gJ) F iZ n8 (fun eI A outer s H E hr =>
  have nd:=iZ.nd
  have hu:=hr.units
  (aj (aF (i:=1) nd rfl (Or.inl rfl) (a_ ey' (hr.mono (by decide)) (aa (qv 0) aB)))
   (aj (aF (i:=2) nd rfl (Or.inl rfl) (jq (aa (BK (jq (aa ao aB)) (fS hu (qv 0) ao)) aB)))
   (aj (aF (i:=3) nd rfl (Or.inl rfl) (a_ XM (hr.mono (by decide)) (aa (qv 1) (aa (fS hu (qv 2) ao) aB))))
   (aj (um PassesOwn.never (bu (V6 (K:=K) hu) FW (qv 3) (fS hu (qv 2) (Gq ao)) (nk _))
   (zf nd rfl (Or.inl rfl) (pv 2) (pv 3) (a_ XM (hr.mono (by decide)) (aa (qv 1) (aa (qv 3) aB)))))
   (au (rC (pv 2)))))))) sV
theorem fK:lh jE ["_law_script", "_law_most"] (cE aX):=⟨rfl,rfl,rfl,by decide +kernel,rfl,by decide +kernel,by decide +kernel⟩
theorem jV {f:Addr} {fd:FuncData} (F:kc K "_law_machine" "_law_machine" aX f fd) (T:Txt K mg) (OD:fF P w K mg base 1 "_law_cell_at" ["_law_script", "_law_k"] (aA K aG)) (qA:fF P w K mg base 1 "_law_digit" ["_law_cell", "_law_way", "_law_many"] (aA K aq)) (ez':fF P w K mg base 2 "_law_menu" ["_law_cell"] (aA K bY)) (QM:fF P w K mg base 2 "_law_draw" ["_law_script", "_law_k", "_law_way", "_law_many"] (aA K aQ)):iF P w K mg base i5 3 f fd ["_law_script", "_law_most"] (aA K aU) :=
 oD.ok (t:=dH) F fK jk (fun eI A outer s H E hr =>
  have nd:=fK.nd
  have hu:=hr.units
  (aj (aF (i:=2) nd rfl (Or.inl rfl) (a_ OD (hr.mono (by decide)) (aa (qv 0) (aa ao aB))))
   (aj (aF (i:=3) nd rfl (Or.inl rfl) (cg ao (wG (a_ qA (hr.mono (by decide)) (aa (qv 2) (aa ao (aa ao aB)))) ao)))
   (aj (aF (i:=4) nd rfl (Or.inl rfl) (cg ao (a_ qA (hr.mono (by decide)) (aa (qv 2) (aa ao (aa ao aB))))))
   (aj (aF (i:=5) nd rfl (Or.inl rfl) (a_ qA (hr.mono (by decide)) (aa (qv 2) (aa ao (aa ao aB)))))
   (aj (gq (bu (tT (K:=K) hu) iR (qv 5) ao (nk _))
   (au (aF (i:=4) nd rfl (Or.inl rfl) (wG ao (qv 3))))
   bH)
   (aj (gq (bu (tT (K:=K) hu) iR (qv 5) ao (nk _))
   (au (aF (i:=4) nd rfl (Or.inl rfl) (cg ao (a_ qA (hr.mono (by decide)) (aa (qv 2) (aa ao (aa (wG ao (qv 3)) aB)))))))
   bH)
   (aj (aF (i:=6) nd rfl (Or.inl rfl) (a_ qA (hr.mono (by decide)) (aa (qv 2) (aa ao (aa (gR ao (qv 4)) aB)))))
   (aj (gq (bu (tT (K:=K) hu) iR (qv 5) ao (nk _))
   (au (cO 1 (aF (i:=6) nd rfl (Or.inl rfl) (qv 1))))
   bH)
   (aj (aF (i:=7) nd rfl (Or.inl rfl) (a_ ez' (hr.mono (by decide)) (aa (a_ OD (hr.mono (by decide)) (aa (qv 0) (aa ao aB))) aB)))
   (aj (aF (i:=8) nd rfl (Or.inl rfl) Eg)
   (aj (dw PassesOwn.never rfl (bD T.mS (Cv Hg Dr rfl T.OB Gy (qv 6) (wG (qv 1) (gR (qv 3) (qv 3))))) (aD (i:=9) nd rfl (Or.inl rfl))
   (aj (aF (i:=10) nd rfl (Or.inl rfl) (a_ QM (hr.mono (by decide)) (aa (qv 0) (aa (qv 9) (aa ao (aa (qv 4) aB))))))
   (aj (aF (i:=11) nd rfl (Or.inl rfl) (a_ QM (hr.mono (by decide)) (aa (qv 0) (aa (qv 9) (aa ao (aa (qv 4) aB))))))
   (aj (aF (i:=12) nd rfl (Or.inl rfl) (fS hu (qv 7) (a_ QM (hr.mono (by decide)) (aa (qv 0) (aa (qv 9) (aa ao (aa (eO dR qi rfl T.BO oW (qv 7)) aB)))))))
   (aj (aF (i:=13) nd rfl (Or.inl rfl) (a_ QM (hr.mono (by decide)) (aa (qv 0) (aa (qv 9) (aa ao (aa ao aB))))))
   (au (dw PassesOwn.never rfl (bD T.mS (qv 3)) (aD (i:=14) nd rfl (Or.inl rfl))
   (au (dw PassesOwn.never rfl (bD T.mS (qv 3)) (aD (i:=15) nd rfl (Or.inl rfl))
   (au (gq (Qb (Ep (bu (tT (K:=K) hu) iR (qv 13) ao (nk _)) (BJ (bu (tT (K:=K) hu) iR (qv 15) (nP (cg (qv 13) (qv 14)) (qv 3)) (nk _)))))
   (au (kY hu (bF (pv 8)) (lB (aa (cg (qv 10) (gR (qv 4) (qv 14))) (aa (qv 12) (aa (cg (qv 11) (gR (qv 4) (qv 15))) aB)))) zD))
   bH)))))))))))
   (aj (dw PassesOwn.never rfl (bD T.mS (IW (gR (qv 3) (qv 4)) ao)) (aD (i:=9) nd rfl (Or.inl rfl))
   (au (gq (Qb (Bk (bu (tT (K:=K) hu) iR (a_ qA (hr.mono (by decide)) (aa (qv 2) (aa ao (aa ao aB)))) ao (nk _)) (xg (bu Hf Jj (nP (cg (qv 9) ao) (qv 4)) ao (nk _)))))
   (au (kY hu (bF (pv 8)) (lB (aa (qv 9) (aa (fS hu (qv 7) ao) (aa (cg (qv 9) ao) aB)))) zD))
   bH)))
   (au (cJ (lB (aa (gR (qv 3) (qv 4)) (aa (eO Eh x_ rfl T.w9 dU (qv 8)) aB)))))))))))))))))) lD
theorem jA:lh gH ["_law_many", "_law_steps"] (cE bW):=⟨rfl,rfl,rfl,by decide +kernel,rfl,by decide +kernel,by decide +kernel⟩
theorem rN {f:Addr} {fd:FuncData} (F:kc K "_law_due" "_law_due" bW f fd) (T:Txt K mg) (eA':fF P w K mg base 2 "_law_kinds" ["_law_many", "_law_steps"] (aA K bA)) (eB':fF P w K mg base 1 "_law_met" ["_law_many", "_law_steps"] (aA K cC)):iF P w K mg base i5 3 f fd ["_law_many", "_law_steps"] (aA K cB) :=
 oD.ok (t:=iH) F jA pq (fun eI A outer s H E hr =>
  have nd:=jA.nd
  have hu:=hr.units
  (aj (aF (i:=2) nd rfl (Or.inr rfl) (a_ eA' (hr.mono (by decide)) (aa (qv 0) (aa (qv 1) aB))))
   (aj (aF (i:=3) nd rfl (Or.inr rfl) (mj rfl T.w9 rfl T.D2 (dM (tn:=["_law_state"]) (cn:=["_law_ranks"]) (ix:=[2]) rfl (dI (a_ eB' (hr.mono (by decide)) (aa (qv 0) (aa (qv 1) aB)))) (aO.of (sc:=cE bW) (N:=gH) rfl rfl (by decide +kernel)) (fun _ _ _ _=>(aD (i:=0) (show(["_law_state", "_law_ranks"]:List Str).Nodup by decide +kernel) rfl (Or.inl rfl) (.inr rfl))) (fun _ _ _ _=>aZ) (fun _ _ _ _=>(fS hu (qv 1) (qv 0))))))
   (aj (Hn (bF (pv 3)) (fS hu (qv 2) ao))
   (aj (GK (bF (pv 3)) ao (fS hu (qv 2) ao))
   (au (cJ (dM (tn:=["_law_rank"]) (cn:=["_law_order"]) (ix:=[3]) rfl (dI (qv 2)) (aO.of (sc:=cE bW) (N:=gH) rfl rfl (by decide +kernel)) (fun _ _ _ _=>(aD (i:=0) (show(["_law_rank", "_law_order"]:List Str).Nodup by decide +kernel) rfl (Or.inl rfl) (.inr rfl))) (fun _ _ _ _=>aZ) (fun _ _ _ _=>(co' (bu (kB (K:=K) hu) uW (qv 0) (qv 1) (by rfl)) (wj hu (qv 1) (qv 0)) CP)))))))))) vJ
theorem jY:lh rn ["m"] (cE cT):=⟨rfl,rfl,rfl,by decide +kernel,rfl,by decide +kernel,by decide +kernel⟩
theorem qP {f:Addr} {fd:FuncData} (F:kc K "kinds_of" "kinds_of" cT f fd) (T:Txt K mg) (eC':fF P w K mg base 3 "rounds_of" ["m"] (aA K bR)):iF P w K mg base i5 4 f fd ["m"] (aA K cD) :=
 oD.ok (t:=iQ) F jY pG (fun eI A outer s H E hr =>
  have nd:=jY.nd
  have hu:=hr.units
  (au (cJ (Jt (a_ eC' (hr.mono (by decide)) (aa (qv 0) aB)) (Gq ao))))) vh
theorem lz:lh gP ["m"] (cE bU):=⟨rfl,rfl,rfl,by decide +kernel,rfl,by decide +kernel,by decide +kernel⟩
theorem sE {f:Addr} {fd:FuncData} (F:kc K "homes_of" "homes_of" bU f fd) (T:Txt K mg) (eD':fF P w K mg base 4 "kinds_of" ["m"] (aA K cD)) (eE':fF P w K mg base 1 "met" ["m"] (aA K lR)):iF P w K mg base i5 5 f fd ["m"] (aA K bN) :=
 oD.ok (t:=iM) F lz qu (fun eI A outer s H E hr =>
  have nd:=lz.nd
  have hu:=hr.units
  (aj (aF (i:=1) nd rfl (Or.inr rfl) (a_ eD' (hr.mono (by decide)) (aa (qv 0) aB)))
   (aj (aF (i:=2) nd rfl (Or.inr rfl) (rB (fS hu (qv 1) ao) ao))
   (aj (dw PassesOwn.never rfl (gK (mj rfl T.w9 rfl T.D2 (dM (tn:=["state"]) (cn:=["kinds"]) (ix:=[1]) rfl (dI (a_ eE' (hr.mono (by decide)) (aa (qv 0) aB))) (aO.of (sc:=cE bU) (N:=gP) rfl rfl (by decide +kernel)) (fun _ _ _ _=>(aD (i:=0) (show(["state", "kinds"]:List Str).Nodup by decide +kernel) rfl (Or.inl rfl) (.inr rfl))) (fun _ _ _ _=>aZ) (fun _ _ _ _=>(fS hu (qv 1) (qv 0)))))) (aD (i:=3) nd rfl (Or.inl rfl))
   (au (gq (bu (BL (K:=K) hu) uW (qv 3) (qv 2) (by rfl))
   (au (kY hu (bF (pv 2)) (qv 3) (eO dR qi rfl T.BO oW (qv 2))))
   bH)))
   (au (cJ (dM (tn:=["kind"]) (cn:=["numbers"]) (ix:=[2]) rfl (dI (qv 1)) (aO.of (sc:=cE bU) (N:=gP) rfl rfl (by decide +kernel)) (fun _ _ _ _=>(aD (i:=0) (show(["kind", "numbers"]:List Str).Nodup by decide +kernel) rfl (Or.inl rfl) (.inr rfl))) (fun _ _ _ _=>aZ) (fun _ _ _ _=>(F_ hu (qv 1) (qv 0)))))))))) vQ
theorem Ay:lh xf ["_law_script"] (cE jz):=⟨rfl,rfl,rfl,by decide +kernel,rfl,by decide +kernel,by decide +kernel⟩
theorem eF' {f:Addr} {fd:FuncData} (F:kc K "law" "law" jz f fd) (T:Txt K mg) (eG':fF P w K mg base 3 "_law_machine" ["_law_script", "_law_most"] (aA K aU)) (eH':fF P w K mg base 3 "_law_due" ["_law_many", "_law_steps"] (aA K cB)) (XO:fF P w K mg base 5 "homes_of" ["m"] (aA K bN)):iF P w K mg base i5 6 f fd ["_law_script"] (aA K Ki) :=
 oD.ok (t:=CV) F Ay DK (fun eI A outer s H E hr =>
  have nd:=Ay.nd
  have hu:=hr.units
  (aj (CW (i:=1) (j:=2) rfl nd rfl (Or.inl rfl) rfl (Or.inl rfl) (dI' (a_ eG' (hr.mono (by decide)) (aa (qv 0) (aa ao aB)))))
   (aj (aF (i:=3) nd rfl (Or.inl rfl) (a_ eH' (hr.mono (by decide)) (aa (qv 1) (aa (qv 2) aB))))
   (aj (cO 1 (aF (i:=4) nd rfl (Or.inl rfl) (lB (aa (qv 1) (aa (uw vU BX rfl T.Kk wN (qv 2)) aB)))))
   (aj (aF (i:=5) nd rfl (Or.inl rfl) (a_ XO (hr.mono (by decide)) (aa (qv 4) aB)))
   (aj (gq (Qb (Ep (G4 (GJ (D_ T.FI (qv 5) (DX T.Kk wN)))) (Ep (bu (V6 (K:=K) hu) FW (qv 5) (qv 3) (nk _)) (BJ (bu (kB (K:=K) hu) uW zD (dM (tn:=["_law_home"]) (cn:=[]) (ix:=[]) rfl (dI (qv 5)) (aO.of (sc:=cE jz) (N:=xf) rfl rfl (by decide +kernel)) (fun _ _ _ _=>(aD (i:=0) (show(["_law_home"]:List Str).Nodup by decide +kernel) rfl (Or.inl rfl) (.inr rfl))) (fun _ _ _ _=>aZ) (fun _ _ _ _=>(D_ T.FI (qv 0) (DX T.Oz Es)))) (by rfl))))))
   (au (cJ zD))
   bH)
   (aj (gq (bu (kB (K:=K) hu) uW zD (dM (tn:=["_law_home"]) (cn:=[]) (ix:=[]) rfl (dI (qv 5)) (aO.of (sc:=cE jz) (N:=xf) rfl rfl (by decide +kernel)) (fun _ _ _ _=>(aD (i:=0) (show(["_law_home"]:List Str).Nodup by decide +kernel) rfl (Or.inl rfl) (.inr rfl))) (fun _ _ _ _=>aZ) (fun _ _ _ _=>(cn' (Ab Zv Gi (qv 0) CP (nk _)) (Ht (D_ T.FI (qv 0) (DX T.Kj xH)))))) (by rfl))
   (au (cJ zD))
   bH)
   (aj (Ci (bF (pv 5)) ao CP)
   (aj (jN (bF (pv 5)) ao)
   (au (cO 2 (cO 1 (cJ (IV (Ab (tT (K:=K) hu) iR (a_ XO (hr.mono (by decide)) (aa (qv 4) aB)) (qv 3) (nk _)) (Ht (Ab (tT (K:=K) hu) iR (qv 4) (lB (aa (qv 1) (aa (qv 2) aB))) (nk _))))))))))))))))) Jh
end
theorem Kx{us:List Value}(h:us.length=1):∃ a0,us=[a0]:=by
 cases us with
 |nil=>simp at h
 |cons a0 us =>
 cases us with
 |nil=>exact⟨_,rfl⟩
 |cons b us=>simp at h
theorem KG{us:List Value}(h:us.length=2):∃ a0 a1,us=[a0,a1]:=by
 cases us with
 |nil=>simp at h
 |cons a0 us =>
 cases us with
 |nil=>simp at h
 |cons a1 us =>
 cases us with
 |nil=>exact⟨_,_,rfl⟩
 |cons b us=>simp at h
theorem Uc{us:List Value}(h:us.length=3):∃ a0 a1 a2,us=[a0,a1,a2]:=by
 cases us with
 |nil=>simp at h
 |cons a0 us =>
 cases us with
 |nil=>simp at h
 |cons a1 us =>
 cases us with
 |nil=>simp at h
 |cons a2 us =>
 cases us with
 |nil=>exact⟨_,_,_,rfl⟩
 |cons b us=>simp at h
theorem us4{us:List Value}(h:us.length=4):∃ a0 a1 a2 a3,us=[a0,a1,a2,a3]:=by
 cases us with
 |nil=>simp at h
 |cons a0 us =>
 cases us with
 |nil=>simp at h
 |cons a1 us =>
 cases us with
 |nil=>simp at h
 |cons a2 us =>
 cases us with
 |nil=>simp at h
 |cons a3 us =>
 cases us with
 |nil=>exact⟨_,_,_,_,rfl⟩
 |cons b us=>simp at h
theorem all_mk {l:PySem.W.OpenLaw} {w:World} {K:PySem.W.Frag} {h:Heap} {mg:Str->Option Value} {fa:Addr} (X:K.In h) (G:h.Ns mainGlobals mg) (hfa:mg "law" = some (.ref fa))
  (a0:PySem.W.nsIn K mainGlobals "exits_of" = some (some (.ref f0))) (l0:K.lookup f0=some ⟨o0,d0,.func (PySem.W.fnOf "exits_of" "exits_of" (kC cF) (jS cF) (cE cF) .none v0 j0 p0 e0 r0 u0),t0⟩) (c0:PySem.W.codeIn K r0 "exits_of" = true) (k0:PySem.W.keepIn K (.ref f0)=true)
  (a1:PySem.W.nsIn K mainGlobals "met" = some (some (.ref f1))) (l1:K.lookup f1=some ⟨o1,d1,.func (PySem.W.fnOf "met" "met" (kC vG) (jS vG) (cE vG) .none v1 j1 p1 e1 r1 u1),t1⟩) (c1:PySem.W.codeIn K r1 "met" = true) (k1:PySem.W.keepIn K (.ref f1)=true)
  (a2:PySem.W.nsIn K mainGlobals "key_of" = some (some (.ref f2))) (l2:K.lookup f2=some ⟨o2,d2,.func (PySem.W.fnOf "key_of" "key_of" (kC eF) (jS eF) (cE eF) .none v2 j2 p2 e2 r2 u2),t2⟩) (c2:PySem.W.codeIn K r2 "key_of" = true) (k2:PySem.W.keepIn K (.ref f2)=true)
  (a3:PySem.W.nsIn K mainGlobals "ranks_behind" = some (some (.ref f3))) (l3:K.lookup f3=some ⟨o3,d3,.func (PySem.W.fnOf "ranks_behind" "ranks_behind" (kC aK) (jS aK) (cE aK) .none v3 j3 p3 e3 r3 u3),t3⟩) (c3:PySem.W.codeIn K r3 "ranks_behind" = true) (k3:PySem.W.keepIn K (.ref f3)=true)
  (a4:PySem.W.nsIn K mainGlobals "rounds_of" = some (some (.ref f4))) (l4:K.lookup f4=some ⟨o4,d4,.func (PySem.W.fnOf "rounds_of" "rounds_of" (kC cH) (jS cH) (cE cH) .none v4 j4 p4 e4 r4 u4),t4⟩) (c4:PySem.W.codeIn K r4 "rounds_of" = true) (k4:PySem.W.keepIn K (.ref f4)=true)
  (a5:PySem.W.nsIn K mainGlobals "kinds_of" = some (some (.ref f5))) (l5:K.lookup f5=some ⟨o5,d5,.func (PySem.W.fnOf "kinds_of" "kinds_of" (kC cT) (jS cT) (cE cT) .none v5 j5 p5 e5 r5 u5),t5⟩) (c5:PySem.W.codeIn K r5 "kinds_of" = true) (k5:PySem.W.keepIn K (.ref f5)=true)
  (a6:PySem.W.nsIn K mainGlobals "homes_of" = some (some (.ref f6))) (l6:K.lookup f6=some ⟨o6,d6,.func (PySem.W.fnOf "homes_of" "homes_of" (kC bU) (jS bU) (cE bU) .none v6 j6 p6 e6 r6 u6),t6⟩) (c6:PySem.W.codeIn K r6 "homes_of" = true) (k6:PySem.W.keepIn K (.ref f6)=true)
  (a7:PySem.W.nsIn K mainGlobals "_law_cell_at" = some (some (.ref f7))) (l7:K.lookup f7=some ⟨o7,d7,.func (PySem.W.fnOf "_law_cell_at" "_law_cell_at" (kC aY) (jS aY) (cE aY) .none v7 j7 p7 e7 r7 u7),t7⟩) (c7:PySem.W.codeIn K r7 "_law_cell_at" = true) (k7:PySem.W.keepIn K (.ref f7)=true)
  (a8:PySem.W.nsIn K mainGlobals "_law_digit" = some (some (.ref f8))) (l8:K.lookup f8=some ⟨o8,d8,.func (PySem.W.fnOf "_law_digit" "_law_digit" (kC b7) (jS b7) (cE b7) .none v8 j8 p8 e8 r8 u8),t8⟩) (c8:PySem.W.codeIn K r8 "_law_digit" = true) (k8:PySem.W.keepIn K (.ref f8)=true)
  (a9:PySem.W.nsIn K mainGlobals "_law_menu" = some (some (.ref f9))) (l9:K.lookup f9=some ⟨o9,d9,.func (PySem.W.fnOf "_law_menu" "_law_menu" (kC aP) (jS aP) (cE aP) .none v9 j9 p9 e9 r9 u9),t9⟩) (c9:PySem.W.codeIn K r9 "_law_menu" = true) (k9:PySem.W.keepIn K (.ref f9)=true)
  (Ud:PySem.W.nsIn K mainGlobals "_law_draw" = some (some (.ref XQ))) (l10:K.lookup XQ=some ⟨Ou,d10,.func (PySem.W.fnOf "_law_draw" "_law_draw" (kC cG) (jS cG) (cE cG) .none v10 j10 p10 e10 Sf u10),t10⟩) (Ue:PySem.W.codeIn K Sf "_law_draw" = true) (Ug:PySem.W.keepIn K (.ref XQ)=true)
  (Uh:PySem.W.nsIn K mainGlobals "_law_machine" = some (some (.ref XR))) (Ui:K.lookup XR=some ⟨Ov,d11,.func (PySem.W.fnOf "_law_machine" "_law_machine" (kC aX) (jS aX) (cE aX) .none v11 j11 p11 e11 SY u11),t11⟩) (Uj:PySem.W.codeIn K SY "_law_machine" = true) (Uk:PySem.W.keepIn K (.ref XR)=true)
  (Ul:PySem.W.nsIn K mainGlobals "_law_next" = some (some (.ref XS))) (Um:K.lookup XS=some ⟨Ow,d12,.func (PySem.W.fnOf "_law_next" "_law_next" (kC aR) (jS aR) (cE aR) .none v12 j12 p12 e12 r12 u12),t12⟩) (Uo:PySem.W.codeIn K r12 "_law_next" = true) (Uq:PySem.W.keepIn K (.ref XS)=true)
  (Ur:PySem.W.nsIn K mainGlobals "_law_kinds" = some (some (.ref XT))) (Us:K.lookup XT=some ⟨Ox,d13,.func (PySem.W.fnOf "_law_kinds" "_law_kinds" (kC bZ) (jS bZ) (cE bZ) .none v13 j13 p13 e13 r13 u13),t13⟩) (Ut:PySem.W.codeIn K r13 "_law_kinds" = true) (Uu:PySem.W.keepIn K (.ref XT)=true)
  (Uv:PySem.W.nsIn K mainGlobals "_law_met" = some (some (.ref XU))) (Uw:K.lookup XU=some ⟨BM,d14,.func (PySem.W.fnOf "_law_met" "_law_met" (kC cU) (jS cU) (cE cU) .none v14 j14 p14 e14 r14 u14),t14⟩) (Ux:PySem.W.codeIn K r14 "_law_met" = true) (Uy:PySem.W.keepIn K (.ref XU)=true)
  (Uz:PySem.W.nsIn K mainGlobals "_law_due" = some (some (.ref XW))) (UA:K.lookup XW=some ⟨vn,d15,.func (PySem.W.fnOf "_law_due" "_law_due" (kC bW) (jS bW) (cE bW) .none v15 j15 p15 e15 r15 u15),t15⟩) (UB:PySem.W.codeIn K r15 "_law_due" = true) (UC:PySem.W.keepIn K (.ref XW)=true)
  (UD:PySem.W.nsIn K mainGlobals "law" = some (some (.ref XX))) (UE:K.lookup XX=some ⟨o16,d16,.func (PySem.W.fnOf "law" "law" (kC jz) (jS jz) (cE jz) .none v16 j16 p16 e16 XY u16),t16⟩) (c16:PySem.W.codeIn K XY "law" = true) (UG:PySem.W.keepIn K (.ref XX)=true)
  (QL:PySem.W.nsIn K mainGlobals "_law_other" = some none)
  (Oz:PySem.W.nsIn K mainGlobals "bool" = some none)
  (Kj:PySem.W.nsIn K mainGlobals "int" = some none)
  (FI:PySem.W.nsIn K mainGlobals "isinstance" = some none)
  (BO:PySem.W.nsIn K mainGlobals "len" = some none)
  (Kk:PySem.W.nsIn K mainGlobals "list" = some none)
  (OB:PySem.W.nsIn K mainGlobals "min" = some none)
  (mS:PySem.W.nsIn K mainGlobals "range" = some none)
  (D2:PySem.W.nsIn K mainGlobals "set" = some none)
  (w9:PySem.W.nsIn K mainGlobals "sorted" = some none)
  : ∃ fd:FuncData,(∀ (s:Shared) (v:Value),BindsTo s fd ⟨[v],[]⟩ [("_law_script",v)])/\∀ base:Heap,K.In base->base.Ns mainGlobals mg->iF l.prog w K mg base i5 6 fa fd ["_law_script"] (aA K Ki):=by
 have e:=hfa.symm.trans (PySem.W.mg_of X G UD)
 cases e
 have T:Txt K mg:=⟨PySem.W.mg_none_of X G QL,PySem.W.mg_none_of X G Oz,PySem.W.mg_none_of X G Kj,PySem.W.mg_none_of X G FI,PySem.W.mg_none_of X G BO,PySem.W.mg_none_of X G Kk,PySem.W.mg_none_of X G OB,PySem.W.mg_none_of X G mS,PySem.W.mg_none_of X G D2,PySem.W.mg_none_of X G w9⟩
 have F0:=ot (st:=cF) l0 c0 k0
 have F1:=ot (st:=vG) l1 c1 k1
 have F2:=ot (st:=eF) l2 c2 k2
 have F3:=ot (st:=aK) l3 c3 k3
 have F4:=ot (st:=cH) l4 c4 k4
 have F5:=ot (st:=cT) l5 c5 k5
 have F6:=ot (st:=bU) l6 c6 k6
 have F7:=ot (st:=aY) l7 c7 k7
 have F8:=ot (st:=b7) l8 c8 k8
 have F9:=ot (st:=aP) l9 c9 k9
 have XZ:=ot (st:=cG) l10 Ue Ug
 have X1:=ot (st:=aX) Ui Uj Uk
 have X2:=ot (st:=aR) Um Uo Uq
 have X3:=ot (st:=bZ) Us Ut Uu
 have X4:=ot (st:=cU) Uw Ux Uy
 have X5:=ot (st:=bW) UA UB UC
 have F16:=ot (st:=jz) UE c16 UG
 refine⟨PySem.W.fnOf "law" "law" (kC jz) (jS jz) (cE jz) .none v16 j16 p16 e16 XY u16,fun s v=>.of_eq rfl,fun base _ _=>?_⟩
 have C0:fF l.prog w K mg base 1 "exits_of" ["m"] (aA K cA):=F0.pS (PySem.W.mg_of X G a0) (qQ F0 T ) fun _ _ _ _ _ _ us hl=>by obtain⟨_,rfl⟩:=Kx hl;rfl
 have C1:fF l.prog w K mg base 1 "met" ["m"] (aA K lR):=F1.pS (PySem.W.mg_of X G a1) (GX F1 T ) fun _ _ _ _ _ _ us hl=>by obtain⟨_,rfl⟩:=Kx hl;rfl
 have C2:fF l.prog w K mg base 1 "key_of" ["exits", "ranks", "state"] (aA K dX):=F2.pS (PySem.W.mg_of X G a2) (yh F2 T ) fun _ _ _ _ _ _ us hl=>by obtain⟨_,_,_,rfl⟩:=Uc hl;rfl
 have C7:fF l.prog w K mg base 1 "_law_cell_at" ["_law_script", "_law_k"] (aA K aG):=F7.pS (PySem.W.mg_of X G a7) (jR F7 T ) fun _ _ _ _ _ _ us hl=>by obtain⟨_,_,rfl⟩:=KG hl;rfl
 have C8:fF l.prog w K mg base 1 "_law_digit" ["_law_cell", "_law_way", "_law_many"] (aA K aq):=F8.pS (PySem.W.mg_of X G a8) (oR F8 T ) fun _ _ _ _ _ _ us hl=>by obtain⟨_,_,_,rfl⟩:=Uc hl;rfl
 have C12:fF l.prog w K mg base 1 "_law_next" ["_law_many", "_law_steps", "_law_ranks"] (aA K bV):=X2.pS (PySem.W.mg_of X G Ul) (pA X2 T ) fun _ _ _ _ _ _ us hl=>by obtain⟨_,_,_,rfl⟩:=Uc hl;rfl
 have C14:fF l.prog w K mg base 1 "_law_met" ["_law_many", "_law_steps"] (aA K cC):=X4.pS (PySem.W.mg_of X G Uv) (sG X4 T ) fun _ _ _ _ _ _ us hl=>by obtain⟨_,_,rfl⟩:=KG hl;rfl
 have C3:fF l.prog w K mg base 2 "ranks_behind" ["exits", "ranks"] (aA K aN):=F3.pS (PySem.W.mg_of X G a3) (lg F3 T C2) fun _ _ _ _ _ _ us hl=>by obtain⟨_,_,rfl⟩:=KG hl;rfl
 have C9:fF l.prog w K mg base 2 "_law_menu" ["_law_cell"] (aA K bY):=F9.pS (PySem.W.mg_of X G a9) (pW F9 T C8) fun _ _ _ _ _ _ us hl=>by obtain⟨_,rfl⟩:=Kx hl;rfl
 have C10:fF l.prog w K mg base 2 "_law_draw" ["_law_script", "_law_k", "_law_way", "_law_many"] (aA K aQ):=XZ.pS (PySem.W.mg_of X G Ud) (pO XZ T C7 C8) fun _ _ _ _ _ _ us hl=>by obtain⟨_,_,_,_,rfl⟩:=us4 hl;rfl
 have C13:fF l.prog w K mg base 2 "_law_kinds" ["_law_many", "_law_steps"] (aA K bA):=X3.pS (PySem.W.mg_of X G Ur) (m7 X3 T C12) fun _ _ _ _ _ _ us hl=>by obtain⟨_,_,rfl⟩:=KG hl;rfl
 have C4:fF l.prog w K mg base 3 "rounds_of" ["m"] (aA K bR):=F4.pS (PySem.W.mg_of X G a4) (pI F4 T C0 C3) fun _ _ _ _ _ _ us hl=>by obtain⟨_,rfl⟩:=Kx hl;rfl
 have C11:fF l.prog w K mg base 3 "_law_machine" ["_law_script", "_law_most"] (aA K aU):=X1.pS (PySem.W.mg_of X G Uh) (jV X1 T C7 C8 C9 C10) fun _ _ _ _ _ _ us hl=>by obtain⟨_,_,rfl⟩:=KG hl;rfl
 have C15:fF l.prog w K mg base 3 "_law_due" ["_law_many", "_law_steps"] (aA K cB):=X5.pS (PySem.W.mg_of X G Uz) (rN X5 T C13 C14) fun _ _ _ _ _ _ us hl=>by obtain⟨_,_,rfl⟩:=KG hl;rfl
 have C5:fF l.prog w K mg base 4 "kinds_of" ["m"] (aA K cD):=F5.pS (PySem.W.mg_of X G a5) (qP F5 T C4) fun _ _ _ _ _ _ us hl=>by obtain⟨_,rfl⟩:=Kx hl;rfl
 have C6:fF l.prog w K mg base 5 "homes_of" ["m"] (aA K bN):=F6.pS (PySem.W.mg_of X G a6) (sE F6 T C5 C1) fun _ _ _ _ _ _ us hl=>by obtain⟨_,rfl⟩:=Kx hl;rfl
 exact eF' F16 T C11 C15 C6
theorem walk{l:PySem.W.OpenLaw}{q:Program}{loose:List Str}{XP:(Str->Option Value)->Heap->Prop}{YP:World->Heap->Prop}{d:DefRec}{K:Params->PySem.W.Frag}(hn:l.most=some 63)(MX:d.params.defaults=[])
  (hY:∀ (w:World) (h:Heap),YP w h->(K w.params).In h)
  (F:∀ (w:World) (mg:Str->Option Value) (fa:Addr) (h:Heap),(K w.params).In h->h.Ns mainGlobals mg->mg d.name=some (.ref fa) ->
   ∃ fd:FuncData,(∀ (s:Shared) (u:Value),BindsTo s fd ⟨[u],[]⟩ [("_law_script",u)])/\∀ base:Heap,(K w.params).In base->base.Ns mainGlobals mg->iF l.prog w (K w.params) mg base i5 6 fa fd ["_law_script"] (aA (K w.params) Ki)) :
  PySem.W.WalkO q loose XP YP l.row.toRowW d [] (fun f vs=>PySem.call f vs) :=
 L2.bg' (n:=63) (k:=6) (x := "_law_script") (CX:=fun _=>i5) (sp:=fun w=>aA (K w.params) Ki) hn (by decide) MX ⟨rfl,by decide,by decide⟩ hY F (fun w H a ns hl hO hS=>Af hl hS) fun _ _ _ _ _ z=>z
end L2.Q.T_
open PySem PySem.W PyProof.Rows
def PySem.W.Fast.tw17685949971559017480:=0
set_option maxRecDepth 100000 in
set_option maxHeartbeats 0 in
theorem PySem.Challenge.cw_kinlook_k43_homes_holds : PySem.Challenge.rw_kinlook_k43_homes.Holds := by
 w_on;o_law;k_head;(case hw=>w_witness2)
 k_fill
 refine L2.Q.T_.walk (l:=PySem.Challenge.rw_kinlook_k43_homes) rfl rfl (fun w h Y=>PySem.W.kIn_of Y) ?F
 case F =>
  intro w mg fa h KX G MY
  refine' L2.Q.T_.all_mk KX G MY ?a0 ?l0 ?c0 ?k0 ?a1 ?l1 ?c1 ?k1 ?a2 ?l2 ?c2 ?k2 ?a3 ?l3 ?c3 ?k3 ?a4 ?l4 ?c4 ?k4 ?a5 ?l5 ?c5 ?k5 ?a6 ?l6 ?c6 ?k6 ?a7 ?l7 ?c7 ?k7 ?a8 ?l8 ?c8 ?k8 ?a9 ?l9 ?c9 ?k9 ?Ud ?l10 ?Ue ?Ug ?Uh ?Ui ?Uj ?Uk ?Ul ?Um ?Uo ?Uq ?Ur ?Us ?Ut ?Uu ?Uv ?Uw ?Ux ?Uy ?Uz ?UA ?UB ?UC ?UD ?UE ?c16 ?UG ?QL ?Oz ?Kj ?FI ?BO ?Kk ?OB ?mS ?D2 ?w9
  (case a0=>k_is)
  (case l0=>k_is)
  (case c0=>k_is)
  (case k0=>k_is)
  (case a1=>k_is)
  (case l1=>k_is)
  (case c1=>k_is)
  (case k1=>k_is)
  (case a2=>k_is)
  (case l2=>k_is)
  (case c2=>k_is)
  (case k2=>k_is)
  (case a3=>k_is)
  (case l3=>k_is)
  (case c3=>k_is)
  (case k3=>k_is)
  (case a4=>k_is)
  (case l4=>k_is)
  (case c4=>k_is)
  (case k4=>k_is)
  (case a5=>k_is)
  (case l5=>k_is)
  (case c5=>k_is)
  (case k5=>k_is)
  (case a6=>k_is)
  (case l6=>k_is)
  (case c6=>k_is)
  (case k6=>k_is)
  (case a7=>k_is)
  (case l7=>k_is)
  (case c7=>k_is)
  (case k7=>k_is)
  (case a8=>k_is)
  (case l8=>k_is)
  (case c8=>k_is)
  (case k8=>k_is)
  (case a9=>k_is)
  (case l9=>k_is)
  (case c9=>k_is)
  (case k9=>k_is)
  (case Ud=>k_is)
  (case l10=>k_is)
  (case Ue=>k_is)
  (case Ug=>k_is)
  (case Uh=>k_is)
  (case Ui=>k_is)
  (case Uj=>k_is)
  (case Uk=>k_is)
  (case Ul=>k_is)
  (case Um=>k_is)
  (case Uo=>k_is)
  (case Uq=>k_is)
  (case Ur=>k_is)
  (case Us=>k_is)
  (case Ut=>k_is)
  (case Uu=>k_is)
  (case Uv=>k_is)
  (case Uw=>k_is)
  (case Ux=>k_is)
  (case Uy=>k_is)
  (case Uz=>k_is)
  (case UA=>k_is)
  (case UB=>k_is)
  (case UC=>k_is)
  (case UD=>k_is)
  (case UE=>k_is)
  (case c16=>k_is)
  (case UG=>k_is)
  (case QL=>k_is)
  (case Oz=>k_is)
  (case Kj=>k_is)
  (case FI=>k_is)
  (case BO=>k_is)
  (case Kk=>k_is)
  (case OB=>k_is)
  (case mS=>k_is)
  (case D2=>k_is)
  (case w9=>k_is)
