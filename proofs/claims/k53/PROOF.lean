import PyProof.Rows.All
import Wide.All
import OpenK.AllK
import Wide.FinOn
import Lean
import PyProof.EqAt
import PyProof.EqKinds
import PyProof.TupleCall
import PyProof.CompUse
import PyProof.NeData
import PyProof.WalksEnum
import PyProof.EnumMake
import PyProof.ZipIter
import PyProof.Rows.EnumRows
import PyProof.Rows.FactsT2
import KE.KDictList
import PyProof.Rows.SortRuns
import PyProof.Rows.SortWalk
import KE.KSortTup
import PyProof.Rows.SortStr
import PyProof.ListRange
import PyProof.StrOps2
import PyProof.StrBlock2
import PyProof.AutoIntG3
import PyProof.ListMulRight
import PyProof.Rows.ListMulArg
import PyProof.Rows.CallKwBuiltin
import PyProof.Rows.StrMul
import KE.KMinBuiltin
import PyProof.TupleKey
import PyProof.SetKind
import PyProof.Rows.SetFrom
import PyProof.DictWalks
import KE.KRevIter
import PyProof.AutoSeq1
import PySem.Challenge.RW_kinlook_k53_what_is_a_one_way_table
open PySem renaming wpAny_bind->ah,wpAny_pure->aI,wpAny_mono->oq
open List renaming length_map->bT,mem_cons_of_mem->de,mem_cons_self->df,mem_append_right->fw,mem_append->dz,mem_map->dk,mem_cons->dA,size_toArray->gy,mem_append_left->iS,getElem?_eq_some_iff->lh,nodup_append->iA,map_cons->fT,length_append->kz,nodup_cons->kC,sublist_append_right->sv,mem_of_getElem?->pd,map_map->i9,map_append->ll,mem_singleton->ot,length_take->mS,append_nil->mr,getElem?_eq_getElem->ve,getElem?_map->ox,length_cons->oy,nodup_nil->ng,pairwise_map->qq,getElem?_append_right->AI,getElem?_eq_none->wo,mem_range->pe,take_length->sQ,mem_filter->sR,filterMap_cons->yn,append_assoc->wq,drop_eq_getElem_cons->D7,not_mem_nil->wt,lookup_cons->yv,getElem?_append_left->FY,take_add_one->AJ,getD_eq_getElem?_getD->LJ,length_drop->B6,nil_sublist->B7,sublist_append_left->LM,ext_getElem?->D8,map_congr_left->GA,append_eq_nil_iff->LN,zip_cons_cons->GB,length_singleton->LP,all_cons->B8,any_cons->B9,pairwise_append->LS,replicate_succ->LV,any_eq_true->GH,filter_eq_self->LW,length_eq_zero_iff->Ou,find?_cons->GL,take_of_length_le->Ov,length_zip->GN,flatten_cons->LZ,take_append_drop->Ow,mem_of_mem_drop->Ox,mem_of_mem_take->Oy,map_fst_zip->L4,nodup_iff_pairwise_ne->Rc,extract_eq_drop_take->Rf,pairwise_iff_getElem->Rg,getElem?_replicate->Rh,getElem?_cons_zero->Ri,reverse_cons->Oz,length_replicate->Rj,eraseIdxIfInBounds_toArray->Vy,cons_append->OB,all_eq_true->OD,perm_append_comm->Rk,countP_cons->OG,drop_length->OJ,cons_ne_nil->OL,getElem?_set_ne->Rl,length_eraseIdx->Rm,length_nil->OO,nil_append->OQ,mem_filterMap->Rn,filterMap_map->Ro,contains_cons->Rp,length_range->Rq,map_take->OS,map_drop->OU,getElem_mem->Rr,mem_flatten->Rt
open PySem.Heap renaming get?_push_of_some->eL,lt_size->dc,get?_push_size->g9,get?_update_other->yy,get?_update_self->AK,size_update->D9,get?_push_ne->GO,size_push->Ee,get?_update_ne->Ru
open Nat renaming le_refl->bS,ne_of_lt->eI,zero_le->eP,lt_of_lt_of_le->kP,le_trans->jI,le_of_lt->kQ,lt_succ_of_lt->qA,lt_irrefl->pf,ne_of_gt->yA,pow_succ->yB,le_of_not_lt->L5,not_lt_zero->EA,lt_succ_of_le->GP,le_succ->Cb,add_sub_of_le->L6,mul_assoc->GU,one_pos->EB,min_self->GV,mul_le_mul->L7,lt_of_succ_lt->Rv,le_of_succ_le->Rw,le_of_lt_succ->OV,sub_lt->EC,le_add_right->Rx,add_comm->L8,le_of_eq->L9,zero_add->Mb,add_zero->Mk,mod_lt->GW,lt_of_le_of_lt->Zh,one_mul->My,lt_trans->Ry,mul_comm->OW,succ_pos->OX
open Bool renaming false_eq_true->gL,false_ne_true->ja,and_eq_true->kH,eq_iff_iff->wx,not_eq_true'->Rz,not_true->OY
open Array renaming getElem?_toList->mw,getElem?_eq_getElem->sT,toList_push->n9,length_toList->vi,getD_eq_getD_getElem?->Ct,getElem?_eq_none->CB,getElem?_eq_some_iff->GY,eq_empty_of_size_eq_zero->MA,size_extract->ED,append_assoc->MB,getElem?_extract->OZ,toArray_toList->O0,perm_iff_toList_perm->RA,toList_inj->O1,toList_extract->RB,append_empty->RC
open Int renaming le_refl->qB,le_trans->vj,toNat_of_nonneg->EE,le_of_lt->AO,toNat_natCast->MD,emod_nonneg->MG,emod_lt_of_pos->O3
open Option renaming map_eq_some_iff->ML,map_some->MQ,isSome_iff_exists->RD,isSome_map->RG
local macro_rules | `(command| def $i:declId $s:optDeclSig $v:declVal)=>`(command| noncomputable def $i:declId $s:optDeclSig $v:declVal)
local macro_rules | `(command| abbrev $i:declId $s:optDeclSig $v:declVal)=>`(command| noncomputable abbrev $i:declId $s:optDeclSig $v:declVal)
set_option compiler.extract_closed false
local macro_rules | `(tactic| walk_at "l") => `(tactic| first | lia | omega)
local macro_rules | `(tactic| walk_at "s1") => `(tactic| solve_by_elim (maxDepth := 4) [Nat.lt_of_lt_of_le, Nat.lt_of_le_of_lt, Nat.le_trans, Nat.lt_trans, Nat.le_of_lt, Nat.le_of_not_lt])
local macro_rules | `(tactic| walk_at "s2") => `(tactic| solve_by_elim (maxDepth := 5) [Nat.lt_of_lt_of_le, Nat.lt_of_le_of_lt, Nat.le_trans, Nat.le_of_lt, Nat.le_of_not_lt, Nat.lt_of_not_le, Nat.lt_of_succ_lt, Nat.le_of_succ_le])
local macro_rules | `(tactic| walk_at "s3") => `(tactic| solve_by_elim (maxDepth := 5) [Int.lt_of_lt_of_le, Int.lt_of_le_of_lt, Int.le_trans, Int.le_of_lt, Int.not_lt.mp, Int.not_le.mp])
local macro_rules | `(tactic| walk_at "s4") => `(tactic| solve_by_elim (maxDepth := 5) [Nat.le_trans, Nat.lt_of_lt_of_le, Nat.le_of_lt, Nat.le_add_right, Nat.le_add_left, Nat.add_le_add_left, Nat.add_lt_add_left, Nat.succ_le_succ, Nat.sub_le])
theorem L2.fE{α β:Type _}{A B C:α->β->Prop}{G:Prop}(x:∃ a b,A a b/\B a b/\C a b)(k:∀ a b,A a b->B a b->C a b->G):G :=
 let ⟨a,b,p,q,r⟩:=x
 k a b p q r
set_option Elab.async false
set_option linter.all false
set_option maxRecDepth 100000
namespace L2
open PySem PySem.Spec PyProof.Rows
abbrev Key:=Sum Int Str
def EF:Key->Value->Bool
 |.inl k,v=>Value.isInt k v
 |.inr x,v=>Value.isStrOf x v
def Zi(w:World):Key->Int
 |.inl k=>hashInt k
 |.inr x=>hashStr w x
theorem vk:∀ {k:Key} {v:Value},EF k v=true->(∃ i t,k=Sum.inl i/\v=Value.int i t)\/(∃ x t,k=Sum.inr x/\v=Value.str x t)
 |.inl i,v,h=>by
  obtain⟨t,e⟩:=Value.isInt_shape (k:=i) (v:=v) h
  exact .inl ⟨i,t,rfl,e⟩
 |.inr x,v,h=>by
  obtain⟨t,e⟩:=Value.isStrOf_shape (x:=x) (v:=v) h
  exact .inr ⟨x,t,rfl,e⟩
theorem Zj(i:Int)(t:Tok):EF (.inl i) (.int i t)=true:=by simp[EF,Value.isInt]
theorem Zk(x:Str)(t:Tok):EF (.inr x) (.str x t)=true:=by simp[EF,Value.isStrOf]
theorem Vz(a b:Int):decide ((Sum.inl a:Key)=Sum.inl b)=(a == b):=by
 by_cases e:a=b
 ·subst e;simp
 ·have h:¬ (Sum.inl a:Key)=Sum.inl b:=fun q=>e (Sum.inl.inj q)
  rw[decide_eq_false h]
  exact(beq_eq_false_iff_ne.mpr e).symm
theorem VA(a b:Str):decide ((Sum.inr a:Key)=Sum.inr b)=decide (a=b):=by
 by_cases e:a=b
 ·subst e;simp
 ·have h:¬ (Sum.inr a:Key)=Sum.inr b:=fun q=>e (Sum.inr.inj q)
  rw[decide_eq_false h,decide_eq_false e]
theorem Zm(a:Int)(b:Str):decide ((Sum.inl a:Key)=Sum.inr b)=false:=decide_eq_false (fun q=>nomatch q)
theorem Zn(a:Str)(b:Int):decide ((Sum.inr a:Key)=Sum.inl b)=false:=decide_eq_false (fun q=>nomatch q)
def jS(prog:Program)(w:World):PySem.KeyKind prog w Key where
 is:=EF
 hash:=Zi w
 inj:=fun v a b ha hb=>by
  rcases vk ha with⟨i,t,rfl,rfl⟩|⟨x,t,rfl,rfl⟩
  ·rcases vk hb with⟨j,u,rfl,e⟩|⟨y,u,rfl,e⟩
   ·injection e with e1 _;rw[e1]
   ·exact nomatch e
  ·rcases vk hb with⟨j,u,rfl,e⟩|⟨y,u,rfl,e⟩
   ·exact nomatch e
   ·injection e with e1 _;rw[e1]
 byValue:=fun k v h=>by
  rcases vk h with⟨i,t,rfl,rfl⟩|⟨x,t,rfl,rfl⟩<;>rfl
 pyHash:=fun hv h=>by
  rcases vk hv with⟨i,t,rfl,rfl⟩|⟨x,t,rfl,rfl⟩
  ·exact wpAny_pyHash_int h
  ·exact wpAny_pyHash_str h
 eqBool:=fun hu hv h=>by
  rcases vk hu with⟨i,t,rfl,rfl⟩|⟨x,t,rfl,rfl⟩
  ·rcases vk hv with⟨j,u,rfl,rfl⟩|⟨y,u,rfl,rfl⟩
   ·rw[Vz] at h;exact wpAny_eqBool_int h
   ·rw[Zm] at h;exact SeqAt.EqAt.int_str i t y u _ _ _ _ h
  ·rcases vk hv with⟨j,u,rfl,rfl⟩|⟨y,u,rfl,rfl⟩
   ·rw[Zn] at h;exact SeqAt.EqAt.str_int x t j u _ _ _ _ h
   ·rw[VA] at h;exact wpAny_eqBool_str h
 «strs» := fun k x t v h=>by
  rcases vk h with⟨i,u,rfl,e⟩|⟨y,u,rfl,e⟩
  ·exact nomatch e
  ·injection e with e1 _
   subst e1
   cases v<;>rfl
theorem Zo(prog:Program)(w:World)(i:Int)(t:Tok):(jS prog w).is (.inl i) (.int i t)=true:=Zj i t
theorem Zq(prog:Program)(w:World)(x:Str)(t:Tok):(jS prog w).is (.inr x) (.str x t)=true:=Zk x t
inductive V where
 |non|bl (b:Bool)|int (i:Int)|str (x:Str)|qE (b:Array UInt8)|AQ (b:UInt64)|ref (a:Addr)|ty (n:String)
 deriving DecidableEq
def RelV:V->Value->Prop
 |.non,u=>u=Value.none
 |.bl b,u=>u=Value.bool b
 |.int i,u=>∃ t,u=Value.int i t
 |.str x,u=>∃ t,u=Value.str x t
 |.qE b,u=>∃ t,u=Value.bytes b t
 |.AQ b,u=>∃ t,u=Value.float b t
 |.ref a,u=>u=Value.ref a
 |.ty n,u=>u=Value.type n
abbrev Vals:List V->List Value->Prop:=Paired RelV
theorem Vals.length(r:Vals xs us):xs.length=us.length:=Paired.length r
theorem Vals.get:∀ {xs:List V} {us:List Value} {i:Nat} {x:V},Vals xs us->xs[i]? = some x->∃ u,us[i]? = some u/\RelV x u
 |_,_,_,_,.nil,e=>by simp at e
 |_,_,0,_,.cons r _,e=>by simp at e;subst e;exact⟨_,rfl,r⟩
 |_,_,i+1,x,.cons _ t,e=>by
  obtain⟨u,h1,h2⟩:=Vals.get (i:=i) (x:=x) t (by simpa using e)
  exact⟨u,by simpa using h1,h2⟩
theorem Vals.append:∀ {xs ys:List V} {us ws:List Value},Vals xs us->Vals ys ws->Vals (xs++ys) (us++ws)
 |_,_,_,_,.nil,s=>s
 |_,_,_,_,.cons r t,s=>.cons r (Vals.append t s)
theorem Vals.take:∀ {xs:List V} {us:List Value} (n:Nat),Vals xs us->Vals (xs.take n) (us.take n)
 |_,_,0,_=>.nil
 |_,_,_+1,.nil=>.nil
 |_,_,n+1,.cons r t=>.cons r (Vals.take n t)
theorem Vals.drop:∀ {xs:List V} {us:List Value} (n:Nat),Vals xs us->Vals (xs.drop n) (us.drop n)
 |_,_,0,r=>r
 |_,_,_+1,.nil=>.nil
 |_,_,n+1,.cons _ t=>Vals.drop n t
def tf:Option V->Option Value->Prop
 |some v,some u=>RelV v u
 |none,none=>True
 |_,_=>False
def KV{κ:Type}:List (κ × V)->List (κ × Value)->Prop:=Paired fun(p:κ × V) (q:κ × Value)=>p.1=q.1/\RelV p.2 q.2
def kV:Key->V
 |.inl i=>.int i
 |.inr x=>.str x
inductive HO where
 /-- a list -/
 |lst (xs:List V)
 /-- a tuple (never changes) -/
 |tup (xs:List V)
 /-- a dict whose keys are ints and texts;one whose keys are tuples of ints and texts (the empty one is both) -/
 |dK (kvs:List (Key × V))|dT (kvs:List (List Key × V))
 /-- a set of ints: its members,its size -/
 |set (S:Int->Bool) (n:Nat)
 /-- an instance of the class at C,its dict at dx,its attributes -/
 |ins (C dx:Addr) (fs:List (Str × V))
 /-- the dict of the instance at x -/
 |own (x:Addr)
 /-- the dict of an exception -/
 |xd (fs:List (Str × V))
 /-- a bound method,f of x -/
 |met (f x:Addr)
 /-- a range object lo,lo+1,.. below hi -/
 |O4 (lo hi:Int)
 /-- a thing that is known to the object (the script;a dict while a loop walks it): read,never written while it is so -/
 |dQ (o:Obj) (u:HO)
 /-- a code object's table -/
 |qS (ps:Array Value)
 /-- any other thing,by what is true of its one object (a def of hY' own: hZ' a S n:=HO.ext fun h=>..) -/
 |ext (φ:Heap->Prop)
abbrev Hp:=Addr->Option HO
def upd(H:Hp)(a:Addr)(o:HO):Hp:=fun b=>if b=a then some o else H b
theorem eR:upd H a o a=some o:=by unfold upd;rw[if_pos rfl]
theorem cc(h:b≠a):upd H a o b=H b:=by unfold upd;rw[if_neg h]
theorem VB{H:Hp}{a b:Addr}{o u:HO}(h:H a=some o)(h':H b=some u)(d:o≠u):a≠b:=by
 intro e;subst e;rw[h] at h';exact d (Option.some.inj h')
theorem vn{H:Hp}{a b:Addr}{o:HO}(h:H a=some o)(h':H b=none):a≠b:=by
 intro e;subst e;rw[h] at h';cases h'
section
variable (P:Program)(w:World)
def eJ(H:Hp)(h:Heap)(a:Addr):HO->Prop
 |.lst xs=>xs.length<=sizeLine/\∃ (its:List Value) (n:Nat),Vals xs its/\h.get? a=some { cls:=.type "list",data:=.seq its.toArray n }
 |.tup xs=>xs.length<=sizeLine/\∃ its:List Value,Vals xs its/\IsTup h a its.toArray
 |.dK kvs=>kvs.length<=sizeLine/\(a == sysModules)=false/\∃ vs,KV kvs vs/\h.DictOf (jS P w) a vs
 |.dT kvs=>kvs.length<=sizeLine/\(a == sysModules)=false/\∃ xs:List (List Key × Addr × Value),
   Paired (fun(p:List Key × V) (q:List Key × Addr × Value)=>p.1=q.1/\H q.2.1=some (.tup (p.1.map kV))/\RelV p.2 q.2.2) kvs xs /\
   ∃ o es ep,h.get? a=some o/\o.ExactDict/\o.data=.dict es ep/\es.toList=xs.map (entryOfKey (tupleKind (jS P w)))/\(xs.map (·.1)).Nodup
 |.set S n=>h.SetOf (intKind P w) a S n
 |.ins C dx fs=>H dx=some (.own a)/\fs.length<=1000/\dx≠a/\h.get? a=some (PySem.W.instObj C dx) /\
   ∃ mA,h.Ns1 dx mA/\(∀ f,tf (fs.lookup f) (mA f))/\PySem.Within mA (fs.map (·.1))
 |.own _=>∃ o,h.get? a=some o
 |.xd fs=>∃ mA,h.Ns1 a mA/\∀ f,tf (fs.lookup f) (mA f)
 |.O4 lo hi=>∃ t u v,h.get? a=some { cls:=.type "range",data:=.fields #[.int lo t,.int hi u,.int 1 v] }
 |.dQ o u=>h.get? a=some o/\eJ H h a u
 |.qS ps=>h.get? a=some { cls:=.none,data:=.fields ps }
 |.met f x=>h.get? a=some (PySem.W.methodObj (.ref f) (.ref x))
 |.ext φ=>φ h/\(∃ o,h.get? a=some o)/\∀ h1 h2:Heap,φ h1->(∀ o,h1.get? a=some o->h2.get? a=some o)->φ h2
def gd(H:Hp)(h:Heap):Prop:=∀ a o,H a=some o->eJ P w H h a o
end
section
variable {P:Program}{w:World}{H H':Hp}{h h':Heap}{a:Addr}{o:HO}
theorem eJ.lt(x:eJ P w H h a o):a<h.objs.size:=by
 cases o with
 |lst xs=>obtain⟨_,_,_,_,e⟩:=x;exact dc e
 |tup xs=>obtain⟨_,_,_,p⟩:=x;exact p.lt
 |dK kvs=>obtain⟨_,_,_,_,o,_,_,e,_⟩:=x;exact dc e
 |dT kvs=>obtain⟨_,_,_,_,o,_,_,e,_⟩:=x;exact dc e
 |set S n=>obtain⟨o,_,_,_,e,_⟩:=x;exact dc e
 |ins C dx fs=>obtain⟨_,_,_,e,_⟩:=x;exact dc e
 |own y=>obtain⟨_,e⟩:=x;exact dc e
 |xd fs=>obtain⟨_,⟨_,_,_,e,_⟩,_⟩:=x;exact dc e
 |O4 lo hi=>obtain⟨_,_,_,e⟩:=x;exact dc e
 |dQ ob u=>obtain⟨e,_⟩:=x;exact dc e
 |qS ps=>exact dc (show h.get? a=some _ from x)
 |met f y=>exact dc (show h.get? a=some _ from x)
 |ext φ=>obtain⟨_,⟨_,e⟩,_⟩:=x;exact dc e
theorem Paired.RH{α β:Type}{F G:α->β->Prop}:∀ {VC:List α} {VD:List β},Paired F VC VD->(∀ a b,F a b->G a b)->Paired G VC VD
 |_,_,.nil,_=>.nil
 |_,_,.cons r t,f=>.cons (f _ _ r) (Paired.RH t f)
theorem eJ.fh(x:eJ P w H h a o)(k:∀ b u,(b=a\/H b=some (.own a))->h.get? b=some u->h'.get? b=some u)
  (ho:∀ b,H b=some (.own a)->H' b=some (.own a)) (ht:∀ b xs,H b=some (.tup xs)->H' b=some (.tup xs)):eJ P w H' h' a o:=by
 induction o with
 |lst xs=>obtain⟨z,its,n,r,e⟩:=x;exact⟨z,its,n,r,k _ _ (.inl rfl) e⟩
 |tup xs=>obtain⟨z,its,r,ob,e,c⟩:=x;exact⟨z,its,r,ob,k _ _ (.inl rfl) e,c⟩
 |dK kvs=>obtain⟨z,y,vs,r,ob,es,ep,e,c⟩:=x;exact⟨z,y,vs,r,ob,es,ep,k _ _ (.inl rfl) e,c⟩
 |dT kvs =>
  obtain⟨z,y,xs,r,ob,es,ep,e,c⟩:=x
  exact⟨z,y,xs,Paired.RH r fun p q z=>⟨z.1,ht _ _ z.2.1,z.2.2⟩,ob,es,ep,k _ _ (.inl rfl) e,c⟩
 |set S n=>obtain⟨ob,es,ep,t,e,c⟩:=x;exact⟨ob,es,ep,t,k _ _ (.inl rfl) e,c⟩
 |ins C dx fs =>
  obtain⟨d,z,ne,e,mA,⟨od,es,ep,e2,c⟩,r⟩:=x
  exact⟨ho _ d,z,ne,k _ _ (.inl rfl) e,mA,⟨od,es,ep,k _ _ (.inr d) e2,c⟩,r⟩
 |own y=>obtain⟨ob,e⟩:=x;exact⟨ob,k _ _ (.inl rfl) e⟩
 |xd fs=>obtain⟨mA,⟨od,es,ep,e,c⟩,r⟩:=x;exact⟨mA,⟨od,es,ep,k _ _ (.inl rfl) e,c⟩,r⟩
 |O4 lo hi=>obtain⟨t,u,v,e⟩:=x;exact⟨t,u,v,k _ _ (.inl rfl) e⟩
 |dQ ob u ih=>obtain⟨e,q⟩:=x;exact⟨k _ _ (.inl rfl) e,ih q⟩
 |qS ps =>
  have e:h.get? a=some { cls:=.none,data:=.fields ps }:=x
  show h'.get? a=some { cls:=.none,data:=.fields ps }
  exact k a _ (.inl rfl) e
 |met f y =>
  have e:h.get? a=some (PySem.W.methodObj (.ref f) (.ref y)):=x
  show h'.get? a=some (PySem.W.methodObj (.ref f) (.ref y))
  exact k a _ (.inl rfl) e
 |ext φ=>obtain⟨p,⟨o,e⟩,st⟩:=x;exact⟨st _ _ p fun o q=>k _ _ (.inl rfl) q,⟨o,k _ _ (.inl rfl) e⟩,st⟩
theorem gd.lt(x:gd P w H h)(e:H a=some o):a<h.objs.size:=(x a o e).lt
theorem gd.fresh(x:gd P w H h)(e:h.objs.size<=a):H a=none:=by
 cases q:H a with
 |none=>rfl
 |some u=>exact absurd (kP (x.lt q) e) (pf _)
theorem gd.kept(x:gd P w H h)(k:∀ b u,h.get? b=some u->h'.get? b=some u):gd P w H h':=fun a o e =>
 (x a o e).fh (fun b u _ q=>k b u q) (fun _ q=>q) fun _ _ q=>q
theorem gd.laid(x:gd P w H h)(k:∀ b u,h.get? b=some u->h'.get? b=some u)(hp:h.objs.size<=a)(new:eJ P w (upd H a o) h' a o):gd P w (upd H a o) h':=fun b u e=>by
 have hn:=x.fresh hp
 by_cases hb:b=a
 ·subst hb;rw[eR] at e;cases e;exact new
 ·rw[cc hb] at e
  exact(x b u e).fh (fun c v _ q=>k c v q) (fun c q=>by rw[cc (vn q hn)];exact q) fun c xs q=>by rw[cc (vn q hn)];exact q
end
def Rd(H:Hp)(a:Addr)(u:HO):Prop:=H a=some u\/∃ o,H a=some (.dQ o u)
theorem Rd.ok{P:Program}(r:Rd H a u)(x:gd P w H h):eJ P w H h a u:=by
 rcases r with r|⟨o,r⟩
 ·exact x a u r
 ·obtain⟨_,q⟩:=x a _ r
  exact q
def MR:Option HO->Prop
 |some (.lst _)=>True
 |some (.dK _)=>True
 |some (.dT _)=>True
 |some (.set _ _)=>True
 |some (.ins _ _ _)=>True
 |some (.ext _)=>True
 |_=>False
section
variable {P:Program}{w:World}{H:Hp}{h h':Heap}{x e:Addr}{o':HO}
theorem gd.write(ok:gd P w H h)(mu:MR (H x))(he:e=x\/H e=some (.own x))(k:∀ b u,b≠e->h.get? b=some u->h'.get? b=some u)(G0:∃ u,h'.get? e=some u)
  (new:eJ P w (upd H x o') h' x o'):gd P w (upd H x o') h':=fun b u q=>by
 have VF:∀ c y,H c=some (.own y)->c≠x:=fun c y r z=>by subst z;rw[r] at mu;exact mu
 have Zr:∀ c xs,H c=some (.tup xs)->c≠x:=fun c xs r z=>by subst z;rw[r] at mu;exact mu
 by_cases hb:b=x
 ·subst hb;rw[eR] at q;cases q;exact new
 ·rw[cc hb] at q
  by_cases EG:b=e
  ·have q':H b=some (.own x):=by
    rcases he with z|z
    ·exact absurd (EG.trans z) hb
    ·rw[EG];exact z
   rw[q] at q';cases q'
   obtain⟨v,hv⟩:=G0
   exact⟨v,by rw[EG];exact hv⟩
  ·refine(ok b u q).fh (fun c v hc r=>k c v ?_ r) (fun c r=>by rw[cc (VF c b r)];exact r) fun c xs r=>by rw[cc (Zr c xs r)];exact r
   rcases hc with rfl|hc
   ·exact EG
   ·rintro rfl
    rcases he with z|z
    ·exact VF c b hc z
    ·rw[hc] at z;cases z;exact hb rfl
end
structure Un(fs ex:List Addr)(H H':Hp)(h h':Heap):Prop where
 keep:∀ b o,h.get? b=some o->H b=none->b∉fs->b∉ex->h'.get? b=some o
 slot:∀ b o,h.get? b=some o->H b=none->b∈fs->b∉ex->∃ sl,h'.get? b=some { o with slots:=sl }
 free:∀ b o,h.get? b=some o->H b=none->b∉ex->H' b=none
 there:∀ b o,h.get? b=some o->b∉ex->∃ o',h'.get? b=some o'
 hG:∀ b xs,H b=some (.tup xs)->H' b=some (.tup xs)
 pj:∀ b o u,H b=some (.dQ o u)->H' b=some (.dQ o u)
 qV:∀ b ps,H b=some (.qS ps)->∃ more,H' b=some (.qS (ps++more))
section
variable {fs ex:List Addr}{H H1:Hp}{h h1 h':Heap}{a x e:Addr}{o:HO}
theorem Un.any(u:Un fs ex H H1 h h1)(q:h.get? b=some ob)(n:H b=none)(hx:b∉ex):∃ sl,h1.get? b=some { ob with slots:=sl }:=by
 by_cases hb:b∈fs
 ·exact u.slot b ob q n hb hx
 ·exact⟨ob.slots,u.keep b ob q n hb hx⟩
theorem Un.kept(k:∀ b u,h.get? b=some u->h'.get? b=some u):Un fs ex H H h h' :=
 ⟨fun b ob q _ _ _=>k b ob q,fun b ob q _ _ _=>⟨ob.slots,k b ob q⟩,fun _ _ _ n _=>n,fun b ob q _=>⟨ob,k b ob q⟩,fun _ _ q=>q,fun _ _ _ q=>q,fun _ ps q=>⟨#[],by rw[q];simp⟩⟩
theorem Un.refl:Un fs ex H H h h:=Un.kept fun _ _ q=>q
theorem Un.laid(k:∀ b u,h.get? b=some u->h'.get? b=some u)(hp:h.objs.size<=a)(hn:H a=none):Un fs ex H (upd H a o) h h' where
 keep:=fun b u q _ _ _=>k b u q
 slot:=fun b u q _ _ _=>⟨u.slots,k b u q⟩
 free:=fun b u q n _=>by rw[cc (eI (kP (dc q) hp))];exact n
 there:=fun b u q _=>⟨u,k b u q⟩
 hG:=fun b xs q=>by rw[cc (vn q hn)];exact q
 pj:=fun b u xs q=>by rw[cc (vn q hn)];exact q
 qV:=fun b ps q=>⟨#[],by rw[cc (vn q hn),q];simp⟩
theorem Un.write(mu:MR (H x))(he:e=x\/H e=some (.own x))(k:∀ b u,b≠e->h.get? b=some u->h'.get? b=some u)(G0:∃ u,h'.get? e=some u):Un fs ex H (upd H x o) h h':=by
 have hx:∀ b,H b=none->b≠x:=fun b n z=>by subst z;rw[n] at mu;exact mu
 have hb:∀ b,H b=none->b≠e:=fun b n z=>by
  subst z
  rcases he with r|r
  ·exact hx b n r
  ·rw[n] at r;cases r
 have hm:∀ b u,H b=some u->¬ MR (some u)->b≠x:=fun b u q nm z=>by subst z;rw[q] at mu;exact nm mu
 refine⟨fun b u q n _ _=>k b u (hb b n) q,fun b u q n _ _=>⟨u.slots,k b u (hb b n) q⟩,fun b u q n _=>by rw[cc (hx b n)];exact n,fun b u q _=>?_,
  fun b xs q=>by rw[cc (hm b _ q fun z=>z)];exact q,fun b u xs q=>by rw[cc (hm b _ q fun z=>z)];exact q,fun b ps q=>⟨#[],by rw[cc (hm b _ q fun z=>z),q];simp⟩⟩
 by_cases EG:b=e
 ·subst EG;exact G0
 ·exact⟨u,k b u EG q⟩
end
def O5(h:Heap)(H:Hp):List Addr:=(List.range h.objs.size).filter fun a=>(H a).isSome
def AR(h:Heap)(H:Hp):Heap:=PySem.W.hideAll h (O5 h H)
theorem Zt(h:Heap)(H:Hp):(AR h H).objs.size=h.objs.size:=PySem.W.hideAll_size _ _
theorem Zu(e:h.get? b=some o)(n:H b=none):(AR h H).get? b=some o :=
 PySem.W.hideAll_get _ e fun hm=>by
  have q:(H b).isSome=true:=(sR.mp hm).2
  rw[n] at q;simp at q
theorem Zv(e:(AR h H).get? b=some o):h.get? b=some o/\H b=none:=by
 have e':h.get? b=some o:=PySem.W.of_hideAll (O5 h H) e
 refine⟨e',?_⟩
 cases q:H b with
 |none=>rfl
 |some x =>
  have hm:b∈O5 h H:=sR.mpr ⟨pe.mpr (dc e'),by simp[q]⟩
  have z:(AR h H).get? b=none:=PySem.W.hideAll_none (O5 h H) hm
  rw[z] at e;cases e
def Zw(g h:Heap)(L:Addr):List (Addr × Obj):=(List.range h.objs.size).filterMap fun a=>if a=L\/(g.get? a).isSome=true then none else (h.get? a).map fun o=>(a,o)
def rest(g h:Heap)(L d:Addr):List (Addr × Obj):=(Zw g h L).filter fun p=>decide (p.1≠d)
structure Mod(K:PySem.W.Frag)(mg:Str->Option Value)(base:Heap):Prop where
 O6:K.In base
 glob:base.Ns mainGlobals mg
 blt:∃ mb,base.Ns builtinsNs mb/\∀ x:Str,x ≠ "__name__"->mb x=bootBuiltins x
 nolimit:base.NoLimit
structure Cx where
 prog:Program
 w:World
 K:PySem.W.Frag
 mg:Str->Option Value
 base:Heap
 A:Around
 N:List Str
 eS:Shared
 kc:Hp
 env:Env
 outer:List Env
 stack:List Env
 ex:List Addr
 fn:Str->Bool
 calm:Bool
 pn:List (Addr × Obj)
 xe:Value->Shared->Prop
def ft(l:List Env):List Addr:=l.filterMap (·.frame)
abbrev Cx.fs(X:Cx):List Addr:=ft X.outer
def O7(sc:Scope)(x:Str):Prop:=sc.names.lookup x=some .local\/sc.names.lookup x=some .cell\/sc.names.lookup x=some .free
def Loc(sc:Scope)(x:Str):Prop:=sc.names.lookup x=some .local\/sc.names.lookup x=some .cell
def Look(env:Env)(h:Heap)(m:Str->Option Value)(x:Str)(u:Value):Prop :=
 (env.kindOf x=some .local/\m x=some u)\/((env.kindOf x=some .cell\/env.kindOf x=some .free)/\∃ c,env.cells.lookup x=some c/\h.IsCell c (some u))
structure Cx.Ok(X:Cx):Prop where
 mod:Mod X.K X.mg X.base
 kind:X.env.scope.kind=.function
 glob:X.env.globals=mainGlobals
 blt:X.env.builtins=builtinsNs
 above:X.eS.heap.objs.size<=X.env.locals
 inj:∀ x y c,X.env.cells.lookup x=some c->X.env.cells.lookup y=some c->x=y
 has:∀ x,(X.env.kindOf x=some .cell\/X.env.kindOf x=some .free)->∃ c,X.env.cells.lookup x=some c
 yT:∀ x c,X.fn x=true->X.env.cells.lookup x=some c->X.eS.heap.objs.size<=c
 hd:X.calm=true->X.A.handled=none
 frames:X.A.frames=some X.stack
 AU:X.stack=X.outer\/(X.stack=X.env :: X.outer/\X.env.frame=some X.env.locals)
 AV:∀ b∈X.ex,b≠X.env.locals/\∀ x c,X.env.cells.lookup x=some c->c≠b
 bs:∀ b o,X.base.get? b=some o->X.eS.heap.get? b=some o/\X.kc b=none
 ti:X.base.objs.size<=X.eS.heap.objs.size
 y3:∀ b o,X.base.get? b=some o->b∉X.ex
 y6:∀ b∈X.ex,b∉X.fs
 px:X.eS.heap.FunFrames X.base X.outer
 w_:∀ b∈X.fs,X.kc b=none
structure Inv(X:Cx)(pins:List (Addr × Obj))(σ:List (Option V))(H:Hp)(s:Shared):Prop where
 ok:X.Ok
 os:s.os=X.eS.os
 bare:AllBare s.gens
 base:Un X.fs X.ex X.kc H X.eS.heap s.heap
 loc:∃ m,s.heap.Ns X.env.locals m/\∀ (i:Nat) (x:Str) (v:V),X.N[i]? = some x->σ[i]? = some (some v)->O7 X.env.scope x->∃ u,RelV v u/\Look X.env s.heap m x u
 cell:∀ x c,X.env.cells.lookup x=some c->∃ v,s.heap.IsCell c v
 free:H X.env.locals=none
 nh:∀ x c,X.env.cells.lookup x=some c->H c=none
 pin:∀ p∈X.pn++pins,s.heap.get? p.1=some p.2/\H p.1=none/\p.1≠X.env.locals/\p.1∉X.fs/\∀ v,p.2.data≠.cell v
 aC:gd X.prog X.w H s.heap
 len:σ.length=X.N.length
section
variable {X:Cx}{pins:List (Addr × Obj)}{σ:List (Option V)}{H H':Hp}{s:Shared}{h':Heap}
theorem Cx.Ok.Zx(ok:X.Ok)(e:X.base.get? b=some o):b∉X.fs:=fun hb=>by
 have:=(ok.px.mem hb).1
 rw[e] at this;cases this
theorem Inv.bs(I:Inv X pins σ H s):∀ b o,X.base.get? b=some o->s.heap.get? b=some o/\H b=none:=fun b o e =>
 ⟨I.base.keep b o (I.ok.bs b o e).1 (I.ok.bs b o e).2 (I.ok.Zx e) (I.ok.y3 b o e),I.base.free b o (I.ok.bs b o e).1 (I.ok.bs b o e).2 (I.ok.y3 b o e)⟩
theorem Inv.bk(I:Inv X pins σ H s):∀ b o,X.base.get? b=some o->s.heap.get? b=some o:=fun b o e=>(I.bs b o e).1
theorem Inv.mod(I:Inv X pins σ H s):Mod X.K X.mg X.base:=I.ok.mod
theorem Inv.kf(I:Inv X pins σ H s):X.K.In s.heap:=I.ok.mod.O6.keeps I.bk
theorem Inv.lt(I:Inv X pins σ H s):X.env.locals<s.heap.objs.size:=let ⟨_,hn,_⟩:=I.loc;hn.lt
theorem Inv.sz(I:Inv X pins σ H s):X.eS.heap.objs.size<=s.heap.objs.size:=jI I.ok.above (kQ I.lt)
theorem Inv.Zy(I:Inv X pins σ H s)(h:s.heap.objs.size<=a):a∉X.fs:=fun hb=>by
 obtain⟨_,o,ho,_⟩:=I.ok.px.mem hb
 exact absurd (kP (dc ho) (jI I.sz h)) (pf _)
theorem Inv.CC(I:Inv X pins σ H s):∀ x c,X.env.cells.lookup x=some c->c≠X.env.locals:=fun x c e z=>by
 obtain⟨v,o,ho,hd⟩:=I.cell x c e
 obtain⟨m,⟨o',es,ep,mz,RJ,_⟩,_⟩:=I.loc
 rw[z,mz] at ho;cases ho;rw[RJ] at hd;cases hd
theorem Inv.px(I:Inv X pins σ H s):s.heap.FunFrames X.base X.outer:=by
 have all:∀ (l:List Env),(∀ b∈ft l,b∈X.fs)->X.eS.heap.FunFrames X.base l->s.heap.FunFrames X.base l:=by
  intro l
  induction l with
  |nil=>intro _ _;trivial
  |cons env r ih =>
   intro hs hl
   obtain⟨hk,⟨L,o,hf,hn,ho,hd⟩,hr⟩:=hl
   have hL:L∈X.fs:=hs L (by unfold ft;rw[yn,hf];exact df)
   obtain⟨sl,e⟩:=I.base.slot L o ho (I.ok.w_ L hL) hL fun z=>I.ok.y6 L z hL
   exact⟨hk,⟨L,_,hf,hn,e,hd⟩,ih (fun b hb=>hs b (by unfold ft;rw[yn,hf];exact de _ hb)) hr⟩
 exact all X.outer (fun _ hb=>hb) I.ok.px
theorem Inv.stack(I:Inv X pins σ H s):s.heap.FunFrames X.base X.stack:=by
 rcases I.ok.AU with e|⟨e,hf⟩
 ·rw[e];exact I.px
 ·rw[e]
  obtain⟨m,hn,_⟩:=I.loc
  refine .cons (by rw[I.ok.kind];decide) hf hn ?_ I.px
  exact Heap.get?_none_of_le (jI I.ok.ti I.ok.above)
theorem Inv.RK(I:Inv X pins σ H s):∀ b∈ft X.stack,b∈X.env.locals :: X.fs:=fun b hb=>by
 rcases I.ok.AU with e|⟨e,hf⟩
 ·rw[e] at hb;exact de _ hb
 ·rw[e] at hb
  unfold ft at hb
  rw[yn,hf] at hb
  exact hb
theorem Inv.RL(I:Inv X pins σ H s):∀ b∈ft X.stack,H b=none:=fun b hb=>by
 rcases dA.mp (I.RK b hb) with e|hb
 ·rw[e];exact I.free
 ·obtain⟨_,o,ho,_⟩:=I.ok.px.mem hb
  exact I.base.free b o ho (I.ok.w_ b hb) fun z=>I.ok.y6 b z hb
theorem Inv.step{g':Array GenState}{t':Nat}{d':Drawn}{ch:List Addr}(I:Inv X pins σ H s)
  (y8:∀ b∈ch,(b∈X.ex\/X.eS.heap.objs.size<=b)/\b≠X.env.locals/\(∀ x c,X.env.cells.lookup x=some c->c≠b)/\∀ p∈X.pn++pins,p.1≠b)
  (keep:∀ b o,b≠X.env.locals->b∉X.fs->b∉ch->s.heap.get? b=some o->H b=none->h'.get? b=some o)
  (slot:∀ b o,b≠X.env.locals->b∈X.fs->b∉ch->s.heap.get? b=some o->H b=none->∃ sl,h'.get? b=some { o with slots:=sl }) (free:∀ b o,b∉ch->s.heap.get? b=some o->H b=none->H' b=none)
  (there:∀ b o,b∉ch->s.heap.get? b=some o->∃ o',h'.get? b=some o')
  (hG:∀ b xs,H b=some (.tup xs)->H' b=some (.tup xs)) (pj:∀ b o u,H b=some (.dQ o u)->H' b=some (.dQ o u)) (qV:∀ b ps,H b=some (.qS ps)->∃ more,H' b=some (.qS (ps++more)))
  (ns:∀ m,s.heap.Ns X.env.locals m->h'.Ns X.env.locals m) (aC:gd X.prog X.w H' h') (hg:AllBare g') :
  Inv X pins σ H' { s with heap:=h',gens:=g',drawn:=d',toks:=t' }:=by
 have MS:∀ b o,X.eS.heap.get? b=some o->b≠X.env.locals:=fun b o e=>eI (kP (dc e) I.ok.above)
 have O8:∀ b o,X.eS.heap.get? b=some o->b∉X.ex->b∉ch:=fun b o e hx hb=>by
  rcases (y8 b hb).1 with z|z
  ·exact hx z
  ·exact absurd (kP (dc e) z) (pf _)
 have cellK:∀ x c,X.env.cells.lookup x=some c->∀ v,s.heap.IsCell c v->h'.IsCell c v:=fun x c e v cE=>by
  obtain⟨o,ho,hd⟩:=cE
  have MV:c∉ch:=fun z=>(y8 c z).2.2.1 x c e rfl
  by_cases hc:c∈X.fs
  ·obtain⟨sl,q⟩:=slot c o (I.CC x c e) hc MV ho (I.nh x c e)
   exact⟨_,q,hd⟩
  ·exact⟨o,keep c o (I.CC x c e) hc MV ho (I.nh x c e),hd⟩
 refine⟨I.ok,I.os,hg,⟨fun b o e n hb hx=>?_,fun b o e n hb hx=>?_,fun b o e n hx=>?_,fun b o e hx=>?_,fun b xs e=>hG b xs (I.base.hG b xs e),fun b o xs e=>pj b o xs (I.base.pj b o xs e),fun b ps e=>?_⟩,?_,fun x c e=>?_,?_,fun x c e=>?_,fun p hp=>?_,aC,I.len⟩
 ·exact keep b o (MS b o e) hb (O8 b o e hx) (I.base.keep b o e n hb hx) (I.base.free b o e n hx)
 ·obtain⟨sl,e1⟩:=I.base.slot b o e n hb hx
  obtain⟨Zz,e2⟩:=slot b _ (MS b o e) hb (O8 b o e hx) e1 (I.base.free b o e n hx)
  exact⟨Zz,e2⟩
 ·obtain⟨o',e1⟩:=I.base.there b o e hx
  exact free b o' (O8 b o e hx) e1 (I.base.free b o e n hx)
 ·obtain⟨o',e1⟩:=I.base.there b o e hx
  exact there b o' (O8 b o e hx) e1
 ·obtain⟨m1,e1⟩:=I.base.qV b ps e
  obtain⟨m2,e2⟩:=qV b _ e1
  exact⟨m1++m2,by rw[e2,MB]⟩
 ·obtain⟨m,hn,hl⟩:=I.loc
  refine⟨m,ns m hn,fun i x v e1 e2 e3=>?_⟩
  obtain⟨u,r,l⟩:=hl i x v e1 e2 e3
  refine⟨u,r,?_⟩
  rcases l with l|⟨k,c,e,z⟩
  ·exact .inl l
  ·exact .inr ⟨k,c,e,cellK x c e _ z⟩
 ·obtain⟨v,z⟩:=I.cell x c e
  exact⟨v,cellK x c e v z⟩
 ·obtain⟨m,⟨o,_,_,ho,_⟩,_⟩:=I.loc
  exact free _ o (fun z=>(y8 _ z).2.1 rfl) ho I.free
 ·obtain⟨v,o,ho,hd⟩:=I.cell x c e
  exact free c o (fun z=>(y8 c z).2.2.1 x c e rfl) ho (I.nh x c e)
 ·obtain⟨e,n,ne,nf,d⟩:=I.pin p hp
  have MV:p.1∉ch:=fun z=>(y8 p.1 z).2.2.2 p hp rfl
  exact⟨keep p.1 p.2 ne nf MV e n,free p.1 p.2 MV e n,ne,nf,d⟩
theorem Inv.un{t':Nat}(I:Inv X pins σ H s)(u:Un X.fs [] H H' s.heap h')(aC:gd X.prog X.w H' h'):Inv X pins σ H' { s with heap:=h',toks:=t' }:=by
 obtain⟨m,⟨o,es,ep,ho,r⟩,_⟩:=id I.loc
 obtain⟨sl,hL⟩:=u.any ho I.free (by simp)
 exact I.step (g':=s.gens) (d':=s.drawn) (ch:=[]) (fun _ z=>nomatch z) (fun b o _ hb _ e n=>u.keep b o e n hb (by simp)) (fun b o _ hb _ e n=>u.slot b o e n hb (by simp)) (fun b o _ e n=>u.free b o e n (by simp)) (fun b o _ e=>u.there b o e (by simp)) u.hG u.pj u.qV (fun m' hm=>by
  obtain⟨o',RN,RP,mz,r'⟩:=hm
  rw[ho] at mz;cases mz
  exact⟨_,RN,RP,hL,r'⟩) aC I.bare
theorem Inv.call{g':Array GenState}{t':Nat}{d':Drawn}{ch:List Addr}(I:Inv X pins σ H s)(u:Un (ft X.stack) ch H H' s.heap h')(aC:gd X.prog X.w H' h')(hg:AllBare g')
  (y8:∀ b∈ch,(b∈X.ex\/X.eS.heap.objs.size<=b)/\b≠X.env.locals/\(∀ x c,X.env.cells.lookup x=some c->c≠b)/\∀ p∈X.pn++pins,p.1≠b) :
  Inv X pins σ H' { s with heap:=h',gens:=g',drawn:=d',toks:=t' }:=by
 obtain⟨m,⟨o,es,ep,ho,r⟩,_⟩:=id I.loc
 obtain⟨sl,hL⟩:=u.any ho I.free fun z=>(y8 _ z).2.1 rfl
 exact I.step (ch:=ch) y8 (fun b o hL hb hc e n=>u.keep b o e n (fun z=>(dA.mp (I.RK b z)).elim hL hb) hc) (fun b o _ _ hc e n=>u.any e n hc) (fun b o hc e n=>u.free b o e n hc) (fun b o hc e=>u.there b o e hc) u.hG u.pj u.qV (fun m' hm=>by
  obtain⟨o',RN,RP,mz,r'⟩:=hm
  rw[ho] at mz;cases mz
  exact⟨_,RN,RP,hL,r'⟩) aC hg
theorem Inv.turned{t':Nat}{it:Addr}(I:Inv X pins σ H s)(k:∀ b o,b≠it->s.heap.get? b=some o->h'.get? b=some o)(hn:H it=none)(hL:it≠X.env.locals)
  (h1:it∈X.ex\/X.eS.heap.objs.size<=it) (h2:∀ x c,X.env.cells.lookup x=some c->c≠it) (h3:∀ p∈X.pn++pins,p.1≠it):Inv X pins σ H { s with heap:=h',toks:=t' }:=by
 have CD:∀ b u,H b=some u->b≠it:=fun b u e z=>by rw[z,hn] at e;cases e
 refine I.step (g':=s.gens) (d':=s.drawn) (ch:=[it]) (fun b hb=>?_) (fun b o _ _ hc e _=>k b o (fun z=>hc (by simp[z])) e) (fun b o _ _ hc e _=>⟨o.slots,k b o (fun z=>hc (by simp[z])) e⟩) (fun _ _ _ _ n=>n)
  (fun b o hc e=>⟨o,k b o (fun z=>hc (by simp[z])) e⟩) (fun _ _ e=>e) (fun _ _ _ e=>e) (fun b ps e=>⟨#[],by rw[e];simp⟩) (fun m hm=>?_) (fun b u e=>?_) I.bare
 ·have e:b=it:=by simpa using hb
  subst e
  exact⟨h1,hL,h2,h3⟩
 ·obtain⟨o,es,ep,ho,r⟩:=hm
  exact⟨o,es,ep,k _ o (Ne.symm hL) ho,r⟩
 ·refine(I.aC b u e).fh (fun c v hc q=>k c v ?_ q) (fun _ q=>q) fun _ _ q=>q
  rcases hc with z|z
  ·rw[z];exact CD b u e
  ·exact CD c _ z
theorem Inv.tok(I:Inv X pins σ H s)(t:Nat):Inv X pins σ H { s with toks:=t }:=I.un (h':=s.heap) (t':=t) Un.refl I.aC
theorem Inv.kept(I:Inv X pins σ H s)(k:∀ b u,s.heap.get? b=some u->h'.get? b=some u):Inv X pins σ H { s with heap:=h',toks:=t' }:=I.un (Un.kept k) (I.aC.kept k)
theorem Inv.laid(I:Inv X pins σ H s)(k:∀ b u,s.heap.get? b=some u->h'.get? b=some u)(hp:s.heap.objs.size<=a)(new:eJ X.prog X.w (upd H a o) h' a o) :
  Inv X pins σ (upd H a o) { s with heap:=h',toks:=t' }:=I.un (Un.laid k hp (I.aC.fresh hp)) (I.aC.laid k hp new)
theorem Inv.write(I:Inv X pins σ H s)(mu:MR (H x))(he:e=x\/H e=some (.own x))(k:∀ b u,b≠e->s.heap.get? b=some u->h'.get? b=some u)(G0:∃ u,h'.get? e=some u)
  (new:eJ X.prog X.w (upd H x o) h' x o):Inv X pins σ (upd H x o) { s with heap:=h',toks:=t' }:=I.un (Un.write mu he k G0) (I.aC.write mu he k G0 new)
theorem Inv.VG(I:Inv X pins σ H s)(h:∀ p∈nr,s.heap.get? p.1=some p.2/\H p.1=none/\p.1≠X.env.locals/\p.1∉X.fs/\∀ v,p.2.data≠.cell v):Inv X nr σ H s :=
 ⟨I.ok,I.os,I.bare,I.base,I.loc,I.cell,I.free,I.nh,fun p hp=>(dz.mp hp).elim (fun z=>I.pin p (iS _ z)) (h p),I.aC,I.len⟩
theorem VH{N:List Str}(hN:N.Nodup){i j:Nat}{x:Str}(a:N[i]? = some x)(b:N[j]? = some x):i=j:=by
 obtain⟨h1,e1⟩:=lh.mp a
 obtain⟨h2,e2⟩:=lh.mp b
 exact(List.getElem_inj hN).mp (e1.trans e2.symm)
theorem O9{M:Model}{A:Around}{E:Value->Shared->Prop}{i:Nat}{x:Str}{v:V}{u:Value}{Q:Unit->Shared->Prop}(I:Inv X pins σ H s)(hN:X.N.Nodup)(hi:X.N[i]? = some x)(hx:Loc X.env.scope x)(r:RelV v u)
  (h:∀ s',Inv X pins (σ.set i (some v)) H s'->(∃ a,Heap.SameBut a s.heap s'.heap/\(a=X.env.locals\/X.env.cells.lookup x=some a))->Q () s') (hf:X.fn x=true\/X.env.scope.names.lookup x=some .local:=by first|exact .inl rfl|exact .inr rfl|assumption):wpAny M A (storeName X.env x u) Q E s:=by
 obtain⟨m,hn,hl⟩:=id I.loc
 have RQ:(X.env.scope.kind == .class || (X.env.scope.kind == .module && X.env.locals != X.env.globals))=false:=by rw[I.ok.kind];rfl
 have VJ:i<σ.length:=by rw[I.len];exact(lh.mp hi).1
 have CC:=I.CC
 have tracked:∀ {a:Addr} {h':Heap},(∃ o,s.heap.get? a=some o/\H a=none)->Heap.SameBut a s.heap h'->gd X.prog X.w H h':=fun {a h'} ha hs b ob e=>by
  obtain⟨_,_,VL⟩:=ha
  refine(I.aC b ob e).fh (fun c w' hc q=>(hs.2 c ?_).trans q) (fun _ q=>q) fun _ _ q=>q
  rintro rfl
  rcases hc with rfl|hc
  ·rw[VL] at e;cases e
  ·rw[VL] at hc;cases hc
 rcases hx with hk|hk
 ·refine wpAny_storeName_local hk hn (fun h' AW hs=>?_) RQ
  obtain⟨oL,_,_,vt,_⟩:=id hn
  refine h _ ⟨I.ok,I.os,I.bare,⟨fun b o e n hb hx=>?_,fun b o e n hb hx=>?_,I.base.free,fun b o e hx=>?_,I.base.hG,I.base.pj,I.base.qV⟩,⟨_,AW,fun j y v' e1 e2 e3=>?_⟩,fun y c e=>?_,I.free,I.nh,fun p hp=>?_,tracked ⟨oL,vt,I.free⟩ hs,by simpa using I.len⟩ ⟨_,hs,.inl rfl⟩
  ·exact(hs.2 b (eI (kP (dc e) I.ok.above))).trans (I.base.keep b o e n hb hx)
  ·obtain⟨sl,e1⟩:=I.base.slot b o e n hb hx
   exact⟨sl,(hs.2 b (eI (kP (dc e) I.ok.above))).trans e1⟩
  ·obtain⟨o',e1⟩:=I.base.there b o e hx
   exact⟨o',(hs.2 b (eI (kP (dc e) I.ok.above))).trans e1⟩
  ·by_cases hj:j=i
   ·subst hj
    rw[hi] at e1;cases e1
    rw[List.getElem?_set_self VJ] at e2
    cases e2
    exact⟨u,r,.inl ⟨hk,by simp⟩⟩
   ·rw[Rl (Ne.symm hj)] at e2
    obtain⟨u',r',q⟩:=hl j y v' e1 e2 e3
    refine⟨u',r',?_⟩
    rcases q with⟨k,e⟩|⟨k,c,e,z⟩
    ·refine .inl ⟨k,?_⟩
     have:y≠x:=fun e=>hj (VH hN e1 (e ▸ hi))
     simp[this,e]
    ·exact .inr ⟨k,c,e,z.sameBut hs (CC y c e)⟩
  ·obtain⟨w',z⟩:=I.cell y c e
   exact⟨w',z.sameBut hs (CC y c e)⟩
  ·obtain⟨e,n,ne,nf,d⟩:=I.pin p hp
   exact⟨(hs.2 p.1 ne).trans e,n,ne,nf,d⟩
 ·have RT:X.fn x=true:=by
   rcases hf with z|z
   ·exact z
   ·rw[z] at hk;cases hk
  obtain⟨c,hc⟩:=I.ok.has x (.inl hk)
  obtain⟨w',z⟩:=I.cell x c hc
  refine wpAny_storeName_cell I.ok.kind hk hc z (fun h' y9 hs=>?_)
  obtain⟨oc,O_,ZC⟩:=id z
  refine h { s with heap:=h' } ⟨I.ok,I.os,I.bare,⟨fun b o e n hb hx=>?_,fun b o e n hb hx=>?_,I.base.free,fun b o e hx=>?_,I.base.hG,I.base.pj,I.base.qV⟩,⟨m,hn.sameBut hs (Ne.symm (CC x c hc)),fun j y v' e1 e2 e3=>?_⟩,fun y c' e=>?_,I.free,I.nh,fun p hp=>?_,tracked ⟨oc,O_,I.nh x c hc⟩ hs,by simpa using I.len⟩ ⟨c,hs,.inr hc⟩
  ·exact(hs.2 b (eI (kP (dc e) (I.ok.yT x c RT hc)))).trans (I.base.keep b o e n hb hx)
  ·obtain⟨sl,e1⟩:=I.base.slot b o e n hb hx
   exact⟨sl,(hs.2 b (eI (kP (dc e) (I.ok.yT x c RT hc)))).trans e1⟩
  ·obtain⟨o',e1⟩:=I.base.there b o e hx
   exact⟨o',(hs.2 b (eI (kP (dc e) (I.ok.yT x c RT hc)))).trans e1⟩
  ·by_cases hj:j=i
   ·subst hj
    rw[hi] at e1;cases e1
    rw[List.getElem?_set_self VJ] at e2
    cases e2
    exact⟨u,r,.inr ⟨.inl hk,c,hc,y9⟩⟩
   ·rw[Rl (Ne.symm hj)] at e2
    obtain⟨u',r',q⟩:=hl j y v' e1 e2 e3
    refine⟨u',r',?_⟩
    rcases q with q|⟨k,c',e,z'⟩
    ·exact .inl q
    ·refine .inr ⟨k,c',e,z'.sameBut hs ?_⟩
     rintro rfl
     exact hj (VH hN e1 (I.ok.inj _ _ _ e hc ▸ hi))
  ·by_cases Pa:c'=c
   ·subst Pa;exact⟨_,y9⟩
   ·obtain⟨w2,z2⟩:=I.cell y c' e
    exact⟨w2,z2.sameBut hs Pa⟩
  ·obtain⟨e,n,ne,nf,d⟩:=I.pin p hp
   refine⟨(hs.2 p.1 ?_).trans e,n,ne,nf,d⟩
   intro q
   rw[q,O_] at e
   have q':oc=p.2:=Option.some.inj e
   exact d w' (by rw[<- q'];exact ZC)
theorem VM(I:Inv X pins σ H s)(hN:X.N.Nodup)(hi:X.N[i]? = some x)(hx:Loc X.env.scope x)(r:RelV v u)
  (h:∀ s',Inv X pins (σ.set i (some v)) H s'->Q () s') (hf:X.fn x=true\/X.env.scope.names.lookup x=some .local:=by first|exact .inl rfl|exact .inr rfl|assumption):wpAny M A (storeName X.env x u) Q E s :=
 O9 I hN hi hx r (fun s' I' _=>h s' I') hf
theorem Inv.ZD(I:Inv X pins σ H s)(ho:s'.os=s.os)(u:Un (ft X.stack) ch H H' s.heap s'.heap)(aC:gd X.prog X.w H' s'.heap)(hg:AllBare s'.gens)
  (y8:∀ b∈ch,(b∈X.ex\/X.eS.heap.objs.size<=b)/\b≠X.env.locals/\(∀ x c,X.env.cells.lookup x=some c->c≠b)/\∀ p∈X.pn++pins,p.1≠b):Inv X pins σ H' s':=by
 obtain⟨h',g',d',t',o'⟩:=s'
 have e:o'=s.os:=ho
 subst e
 exact I.call (g':=g') (t':=t') (d':=d') u aC hg y8
end
abbrev XK:=Value->Option Addr->Hp->Prop
abbrev St:=List (Option V)
abbrev VK:=V->Hp->Prop
abbrev TE:=St->Hp->VK->Prop
abbrev TT:=St->Hp->(Bool->Hp->Prop)->Prop
abbrev TA:=St->Hp->(List V->Hp->Prop)->Prop
structure Ends where
 nx:St->Hp->Prop
 rt:VK
 bk:St->Hp->Prop:=fun _ _=>False
 ct:St->Hp->Prop:=fun _ _=>False
abbrev TS:=Ends->St->Hp->Prop
def EP(X:Cx)(pins:List (Addr × Obj))(σ:St)(Q:VK)(u:Value)(s':Shared):Prop:=∃ v H',Inv X pins σ H' s'/\RelV v u/\Q v H'
def TP(X:Cx)(pins:List (Addr × Obj))(σ:St)(Q:Bool->Hp->Prop)(b:Bool)(s':Shared):Prop:=∃ H',Inv X pins σ H' s'/\Q b H'
def AP(X:Cx)(pins:List (Addr × Obj))(σ:St)(Q:List V->Hp->Prop)(us:List Value)(s':Shared):Prop:=∃ vs H',Inv X pins σ H' s'/\Vals vs us/\Q vs H'
def SP(X:Cx)(pins:List (Addr × Obj))(D:Ends)(f:Flow)(s':Shared):Prop :=
 match f with
 |.next=>∃ aS H',Inv X pins aS H' s'/\D.nx aS H'
 |.brk=>∃ aS H',Inv X pins aS H' s'/\D.bk aS H'
 |.cont=>∃ aS H',Inv X pins aS H' s'/\D.ct aS H'
 |.ret u=>∃ v aS H',Inv X pins aS H' s'/\RelV v u/\D.rt v H'
def PE(X:Cx)(e:Expr)(t:TE):Prop :=
 ∀ (pins:List (Addr × Obj)) (s:Shared) (σ:St) (H:Hp) (Q:VK),Inv X pins σ H s->t σ H Q->wpAny (model X.prog X.w) X.A (eval e X.env) (EP X pins σ Q) X.xe s
def PT(X:Cx)(e:Expr)(t:TT):Prop :=
 ∀ (pins:List (Addr × Obj)) (s:Shared) (σ:St) (H:Hp) (Q:Bool->Hp->Prop),Inv X pins σ H s->t σ H Q->wpAny (model X.prog X.w) X.A (isTrue e X.env (eval e X.env)) (TP X pins σ Q) X.xe s
def PW(X:Cx)(e:Expr)(t:TT):Prop :=
 ∀ (whole:Sem Value) (pins:List (Addr × Obj)) (s:Shared) (σ:St) (H:Hp) (Q:Bool->Hp->Prop),Inv X pins σ H s->t σ H Q->wpAny (model X.prog X.w) X.A (isTrue e X.env whole) (TP X pins σ Q) X.xe s
def PA(X:Cx)(es:List Expr)(t:TA):Prop :=
 ∀ (pos:Pos) (pins:List (Addr × Obj)) (s:Shared) (σ:St) (H:Hp) (Q:List V->Hp->Prop),Inv X pins σ H s->t σ H Q->wpAny (model X.prog X.w) X.A (spliced (backTo pos (starEach es X.env))) (AP X pins σ Q) X.xe s
def PS(X:Cx)(st:Stmt)(t:TS):Prop :=
 ∀ (pins:List (Addr × Obj)) (s:Shared) (σ:St) (H:Hp) (D:Ends),Inv X pins σ H s->t D σ H->wpAny (model X.prog X.w) X.A (exec st X.env) (SP X pins D) X.xe s
def nv(X:Cx)(st:List Stmt)(t:TS):Prop :=
 ∀ (pins:List (Addr × Obj)) (s:Shared) (σ:St) (H:Hp) (D:Ends),Inv X pins σ H s->t D σ H->wpAny (model X.prog X.w) X.A (execs st X.env) (SP X pins D) X.xe s
theorem b5{α:Type}{t:Sem α}{Q Q':α->Shared->Prop}{M:Model}{A:Around}{E:Value->Shared->Prop}{s:Shared}(h:wpAny M A t Q E s)(hQ:∀ a s,Q a s->Q' a s):wpAny M A t Q' E s:=oq h hQ fun _ _ x=>x
section
variable {X:Cx}
def CF(i:Nat):TE:=fun σ H Q=>∃ v,σ[i]? = some (some v)/\Q v H
def tC(v:V):TE:=fun _ H Q=>Q v H
theorem VN (hN:X.N[i]? = some x) (hv:O7 X.env.scope x) (hd:(x == ("__debug__" : Str))=false:=by decide) (oz:(x == ("__classdict__" : Str))=false:=by decide):PE X (.Name x pos) (CF i):=by
 intro pins s σ H Q I h
 obtain⟨v,e,h⟩:=h
 obtain⟨m,hn,hl⟩:=I.loc
 obtain⟨u,r,l⟩:=hl i x v hN e hv
 have fin:EP X pins σ Q u s:=⟨v,H,I,r,h⟩
 rcases l with⟨hk,hm⟩|⟨hk,c,hc,VP⟩
 ·exact wpAny_Name (wpAny_loadName_local I.ok.kind hk hn hm fin) hd
 ·rcases hk with hk|hk
  ·exact wpAny_Name (wpAny_loadName_cell I.ok.kind hk hc VP fin) hd
  ·exact wpAny_Name (wpAny_loadName_free I.ok.kind hk hc VP fin oz) hd
theorem ZE{i j pos}:PE X (.Constant (.int i) j pos) (tC (.int i)):=fun _ _ _ H _ I h=>wpAny_Constant_int ⟨.int i,H,I.tok _,⟨_,rfl⟩,h⟩
theorem ZF{b j pos}:PE X (.Constant (.bool b) j pos) (tC (.bl b)):=fun _ _ _ H _ I h=>Constant_bool ⟨.bl b,H,I,rfl,h⟩
theorem ZG{x j pos}:PE X (.Constant (.str x) j pos) (tC (.str x)):=fun _ _ _ H _ I h=>Calls.Constant_str ⟨.str x,H,I.tok _,⟨_,rfl⟩,h⟩
def Gl(X:Cx)(x:Str):Prop:=X.env.kindOf x=some .globalImplicit
theorem Pb(I:Inv X pins σ H s)(hg:Gl X x)(hm:X.mg x=some u)(h:Q u s)
  (hd:(x == ("__debug__" : Str))=false:=by decide):wpAny (model X.prog X.w) X.A (eval (.Name x pos) X.env) Q E s :=
 Calls.Name_function_global I.ok.kind hg (Calls.loadGlobal_global (by rw[I.ok.glob];exact I.mod.glob.keeps I.bk) hm h) hd
theorem AX(I:Inv X pins σ H s)(hg:Gl X x)(hm:X.mg x=none)(hv:bootBuiltins x=some u)(h:Q u s)
  (hn:x ≠ "__name__" := by decide) (hd:(x == ("__debug__" : Str))=false:=by decide):wpAny (model X.prog X.w) X.A (eval (.Name x pos) X.env) Q E s:=by
 obtain⟨mb,h1,h2⟩:=I.mod.blt
 exact Calls.Name_function_global I.ok.kind hg (Calls.loadGlobal_builtin (by rw[I.ok.glob];exact I.mod.glob.keeps I.bk) hm (by rw[I.ok.blt];exact h1.keeps I.bk) ((h2 x hn).trans hv) h) hd
theorem zh (hg:Gl X x) (hm:X.mg x=some u) (r:RelV v u) (hd:(x == ("__debug__" : Str))=false:=by decide):PE X (.Name x pos) (tC v) :=
 fun _ _ _ H _ I h=>Pb I hg hm ⟨v,H,I,r,h⟩ hd
theorem ZH (hg:Gl X x) (hm:X.mg x=none) (hv:bootBuiltins x=some u) (r:RelV v u) (hn:x ≠ "__name__" := by decide) (hd:(x == ("__debug__" : Str))=false:=by decide):PE X (.Name x pos) (tC v) :=
 fun _ _ _ H _ I h=>AX I hg hm hv ⟨v,H,I,r,h⟩ hn hd
variable {a b:Expr}{ta tb:TE}{pos:Pos}
def tB(t:TE):TT:=fun σ H Q=>t σ H fun x H1=>∃ c,x=.bl c/\Q c H1
theorem ZI(h:PE X e t)(he:∀ whole,isTrue e X.env whole=(do let v <- whole;standAt e.pos;holding [v] (truthy v)):=by intro _;rfl):PT X e (tB t):=by
 intro pins s σ H Q I hw
 refine isTrue_plain (b5 (h pins s σ H _ I hw) fun v s1 b6=>L2.fE b6 fun x H1 I1 r1 q1=>?_) (he _)
 obtain⟨d,rfl,q⟩:=q1
 cases r1
 exact wpAny_truthy_bool ⟨H1,I1,q⟩
variable {tA Pg:TT}{rest:List Expr}
def ZJ(t u:TT):TT:=fun σ H Q=>t σ H fun c H1=>if c=true then u σ H1 Q else Q false H1
def ZK(t u:TT):TT:=fun σ H Q=>t σ H fun c H1=>if c=true then Q true H1 else u σ H1 Q
def ZL(t:TT):TT:=fun σ H Q=>t σ H fun c H1=>Q (!c) H1
theorem pw_and1(ha:PT X a tA):PW X (.BoolOp .And [a] pos) tA:=by
 intro wh pins s σ H Q I h
 refine isTrue_and (b5 (ha pins s σ H Q I h) fun c s1 e=>?_)
 cases c with
 |true=>exact isTrue_and_nil e
 |false=>exact e
theorem pw_or1(ha:PT X a tA):PW X (.BoolOp .Or [a] pos) tA:=by
 intro wh pins s σ H Q I h
 refine isTrue_or (b5 (ha pins s σ H Q I h) fun c s1 e=>?_)
 cases c with
 |false=>exact isTrue_or_nil e
 |true=>exact e
theorem pw_and(ha:PT X a tA)(hb:PW X (.BoolOp .And (b :: rest) pos) Pg):PW X (.BoolOp .And (a :: b :: rest) pos) (ZJ tA Pg):=by
 intro wh pins s σ H Q I h
 refine isTrue_and (b5 (ha pins s σ H _ I h) fun c s1 cE=>?_)
 obtain⟨H1,I1,q1⟩:=cE
 cases c with
 |true=>exact hb wh pins s1 σ H1 Q I1 q1
 |false=>exact⟨H1,I1,q1⟩
theorem pw_or(ha:PT X a tA)(hb:PW X (.BoolOp .Or (b :: rest) pos) Pg):PW X (.BoolOp .Or (a :: b :: rest) pos) (ZK tA Pg):=by
 intro wh pins s σ H Q I h
 refine isTrue_or (b5 (ha pins s σ H _ I h) fun c s1 cE=>?_)
 obtain⟨H1,I1,q1⟩:=cE
 cases c with
 |true=>exact⟨H1,I1,q1⟩
 |false=>exact hb wh pins s1 σ H1 Q I1 q1
theorem ZM(ha:PT X a tA):PT X (.UnaryOp .Not a pos) (ZL tA):=by
 intro pins s σ H Q I h
 exact isTrue_not (ha pins s σ H (fun c H1=>Q (!c) H1) I h)
def ZN(ta tb:TE):TE:=fun σ H Q=>ta σ H fun x H1=>∃ c,x=.bl c/\if c=true then tb σ H1 Q else Q (.bl false) H1
theorem ZO{op}(h:PE X a t):PE X (.BoolOp op [a] pos) t:=fun pins s σ H Q I hw=>BoolOp_one (h pins s σ H Q I hw)
theorem ZP(ha:PE X a ta)(hb:PE X (.BoolOp .And (b :: rest) pos) tb):PE X (.BoolOp .And (a :: b :: rest) pos) (ZN ta tb):=by
 intro pins s σ H Q I h
 refine BoolOp_and (b5 (ha pins s σ H _ I h) fun v s1 b6=>L2.fE b6 fun x H1 I1 r1 q1=>?_)
 obtain⟨c,rfl,q1⟩:=q1
 cases r1
 refine wpAny_truthy_bool ?_
 cases c with
 |true=>exact hb pins s1 σ H1 Q I1 q1
 |false=>exact⟨.bl false,H1,I1,rfl,q1⟩
end
def eM(K:PySem.W.Frag)(H:Hp)(a:Addr)(xs:List V):Prop :=
 Rd H a (.lst xs) \/
  ∃ (o:Obj) (its:Array Value) (n:Nat),K.lookup a=some o/\o.cls=.type "list"/\o.dict=none/\o.data=.seq its n/\its.size<=sizeLine/\Vals xs its.toList
def kg(K:PySem.W.Frag)(H:Hp)(a:Addr)(xs:List V):Prop :=
 Rd H a (.tup xs) \/
  ∃ (o:Obj) (its:Array Value) (n:Nat),K.lookup a=some o/\o.cls=.type "tuple"/\o.data=.seq its n/\its.size<=sizeLine/\Vals xs its.toList
def ZQ:Value->Option V
 |.none=>some .non
 |.bool b=>some (.bl b)
 |.int i _=>some (.int i)
 |.str x _=>some (.str x)
 |.bytes b _=>some (.qE b)
 |.float b _=>some (.AQ b)
 |.ref a=>some (.ref a)
 |.type n=>some (.ty n)
 |_=>none
theorem RelV.abs(r:RelV x u):ZQ u=some x:=by
 cases x with
 |non=>cases r;rfl
 |bl _=>cases r;rfl
 |int _=>obtain⟨t,rfl⟩:=r;rfl
 |str _=>obtain⟨t,rfl⟩:=r;rfl
 |qE _=>obtain⟨t,rfl⟩:=r;rfl
 |AQ _=>obtain⟨t,rfl⟩:=r;rfl
 |ref _=>cases r;rfl
 |ty _=>cases r;rfl
theorem RelV.inj(r:RelV x u)(q:RelV y u):x=y:=Option.some.inj (r.abs.symm.trans q.abs)
theorem Vals.inj:∀ {xs ys:List V} {us:List Value},Vals xs us->Vals ys us->xs=ys
 |_,_,_,.nil,.nil=>rfl
 |_,_,_,.cons r t,.cons r' t'=>by rw[r.inj r',Vals.inj t t']
section
variable {X:Cx}{pins:List (Addr × Obj)}{σ:St}{H:Hp}{s:Shared}{a:Addr}{xs ys:List V}
theorem Inv.list(I:Inv X pins σ H s)(h:eM X.K H a xs):∃ its:List Value,Vals xs its/\PlainL s.heap a its.toArray/\xs.length<=sizeLine:=by
 rcases h with h|⟨o,its,n,hk,hc,hd,hs,hz,r⟩
 ·obtain⟨z,its,n,r,e⟩:=h.ok I.aC
  exact⟨its,r,⟨_,n,e,rfl,rfl,rfl⟩,z⟩
 ·refine⟨its.toList,r,⟨o,n,I.kf a o hk,hc,hd,by simpa using hs⟩,?_⟩
  have e:=r.length
  simp only[vi] at e
  lia
theorem Inv.tuple(I:Inv X pins σ H s)(h:kg X.K H a xs):∃ its:List Value,Vals xs its/\IsTup s.heap a its.toArray/\xs.length<=sizeLine:=by
 rcases h with h|⟨o,its,n,hk,hc,hs,hz,r⟩
 ·obtain⟨z,its,r,p⟩:=h.ok I.aC
  exact⟨its,r,p,z⟩
 ·refine⟨its.toList,r,⟨o,I.kf a o hk,hc,n,by simpa using hs⟩,?_⟩
  have e:=r.length
  simp only[vi] at e
  lia
theorem Inv.VQ(I:Inv X pins σ H s)(h:eM X.K H a xs)(h':eM X.K H a ys):xs=ys:=by
 obtain⟨its,r,⟨o,n,e,_,_,d⟩,_⟩:=I.list h
 obtain⟨its',r',⟨o',n',e',_,_,d'⟩,_⟩:=I.list h'
 rw[e] at e';cases e'
 rw[d] at d'
 injection d' with d1 _
 have:its=its':=by simpa using congrArg Array.toList d1
 subst this
 exact r.inj r'
theorem Inv.ZR(I:Inv X pins σ H s)(h:kg X.K H a xs)(h':kg X.K H a ys):xs=ys:=by
 obtain⟨its,r,⟨o,e,_,n,d⟩,_⟩:=I.tuple h
 obtain⟨its',r',⟨o',e',_,n',d'⟩,_⟩:=I.tuple h'
 rw[e] at e';cases e'
 rw[d] at d'
 injection d' with d1 _
 have:its=its':=by simpa using congrArg Array.toList d1
 subst this
 exact r.inj r'
end
abbrev Cx.wish(X:Cx)(E:Value->Shared->Prop):Cx:={ X with xe:=E }
abbrev Cx.MX(X:Cx):Cx:=X.wish fun _ _=>False
theorem Cx.Ok.wish{X:Cx}(ok:X.Ok)(E:Value->Shared->Prop):(X.wish E).Ok :=
 ⟨ok.mod,ok.kind,ok.glob,ok.blt,ok.above,ok.inj,ok.has,ok.yT,ok.hd,ok.frames,ok.AU,ok.AV,ok.bs,ok.ti,ok.y3,ok.y6,ok.px,ok.w_⟩
theorem Cx.Ok.CH{X:Cx}(ok:(X.wish E).Ok):X.Ok :=
 ⟨ok.mod,ok.kind,ok.glob,ok.blt,ok.above,ok.inj,ok.has,ok.yT,ok.hd,ok.frames,ok.AU,ok.AV,ok.bs,ok.ti,ok.y3,ok.y6,ok.px,ok.w_⟩
section
variable {X:Cx}{pins:List (Addr × Obj)}{σ:St}{H:Hp}{s:Shared}{E:Value->Shared->Prop}
theorem Inv.wish(I:Inv X pins σ H s)(E:Value->Shared->Prop):Inv (X.wish E) pins σ H s:=⟨I.ok.wish E,I.os,I.bare,I.base,I.loc,I.cell,I.free,I.nh,I.pin,I.aC,I.len⟩
theorem Inv.CH(I:Inv (X.wish E) pins σ H s):Inv X pins σ H s:=⟨I.ok.CH,I.os,I.bare,I.base,I.loc,I.cell,I.free,I.nh,I.pin,I.aC,I.len⟩
theorem SP.CH{D:Ends}(h:SP (X.wish E) pins D f s'):SP X pins D f s':=by
 cases f with
 |next=>obtain⟨aS,H',I,q⟩:=h;exact⟨aS,H',I.CH,q⟩
 |brk=>obtain⟨aS,H',I,q⟩:=h;exact⟨aS,H',I.CH,q⟩
 |cont=>obtain⟨aS,H',I,q⟩:=h;exact⟨aS,H',I.CH,q⟩
 |ret u=>obtain⟨v,aS,H',I,r,q⟩:=h;exact⟨v,aS,H',I.CH,r,q⟩
theorem nv.MX{st:List Stmt}(h:nv X.MX st t):nv X st t:=fun pins s σ H D I hw =>
 oq (h pins s σ H D (I.wish _) hw) (fun _ _ q=>q.CH) fun _ _ z=>False.elim z
end
section
variable {X:Cx}{st:Stmt}{rest:List Stmt}{t u:TS}{e:Expr}{te:TE}{pos:Pos}
def ZS:TS:=fun D σ H=>D.nx σ H
def VR(t u:TS):TS:=fun D σ H=>t { D with nx:=u D } σ H
theorem VS:nv X [] ZS:=fun _ _ σ H _ I h=>wpAny_execs_nil ⟨σ,H,I,h⟩
theorem ZT(h1:PS X st t)(h2:nv X rest u):nv X (st :: rest) (VR t u):=by
 intro pins s σ H D I h
 refine wpAny_execs_cons (b5 (h1 pins s σ H { D with nx:=u D } I h) fun f s1 q=>?_)
 cases f with
 |next =>
  obtain⟨aS,H',I',q⟩:=q
  exact h2 pins s1 aS H' D I' q
 |ret v=>exact q
 |brk=>exact q
 |cont=>exact q
theorem ZU(h1:PS X st t):nv X [st] t:=by
 intro pins s σ H D I h
 refine wpAny_execs_cons (b5 (h1 pins s σ H D I h) fun f s1 q=>?_)
 cases f with
 |next=>exact wpAny_execs_nil q
 |ret v=>exact q
 |brk=>exact q
 |cont=>exact q
theorem Inv.quiet(I:Inv X pins σ H s):interactive X.env=false:=by simp[interactive,I.ok.kind]
def ZV(te:TE):TS:=fun D σ H=>te σ H fun _ H1=>D.nx σ H1
theorem MY(he:PE X e te)(hs:swapsWith e none pos.line X.env=pure false:=by rfl):PS X (.Expr e pos) (ZV te):=by
 intro pins s σ H D I h
 exact wpAny_Expr_any (b5 (he pins s σ H _ I h) fun v s1 b6=>L2.fE b6 fun x H1 I1 r1 q1=>⟨σ,H1,I1,q1⟩) I.quiet hs
def ZW(te:TE):TS:=fun D σ H=>te σ H D.rt
theorem RV(he:PE X e te):PS X (.Return (some e) pos) (ZW te):=by
 intro pins s σ H D I h
 exact wpAny_Return_some (b5 (he pins s σ H _ I h) fun v s1 b6=>L2.fE b6 fun x H1 I1 r1 q1=>⟨x,σ,H1,I1,r1,q1⟩)
def ZX(c:TT)(t u:TS):TS:=fun D σ H=>c σ H fun b H1=>if b=true then t D σ H1 else u D σ H1
theorem ZY(hc:PT X c tc)(ha:nv X a t)(hb:nv X b u):PS X (.If c a b pos) (ZX tc t u):=by
 intro pins s σ H D I h
 refine wpAny_If (b5 (hc pins s σ H _ I h) fun d s1 cE=>?_)
 obtain⟨H1,I1,q1⟩:=cE
 cases d with
 |true=>exact ha pins s1 σ H1 D I1 q1
 |false=>exact hb pins s1 σ H1 D I1 q1
end
abbrev TG:=V->St->Hp->(St->Hp->Prop)->Prop
abbrev He:=List V->St->Hp->(St->Hp->Prop)->Prop
def PG(X:Cx)(target:Expr)(t:TG):Prop :=
 ∀ (pins:List (Addr × Obj)) (s:Shared) (σ:St) (H:Hp) (v:V) (u:Value) (Q:St->Hp->Prop),Inv X pins σ H s->RelV v u->t v σ H Q ->
  wpAny (model X.prog X.w) X.A (assign target X.env u) (fun _ s'=>∃ aS H',Inv X pins aS H' s'/\Q aS H') X.xe s
def zi(X:Cx)(ts:List Expr)(t:He):Prop :=
 ∀ (pins:List (Addr × Obj)) (s:Shared) (σ:St) (H:Hp) (vs:List V) (us:List Value) (Q:St->Hp->Prop),Inv X pins σ H s->Vals vs us->t vs σ H Q ->
  wpAny (model X.prog X.w) X.A (assignInOrder ((assignEach ts X.env).map (·.2)) us) (fun _ s'=>∃ aS H',Inv X pins aS H' s'/\Q aS H') X.xe s
section
variable {X:Cx}{pos:Pos}
def Ph(i:Nat):TG:=fun v σ H Q=>Q (σ.set i (some v)) H
theorem ZZ(hN:X.N.Nodup)(hi:X.N[i]? = some x)(hx:Loc X.env.scope x)(hf:X.fn x=true\/X.env.scope.names.lookup x=some .local:=by first|exact .inl rfl|exact .inr rfl|assumption):PG X (.Name x pos) (Ph i):=by
 intro pins s σ H v u Q I r h
 exact wpAny_assign_Name (VM I hN hi hx r (fun s' I'=>⟨_,H,I',h⟩) hf)
def Z0:He:=fun vs σ H Q=>vs=[]/\Q σ H
def Z1(t:TG)(u:He):He:=fun vs σ H Q=>∃ v r,vs=v :: r/\t v σ H fun aS H'=>u r aS H' Q
theorem Z2:zi X [] Z0:=by
 intro pins s σ H vs us Q I r h
 obtain⟨e,h⟩:=h
 subst e
 cases r
 exact assignInOrder_nil ⟨σ,H,I,h⟩
theorem Z3(h1:PG X e t)(h2:zi X es u)
  (hs:(assignEach (e :: es) X.env).map (·.2)=assign e X.env :: (assignEach es X.env).map (·.2):=by rfl):zi X (e :: es) (Z1 t u):=by
 intro pins s σ H vs us Q I r h
 obtain⟨v,vr,e1,h⟩:=h
 subst e1
 cases r with
 |cons r rr =>
  rw[hs]
  refine assignInOrder_cons (b5 (h1 pins s σ H _ _ _ I r h) fun _ s1 cE=>?_)
  obtain⟨oa,H1,I1,q1⟩:=cE
  exact h2 pins s1 oa H1 _ _ Q I1 rr q1
def Z4(K:PySem.W.Frag)(n:Nat)(t:He):TG:=fun v σ H Q=>∃ a xs,v=.ref a/\kg K H a xs/\xs.length=n/\t xs σ H Q
theorem Z5(hc:X.calm=true)(h:zi X es t)
  (hn:(assignEach es X.env).length=n:=by rfl) (iX:(assignEach es X.env).findIdx? (·.1)=none:=by rfl):PG X (.Tuple es k pos) (Z4 X.K n t):=by
 intro pins s σ H v u Q I r hw
 obtain⟨a,xs,e1,hq,hl,hw⟩:=hw
 subst e1
 cases r
 obtain⟨its,rv,ht,hz⟩:=I.tuple hq
 refine assign_Tuple_tuple (I.ok.hd hc) ht (by simp[hn,<- hl,rv.length]) iX fun h' hx=>?_
 have I1:Inv X pins σ H { s with heap:=h' }:=I.kept (t':=s.toks) fun b o e=>hx b o (eI (dc e)) e
 exact h pins _ σ H xs _ Q I1 (by simpa using rv) hw
def RW(te:TE)(g:TG):TS:=fun D σ H=>te σ H fun x H1=>g x σ H1 D.nx
theorem RX(hN:X.N.Nodup)(hi:X.N[i]? = some x)(hx:Loc X.env.scope x)(he:PE X e te)(hs:swapsWith e (some (.Name x pos')) pos.line X.env=pure false:=by rfl)(hf:X.fn x=true\/X.env.scope.names.lookup x=some .local:=by first|exact .inl rfl|exact .inr rfl|assumption) :
  PS X (.Assign [.Name x pos'] e pos) (RW te (Ph i)):=by
 intro pins s σ H D I h
 refine wpAny_Assign_Name (b5 (he pins s σ H _ I h) fun v s1 b6=>L2.fE b6 fun y H1 I1 r1 q1=>?_) hs
 exact VM I1 hN hi hx r1 (fun s2 I2=>⟨_,H1,I2,q1⟩) hf
def Z6(c:TT)(tb:TS):TS:=fun D σ H=>∃ W:Nat->St->Hp->Prop,(∃ m,W m σ H)/\∀ m σ H,W m σ H ->
 c σ H fun b H1=>if b=true then ∃ N:St->Hp->Prop,(∀ aS H',N aS H'->∃ m',m'<m/\W m' aS H')/\tb { D with nx:=N,ct:=N,bk:=D.nx } σ H1 else D.nx σ H1
theorem Z7(hp:PassesOwn (model X.prog X.w) X.A X.env X.xe)(hc:PT X c tc)(hb:nv X body tb):PS X (.While c body [] pos) (Z6 tc tb):=by
 intro pins s σ H D I h
 obtain⟨W,⟨m0,w0⟩,turn⟩:=h
 refine wpAny_While (codeAny_whileLoop (fun n s'=>∃ aS H',Inv X pins aS H' s'/\W n aS H') ?_ m0 ⟨σ,H,I,w0⟩)
 rintro n s1 ⟨oa,H1,I1,w1⟩
 refine wpAny_passesOwn hp (b5 (hc pins s1 oa H1 _ I1 (turn n oa H1 w1)) fun b s2 cE=>?_)
 obtain⟨H2,I2,q2⟩:=cE
 cases b with
 |true =>
  obtain⟨N,hN,q2⟩:=q2
  rw[if_pos rfl]
  refine wpAny_passesOwn hp (b5 (hb pins s2 oa H2 _ I2 q2) fun f s3 q3=>?_)
  cases f with
  |next =>
   obtain⟨ny,H3,I3,n3⟩:=q3
   obtain⟨m',hm,w3⟩:=hN ny H3 n3
   exact⟨m',hm,ny,H3,I3,w3⟩
  |cont =>
   obtain⟨ny,H3,I3,n3⟩:=q3
   obtain⟨m',hm,w3⟩:=hN ny H3 n3
   exact⟨m',hm,ny,H3,I3,w3⟩
  |brk=>exact q3
  |ret v=>exact q3
 |false =>
  rw[if_neg ja]
  exact wpAny_execs_nil ⟨oa,H2,I2,q2⟩
end
structure It where
 go:Nat->Hp->Prop
 kR:Nat->Hp->V->Hp->Prop
 stop:Nat->Hp->Prop
def tj(X:Cx)(pins:List (Addr × Obj))(H:Hp)(b:Addr):Prop :=
 H b=none/\b≠X.env.locals/\b∉X.fs/\(b∈X.ex\/X.eS.heap.objs.size<=b)/\(∀ x c,X.env.cells.lookup x=some c->c≠b)/\∀ p∈X.pn++pins,p.1≠b
theorem Inv.HC{X:Cx}(I:Inv X pins σ H s)(hb:s.heap.objs.size<=b)(hn:H' b=none):tj X pins H' b:=by
 refine⟨hn,yA (kP I.lt hb),I.Zy hb,.inr (jI I.sz hb),fun x c e z=>?_,fun p hp z=>?_⟩
 ·obtain⟨v,q⟩:=I.cell x c e
  exact absurd (kP q.lt (by rw[z];exact hb)) (pf _)
 ·exact absurd (kP (dc (I.pin p hp).1) (by rw[z];exact hb)) (pf _)
structure Turn(P:Program)(w:World)(K:PySem.W.Frag)(tg:Expr)(J:It)(fp:List Addr)(it:Addr)(tn:Nat->Heap->Prop):Prop where
 mem:it∈fp
 obj:∀ i h,tn i h->∀ b∈fp,∃ o,h.get? b=some o/\∀ v,o.data≠.cell v
 keep:∀ i h h',tn i h->(∀ b∈fp,∀ o,h.get? b=some o->h'.get? b=some o)->tn i h'
 item:∀ (X:Cx),X.prog=P->X.w=w->X.K=K->X.calm=true->∀ (i:Nat) (pins:List (Addr × Obj)) (s:Shared) (σ:St) (H:Hp) (E:Value->Shared->Prop),Inv X pins σ H s->(∀ b∈fp,tj X pins H b)->tn i s.heap->J.go i H ->
  wpAny (model P w) X.A (pyNext (.ref it)) (fun r s1=>∃ u,r=some u /\
   wpAny (model P w) X.A (letOwnedTupleGo tg (.ref it) u) (fun _ s2=>∃ x H',Inv X pins σ H' s2/\RelV x u/\J.kR i H x H'/\tn (i+1) s2.heap/\∀ b∈fp,H' b=none) E s1) E s
 done:∀ (X:Cx),X.prog=P->X.w=w->X.K=K->X.calm=true->∀ (i:Nat) (pins:List (Addr × Obj)) (s:Shared) (σ:St) (H:Hp) (E:Value->Shared->Prop),Inv X pins σ H s->(∀ b∈fp,tj X pins H b)->tn i s.heap->J.stop i H ->
  wpAny (model P w) X.A (pyNext (.ref it)) (fun r s1=>r=none/\Inv X pins σ H s1) E s
 self:∀ (A:Around) (i:Nat) (s:Shared) (Q:Value->Shared->Prop) (E:Value->Shared->Prop),tn i s.heap->Q (.ref it) s->wpAny (model P w) A (pyIter (.ref it)) Q E s
abbrev TI:=St->Hp->(It->Hp->Prop)->Prop
def RZ(X:Cx)(pins:List (Addr × Obj))(σ:St)(tg:Expr)(R:It->Hp->Prop)(R0:Value)(s2:Shared):Prop :=
 ∃ (it:Addr) (fp:List Addr) (tn:Nat->Heap->Prop) (J:It) (H':Hp),R0=.ref it/\Inv X pins σ H' s2/\Turn X.prog X.w X.K tg J fp it tn/\tn 0 s2.heap/\(∀ b∈fp,tj X pins H' b)/\R J H'
def PI(X:Cx)(tg iter:Expr)(wi:TI):Prop :=
 ∀ (pins:List (Addr × Obj)) (s:Shared) (σ:St) (H:Hp) (R:It->Hp->Prop),Inv X pins σ H s->wi σ H R ->
  wpAny (model X.prog X.w) X.A (eval iter X.env) (fun v s1=>wpAny (model X.prog X.w) X.A (pyIter v) (RZ X pins σ tg R) X.xe s1) X.xe s
theorem Pj(ho:s.heap.get? it=some o)(hc:o.cls=.type n)(hd:o.data=.fields vs)
  (hn:["enumerate", "zip", "dict_itemiterator", "dict_reverseitemiterator", "odict_iterator", "itertools.zip_longest", "itertools.pairwise"].contains n=false) (hQ:Q () s):wpAny M A (letOwnedTupleGo tg (.ref it) u) Q E s:=by
 unfold letOwnedTupleGo
 cases tg<;>first
  |exact aI hQ
  | (cases u<;>first
     |exact aI hQ
     | (refine ah (wpAny_load ho ?_)
        rw[hc,hd]
        show wpAny M A (if (["enumerate", "zip", "dict_itemiterator", "dict_reverseitemiterator", "odict_iterator", "itertools.zip_longest", "itertools.pairwise"].contains n && vs[0]? == some (rawInt _))=true then _ else _) Q E s
        rw[if_neg (by intro h;rw[hn,Bool.false_and] at h;cases h)]
        exact aI hQ))
def Pk(K:PySem.W.Frag)(a:Addr):It :=
 ⟨fun i H=>∃ xs x,eM K H a xs/\xs[i]? = some x,fun i H x H'=>H'=H/\∀ xs,eM K H a xs->xs[i]? = some x,fun i H=>∃ xs,eM K H a xs/\xs.length<=i⟩
def R1(K:PySem.W.Frag)(a:Addr):It :=
 ⟨fun i H=>∃ xs x,kg K H a xs/\xs[i]? = some x,fun i H x H'=>H'=H/\∀ xs,kg K H a xs->xs[i]? = some x,fun i H=>∃ xs,kg K H a xs/\xs.length<=i⟩
def HG(lo:Int)(n:Nat):It:=⟨fun i _=>i<n,fun i H x H'=>H'=H/\x=.int (lo+i),fun i _=>n<=i⟩
theorem Z8{P:Program}{K:PySem.W.Frag}(a it:Addr):Turn P w K tg (Pk K a) [it] it (fun i h=>h.IsListIter it a i) where
 mem:=by simp
 obj:=fun i h st b hb=>by
  have e:b=it:=by simpa using hb
  subst e
  obtain⟨o,e,c,d⟩:=st
  exact⟨o,e,fun v z=>by rw[d] at z;cases z⟩
 keep:=fun i h h' st k=>st.at fun o e=>k it (by simp) o e
 item:=by
  intro X hP hw hK hc i pins s σ H E I hf st hg
  subst hP hw hK
  obtain⟨xs,x,hq,hx⟩:=hg
  obtain⟨its,rv,p,hz⟩:=I.list hq
  obtain⟨u,hu,ru⟩:=rv.get hx
  obtain⟨f0,f1,f2,f3,f4,f5⟩:=hf it (by simp)
  refine wpAny_pyNext_list_item st p.isList (x:=u) (by simpa using hu) fun h' ag sb=>?_
  have I1:Inv X pins σ H { s with heap:=h' }:=I.turned (t':=s.toks) (fun b o hb e=>(sb.2 b hb).trans e) f0 f1 f3 f4 f5
  obtain⟨o,e,c,d⟩:=id ag
  exact⟨u,rfl,Pj (s:={ s with heap:=h' }) e c d (by decide) ⟨x,H,I1,ru,⟨rfl,fun ys hy=>by rw[I.VQ hy hq];exact hx⟩,ag,fun b hb=>(hf b hb).1⟩⟩
 done:=by
  intro X hP hw hK hc i pins s σ H E I hf st hg
  subst hP hw hK
  obtain⟨xs,hq,hx⟩:=hg
  obtain⟨its,rv,p,hz⟩:=I.list hq
  obtain⟨f0,f1,f2,f3,f4,f5⟩:=hf it (by simp)
  have hl:=rv.length
  exact wpAny_pyNext_list_end (I.ok.hd hc) st p.isList (by simp;lia) fun h' eb=>⟨rfl,I.turned (t':=s.toks) (fun b o hb e=>eb b o hb e) f0 f1 f3 f4 f5⟩
 self:=fun _ _ _ _ _ st h=>wpAny_pyIter_listiter st h
theorem Z9{P:Program}{K:PySem.W.Frag}(a it:Addr):Turn P w K tg (R1 K a) [it] it (fun i h=>h.IsTupleIter it a i) where
 mem:=by simp
 obj:=fun i h st b hb=>by
  have e:b=it:=by simpa using hb
  subst e
  obtain⟨o,e,c,d⟩:=st
  exact⟨o,e,fun v z=>by rw[d] at z;cases z⟩
 keep:=fun i h h' st k=>st.at fun o e=>k it (by simp) o e
 item:=by
  intro X hP hw hK hc i pins s σ H E I hf st hg
  subst hP hw hK
  obtain⟨xs,x,hq,hx⟩:=hg
  obtain⟨its,rv,p,hz⟩:=I.tuple hq
  obtain⟨u,hu,ru⟩:=rv.get hx
  obtain⟨f0,f1,f2,f3,f4,f5⟩:=hf it (by simp)
  refine wpAny_pyNext_tuple_item st (show s.heap.IsTuple a its.toArray from p) (x:=u) (by simpa using hu) fun h' ag sb=>?_
  have I1:Inv X pins σ H { s with heap:=h' }:=I.turned (t':=s.toks) (fun b o hb e=>(sb.2 b hb).trans e) f0 f1 f3 f4 f5
  obtain⟨o,e,c,d⟩:=id ag
  exact⟨u,rfl,Pj (s:={ s with heap:=h' }) e c d (by decide) ⟨x,H,I1,ru,⟨rfl,fun ys hy=>by rw[I.ZR hy hq];exact hx⟩,ag,fun b hb=>(hf b hb).1⟩⟩
 done:=by
  intro X hP hw hK hc i pins s σ H E I hf st hg
  subst hP hw hK
  obtain⟨xs,hq,hx⟩:=hg
  obtain⟨its,rv,p,hz⟩:=I.tuple hq
  obtain⟨f0,f1,f2,f3,f4,f5⟩:=hf it (by simp)
  have hl:=rv.length
  exact wpAny_pyNext_tuple_end (I.ok.hd hc) st (show s.heap.IsTuple a its.toArray from p) (by simp;lia) fun h' eb=>⟨rfl,I.turned (t':=s.toks) (fun b o hb e=>eb b o hb e) f0 f1 f3 f4 f5⟩
 self:=fun _ _ _ _ _ st h=>wpAny_pyIter_tupleiter st h
theorem Z_{P:Program}{K:PySem.W.Frag}(it:Addr)(lo:Int)(n:Nat):Turn P w K tg (HG lo n) [it] it (fun i h=>IsRangeIter h it (lo+(i:Nat)*1) ((n:Int)-(i:Nat)) 1) where
 mem:=by simp
 obj:=fun i h st b hb=>by
  have e:b=it:=by simpa using hb
  subst e
  exact⟨_,st,fun v z=>by
   have z':Data.fields _=Data.cell v:=z
   cases z'⟩
 keep:=fun i h h' st k=>k it (by simp) _ st
 item:=by
  intro X hP hw hK hc i pins s σ H E I hf st hg
  subst hP hw hK
  obtain⟨f0,f1,f2,f3,f4,f5⟩:=hf it (by simp)
  have W:=Walks.range (prog:=X.prog) (w:=X.w) (I.ok.hd hc) it lo 1 n
  refine W.item i s _ _ hg st fun v h' tk hv ag kk=>?_
  obtain⟨t,rfl⟩:=hv
  have I1:Inv X pins σ H { s with heap:=h',toks:=tk }:=I.turned (fun b o hb e=>kk b o (by simpa using hb) e) f0 f1 f3 f4 f5
  refine⟨_,rfl,Pj (s:={ s with heap:=h',toks:=tk }) (n := "range_iterator") ag rfl rfl (by decide) ⟨.int (lo+i),H,I1,⟨t,?_⟩,⟨rfl,rfl⟩,ag,fun b hb=>(hf b hb).1⟩⟩
  rw[Int.mul_one]
 done:=by
  intro X hP hw hK hc i pins s σ H E I hf st hg
  subst hP hw hK
  obtain⟨f0,f1,f2,f3,f4,f5⟩:=hf it (by simp)
  exact wpAny_pyNext_range_end (I.ok.hd hc) st (by have:n<=i:=hg;lia) fun h' eb=>⟨rfl,I.turned (t':=s.toks) (fun b o hb e=>eb b o hb e) f0 f1 f3 f4 f5⟩
 self:=fun _ _ _ _ _ st h=>wpAny_pyIter_rangeiter st h
section
variable {X:Cx}{tg:Expr}
def aa'(K:PySem.W.Frag)(tl:TE):TI:=fun σ H R=>tl σ H fun x H1=>∃ a,x=.ref a/\(∃ xs,eM K H1 a xs)/\R (Pk K a) H1
def ab'(K:PySem.W.Frag)(tl:TE):TI:=fun σ H R=>tl σ H fun x H1=>∃ a,x=.ref a/\(∃ xs,kg K H1 a xs)/\R (R1 K a) H1
theorem VW(hl:PE X l tl):PI X tg l (aa' X.K tl):=by
 intro pins s σ H R I h
 refine b5 (hl pins s σ H _ I h) fun v s1 b6=>L2.fE b6 fun x H1 I1 r1 q1=>?_
 obtain⟨a,e,⟨xs,hq⟩,q⟩:=q1
 subst e
 cases r1
 obtain⟨its,rv,p,hz⟩:=I1.list hq
 refine wpAny_pyIter_list p.isList ?_
 refine⟨s1.heap.objs.size,[s1.heap.objs.size],_,_,H1,rfl,I1.kept (t':=s1.toks) fun b o e=>eL _ e,Z8 a _,⟨_,g9 _ rfl,rfl,rfl⟩,fun b hb=>?_,q⟩
 have e:b=s1.heap.objs.size:=by simpa using hb
 subst e
 exact I1.HC (bS _) (I1.aC.fresh (bS _))
theorem ac'(hl:PE X l tl):PI X tg l (ab' X.K tl):=by
 intro pins s σ H R I h
 refine b5 (hl pins s σ H _ I h) fun v s1 b6=>L2.fE b6 fun x H1 I1 r1 q1=>?_
 obtain⟨a,e,⟨xs,hq⟩,q⟩:=q1
 subst e
 cases r1
 obtain⟨its,rv,p,hz⟩:=I1.tuple hq
 refine wpAny_pyIter_tuple (show s1.heap.IsTuple a its.toArray from p) ?_
 refine⟨s1.heap.objs.size,[s1.heap.objs.size],_,_,H1,rfl,I1.kept (t':=s1.toks) fun b o e=>eL _ e,Z9 a _,⟨_,g9 _ rfl,rfl,rfl⟩,fun b hb=>?_,q⟩
 have e:b=s1.heap.objs.size:=by simpa using hb
 subst e
 exact I1.HC (bS _) (I1.aC.fresh (bS _))
theorem ad'{R:It->Hp->Prop}{lo hi:Int}(I:Inv X pins σ H s)(h1:-(2 ^ 62)<=lo)(h2:lo<2 ^ 62)(h3:-(2 ^ 62)<=hi)(h4:hi<2 ^ 62)
  (q:R (HG lo (hi-lo).toNat) H):wpAny (model X.prog X.w) X.A (pyIter (.ref s.heap.objs.size)) (RZ X pins σ tg R) E { s with heap:=s.heap.push { cls:=.type "range",data:=.fields #[.int lo t,.int hi u,.int 1 v] },toks:=tk }:=by
 refine wpAny_pyIter_range (IsRange.new ..) (small_one h1 h2 h3 h4) ?_
 have I1:Inv X pins σ H { s with heap:=s.heap.push { cls:=.type "range",data:=.fields #[.int lo t,.int hi u,.int 1 v] },toks:=tk }:=I.kept fun b o e=>eL _ e
 refine⟨(s.heap.push { cls:=.type "range",data:=.fields #[.int lo t,.int hi u,.int 1 v] }).objs.size,[(s.heap.push { cls:=.type "range",data:=.fields #[.int lo t,.int hi u,.int 1 v] }).objs.size],_,_,H,rfl,
  I1.kept (t':=tk) fun b o e=>eL _ e,Z_ _ lo (hi-lo).toNat,?_,fun b hb=>?_,q⟩
 ·have e1:lo+((0:Nat):Int)*1=lo:=by simp
  have e2:(((hi-lo).toNat:Nat):Int)-((0:Nat):Int)=Builtin.Range.rangeSize lo hi 1:=by rw[rangeSize_one];split<;>lia
  show IsRangeIter _ _ (lo+((0:Nat):Int)*1) ((((hi-lo).toNat:Nat):Int)-((0:Nat):Int)) 1
  rw[e1,e2]
  exact g9 _ rfl
 ·have e:b=(s.heap.push { cls:=.type "range",data:=.fields #[.int lo t,.int hi u,.int 1 v] }).objs.size:=by simpa using hb
  subst e
  exact I1.HC (bS _) (I1.aC.fresh (bS _))
def ae'(ta:TA):TI:=fun σ H R=>ta σ H fun vs H1=>∃ j:Int,vs=[.int j]/\-(2 ^ 62)<=j/\j<2 ^ 62/\R (HG 0 j.toNat) H1
theorem af' (hg:Gl X "range") (hm:X.mg "range" = none) (ha:PA X [a] ta) (hs:starEach [a] X.env=[(false,eval a X.env)]:=by rfl):PI X tg (.Call (.Name "range" p) [a] [] pos) (ae' ta):=by
 intro pins s σ H R I h
 refine Call_ (AX I hg hm boot_range (PyProof.Rows.callWith_type1 (b5 (ha pos pins s σ H _ I h) fun us s1 b6=>L2.fE b6 fun vs H1 I1 r1 q1=>?_) hs rfl))
 obtain⟨j,e,q1,q2,q⟩:=q1
 subst e
 cases r1 with
 |cons r rr =>
  cases rr
  obtain⟨t,rfl⟩:=r
  exact call_range_1 (ad' I1 (by lia) (by lia) q1 q2 (by simpa using q))
def VX(wi:TI)(g:TG)(tb:TS):TS:=fun D σ H=>wi σ H fun J H1=>∃ W:Nat->Nat->St->Hp->Prop,(∃ m,W 0 m σ H1)/\∀ i m σ H,W i m σ H ->
 (J.stop i H/\D.nx σ H)\/(J.go i H/\∃ N:St->Hp->Prop,(∀ aS H',N aS H'->∃ m',m'<m/\W (i+1) m' aS H')/\∀ x H',J.kR i H x H'->g x σ H' fun i3 H2=>tb { D with nx:=N,ct:=N,bk:=D.nx } i3 H2)
def MZ(fp:List Addr)(h:Heap):List (Addr × Obj):=fp.filterMap fun b=>(h.get? b).map fun o=>(b,o)
theorem Pl(hb:b∈fp)(e:h.get? b=some o):(b,o)∈MZ fp h:=Rn.mpr ⟨b,hb,by rw[e];rfl⟩
theorem ag'(hp:p∈MZ fp h):p.1∈fp/\h.get? p.1=some p.2:=by
 obtain⟨b,hb,e⟩:=Rn.mp hp
 cases q:h.get? b with
 |none=>rw[q] at e;cases e
 |some o =>
  rw[q] at e
  have e':(b,o)=p:=Option.some.inj e
  subst e'
  exact⟨hb,q⟩
theorem Inv.pinned(I:Inv X pins σ H s)(hf:∀ b∈fp,tj X pins H b)(ho:∀ b∈fp,∃ o,s.heap.get? b=some o/\∀ v,o.data≠.cell v):Inv X (pins++MZ fp s.heap) σ H s :=
 I.VG fun p hp=>(dz.mp hp).elim (fun z=>I.pin p (fw _ z)) fun z=>by
  obtain⟨hb,e⟩:=ag' z
  obtain⟨f0,f1,f2,_⟩:=hf p.1 hb
  obtain⟨o,e',d⟩:=ho p.1 hb
  rw[e] at e';cases e'
  exact⟨e,f0,f1,f2,d⟩
theorem Inv.Pm(I:Inv X (pins++pl) σ H s):Inv X pins σ H s:=I.VG fun p hp=>I.pin p (fw _ (iS _ hp))
theorem VY(hp:PassesOwn (model X.prog X.w) X.A X.env X.xe)(hc:X.calm=true)(hi:PI X tg iter wi)(hg:PG X tg g)(hb:nv X body tb)
  (hs:∀ x,foldedSetIterable iter X.env x=pure x:=by intro _;rfl):PS X (.For tg iter body [] pos) (VX wi g tb):=by
 intro pins s σ H D I h
 refine wpAny_For (b5 (hi pins s σ H _ I h) fun v s1 h1=>b5 h1 fun R0 s2 h2=>?_) hs
 obtain⟨it,fp,tn,J,H2,e,I2,T,vv,f2,W,⟨m0,w0⟩,turn⟩:=h2
 subst e
 -- what stays true of the iterator's objects through the loop
 have stat:∀ {H':Hp},(∀ b∈fp,H' b=none)->∀ b∈fp,tj X pins H' b:=fun hn b hb=>⟨hn b hb,(f2 b hb).2⟩
 refine codeAny_forLoop_any (fun n s'=>∃ i aS H',Inv X pins aS H' s'/\tn i s'.heap/\(∀ b∈fp,H' b=none)/\W i n aS H') ?_ m0 ⟨0,σ,H2,I2,vv,fun b hb=>(f2 b hb).1,w0⟩
 rintro n s3 ⟨i,ny,H3,I3,vw,VZ,w3⟩
 rcases turn i n ny H3 w3 with⟨stop,qn⟩|⟨go,N,hN,step⟩
 ·refine wpAny_passesOwn hp (b5 (T.done X rfl rfl rfl hc i pins s3 ny H3 X.xe I3 (stat VZ) vw stop) fun r s4 cE=>?_)
  obtain⟨hr,I4⟩:=cE
  subst hr
  exact wpAny_execs_nil ⟨ny,H3,I4,qn⟩
 ·refine wpAny_passesOwn hp (b5 (T.item X rfl rfl rfl hc i pins s3 ny H3 X.xe I3 (stat VZ) vw go) fun r s4 cE=>?_)
  obtain⟨u,hr,h4⟩:=cE
  subst hr
  refine wpAny_passesOwn hp (b5 h4 fun _ s5 cE=>?_)
  obtain⟨x,H5,I5,r5,y5,EH,Pn⟩:=cE
  have I5':=I5.pinned (stat Pn) (T.obj _ _ EH)
  refine wpAny_passesOwn hp (b5 (hg _ s5 ny H5 x u _ I5' r5 (step x H5 y5)) fun _ s6 cE=>?_)
  obtain⟨σ6,H6,I6,q6⟩:=cE
  refine wpAny_passesOwn hp (b5 (hb _ s6 σ6 H6 _ I6 q6) fun f s7 q7=>?_)
  have again:∀ {xa:St} {H7:Hp},Inv X (pins++MZ fp s5.heap) xa H7 s7->N xa H7->∃ m,m<n/\∃ i aS H',Inv X pins aS H' s7/\tn i s7.heap/\(∀ b∈fp,H' b=none)/\W i m aS H':=fun {xa H7} I7 n7=>by
   obtain⟨m',hm,w7⟩:=hN xa H7 n7
   refine⟨m',hm,i+1,xa,H7,I7.Pm,T.keep _ _ _ EH fun b hb o e=>(I7.pin (b,o) (fw _ (fw _ (Pl hb e)))).1,fun b hb=>?_,w7⟩
   obtain⟨o,e,d⟩:=T.obj _ _ EH b hb
   exact(I7.pin (b,o) (fw _ (fw _ (Pl hb e)))).2.1
  cases f with
  |next=>obtain⟨xa,H7,I7,n7⟩:=q7;exact again I7 n7
  |cont=>obtain⟨xa,H7,I7,n7⟩:=q7;exact again I7 n7
  |brk=>obtain⟨xa,H7,I7,q7⟩:=q7;exact⟨xa,H7,I7.Pm,q7⟩
  |ret v=>obtain⟨x7,xa,H7,I7,r7,q7⟩:=q7;exact⟨x7,xa,H7,I7.Pm,r7,q7⟩
end
abbrev R2:=V->V->Hp->VK->Prop
def dn(X:Cx)(f:Value->Value->Sem Value)(r:R2):Prop :=
 ∀ (pins:List (Addr × Obj)) (s:Shared) (σ:St) (H:Hp) (x y:V) (v u:Value) (Q:VK),Inv X pins σ H s->RelV x v->RelV y u->r x y H Q ->
  wpAny (model X.prog X.w) X.A (f v u) (EP X pins σ Q) X.xe s
def Pp(X:Cx)(f:Value->Sem Value)(r:V->Hp->VK->Prop):Prop :=
 ∀ (pins:List (Addr × Obj)) (s:Shared) (σ:St) (H:Hp) (x:V) (v:Value) (Q:VK),Inv X pins σ H s->RelV x v->r x H Q ->
  wpAny (model X.prog X.w) X.A (f v) (EP X pins σ Q) X.xe s
def kS(X:Cx)(f:Value)(r:List V->Hp->VK->Prop):Prop :=
 ∀ (pins:List (Addr × Obj)) (s:Shared) (σ:St) (H:Hp) (xs:List V) (us:List Value) (Q:VK),Inv X pins σ H s->Vals xs us->r xs H Q ->
  wpAny (model X.prog X.w) X.A (call f us) (EP X pins σ Q) X.xe s
def aj'(X:Cx)(r:V->Hp->(Bool->Hp->Prop)->Prop):Prop :=
 ∀ (pins:List (Addr × Obj)) (s:Shared) (σ:St) (H:Hp) (x:V) (v:Value) (Q:Bool->Hp->Prop),Inv X pins σ H s->RelV x v->r x H Q ->
  wpAny (model X.prog X.w) X.A (truthy v) (TP X pins σ Q) X.xe s
def M0(r:R2)(ta tb:TE):TE:=fun σ H Q=>ta σ H fun x H1=>tb σ H1 fun y H2=>r x y H2 Q
def R3(r:V->Hp->VK->Prop)(ta:TE):TE:=fun σ H Q=>ta σ H fun x H1=>r x H1 Q
def rI(C:Int->Int->Prop)(g:Int->Int->V):R2:=fun x y H Q=>∃ i j,x=.int i/\y=.int j/\C i j/\Q (g i j) H
def HK(g:Int->Int->V):R2:=fun x y H Q=>∃ i j,x=.int i/\y=.int j/\Q (g i j) H
def rU(g:Int->V):V->Hp->VK->Prop:=fun x H Q=>∃ i,x=.int i/\Q (g i) H
section
variable {X:Cx}{a b:Expr}{ta tb:TE}{pos:Pos}
theorem R4(ha:PE X a ta)(hb:PE X b tb){pins:List (Addr × Obj)}{s:Shared}{σ:St}{H:Hp}{R:V->V->Hp->Prop}(I:Inv X pins σ H s)
  (h:ta σ H fun x H1=>tb σ H1 fun y H2=>R x y H2) {Q:Value->Shared->Prop} {f:Value->Value->Sem Value}
  (hf:∀ v u s2 x y H2,Inv X pins σ H2 s2->RelV x v->RelV y u->R x y H2->wpAny (model X.prog X.w) X.A (f v u) Q X.xe s2) :
  wpAny (model X.prog X.w) X.A (eval a X.env) (fun v eK=>wpAny (model X.prog X.w) X.A (eval b X.env) (fun u EI=>wpAny (model X.prog X.w) X.A (f v u) Q X.xe EI) X.xe eK) X.xe s:=by
 refine b5 (ha pins s σ H _ I h) fun v s1 b6=>L2.fE b6 fun x H1 I1 r1 q1=>?_
 refine b5 (hb pins s1 σ H1 _ I1 q1) fun u s2 b6=>L2.fE b6 fun y H2 I2 r2 q2=>?_
 exact hf v u s2 x y H2 I2 r1 r2 q2
theorem ak'{op:Operator}{r:R2}(ho:dn X (binaryOp op) r)(ha:PE X a ta)(hb:PE X b tb):PE X (.BinOp a op b pos) (M0 r ta tb):=by
 intro pins s σ H Q I h
 exact wpAny_BinOp (R4 ha hb I h fun v u s2 x y H2 I2 rx ry q=>ho pins s2 σ H2 x y v u Q I2 rx ry q)
theorem al'(ho:Pp X (unaryOp op) r)(ha:PE X a ta):PE X (.UnaryOp op a pos) (R3 r ta):=by
 intro pins s σ H Q I h
 exact UnaryOp_ (b5 (ha pins s σ H _ I h) fun v s1 b6=>L2.fE b6 fun x H1 I1 r1 q1=>ho pins s1 σ H1 x v Q I1 r1 q1)
theorem Pq{f:Value->Value->Sem Value}{C:Int->Int->Prop}{g:Int->Int->Int}
  (rule:∀ (i j:Int) (t u:Tok) (s:Shared) (Q:Value->Shared->Prop) (E:Value->Shared->Prop),C i j->Q (.int (g i j) s.toks) { s with toks:=s.toks+1 }->wpAny (model X.prog X.w) X.A (f (.int i t) (.int j u)) Q E s) :
  dn X f (rI C fun i j=>.int (g i j)):=by
 intro pins s σ H x y v u Q I rx ry h
 obtain⟨i,j,rfl,rfl,hc,q⟩:=h
 obtain⟨t,rfl⟩:=rx
 obtain⟨t',rfl⟩:=ry
 exact rule i j t t' s _ _ hc ⟨.int (g i j),H,I.tok _,⟨_,rfl⟩,q⟩
theorem V0{f:Value->Value->Sem Value}{g:Int->Int->Int}
  (rule:∀ (i j:Int) (t u:Tok) (s:Shared) (Q:Value->Shared->Prop) (E:Value->Shared->Prop),Q (.int (g i j) s.toks) { s with toks:=s.toks+1 }->wpAny (model X.prog X.w) X.A (f (.int i t) (.int j u)) Q E s) :
  dn X f (HK fun i j=>.int (g i j)):=by
 intro pins s σ H x y v u Q I rx ry h
 obtain⟨i,j,rfl,rfl,q⟩:=h
 obtain⟨t,rfl⟩:=rx
 obtain⟨t',rfl⟩:=ry
 exact rule i j t t' s _ _ ⟨.int (g i j),H,I.tok _,⟨_,rfl⟩,q⟩
theorem V1{f:Value->Value->Sem Value}{g:Int->Int->Bool}
  (rule:∀ (i j:Int) (t u:Tok) (s:Shared) (Q:Value->Shared->Prop) (E:Value->Shared->Prop),Q (.bool (g i j)) s->wpAny (model X.prog X.w) X.A (f (.int i t) (.int j u)) Q E s) :
  dn X f (HK fun i j=>.bl (g i j)):=by
 intro pins s σ H x y v u Q I rx ry h
 obtain⟨i,j,rfl,rfl,q⟩:=h
 obtain⟨t,rfl⟩:=rx
 obtain⟨t',rfl⟩:=ry
 exact rule i j t t' s _ _ ⟨.bl (g i j),H,I,rfl,q⟩
def am'(i j:Int):Prop:=0<j/\j<1073741824
def HL(i j:Int):Prop:=0<=j/\j<=1000000/\i.natAbs<2 ^ 64
def EJ(i j:Int):Prop:=(-(2 ^ 64)<i/\i<2 ^ 64)\/(-(2 ^ 64)<j/\j<2 ^ 64)
theorem EJ.ok(h:EJ i j):IntMulOk i j:=by
 rcases h with⟨h1,h2⟩|⟨h1,h2⟩
 ·exact .of_left (intBits_le_64 h1 h2)
 ·exact .of_right (intBits_le_64 h1 h2)
theorem an':dn X (binaryOp .Add) (HK fun i j=>.int (i+j)):=V0 fun _ _ _ _ _ _ _ q=>add_int q
theorem ao':dn X (binaryOp .Sub) (HK fun i j=>.int (i-j)):=V0 fun _ _ _ _ _ _ _ q=>sub_int q
theorem ap':dn X (binaryOp .Mult) (rI EJ fun i j=>.int (i*j)):=Pq fun _ _ _ _ _ _ _ hc q=>mul_int q hc.ok
theorem aq':dn X (binaryOp .FloorDiv) (rI am' fun i j=>.int (i / j)):=Pq fun i j _ _ _ _ _ hc q=>by
 have h1:(0:Int)<j:=hc.1
 have h2:j<1073741824:=hc.2
 exact floordiv_int (by lia) (by rw[Int.fdiv_eq_ediv_of_nonneg i (by exact AO ‹_›)];exact q) (.inl (PyProof.noPylong_small (by lia)))
theorem ar':dn X (binaryOp .Mod) (rI (fun _ j=>0<j) fun i j=>.int (i % j)):=Pq fun i j _ _ _ _ _ hc q=>by
 have h1:(0:Int)<j:=hc
 exact mod_int' (by lia) (by rw[Int.fmod_eq_emod_of_nonneg i (by exact AO ‹_›)];exact q)
theorem au':dn X (binaryOp .Pow) (rI HL fun i j=>.int (i ^ j.toNat)):=Pq fun _ _ _ _ _ _ _ hc q=>pow_int_small hc.1 hc.2.1 hc.2.2 q
theorem unI{f:Value->Sem Value}{g:Int->Int}
  (rule:∀ (i:Int) (t:Tok) (s:Shared) (Q:Value->Shared->Prop) (E:Value->Shared->Prop),Q (.int (g i) s.toks) { s with toks:=s.toks+1 }->wpAny (model X.prog X.w) X.A (f (.int i t)) Q E s) :
  Pp X f (rU fun i=>.int (g i)):=by
 intro pins s σ H x v Q I rx h
 obtain⟨i,rfl,q⟩:=h
 obtain⟨t,rfl⟩:=rx
 exact rule i t s _ _ ⟨.int (g i),H,I.tok _,⟨_,rfl⟩,q⟩
theorem aw':Pp X (unaryOp .USub) (rU fun i=>.int (-i)):=unI fun _ _ _ _ _ q=>neg_int q
end
def V2:V->V->Bool
 |.non,.non=>true|.non,.int _=>true|.int _,.non=>true|.non,.bl _=>true|.bl _,.non=>true|.non,.str _=>true|.str _,.non=>true
 |.int _,.int _=>true|.bl _,.bl _=>true|.str _,.str _=>true|.qE _,.qE _=>true
 |.int _,.str _=>true|.str _,.int _=>true|.bl _,.str _=>true|.str _,.bl _=>true
 |_,_=>false
def rEq:R2:=fun x y H Q=>V2 x y=true/\Q (.bl (decide (x=y))) H
def rNe:R2:=fun x y H Q=>V2 x y=true/\Q (.bl (!decide (x=y))) H
theorem V3:decide (V.int i=V.int j)=(i == j):=by
 rw[wx]
 simp
theorem V4:decide (V.bl i=V.bl j)=(i == j):=by
 rw[wx]
 simp
theorem V5:decide (V.str i=V.str j)=(i == j):=by
 rw[wx]
 simp
theorem V6:decide (V.qE i=V.qE j)=(i.toList == j.toList):=by
 rw[wx]
 cases i
 cases j
 simp
section
variable {X:Cx}{a b c:Expr}{ta tb tc:TE}{pos:Pos}
theorem gI(I:Inv X pins σ H s)(q:Q (.bl k) H)(e:k=k'):EP X pins σ Q (.bool k') s:=by
 subst e
 exact⟨.bl k,H,I,rfl,q⟩
theorem az':dn X (compareOp .Eq) rEq:=by
 intro pins s σ H x y v u Q I rx ry h
 obtain⟨hs,q⟩:=h
 cases x with
 |non =>
  cases rx
  cases y with
  |non=>cases ry;exact PySem.EqNone.eq_none_none (gI I q (by simp))
  |bl j=>cases ry;exact PySem.EqNone.eq_none_bool (gI I q (by simp))
  |int j=>obtain⟨t',rfl⟩:=ry;exact PySem.EqNone.eq_none_int (gI I q (by simp))
  |str j=>obtain⟨t',rfl⟩:=ry;exact PySem.EqNone.eq_none_str (gI I q (by simp))
  |_=>exact absurd (show false=true from hs) ja
 |bl i =>
  cases rx
  cases y with
  |non=>cases ry;exact PySem.EqNone.eq_bool_none (gI I q (by simp))
  |bl j=>cases ry;exact eq_bool (gI I q V4)
  |str j=>obtain⟨t',rfl⟩:=ry;exact PySem.EqMixed.eq_bool_str (gI I q (by simp))
  |_=>exact absurd (show false=true from hs) ja
 |int i =>
  obtain⟨t,rfl⟩:=rx
  cases y with
  |non=>cases ry;exact PySem.EqNone.eq_int_none (gI I q (by simp))
  |int j=>obtain⟨t',rfl⟩:=ry;exact eq_int (gI I q V3)
  |str j=>obtain⟨t',rfl⟩:=ry;exact PySem.EqMixed.eq_int_str (gI I q (by simp))
  |_=>exact absurd (show false=true from hs) ja
 |str i =>
  obtain⟨t,rfl⟩:=rx
  cases y with
  |non=>cases ry;exact PySem.EqNone.eq_str_none (gI I q (by simp))
  |bl j=>cases ry;exact PySem.EqMixed.eq_str_bool (gI I q (by simp))
  |int j=>obtain⟨t',rfl⟩:=ry;exact PySem.EqMixed.eq_str_int (gI I q (by simp))
  |str j=>obtain⟨t',rfl⟩:=ry;exact eq_str (gI I q V5)
  |_=>exact absurd (show false=true from hs) ja
 |qE i =>
  obtain⟨t,rfl⟩:=rx
  cases y with
  |qE j=>obtain⟨t',rfl⟩:=ry;exact PySem.W.eq_bytes (gI I q V6)
  |_=>exact absurd (show false=true from hs) ja
 |_=>cases y<;>exact absurd (show false=true from hs) ja
theorem aA':dn X (compareOp .NotEq) rNe:=by
 intro pins s σ H x y v u Q I rx ry h
 obtain⟨hs,q⟩:=h
 cases x with
 |non =>
  cases rx
  cases y with
  |non=>cases ry;exact PySem.EqNone.ne_none_none (gI I q (by simp))
  |bl j=>cases ry;exact PySem.EqNone.ne_none_bool (gI I q (by simp))
  |int j=>obtain⟨t',rfl⟩:=ry;exact PySem.EqNone.ne_none_int (gI I q (by simp))
  |str j=>obtain⟨t',rfl⟩:=ry;exact PySem.EqNone.ne_none_str (gI I q (by simp))
  |_=>exact absurd (show false=true from hs) ja
 |bl i =>
  cases rx
  cases y with
  |non=>cases ry;exact PySem.EqNone.ne_bool_none (gI I q (by simp))
  |bl j=>cases ry;exact ne_bool (gI I q (congrArg not V4))
  |str j=>obtain⟨t',rfl⟩:=ry;exact PySem.EqMixed.ne_bool_str (gI I q (by simp))
  |_=>exact absurd (show false=true from hs) ja
 |int i =>
  obtain⟨t,rfl⟩:=rx
  cases y with
  |non=>cases ry;exact PySem.EqNone.ne_int_none (gI I q (by simp))
  |int j=>obtain⟨t',rfl⟩:=ry;exact ne_int (gI I q (congrArg not V3))
  |str j=>obtain⟨t',rfl⟩:=ry;exact PySem.EqMixed.ne_int_str (gI I q (by simp))
  |_=>exact absurd (show false=true from hs) ja
 |str i =>
  obtain⟨t,rfl⟩:=rx
  cases y with
  |non=>cases ry;exact PySem.EqNone.ne_str_none (gI I q (by simp))
  |bl j=>cases ry;exact PySem.EqMixed.ne_str_bool (gI I q (by simp))
  |int j=>obtain⟨t',rfl⟩:=ry;exact PySem.EqMixed.ne_str_int (gI I q (by simp))
  |str j=>obtain⟨t',rfl⟩:=ry;exact ne_str (gI I q (congrArg not V5))
  |_=>exact absurd (show false=true from hs) ja
 |qE i =>
  obtain⟨t,rfl⟩:=rx
  cases y with
  |qE j=>obtain⟨t',rfl⟩:=ry;exact PySem.W.ne_bytes (gI I q (congrArg not V6))
  |_=>exact absurd (show false=true from hs) ja
 |_=>cases y<;>exact absurd (show false=true from hs) ja
theorem aB':dn X (compareOp .Lt) (HK fun i j=>.bl (decide (i<j))):=V1 fun _ _ _ _ _ _ _ q=>lt_int q
theorem aC':dn X (compareOp .LtE) (HK fun i j=>.bl (decide (i<=j))):=V1 fun _ _ _ _ _ _ _ q=>le_int q
theorem aD':dn X (compareOp .Lt) (fun x y H Q=>∃ i j,x=.str i/\y=.str j/\Q (.bl (decide (i.cps.toList<j.cps.toList))) H):=by
 intro pins s σ H x y v u Q I rx ry h
 obtain⟨i,j,rfl,rfl,q⟩:=h
 obtain⟨t,rfl⟩:=rx
 obtain⟨t',rfl⟩:=ry
 exact lt_str (gI I q rfl)
theorem aE':dn X (compareOp .In) (fun x y H Q=>∃ i j,x=.str i/\y=.str j/\Q (.bl (!(Builtin.Str.occurrences j i 0 j.length 1).isEmpty)) H):=by
 intro pins s σ H x y v u Q I rx ry h
 obtain⟨i,j,rfl,rfl,q⟩:=h
 obtain⟨t,rfl⟩:=rx
 obtain⟨t',rfl⟩:=ry
 exact in_str (gI I q rfl)
theorem aF':dn X (compareOp .NotIn) (fun x y H Q=>∃ i j,x=.str i/\y=.str j/\Q (.bl (!(!(Builtin.Str.occurrences j i 0 j.length 1).isEmpty))) H):=by
 intro pins s σ H x y v u Q I rx ry h
 obtain⟨i,j,rfl,rfl,q⟩:=h
 obtain⟨t,rfl⟩:=rx
 obtain⟨t',rfl⟩:=ry
 exact notIn_str (gI I q rfl)
theorem dn.or(h:dn X f r)(h':dn X f r'):dn X f (fun x y H Q=>r x y H Q\/r' x y H Q):=by
 intro pins s σ H x y v u Q I rx ry q
 rcases q with q|q
 ·exact h pins s σ H x y v u Q I rx ry q
 ·exact h' pins s σ H x y v u Q I rx ry q
theorem kA(b:Expr)(h:op≠.In:=by decide)(h2:op≠.NotIn:=by decide):behindInMarks op b=false:=by
 have e1:(op == CmpOp.In)=false:=by cases op<;>first|rfl|exact absurd rfl h
 have e2:(op == CmpOp.NotIn)=false:=by cases op<;>first|rfl|exact absurd rfl h2
 cases b<;>simp[behindInMarks,e1,e2]
theorem aG'{op:CmpOp}{r:R2}(ho:dn X (compareOp op) r)(ha:PE X a ta)(hb:PE X b tb)(hm:behindInMarks op b=false):PE X (.Compare a [op] [b] pos) (M0 r ta tb):=by
 intro pins s σ H Q I h
 exact wpAny_Compare1 (R4 ha hb I h fun v u s2 x y H2 I2 rx ry q=>ho pins s2 σ H2 x y v u Q I2 rx ry q) hm
def R5(t:TE):TT:=fun σ H Q=>t σ H fun x H'=>∃ k,x=.bl k/\Q k H'
theorem aH'(ho:dn X (compareOp op) r)(ha:PE X a ta)(hb:PE X b tb)(hm:behindInMarks op b=false):PT X (.Compare a [op] [b] pos) (R5 (M0 r ta tb)):=by
 intro pins s σ H Q I h
 refine wpAny_isTrue_Compare1 (b5 (ha pins s σ H _ I h) fun v s1 b6=>L2.fE b6 fun x H1 I1 r1 q1=>b5 (hb pins s1 σ H1 _ I1 q1) fun u s2 b6=>L2.fE b6 fun y H2 I2 r2 q2 =>
  b5 (ho pins s2 σ H2 x y v u _ I2 r1 r2 q2) fun c s3 ⟨z,H3,I3,r3,k,e,q3⟩=>?_) hm
 subst e
 cases r3
 exact wpAny_truthy_bool ⟨H3,I3,q3⟩
def V7(r r':R2)(ta tb tc:TE):TE:=fun σ H Q=>ta σ H fun x H1=>tb σ H1 fun y H2=>r x y H2 fun z H3=>∃ k,z=.bl k /\
 (if k=true then tc σ H3 fun w' H4=>r' y w' H4 Q else Q (.bl false) H3)
theorem aI'(ho:dn X (compareOp op) r)(mz:dn X (compareOp op') r')(ha:PE X a ta)(hb:PE X b tb)(hc:PE X c tc)
  (hm:lastMarks [op,op'] [b,c]=false:=by with_unfolding_all rfl):PT X (.Compare a [op,op'] [b,c] pos) (R5 (V7 r r' ta tb tc)):=by
 intro pins s σ H Q I h
 refine isTrue_chain (b5 (ha pins s σ H _ I h) fun v s1 b6=>L2.fE b6 fun x H1 I1 r1 q1=>test_link (b5 (hb pins s1 σ H1 _ I1 q1) fun u s2 b6=>L2.fE b6 fun y H2 I2 r2 q2 =>
  b5 (ho pins s2 σ H2 x y v u _ I2 r1 r2 q2) fun d s3 ⟨z,H3,I3,r3,k,e,q3⟩=>?_)) hm
 subst e
 cases r3
 refine wpAny_truthy_bool ?_
 cases k with
 |false =>
  obtain⟨k',e',q'⟩:=q3
  cases e'
  exact ite_ff ⟨H3,I3,q'⟩
 |true =>
  refine ite_tt (test_last (b5 (hc pins s3 σ H3 _ I3 q3) fun w' s4 ⟨z',H4,I4,r4,q4⟩=>b5 (mz pins s4 σ H4 y z' u w' _ I4 r2 r4 q4) fun d' s5 cE=>?_))
  obtain⟨z2,H5,I5,r5,k2,e2,q5⟩:=cE
  subst e2
  cases r5
  exact wpAny_truthy_bool ⟨H5,I5,q5⟩
def R6(K:PySem.W.Frag)(x:V)(H:Hp)(k:Bool):Prop :=
 match x with
 |.non=>k=false
 |.bl b=>k=b
 |.int i=>k=(i != 0)
 |.str y=>y.length<=sizeLine/\k=((y.length:Int) != 0)
 |.qE y=>y.size<=sizeLine/\k=((y.size:Int) != 0)
 |.ref p=>(∃ xs,eM K H p xs/\k = !xs.isEmpty)\/(∃ xs,kg K H p xs/\k = !xs.isEmpty)\/∃ kvs,H p=some (.dK kvs)/\k = !kvs.isEmpty
 |_=>False
theorem aJ'{κ:Type}{kvs:List (κ × V)}{vs:List (κ × Value)}(r:KV kvs vs):(!vs.isEmpty) = !kvs.isEmpty:=by
 cases r<;>rfl
theorem V8(r:Vals xs its):(!its.toArray.isEmpty) = !xs.isEmpty:=by
 cases r<;>simp
theorem M8:(sizeLine:Nat)<2 ^ 63:=by rw[sizeLine_eq];decide
theorem aK':aj' X (fun x H Q=>∃ k,R6 X.K x H k/\Q k H):=by
 intro pins s σ H x v Q I rx h
 obtain⟨k,e,q⟩:=h
 have hl:=M8
 have hs:sizeLine=16777216:=sizeLine_eq
 cases x with
 |non =>
  cases rx
  have e':k=false:=e
  subst e'
  exact truthy_none ⟨H,I,q⟩
 |bl b =>
  cases rx
  have e':k=b:=e
  subst e'
  exact wpAny_truthy_bool ⟨H,I,q⟩
 |int i =>
  obtain⟨t,rfl⟩:=rx
  have e':k=(i != 0):=e
  subst e'
  exact PySem.P.truthy_int ⟨H,I,q⟩
 |str y =>
  obtain⟨t,rfl⟩:=rx
  obtain⟨hy,e'⟩:y.length<=sizeLine/\k=((y.length:Int) != 0):=e
  subst e'
  exact PySem.P.truthy_str (by lia) ⟨H,I.tok _,q⟩
 |qE y =>
  obtain⟨t,rfl⟩:=rx
  obtain⟨hy,e'⟩:y.size<=sizeLine/\k=((y.size:Int) != 0):=e
  subst e'
  exact PySem.W.truthy_bytes (by lia) ⟨H,I.tok _,q⟩
 |ref p =>
  cases rx
  have e':(∃ xs,eM X.K H p xs/\k = !xs.isEmpty)\/(∃ xs,kg X.K H p xs/\k = !xs.isEmpty)\/∃ kvs,H p=some (.dK kvs)/\k = !kvs.isEmpty:=e
  rcases e' with⟨xs,hx,e'⟩|⟨xs,hx,e'⟩|⟨kvs,hx,e'⟩
  ·subst e'
   obtain⟨its,r,pl,hz⟩:=I.list hx
   have hlen:=r.length
   exact wpAny_truthy_list pl.isList (by simp only[gy];lia) ⟨H,I.tok _,by rw[V8 r];exact q⟩
  ·subst e'
   obtain⟨its,r,pl,hz⟩:=I.tuple hx
   have hlen:=r.length
   exact truthy_tuple pl (by simp only[gy];lia) ⟨H,I.tok _,by rw[V8 r];exact q⟩
  ·subst e'
   obtain⟨hz,hS,vs,r,m⟩:kvs.length<=sizeLine/\(p == sysModules)=false/\∃ vs,KV kvs vs/\s.heap.DictOf (jS X.prog X.w) p vs:=I.aC p _ hx
   have hlen:kvs.length=vs.length:=Paired.length r
   exact wpAny_truthy_dict hS m (by lia) ⟨H,I.tok _,by rw[aJ' r];exact q⟩
 |_=>exact(show False from e).elim
theorem aL'(ha:PE X a ta)(he:∀ whole,isTrue a X.env whole=(do let v <- whole;standAt a.pos;holding [v] (truthy v))) :
  PT X a (fun σ H Q=>ta σ H fun x H'=>∃ k,R6 X.K x H' k/\Q k H'):=by
 intro pins s σ H Q I h
 exact isTrue_plain (b5 (ha pins s σ H _ I h) fun v s1 b6=>L2.fE b6 fun x H1 I1 r1 q1=>aK' pins s1 σ H1 x v Q I1 r1 q1) (he _)
theorem aM':dn X (binaryOp .Add) (fun x y H Q=>∃ i j,x=.str i/\y=.str j/\i.length+j.length<=sizeLine/\Q (.str (i++j)) H):=by
 intro pins s σ H x y v u Q I rx ry h
 obtain⟨i,j,rfl,rfl,hz,q⟩:=h
 obtain⟨t,rfl⟩:=rx
 obtain⟨t',rfl⟩:=ry
 exact add_str (fun t' tk=>⟨.str (i++j),H,I.tok _,⟨_,rfl⟩,q⟩) hz
theorem vals1(r:Vals [x] us):∃ u,us=[u]/\RelV x u:=by
 cases r with
 |cons r1 r2=>cases r2;exact⟨_,rfl,r1⟩
def aN'(K:PySem.W.Frag)(x:V)(H:Hp)(n:Nat):Prop :=
 match x with
 |.str y=>y.length<=sizeLine/\n=y.length
 |.qE y=>y.size<=sizeLine/\n=y.size
 |.ref p=>(∃ xs,eM K H p xs/\n=xs.length)\/∃ xs,kg K H p xs/\n=xs.length
 |_=>False
theorem R7:kS X (.builtin "len") (fun xs H Q=>∃ x n,xs=[x]/\aN' X.K x H n/\Q (.int n) H):=by
 intro pins s σ H xs us Q I r h
 obtain⟨x,n,rfl,e,q⟩:=h
 obtain⟨u,rfl,rx⟩:=vals1 r
 have hl:=M8
 have hs:sizeLine=16777216:=sizeLine_eq
 cases x with
 |str y =>
  obtain⟨t,rfl⟩:=rx
  obtain⟨hy,e'⟩:y.length<=sizeLine/\n=y.length:=e
  subst e'
  exact len_str (by lia) ⟨.int _,H,I.tok _,⟨_,rfl⟩,q⟩
 |qE y =>
  obtain⟨t,rfl⟩:=rx
  obtain⟨hy,e'⟩:y.size<=sizeLine/\n=y.size:=e
  subst e'
  exact PySem.W.len_bytes (by walk_at "s4") ⟨.int _,H,I.tok _,⟨_,rfl⟩,q⟩
 |ref p =>
  cases rx
  have e':(∃ xs,eM X.K H p xs/\n=xs.length)\/∃ xs,kg X.K H p xs/\n=xs.length:=e
  rcases e' with⟨xs,hx,e'⟩|⟨xs,hx,e'⟩
  ·subst e'
   obtain⟨its,r',pl,hz⟩:=I.list hx
   have hlen:=r'.length
   exact Calls.call_len_list pl.isList (by simp only[gy];lia) ⟨.int xs.length,H,I.tok _,⟨_,by simp only[gy];rw[hlen]⟩,q⟩
  ·subst e'
   obtain⟨its,r',pl,hz⟩:=I.tuple hx
   have hlen:=r'.length
   exact len_tuple pl (by simp only[gy];lia) ⟨.int xs.length,H,I.tok _,⟨_,by simp only[gy];rw[hlen]⟩,q⟩
 |_=>exact(show False from e).elim
end
structure R8(h:Heap)(x dx C:Addr)(mA:Str->Option Value):Prop where
 obj:h.get? x=some (PySem.W.instObj C dx)
 ns:h.Ns1 dx mA
 ne:dx≠x
theorem lookIn_ns{h:Heap}{dx:Addr}{mA:Str->Option Value}(n:h.Ns1 dx mA):∃ od,h.get? dx=some od/\∀ name,PySem.W.lookIn name od=some (mA name):=by
 obtain⟨o,es,ep,ho,hd,hk,_,hm⟩:=n
 refine⟨o,ho,fun name=>?_⟩
 have e:=hm name
 unfold nsFind findBy at e
 rw[<- Array.find?_toList] at e
 unfold PySem.W.lookIn
 rw[hd]
 dsimp only
 split
 ·rename_i y q
  rw[q] at e
  exact congrArg some e
 ·rename_i q
  rw[q] at e
  have a:es.toList.any (·.refKey)=false:=by
   rw[List.any_eq_false]
   intro y hy
   obtain⟨z,t,aO'⟩:=hk y (Array.mem_toList_iff.mp hy)
   simp[DictEntry.refKey,aO']
  have a':¬ es.toList.any (·.refKey)=true:=by rw[a];exact ja
  rw[if_neg a']
  exact congrArg some e
theorem R8.look(I:R8 h x dx C mA):∃ od,PySem.W.InstAt h x (PySem.W.instObj C dx) C (some od)/\∀ name,PySem.W.lookIn name od=some (mA name) :=
 let ⟨od,ho,hl⟩:=lookIn_ns I.ns
 ⟨od,⟨I.obj,rfl,rfl,ho⟩,hl⟩
theorem tf.some_of(r:tf (some v) o):∃ u,o=some u/\RelV v u:=by
 cases o with
 |none=>exact(show False from r).elim
 |some u=>exact⟨u,rfl,r⟩
section
variable {P:Program}{w:World}{H:Hp}{h:Heap}{a C dx:Addr}{fs:List (Str × V)}
theorem Pt(aC:gd P w H h)(e:H a=some (.ins C dx fs)):∃ mA,R8 h a dx C mA/\(∀ f,tf (fs.lookup f) (mA f))/\PySem.Within mA (fs.map (·.1))/\fs.length<=1000/\H dx=some (.own a):=by
 obtain⟨d,z,ne,ob,mA,n,r,q⟩:=(show eJ P w H h a (.ins C dx fs) from aC a _ e)
 exact⟨mA,⟨ob,n,ne⟩,r,q,z,d⟩
end
structure R9(K:PySem.W.Frag)(C:Addr):Prop where
 pg:PySem.W.plainGet K C Str.empty=true
 hd:PySem.W.hasDictIn K C=true
 po:PySem.W.plainOver K C=true
 sa:PySem.W.findIn K (.ref C) "__setattr__" = some (some (.builtin "object.__setattr__"))
theorem R9.get{K:PySem.W.Frag}(c:R9 K C)(f:Str):PySem.W.plainGet K C f=true:=c.pg
section
variable {X:Cx}{pins:List (Addr × Obj)}{σ:St}{H:Hp}{s:Shared}{A:Around}{E:Value->Shared->Prop}{Q:Value->Shared->Prop}{c:Value}{b:Bool}
inductive vx(K:PySem.W.Frag)(H:Hp):V->Value->Prop where
 |non:vx K H .non (.type "NoneType")
 |bl (x:Bool):vx K H (.bl x) (.type "bool")
 |int (i:Int):vx K H (.int i) (.type "int")
 |str (x:Str):vx K H (.str x) (.type "str")
 |AQ (x:UInt64):vx K H (.AQ x) (.type "float")
 |lst {a:Addr} {xs:List V} (e:H a=some (.lst xs)):vx K H (.ref a) (.type "list")
 |dQ {a:Addr} {o:Obj} {xs:List V} (e:H a=some (.dQ o (.lst xs))):vx K H (.ref a) (.type "list")
 |tup {a:Addr} {xs:List V} (e:H a=some (.tup xs)):vx K H (.ref a) (.type "tuple")
 |dK {a:Addr} {kvs:List (Key × V)} (e:H a=some (.dK kvs)):vx K H (.ref a) (.type "dict")
 |dT {a:Addr} {kvs:List (List Key × V)} (e:H a=some (.dT kvs)):vx K H (.ref a) (.type "dict")
 |ins {a C dx:Addr} {fs:List (Str × V)} (e:H a=some (.ins C dx fs)) (cl:R9 K C) (ha:PySem.W.findIn K (.ref C) "__class__" = some (some (.builtin "object.__class__")))
   (hn:PySem.W.specialIn K (.builtin "object.__class__") "__get__" = some (some (.builtin "getset_descriptor.__get__"))) (V9:PySem.W.takesIn K (.builtin "object.__class__")=some true)
   (hm:PySem.W.mroIn K C (.type "object")=some true):vx K H (.ref a) (.ref C)
theorem M9(I:Inv X pins σ H s)(rx:RelV x u)(ty:vx X.K H x t)(e:PySem.W.kitOne X.K t c=some b)(h:∀ tk,Q (.bool b) { s with toks:=tk }) :
  wpAny (model X.prog X.w) A (call (.builtin "isinstance") [u,c]) Q E s:=by
 cases ty with
 |non=>cases (show u=Value.none from rx);exact PySem.W.kia_one PySem.W.kitx_none I.kf True.intro e (fun z=>nomatch z) h
 |bl y=>cases (show u=Value.bool y from rx);exact PySem.W.kia_one PySem.W.kitx_bool I.kf True.intro e (fun z=>nomatch z) h
 |int i=>obtain⟨t,q⟩:=(show ∃ t,u=Value.int i t from rx);cases q;exact PySem.W.kia_one PySem.W.kitx_int I.kf True.intro e (fun z=>nomatch z) h
 |str y=>obtain⟨t,q⟩:=(show ∃ t,u=Value.str y t from rx);cases q;exact PySem.W.kia_one PySem.W.kitx_str I.kf True.intro e (fun z=>nomatch z) h
 |AQ y=>obtain⟨t,q⟩:=(show ∃ t,u=Value.float y t from rx);cases q;exact PySem.W.kia_one PySem.W.kitx_float I.kf True.intro e (fun z=>nomatch z) h
 |@lst a xs ea =>
  cases (show u=Value.ref a from rx)
  obtain⟨_,_,n,_,h1⟩:=(show eJ X.prog X.w H s.heap a (.lst xs) from I.aC a _ ea)
  exact PySem.W.kia_one PySem.W.kitx_list I.kf ⟨_,h1,rfl⟩ e (fun z=>nomatch z) h
 |@dQ a ob xs ea =>
  cases (show u=Value.ref a from rx)
  obtain⟨_,_,_,n,_,h1⟩:=(show eJ X.prog X.w H s.heap a (.dQ ob (.lst xs)) from I.aC a _ ea)
  exact PySem.W.kia_one PySem.W.kitx_list I.kf ⟨_,h1,rfl⟩ e (fun z=>nomatch z) h
 |@tup a xs ea =>
  cases (show u=Value.ref a from rx)
  obtain⟨_,_,_,p⟩:=(show eJ X.prog X.w H s.heap a (.tup xs) from I.aC a _ ea)
  obtain⟨o,h1,h2,_⟩:=p
  exact PySem.W.kia_one PySem.W.kitx_tuple I.kf ⟨o,h1,h2⟩ e (fun z=>nomatch z) h
 |@dK a kvs ea =>
  cases (show u=Value.ref a from rx)
  obtain⟨_,_,vs,_,p⟩:=(show eJ X.prog X.w H s.heap a (.dK kvs) from I.aC a _ ea)
  obtain⟨o,es,ep,h1,h2,_⟩:=p
  exact PySem.W.kia_one PySem.W.kitx_dict I.kf ⟨o,h1,h2.1⟩ e (fun z=>nomatch z) h
 |@dT a kvs ea =>
  cases (show u=Value.ref a from rx)
  obtain⟨_,_,xs,_,o,es,ep,h1,h2,_⟩:=(show eJ X.prog X.w H s.heap a (.dT kvs) from I.aC a _ ea)
  exact PySem.W.kia_one PySem.W.kitx_dict I.kf ⟨o,h1,h2.1⟩ e (fun z=>nomatch z) h
 |@ins a C dx fs ea cl ha hn V9 hm =>
  cases (show u=Value.ref a from rx)
  obtain⟨mA,O,_⟩:=Pt I.aC ea
  obtain⟨od,J,_⟩:=O.look
  exact PySem.W.kia_one (PySem.W.kitx_own (cl.get _) cl.hd ha hn V9 hm) I.kf J e (fun z=>nomatch z) h
end
structure ki(k:Nat)(A:Around):Prop where
 hd:A.handled=none
 dp:A.depth+3*k+5<recursionLimit
 un:A.units+16*k+200<cLine
theorem ki.mono(r:ki k A)(h:j<=k):ki j A:=⟨r.hd,by have:=r.dp;lia,by have:=r.un;lia⟩
theorem ki.deeper(r:ki (k+1) A)(env:Env):ki k (A.deeper env) :=
 ⟨r.hd,by have:=r.dp;show A.depth+1+3*k+5<_;lia,by have:=r.un;show A.units+3+16*k+200<_;lia⟩
theorem ki.depth(r:ki k A):A.depth<recursionLimit:=by have:=r.dp;lia
theorem ki.units(r:ki k A):A.units+64<cLine:=by have:=r.un;lia
def R_:TA:=fun _ H Q=>Q [] H
def Sb(ta:TE)(tr:TA):TA:=fun σ H Q=>ta σ H fun x H1=>tr σ H1 fun xs H2=>Q (x :: xs) H2
section
variable {X:Cx}{e:Expr}{es:List Expr}{te:TE}{t:TA}{pos:Pos}
theorem tq:PA X [] R_:=fun _ _ _ _ H Q I h=>Calls.spliced_nil ⟨[],H,I,.nil,h⟩
theorem pz(ha:PE X e te)(hr:PA X es t)(hs:starEach (e :: es) X.env=(false,eval e X.env) :: starEach es X.env:=by rfl):PA X (e :: es) (Sb te t):=by
 intro pos pins s σ H Q I h
 rw[hs]
 show wpAny _ _ (spliced ((false,eval e X.env) :: backTo pos (starEach es X.env))) _ _ s
 refine Calls.spliced_cons (b5 (ha pins s σ H _ I h) fun u s1 b6=>L2.fE b6 fun x H1 I1 r1 q1=>?_)
 exact b5 (hr pos pins s1 σ H1 _ I1 q1) fun us s2 b6=>L2.fE b6 fun xs H2 I2 r2 q2=>⟨x :: xs,H2,I2,.cons r1 r2,q2⟩
def aP'(t:TA):TE:=fun σ H Q=>t σ H fun xs H1=>xs.length<=sizeLine/\∀ p,H1 p=none->Q (.ref p) (upd H1 p (.tup xs))
def aQ'(t:TA):TE:=fun σ H Q=>t σ H fun xs H1=>xs.length<=sizeLine/\∀ p,H1 p=none->Q (.ref p) (upd H1 p (.lst xs))
theorem V_{x1}(h:PA X es t):PE X (.Tuple es x1 pos) (aP' t):=by
 intro pins s σ H Q I hq
 refine wpAny_Tuple_spliced (b5 (h pos pins s σ H _ I hq) fun us s1 ⟨xs,H1,I1,r,z,q⟩=>⟨by rw[<- r.length];exact z,?_⟩)
 have hf:H1 s1.heap.objs.size=none:=I1.aC.fresh (bS _)
 refine⟨.ref s1.heap.objs.size,upd H1 s1.heap.objs.size (.tup xs),I1.laid (t':=s1.toks) (fun b u e=>eL _ e) (bS _) ?_,rfl,q _ hf⟩
 exact⟨z,us,r,⟨_,g9 _ rfl,rfl,_,rfl⟩⟩
theorem aR'(h:PA X es t):PE X (.List es pos) (aQ' t):=by
 intro pins s σ H Q I hq
 refine wpAny_List_spliced (b5 (h pos pins s σ H _ I hq) fun us s1 ⟨xs,H1,I1,r,z,q⟩=>⟨by rw[<- r.length];exact z,?_⟩)
 have hf:H1 s1.heap.objs.size=none:=I1.aC.fresh (bS _)
 refine⟨.ref s1.heap.objs.size,upd H1 s1.heap.objs.size (.lst xs),I1.laid (t':=s1.toks) (fun b u e=>eL _ e) (bS _) ?_,rfl,q _ hf⟩
 exact⟨z,us,0,r,g9 _ rfl⟩
end
abbrev Sp:=List V->Hp->VK->XK->Prop
abbrev AY:=List Env->Hp->Shared->XK->Value->Shared->Prop
structure Pu(P:Program)(w:World)(K:PySem.W.Frag)(mg:Str->Option Value)(base:Heap)(A:Around)(outer:List Env)(s:Shared)(H:Hp):Prop where
 frames:A.frames=some outer
 mod:Mod K mg base
 bs:∀ b o,base.get? b=some o->s.heap.get? b=some o/\H b=none
 ti:base.objs.size<=s.heap.objs.size
 px:s.heap.FunFrames base outer
 w_:∀ b∈ft outer,H b=none
 aC:gd P w H s.heap
 bare:AllBare s.gens
def CE(outer:List Env)(P:Program)(w:World)(H:Hp)(s:Shared)(Q:VK)(u:Value)(s':Shared):Prop :=
 ∃ v H',s'.os=s.os/\AllBare s'.gens/\Un (ft outer) [] H H' s.heap s'.heap/\gd P w H' s'.heap/\RelV v u/\Q v H'
def CR(CX:AY)(outer:List Env)(P:Program)(w:World)(H:Hp)(s:Shared)(Q:VK)(E:XK)(r:Result)(s':Shared):Prop :=
 match r with
 |.ok (.ret u)=>CE outer P w H s Q u s'
 |.ok _=>False
 |.error e=>CX outer H s E e s'
structure hJ(P:Program)(w:World)(K:PySem.W.Frag)(mg:Str->Option Value)(base:Heap)(CX:AY)(k:Nat)(f:Addr)(fd:FuncData)(ps:List Str)(sp:Sp):Prop where
 len:∀ vs H Q E,sp vs H Q E->vs.length=ps.length
 run:∀ (A:Around) (outer:List Env) (s:Shared) (H:Hp) (args:Args) (us:List Value) (vs:List V) (Q:VK) (E:XK),ki k A->Pu P w K mg base A outer s H->BindsTo s fd args (ps.zip us)->Vals vs us->sp vs H Q E ->
  codeAny (model P w) A (.call (.ref f) args) (CR CX outer P w H s Q E) s
section
variable {X:Cx}{pins:List (Addr × Obj)}{σ:St}{H:Hp}{s s':Shared}
theorem Inv.aS'(I:Inv X pins σ H s):Pu X.prog X.w X.K X.mg X.base X.A X.stack s H :=
 ⟨I.ok.frames,I.ok.mod,I.bs,jI I.ok.ti I.sz,I.stack,I.RL,I.aC,I.bare⟩
theorem Inv.after(I:Inv X pins σ H s)(h:CE X.stack X.prog X.w H s Q u s'):EP X pins σ Q u s':=by
 obtain⟨v,H',os,bare,un,aC,r,q⟩:=h
 obtain⟨hh,g,d,t,Sd⟩:=s'
 obtain rfl:Sd=s.os:=os
 exact⟨v,H',I.call (h':=hh) (g':=g) (d':=d) (t':=t) (ch:=[]) un aC bare (fun b z=>absurd z (by simp)),r,q⟩
end
def M_(sp:Sp)(CL:List V)(E:XK)(t:TA):TE:=fun σ H Q=>t σ H fun vs H1=>sp (vs++CL) H1 Q E
def Binds(K:PySem.W.Frag)(fd:FuncData)(ps:List Str)(ds:List Value):Prop :=
 ∀ (s:Shared) (us:List Value),K.In s.heap->(us++ds).length=ps.length->BindsTo s fd ⟨us,[]⟩ (ps.zip (us++ds))
theorem Binds.all{K:PySem.W.Frag}{ps:List Str}(h:∀ us:List Value,us.length=ps.length->bindArgs fd ⟨us,[]⟩=pure (ps.zip us)):Binds K fd ps []:=fun s us _ hl=>by
 rw[mr] at hl ⊢
 exact .of_eq (h us hl)
def Passes(CX:AY)(X:Cx)(E:XK):Prop:=∀ (pins:List (Addr × Obj)) (σ:St) (H:Hp) (s:Shared) (e:Value) (s':Shared),Inv X pins σ H s->CX X.stack H s E e s'->X.xe e s'
section
variable {X:Cx}{CX:AY}{k:Nat}{f:Addr}{fd:FuncData}{ps:List Str}{sp:Sp}{CL:List V}{ds:List Value}{E:XK}{x:Str}{p pos:Pos}{e:Expr}{es:List Expr}{t:TA}
theorem aT'(F:hJ X.prog X.w X.K X.mg X.base CX k f fd ps sp)(hr:ki k X.A)(hb:Binds X.K fd ps ds)(hd:Vals CL ds)(hx:Passes CX X E)
  (I:Inv X pins σ H s) (r:Vals vs us) (h:sp (vs++CL) H Q E):wpAny (model X.prog X.w) X.A (call (.ref f) us) (EP X pins σ Q) X.xe s:=by
 have r2:Vals (vs++CL) (us++ds):=r.append hd
 have hl:(us++ds).length=ps.length:=by rw[<- r2.length];exact F.len _ _ _ _ h
 refine wpAny_call (codeAny_mono (F.run X.A X.stack s H ⟨us,[]⟩ (us++ds) (vs++CL) Q E hr I.aS' (hb s us I.kf hl) r2 h) fun r s' hq=>?_)
 cases r with
 |error e=>exact hx pins σ H s e s' I hq
 |ok fl =>
  cases fl with
  |ret u=>exact I.after hq
  |next=>exact False.elim hq
  |brk=>exact False.elim hq
  |cont=>exact False.elim hq
theorem Wa(F:hJ X.prog X.w X.K X.mg X.base CX k f fd ps sp)(hr:ki k X.A)(hg:Gl X x)(hm:X.mg x=some (.ref f))(hk:PySem.W.keepIn X.K (.ref f)=true)(hb:Binds X.K fd ps ds)(hd:Vals CL ds)(hx:Passes CX X E)
  (ha:PA X (e :: es) t) (i5:(x == ("__debug__" : Str))=false:=by decide) (he:starEach (e :: es) X.env=(false,eval e X.env) :: starEach es X.env:=by rfl) (fi:(backTo pos (starEach es X.env)).any (·.1)=false:=by rfl) :
  PE X (.Call (.Name x p) (e :: es) [] pos) (M_ sp CL E t):=by
 intro pins s σ H Q I h
 refine wpAny_Call_Name_kw (Pb I hg hm ?_ i5)
 refine PySem.W.callWith_K (h₀:=X.base) I.ok.mod.O6 hk (b5 (ha pos pins s σ H _ I h) fun us s1 b6=>L2.fE b6 fun vs H1 I1 r q=>⟨I1.kf,?_⟩) he fi
 exact aT' F hr hb hd hx I1 r q
end
structure kU(N P:List Str)(sc:Scope):Prop where
 kind:sc.kind=.function
 co:sc.isCoroutine=false
 gen:sc.isGenerator=false
 nd:N.Nodup
 pre:N.take P.length=P
 par:∀ x∈P,sc.names.lookup x=some .local\/sc.names.lookup x=some .cell
 aU':∀ y∈sc.names,y.2≠.free
theorem Wb{kindOf:Str->Option NameKind}:∀ {binds:List (Str × Value)} {m:Str->Option Value},(∀ v,(x,v)∉binds)->bindL kindOf binds m x=m x
 |[],_,_=>rfl
 | (n,v) :: r,m,h=>by
  unfold bindL
  rw[Wb fun w hw=>h w (de _ hw)]
  split
  ·have:x≠n:=by rintro rfl;exact h v df
   simp[this]
  ·rfl
theorem Wc{kindOf:Str->Option NameKind}:∀ {binds:List (Str × Value)} {m:Str->Option Value},(∀ v,(x,v)∉binds)->bindC kindOf binds m x=m x
 |[],_,_=>rfl
 | (n,v) :: r,m,h=>by
  unfold bindC
  rw[Wc fun w hw=>h w (de _ hw)]
  split
  ·rfl
  ·have:x≠n:=by rintro rfl;exact h v df
   simp[this]
theorem Wd{kindOf:Str->Option NameKind}:∀ {P:List Str} {vs:List Value} {i:Nat} {m:Str->Option Value},P.Nodup->P[i]? = some x->vs[i]? = some v->kindOf x=some .local ->
  bindL kindOf (P.zip vs) m x=some v
 |[],_,_,_,_,h,_,_=>by simp at h
 |_ :: _,[],_,_,_,_,h,_=>by simp at h
 |p :: P,w :: vs,0,m,nd,h1,h2,hk=>by
  simp at h1 h2;subst h1;subst h2
  show bindL kindOf ((p,w) :: P.zip vs) m p=_
  unfold bindL
  rw[Wb fun v hv=>(kC.mp nd).1 (List.of_mem_zip hv).1,if_pos hk]
  simp
 |p :: P,w :: vs,i+1,m,nd,h1,h2,hk=>by
  show bindL kindOf ((p,w) :: P.zip vs) m x=_
  unfold bindL
  exact Wd (i:=i) (kC.mp nd).2 (by simpa using h1) (by simpa using h2) hk
theorem Wg{kindOf:Str->Option NameKind}:∀ {P:List Str} {vs:List Value} {i:Nat} {m:Str->Option Value},P.Nodup->P[i]? = some x->vs[i]? = some v->kindOf x≠some .local ->
  bindC kindOf (P.zip vs) m x=some v
 |[],_,_,_,_,h,_,_=>by simp at h
 |_ :: _,[],_,_,_,_,h,_=>by simp at h
 |p :: P,w :: vs,0,m,nd,h1,h2,hk=>by
  simp at h1 h2;subst h1;subst h2
  show bindC kindOf ((p,w) :: P.zip vs) m p=_
  unfold bindC
  rw[Wc fun v hv=>(kC.mp nd).1 (List.of_mem_zip hv).1,if_neg hk]
  simp
 |p :: P,w :: vs,i+1,m,nd,h1,h2,hk=>by
  show bindC kindOf ((p,w) :: P.zip vs) m x=_
  unfold bindC
  exact Wg (i:=i) (kC.mp nd).2 (by simpa using h1) (by simpa using h2) hk
def start(N:List Str)(vs:List V):St:=vs.map some++List.replicate (N.length-vs.length) none
def rg(CX:AY)(P:Program)(w:World)(K:PySem.W.Frag)(mg:Str->Option Value)(base:Heap)(N:List Str)(qual:Str)(scope:Scope)(f:Addr)(cd:Value)(A:Around)(outer:List Env)(s:Shared)(H:Hp)(E:XK):Cx where
 prog:=P
 w:=w
 K:=K
 mg:=mg
 base:=base
 A:=A.deeper (envOfC qual scope s.heap.objs.size f cd)
 N:=N
 eS:=s
 kc:=H
 env:=envOfC qual scope s.heap.objs.size f cd
 outer:=outer
 stack:=envOfC qual scope s.heap.objs.size f cd :: outer
 ex:=[]
 calm:=true
 fn:=fun _=>true
 pn:=[]
 xe:=fun e s'=>wpAny (model P w) (A.deeper (envOfC qual scope s.heap.objs.size f cd)) (leaving (envOfC qual scope s.heap.objs.size f cd) e) (fun _ CM=>CX outer H s E e CM) (fun e' CM=>CX outer H s E e' CM) s'
theorem Wh{sc:Scope}{n:Nat}{x:Str}(h:sc.names.lookup x=some .cell):∃ c,(cellsFrom n sc.names []).lookup x=some c:=by
 have q:=PySem.W.cellsFrom_some sc.names n [] (.inl h)
 exact RD.mp q
theorem aV'{CX:AY}{P:Program}{w:World}{K:PySem.W.Frag}{mg:Str->Option Value}{base:Heap}{N ps:List Str}{qual:Str}{scope:Scope}{f:Addr}{cd:Value}{A:Around}{outer:List Env}{s s1:Shared}{H:Hp}{E:XK}{us:List Value}{vs:List V}
  (S:kU N ps scope) (hd:A.handled=none) (e0:Pu P w K mg base A outer s H) (hl:vs.length=ps.length) (r:Vals vs us)
  (x:InCallC s s.heap.objs.size (bindL (envOfC qual scope s.heap.objs.size f cd).kindOf (ps.zip us) fun _=>none) (cellsFrom (s.heap.objs.size+1) scope.names []) (bindC (envOfC qual scope s.heap.objs.size f cd).kindOf (ps.zip us) fun _=>none) s1) :
  Inv (rg CX P w K mg base N qual scope f cd A outer s H E) [] (start N vs) H s1:=by
 have fi:ps.length<=N.length:=by have:=congrArg List.length S.pre;rw[mS] at this;lia
 obtain⟨h1,tk,rfl,hk⟩:=x.done
 have Nb:∀ b:Addr,b∉(rg CX P w K mg base N qual scope f cd A outer s H E).ex:=fun b z=>absurd (show b∈([]:List Addr) from z) (by simp)
 refine⟨⟨e0.mod,S.kind,rfl,rfl,bS _,fun y z c h1 h2=>?_,fun y hy=>?_,fun y c _ h=>?_,fun _=>hd,Around.frames_deeper e0.frames,.inr ⟨rfl,rfl⟩,fun b z=>absurd z (Nb b),e0.bs,e0.ti,fun b _ _=>Nb b,fun b z=>absurd z (Nb b),e0.px,e0.w_⟩,
  rfl,e0.bare,Un.kept hk,⟨_,x.toInCall.ns,fun i y v h1 h2 h3=>?_⟩,fun y c h=>⟨_,x.cell y c h⟩,e0.aC.fresh (bS _),fun y c h=>?_,fun p hp=>absurd (show p∈([]:List (Addr × Obj)) from hp) (by simp),e0.aC.kept hk,?_⟩
 ·exact name_of_addr x.apart (PySem.mem_of_lookup h1) (PySem.mem_of_lookup h2)
 ·have hy:scope.names.lookup y=some .cell\/scope.names.lookup y=some .free:=hy
  rcases hy with hy|hy
  ·exact Wh hy
  ·exact absurd rfl (S.aU' _ (PySem.mem_of_lookup hy))
 ·exact kQ (x.above y c (PySem.mem_of_lookup h))
 ·have hi:i<vs.length:=by
   unfold start at h2
   by_cases hi:i<vs.length
   ·exact hi
   ·rw[AI (by simpa using hi)] at h2
    rw[Rh] at h2
    split at h2<;>cases h2
  have ha:vs[i]? = some v:=by
   unfold start at h2
   rw[FY (by simpa using hi),ox] at h2
   cases e:vs[i]? with
   |none=>rw[e] at h2;cases h2
   |some a=>rw[e] at h2;cases h2;rfl
  obtain⟨u,hu,rv⟩:=r.get ha
  have hp:ps[i]? = some y:=by
   rw[<- S.pre,List.getElem?_take_of_lt (by lia)];exact h1
  have Wi:ps.Nodup:=by rw[<- S.pre];exact S.nd.sublist (List.take_sublist _ _)
  refine⟨u,rv,?_⟩
  rcases S.par y (pd hp) with k|k
  ·exact .inl ⟨k,Wd Wi hp hu k⟩
  ·obtain⟨c,e⟩:=Wh (n:=s.heap.objs.size+1) k
   refine .inr ⟨.inl k,c,e,?_⟩
   have q:=x.cell y c e
   rw[Wg Wi hp hu (by show scope.names.lookup y≠_;rw[k];decide)] at q
   exact q
 ·exact e0.aC.fresh (kQ (x.above y c (PySem.mem_of_lookup h)))
 ·unfold start
  show _=N.length
  rw[kz,bT,Rj]
  lia
theorem Wj{P:Program}{K:PySem.W.Frag}{dV kV doc pm cS ct oc:Value}
  {N ps:List Str} (lk:K.lookup f=some ⟨oc,od,.func (PySem.W.fnOf name qual params body scope dV kV doc pm an cS ct),EK⟩) (oz:PySem.W.codeIn K cS qual=true) (S:kU N ps scope)
  (len:∀ vs H Q E,sp vs H Q E->vs.length=ps.length)
  (AZ:∀ (A:Around) (outer:List Env) (s:Shared) (H:Hp) (vs:List V) (Q:VK) (E:XK),ki k (A.deeper (envOfC qual scope s.heap.objs.size f cS))->sp vs H Q E ->
   ∃ t,nv (rg CX P w K mg base N qual scope f cS A outer s H E) body t/\t { nx:=fun _ H'=>Q .non H',rt:=Q } (start N vs) H) :
  hJ P w K mg base CX (k+1) f (PySem.W.fnOf name qual params body scope dV kV doc pm an cS ct) ps sp:=by
 refine⟨len,fun A outer s H args us vs Q E hr e0 hb r zk=>?_⟩
 have hl:=len _ _ _ _ zk
 have KX:K.In s.heap:=e0.mod.O6.keeps fun b o e=>(e0.bs b o e).1
 have lim:s.heap.NoLimit:=e0.mod.nolimit.keeps fun b o e=>(e0.bs b o e).1
 have aW':∀ y∈ps.zip us,scope.names.lookup y.1=some .local\/(scope.names.lookup y.1=some .cell/\((cellsFrom (s.heap.objs.size+1) scope.names []).lookup y.1).isSome=true):=fun⟨n,v⟩ hy=>by
  rcases S.par n (List.of_mem_zip hy).1 with q|q
  ·exact .inl q
  ·exact .inr ⟨q,PySem.W.cellsFrom_some _ _ _ (.inl q)⟩
 refine codeAny_call_function hr.depth (KX _ _ lk) rfl S.co S.gen rfl (PySem.W.codeRec_of KX oz) (hb _ _ _ _ ?_)
 refine wpAny_newFunctionEnv_cells S.kind aW' fun env he s1 x=>?_
 subst he
 refine⟨lim.keeps x.toInCall.keep,codeAny_func ?_⟩
 obtain⟨t,ht,hq⟩:=AZ A outer s H vs Q E (hr.deeper _) zk
 have I:Inv (rg CX P w K mg base N qual scope f cS A outer s H E) [] (start N vs) H s1:=aV' S hr.hd e0 hl r x
 refine oq (ht [] s1 (start N vs) H _ I hq) (fun fl s' hs=>?_) fun e s' hs=>hs
 have fin:∀ {aS:St} {H':Hp} {v:V} {u:Value},Inv (rg CX P w K mg base N qual scope f cS A outer s H E) [] aS H' s'->RelV v u->Q v H'->CE outer P w H s Q u s' :=
  fun {aS H' v u} J rv q=>⟨v,H',J.os,J.bare,J.base,J.aC,rv,q⟩
 cases fl with
 |ret u =>
  obtain⟨v,aS,H',J,rv,q⟩:=hs
  exact fin J rv q
 |next =>
  obtain⟨aS,H',J,q⟩:=hs
  exact fin (v:=V.non) (u:=Value.none) J rfl q
 |brk =>
  obtain⟨_,_,_,q⟩:=hs
  exact False.elim q
 |cont =>
  obtain⟨_,_,_,q⟩:=hs
  exact False.elim q
section
variable {X:Cx}{x:Str}{p pos:Pos}{e:Expr}{es:List Expr}{t:TA}{id T:String}{r:List V->Hp->VK->Prop}
def Se(r:List V->Hp->VK->Prop)(t:TA):TE:=fun σ H Q=>t σ H fun vs H1=>r vs H1 Q
theorem Sf (hc:kS X (.builtin id) r) (hg:Gl X x) (hm:X.mg x=none) (hv:bootBuiltins x=some (.builtin id)) (ha:PA X (e :: es) t) (hn:x ≠ "__name__" := by decide) (i5:(x == ("__debug__" : Str))=false:=by decide)
  (he:starEach (e :: es) X.env=(false,eval e X.env) :: starEach es X.env:=by rfl) (fi:(backTo pos (starEach es X.env)).any (·.1)=false:=by rfl):PE X (.Call (.Name x p) (e :: es) [] pos) (Se r t):=by
 intro pins s σ H Q I h
 refine wpAny_Call_Name_kw (AX I hg hm hv ?_ hn i5)
 exact PyProof.Rows.callWith_builtin1 (b5 (ha pos pins s σ H _ I h) fun us s1 b6=>L2.fE b6 fun vs H1 I1 r1 q1=>hc pins s1 σ H1 vs us Q I1 r1 q1) he fi
theorem aX' (hc:kS X (.type T) r) (hg:Gl X x) (hm:X.mg x=none) (hv:bootBuiltins x=some (.type T)) (ha:PA X (e :: es) t) (hn:x ≠ "__name__" := by decide) (i5:(x == ("__debug__" : Str))=false:=by decide)
  (he:starEach (e :: es) X.env=(false,eval e X.env) :: starEach es X.env:=by rfl) (fi:(backTo pos (starEach es X.env)).any (·.1)=false:=by rfl):PE X (.Call (.Name x p) (e :: es) [] pos) (Se r t):=by
 intro pins s σ H Q I h
 refine wpAny_Call_Name_kw (AX I hg hm hv ?_ hn i5)
 exact PyProof.Rows.callWith_type1 (b5 (ha pos pins s σ H _ I h) fun us s1 b6=>L2.fE b6 fun vs H1 I1 r1 q1=>hc pins s1 σ H1 vs us Q I1 r1 q1) he fi
end
end L2
namespace HT
open PySem PyProof.Rows
section
open PySem.SeqAt
open PySem.AutoSeq1 (wpAny_loadPart')
open PySem.MeetsSeq PySem.MeetsSeq2 PySem.MeetsSeq3
end
section
variable {prog:Program}{w:World}{A:Around}{E:Value->Shared->Prop}{s:Shared}
theorem aY'(ht:IsTup s.heap t vs.toArray)(hb:IsTup s.heap b ws.toArray)(hv:vs≠[])
  (h1:ws=[]->Q (.ref t) s) (h2:ws≠[]->Q (.ref s.heap.objs.size) { s with heap:=s.heap.push { cls:=.type "tuple",data:=.seq (vs++ws).toArray } })
  (hsz:vs.length+ws.length<=sizeLine):wpAny (model prog w) A (binaryOp .Add (.ref t) (.ref b)) Q E s:=by
 obtain⟨⟨cls,dd,data,sl⟩,ho,hc,n,hd⟩:=id ht
 obtain⟨⟨aZ',Pw,data2,Px⟩,zo,HM,n2,hd2⟩:=id hb
 simp only at hc hd HM hd2
 subst hc hd HM hd2
 have e:vs.toArray++ws.toArray=(vs++ws).toArray:=by simp
 by_cases hw:ws=[]
 ·exact concat_meets ⟨_,ho,rfl⟩ ⟨_,zo,rfl⟩ noFill_tuple_add seq_tuple_add PySem.F.slot_tuple_add PySem.F.entry_tuple_add (PySem.F.args_tuple_add_2 _ _)
   (tuple_addW1 t b vs.toArray ws.toArray n n2 dd Pw sl Px (by simpa using hv) (by simp[hw])) ⟨ho,zo,h1 hw⟩
 ·refine concat_meets ⟨_,ho,rfl⟩ ⟨_,zo,rfl⟩ noFill_tuple_add seq_tuple_add PySem.F.slot_tuple_add PySem.F.entry_tuple_add (PySem.F.args_tuple_add_2 _ _)
   (tuple_addW2 t b vs.toArray ws.toArray n n2 dd Pw sl Px (by simpa using hv) (by simpa using hw) (by rw[gy,gy];exact hsz)) ⟨ho,zo,?_⟩
  rw[e]
  exact h2 hw
def bI(n d:Nat):Option Int->Nat
 |none=>d
 |some v=>if v<0 then (v+(n:Int)).toNat else min v.toNat n
theorem ba'(n d:Nat)(hd:d<=n)(o:Option Int):bI n d o<=n:=by
 cases o with
 |none=>exact hd
 |some v =>
  show(if v<0 then (v+(n:Int)).toNat else min v.toNat n)<=n
  by_cases hv:v<0
  ·rw[if_pos hv];lia
  ·rw[if_neg hv];exact Nat.min_le_right _ _
theorem Wl(v:Int)(n d:Nat):(if v<0 then max (v+(n:Int)) 0 else min v (n:Int))=((bI n d (some v):Nat):Int):=by
 show(if v<0 then max (v+(n:Int)) 0 else min v (n:Int))=(((if v<0 then (v+(n:Int)).toNat else min v.toNat n):Nat):Int)
 by_cases hv:v<0
 ·simp only[if_pos hv];lia
 ·simp only[if_neg hv];lia
theorem bb'(lo hi:Option Int)(n:Nat):Builtin.Slice.sliceAdjust lo hi 1 (n:Int)=(((bI n 0 lo:Nat):Int),((bI n n hi:Nat):Int)):=by
 have h1:¬ ((1:Int)<0):=by decide
 unfold Builtin.Slice.sliceAdjust
 simp only[h1,if_false]
 refine Prod.ext ?_ ?_
 ·cases lo with
  |none=>rfl
  |some v=>exact Wl v n 0
 ·cases hi with
  |none=>rfl
  |some v=>exact Wl v n n
theorem bc'(i j:Nat):Builtin.Slice.slicePlaces (i:Int) (j:Int) 1=j-i:=by
 unfold Builtin.Slice.slicePlaces
 have h1:(1:Int)>0:=by exact qB _
 simp only[h1,if_true,Int.ediv_one]
 split<;>lia
theorem Wm(p:IsPart v o)(h:Q o s):wpAny (model prog w) A (Builtin.Slice.slicePartIndex v) Q E s:=by
 cases p with
 |none=>exact slicePart_none h
 |int i t=>exact slicePart_int h
theorem bd'{sl:Addr}{vl vu:Value}{lo hi:Option Int}{n:Nat}{Q:Int × Int × Nat->Shared->Prop}(hs:s.heap.IsSliceOf sl vl vu .none)(pl:IsPart vl lo)(pu:IsPart vu hi)
  (h:Q (((bI n 0 lo:Nat):Int),1,bI n n hi-bI n 0 lo) s):wpAny (model prog w) A (Builtin.Slice.sliceApplied (.ref sl) (pure (n:Int))) Q E s:=by
 obtain⟨os,Nc,mB,vE⟩:=id hs
 unfold Builtin.Slice.sliceApplied Builtin.Slice.sliceFields
 refine ah (ah (wpAny_field Nc vE (x:=vl) rfl (ah (wpAny_field Nc vE (x:=vu) rfl (ah (wpAny_field Nc vE (x:=.none) rfl (aI ?_)))))))
 refine ah (slicePart_none ?_)
 show wpAny _ _ (if ((1:Int) == 0)=true then _ else _) _ _ s
 rw[if_neg (by decide)]
 refine ah (Wm pl (ah (Wm pu (ah (aI ?_)))))
 show wpAny _ _ (match Builtin.Slice.sliceAdjust lo hi 1 (n:Int) with|(lo,hi)=>pure (lo,(1:Int),Builtin.Slice.slicePlaces lo hi 1)) _ _ s
 rw[bb' lo hi n]
 show wpAny _ _ (pure (((bI n 0 lo:Nat):Int),(1:Int),Builtin.Slice.slicePlaces ((bI n 0 lo:Nat):Int) ((bI n n hi:Nat):Int) 1)) _ _ s
 rw[bc']
 exact aI h
theorem be'(xs:Array Value)(i k:Nat):((List.range k).filterMap fun(m:Nat)=>xs[((i:Int)+(m:Int)*1).toNat]?).toArray=((xs.toList.drop i).take k).toArray:=by
 have e:(fun(m:Nat)=>xs[((i:Int)+(m:Int)*1).toNat]?)=fun m=>xs[i+m]? := by
  funext m
  have:((i:Int)+(m:Int)*1).toNat=i+m:=by exact(Nat.add_assoc ..).symm
  rw[this]
 rw[e]
 have:=pick_run xs i k
 rw[Ro] at this
 have e2:((fun x=>xs[x]?) ∘ fun x=>i+x)=fun m=>xs[i+m]? := rfl
 rw[e2] at this
 rw[this]
theorem bf'{lo hi:Option Int}(ht:IsTup s.heap t items)(hs:s.heap.IsSliceOf sl vl vu .none)(pl:IsPart vl lo)(pu:IsPart vu hi)
  (hw:¬ (bI items.size 0 lo=0/\bI items.size items.size hi=items.size))
  (h:Q (.ref s.heap.objs.size) { s with heap:=s.heap.push { cls:=.type "tuple",data:=.seq ((items.toList.drop (bI items.size 0 lo)).take (bI items.size items.size hi-bI items.size 0 lo)).toArray } })
  (hsz:items.size<=sizeLine):wpAny (model prog w) A (getItem (.ref t) (.ref sl)) Q E s:=by
 have Py:sizeOk (.seq ((items.toList.drop (bI items.size 0 lo)).take (bI items.size items.size hi-bI items.size 0 lo)).toArray):=by
  show((items.toList.drop (bI items.size 0 lo)).take (bI items.size items.size hi-bI items.size 0 lo)).toArray.size<=sizeLine
  rw[gy,mS,B6,vi]
  lia
 have hj:bI items.size items.size hi<=items.size:=ba' _ _ (bS _) hi
 obtain⟨os,Nc,mB,vE⟩:=id hs
 have hTs:s.TypeIs (.ref sl) "slice" := ⟨os,Nc,mB⟩
 unfold getItem
 try with_reducible refine wpAny_holding ?_
 first|refine ah (aI ?_)|skip
 refine ah (wpAny_sequenceKey ht.typeIs (by decide) ?_)
 refine ah (wpAny_callSpecial?_slot (name:=Str.ofString "__getitem__") ht.typeIs PyProof.Rows.slot_tuple_getitem
  (wpAny_call_entry PyProof.Rows.slot_tuple_getitem ht.typeIs entry_tuple_getitem ?_ (args_tuple_getitem _ _)))
 show wpAny _ _ (Builtin.Tuple.tupleItemsOf (.ref t) >>= _) _ _ s
 refine ah (tupleItemsOf_ ht ?_)
 refine ah (wpAny_typeOf hTs ?_)
 rw[if_pos (by decide)]
 refine ah (bd' hs pl pu ?_)
 have Pz:¬ ((((bI items.size 0 lo:Nat):Int) == 0 && (1:Int) == 1 && (bI items.size items.size hi-bI items.size 0 lo) == items.size)=true):=by
  intro q
  rw[kH,kH] at q
  have q1:((bI items.size 0 lo:Nat):Int)=0:=eq_of_beq q.1.1
  have q2:bI items.size items.size hi-bI items.size 0 lo=items.size:=eq_of_beq q.2
  exact hw ⟨by lia,by lia⟩
 show wpAny _ _ (if (((bI items.size 0 lo:Nat):Int) == 0 && (1:Int) == 1 && (bI items.size items.size hi-bI items.size 0 lo) == items.size)=true then _ else _) _ _ s
 rw[if_neg Pz,be']
 first
  |exact ah (m:=Builtin.Tuple.tupleExact _) (wpAny_newObj_type (aI ⟨_,rfl,aI h⟩) Py)
  |exact ah (m:=Builtin.Tuple.tupleExact _) (wpAny_newObj_type (ah (aI (aI ⟨_,rfl,aI h⟩))) Py)
  |exact ah (ah (m:=Builtin.Tuple.tupleExact _) (wpAny_newObj_type (aI (aI ⟨_,rfl,aI h⟩)) Py))
  |exact ah (ah (m:=Builtin.Tuple.tupleExact _) (wpAny_newObj_type (aI ⟨_,rfl,aI h⟩) Py))
end
end HT
namespace L2
open PySem PySem.Spec PyProof.Rows
abbrev TO:=St->Hp->(Option Int->Hp->Prop)->Prop
def PO(X:Cx)(e:Option Expr)(t:TO):Prop :=
 ∀ (pins:List (Addr × Obj)) (s:Shared) (σ:St) (H:Hp) (Q:Option Int->Hp->Prop),Inv X pins σ H s->t σ H Q ->
  wpAny (model X.prog X.w) X.A (evalPart e X.env) (fun u s'=>∃ o H',Inv X pins σ H' s'/\IsPart u o/\Q o H') X.xe s
def bh':TO:=fun _ H Q=>Q none H
def bi'(t:TE):TO:=fun σ H Q=>t σ H fun x H1=>∃ i,x=.int i/\Q (some i) H1
section
variable {X:Cx}{e:Expr}{te:TE}{lo hi:Option Expr}{tl th:TO}{pos p2:Pos}
theorem bj':PO X none bh':=by
 intro pins s σ H Q I h
 rw[evalPart_none]
 exact aI ⟨none,H,I,.none,h⟩
theorem bk'(h:PE X e te):PO X (some e) (bi' te):=by
 intro pins s σ H Q I hw
 rw[evalPart_some]
 refine b5 (h pins s σ H _ I hw) fun u s1 b6=>L2.fE b6 fun x H1 I1 r1 q1=>?_
 obtain⟨i,rfl,q⟩:=q1
 obtain⟨t,rfl⟩:=r1
 exact⟨some i,H1,I1,.int i t,q⟩
def HP(X:Cx)(r:V->Option Int->Option Int->Hp->VK->Prop):Prop :=
 ∀ (pins:List (Addr × Obj)) (s:Shared) (σ:St) (H:Hp) (x:V) (v vl vu:Value) (lo hi:Option Int) (sl:Addr) (Q:VK),Inv X pins σ H s->RelV x v->s.heap.IsSliceOf sl vl vu .none->IsPart vl lo->IsPart vu hi->r x lo hi H Q ->
  ∃ T id,typeLookup (.type T) "__getitem__" = pure (some (.builtin id))/\s.TypeIs v T/\wpAny (model X.prog X.w) X.A (getItem v (.ref sl)) (EP X pins σ Q) X.xe s
def tSl(r:V->Option Int->Option Int->Hp->VK->Prop)(te:TE)(tl th:TO):TE:=fun σ H Q=>te σ H fun x H1=>tl σ H1 fun l H2=>th σ H2 fun u H3=>r x l u H3 Q
theorem bm'(hr:HP X r)(he:PE X e te)(hl:PO X lo tl)(hu:PO X hi th):PE X (.Subscript e (.Slice lo hi none p2) pos) (tSl r te tl th):=by
 intro pins s σ H Q I h
 refine Subscript_ (b5 (he pins s σ H _ I h) fun v s1 b6=>L2.fE b6 fun x H1 I1 r1 q1=>?_)
 refine wpAny_Slice (b5 (hl pins s1 σ H1 _ I1 q1) fun vl s2 b6=>L2.fE b6 fun l H2 I2 pl q2=>b5 (hu pins s2 σ H2 _ I2 q2) fun vu s3 b6=>L2.fE b6 fun u H3 I3 pu q3=>?_)
 rw[evalPart_none]
 refine aI ?_
 have I4:Inv X pins σ H3 { s3 with heap:=s3.heap.push { cls:=.type "slice",data:=.fields #[vl,vu,.none] } }:=I3.kept (t':=s3.toks) fun b ob q=>eL _ q
 obtain⟨T,id,hT,ht,hg⟩:=hr pins { s3 with heap:=s3.heap.push { cls:=.type "slice",data:=.fields #[vl,vu,.none] } } σ H3 x v vl vu l u s3.heap.objs.size Q I4 r1 (Heap.IsSliceOf.new ..) pl pu q3
 show wpAny (model X.prog X.w) X.A (subscriptTail e (.Slice lo hi none p2) v (.ref s3.heap.objs.size)) (EP X pins σ Q) X.xe { s3 with heap:=s3.heap.push { cls:=.type "slice",data:=.fields #[vl,vu,.none] } }
 exact tail_any (ops:=[.ref s3.heap.objs.size,v]) ht hT hg (by with_unfolding_all rfl)
def A2(xs:List V)(lo hi:Option Int):List V:=(xs.drop (HT.bI xs.length 0 lo)).take (HT.bI xs.length xs.length hi-HT.bI xs.length 0 lo)
theorem Wn(xs:List V)(lo hi:Option Int):(A2 xs lo hi).length<=xs.length:=by
 unfold A2
 rw[mS,B6]
 lia
def Wo(K:PySem.W.Frag):V->Option Int->Option Int->Hp->VK->Prop:=fun x lo hi H Q=>∃ a xs,x=.ref a/\kg K H a xs /\
 ¬ (HT.bI xs.length 0 lo=0/\HT.bI xs.length xs.length hi=xs.length)/\∀ p,H p=none->Q (.ref p) (upd H p (.tup (A2 xs lo hi)))
theorem bn':HP X (Wo X.K):=by
 intro pins s σ H x v vl vu lo hi sl Q I rx hs pl pu h
 obtain⟨a,xs,rfl,hx,hw,q⟩:=h
 cases rx
 obtain⟨its,r,ht,hz⟩:=I.tuple hx
 have hlen:its.toArray.size=xs.length:=by rw[gy];exact r.length.symm
 refine⟨"tuple",_,PyProof.Rows.slot_tuple_getitem.lookup,ht.typeIs,?_⟩
 refine HT.bf' ht hs pl pu (by rw[hlen];exact hw) ?_ (by rw[hlen];exact hz)
 rw[hlen]
 refine⟨.ref s.heap.objs.size,_,I.laid (t':=s.toks) (o:=.tup (A2 xs lo hi)) (fun b ob q=>eL _ q) (bS _) ?_,rfl,q _ (I.aC.fresh (bS _))⟩
 exact⟨jI (Wn xs lo hi) hz,_,(r.drop (HT.bI xs.length 0 lo)).take (HT.bI xs.length xs.length hi-HT.bI xs.length 0 lo),IsTup.new _ _⟩
def Sg(K:PySem.W.Frag):R2:=fun x y H Q=>∃ a b xs ys,x=.ref a/\y=.ref b/\kg K H a xs/\kg K H b ys/\xs≠[]/\xs.length+ys.length<=sizeLine /\
 (ys=[]->Q (.ref a) H)/\(ys≠[]->∀ p,H p=none->Q (.ref p) (upd H p (.tup (xs++ys))))
theorem Vals.Sh(r:Vals xs us):us=[]↔xs=[]:=by
 cases r with
 |nil=>simp
 |cons _ _=>simp
theorem bo':dn X (binaryOp .Add) (Sg X.K):=by
 intro pins s σ H x y v u Q I rx ry h
 obtain⟨a,b,xs,ys,rfl,rfl,ha,hb,hx,hz,q1,q2⟩:=h
 cases rx
 cases ry
 obtain⟨its,r1,p1,_⟩:=I.tuple ha
 obtain⟨A3,r2,p2,_⟩:=I.tuple hb
 refine HT.aY' p1 p2 (fun z=>hx (r1.Sh.mp z)) (fun z=>⟨.ref a,H,I,rfl,q1 (r2.Sh.mp z)⟩) (fun z=>?_) (by rw[<- r1.length,<- r2.length];exact hz)
 refine⟨.ref s.heap.objs.size,_,I.laid (t':=s.toks) (o:=.tup (xs++ys)) (fun b ob q=>eL _ q) (bS _) ?_,rfl,q2 (fun w=>z (r2.Sh.mpr w)) _ (I.aC.fresh (bS _))⟩
 exact⟨by rw[kz];exact hz,_,r1.append r2,IsTup.new _ _⟩
end
def rh(n:Nat)(i:Int):Option Nat:=if 0<=i then (if i<n then some i.toNat else none) else if -(n:Int)<=i then some (i+n).toNat else none
def fR{α:Type}(xs:List α)(i:Int):Option α:=(rh xs.length i).bind fun j=>xs[j]?
theorem bp'(h:rh n i=some j):seqIndex? i n=some j/\j<n/\-(n:Int)<=i/\i<n:=by
 unfold rh at h
 by_cases h0:0<=i
 ·rw[if_pos h0] at h
  by_cases h1:i<n
  ·rw[if_pos h1] at h
   have e:i.toNat=j:=Option.some.inj h
   exact⟨by rw[seqIndex_of h0 h1,e],by lia,by lia,h1⟩
  ·rw[if_neg h1] at h;cases h
 ·rw[if_neg h0] at h
  by_cases h1:-(n:Int)<=i
  ·rw[if_pos h1] at h
   have e:(i+n).toNat=j:=Option.some.inj h
   exact⟨by rw[seqIndex_neg (by lia) h1,e],by lia,h1,by lia⟩
  ·rw[if_neg h1] at h;cases h
theorem Si{α:Type}{xs:List α}{i:Int}{v:α}(h:fR xs i=some v):∃ j,seqIndex? i xs.length=some j/\xs[j]? = some v/\j<xs.length/\-(xs.length:Int)<=i/\i<xs.length:=by
 unfold fR at h
 cases e:rh xs.length i with
 |none=>rw[e] at h;cases h
 |some j =>
  rw[e] at h
  obtain⟨h1,h2,h3,h4⟩:=bp' e
  exact⟨j,h1,h,h2,h3,h4⟩
theorem HV{α:Type}{xs:List α}{j:Nat}{v:α}(h:xs[j]? = some v):fR xs (j:Int)=some v:=by
 have hj:j<xs.length:=(lh.mp h).1
 have e:rh xs.length (j:Int)=some j:=by
  unfold rh
  rw[if_pos (by walk_at "s1"),if_pos (by lia)];simp
 unfold fR;rw[e];exact h
def Sj(b:Expr):Prop:=∀ o i,subscripted b false o i=operate [o,i] (getItem o i)
def vF(X:Cx)(r:R2):Prop :=
 ∀ (value slice:Expr) (pins:List (Addr × Obj)) (s:Shared) (σ:St) (H:Hp) (x y:V) (v u:Value) (Q:VK),Inv X pins σ H s->RelV x v->RelV y u->r x y H Q ->
  subscripted slice false v u=operate [v,u] (getItem v u)->wpAny (model X.prog X.w) X.A (subscriptTail value slice v u) (EP X pins σ Q) X.xe s
def Wq(X:Cx)(id:String)(r:V->List V->Hp->VK->Prop):Prop :=
 ∀ (pins:List (Addr × Obj)) (s:Shared) (σ:St) (H:Hp) (x:V) (xs:List V) (v:Value) (us:List Value) (Q:VK),Inv X pins σ H s->RelV x v->Vals xs us->r x xs H Q ->
  wpAny (model X.prog X.w) X.A (call (.builtin id) (v :: us)) (EP X pins σ Q) X.xe s
section
variable {X:Cx}{a b:Expr}{ta tb:TE}{pos:Pos}
theorem vF.or(h:vF X r)(h':vF X r'):vF X (fun x y H Q=>r x y H Q\/r' x y H Q):=by
 intro value slice pins s σ H x y v u Q I rx ry q hs
 rcases q with q|q
 ·exact h value slice pins s σ H x y v u Q I rx ry q hs
 ·exact h' value slice pins s σ H x y v u Q I rx ry q hs
theorem Wr{r:R2}(hr:vF X r)(ha:PE X a ta)(hb:PE X b tb)(hs:Sj b):PE X (.Subscript a b pos) (M0 r ta tb):=by
 intro pins s σ H Q I h
 exact Subscript_ (R4 ha hb I h fun v u s2 x y H2 I2 rx ry q=>hr a b pins s2 σ H2 x y v u Q I2 rx ry q (hs _ _))
def Ws(K:PySem.W.Frag):R2:=fun x y H Q=>∃ p xs i v,x=.ref p/\y=.int i/\eM K H p xs/\fR xs i=some v/\Q v H
def Wt(K:PySem.W.Frag):R2:=fun x y H Q=>∃ p xs i v,x=.ref p/\y=.int i/\kg K H p xs/\fR xs i=some v/\Q v H
def Wu:R2:=fun x y H Q=>∃ z i c,x=.str z/\y=.int i/\z.length<=sizeLine/\fR z.cps.toList i=some c/\Q (.str ⟨#[c]⟩) H
theorem bq':vF X (Ws X.K):=by
 intro value slice pins s σ H x y v u Q I rx ry h hs
 obtain⟨p,xs,i,z,rfl,rfl,hq,he,q⟩:=h
 cases rx
 obtain⟨t,rfl⟩:=ry
 obtain⟨its,r,pl,hz⟩:=I.list hq
 obtain⟨j,h1,h2,h3,h4,h5⟩:=Si he
 obtain⟨w,ew,kK⟩:=r.get h2
 have hl:=r.length
 have hn:=M8
 have fin:EP X pins σ Q w s:=⟨z,H,I,kK,q⟩
 by_cases h0:0<=i
 ·have hj:i.toNat=j:=by
   rw[seqIndex_of h0 h5] at h1
   exact Option.some.inj h1
  exact item_listR pl.isList h0 (by lia) (by rw[hj];simpa using ew) fin hs
 ·have hj:(i+(its.toArray.size:Int)).toNat=j:=by
   rw[seqIndex_neg (by exact Int.not_le.mp ‹_›) h4] at h1
   rw[gy,<- hl]
   exact Option.some.inj h1
  exact subscriptTail_builtinR (x:=w) pl.isList.typeIs slot_list_getitem.lookup
   (wpAny_getItem_list_neg (Q:=fun r s'=>r=w/\EP X pins σ Q r s') pl.isList (by exact Int.not_le.mp ‹_›) (by rw[gy]<;>lia) (by lia) (by rw[hj];simpa using ew) ⟨rfl,fin⟩) hs
theorem bs':vF X (Wt X.K):=by
 intro value slice pins s σ H x y v u Q I rx ry h hs
 obtain⟨p,xs,i,z,rfl,rfl,hq,he,q⟩:=h
 cases rx
 obtain⟨t,rfl⟩:=ry
 obtain⟨its,r,pl,hz⟩:=I.tuple hq
 obtain⟨j,h1,h2,h3,h4,h5⟩:=Si he
 obtain⟨w,ew,kK⟩:=r.get h2
 have hl:=r.length
 have hn:=M8
 have fin:EP X pins σ Q w s:=⟨z,H,I,kK,q⟩
 exact subscriptTail_builtinR (x:=w) pl.typeIs slot_tuple_getitem.lookup
  (getItem_tuple (j:=j) (Q:=fun r s'=>r=w/\EP X pins σ Q r s') pl (by lia) (by lia) (by rw[gy,<- hl];exact h1) (by simpa using ew) ⟨rfl,fin⟩) hs
theorem bt':vF X Wu:=by
 intro value slice pins s σ H x y v u Q I rx ry h hs
 obtain⟨z,i,c,rfl,rfl,hz,he,q⟩:=h
 obtain⟨t,rfl⟩:=rx
 obtain⟨t',rfl⟩:=ry
 obtain⟨j,h1,h2,h3,h4,h5⟩:=Si he
 have hl:z.cps.toList.length=z.length:=by simp[Str.length]
 rw[hl] at h1 h4 h5
 have hn:=M8
 exact tail_any (typeIs_str s z t) slot_str_getitem.lookup (getItem_str (c:=c) (by
  have e1:decide (i < -(2 ^ 63:Int))=false:=decide_eq_false (by lia)
  have e2:decide (i >= 2 ^ 63)=false:=decide_eq_false (by lia)
  rw[e1,e2,Bool.or_false]) (by rw[h1];simpa using h2) ⟨.str ⟨#[c]⟩,H,I.tok _,⟨_,rfl⟩,q⟩) hs
def rIx(K:PySem.W.Frag):R2:=fun x y H Q=>Ws K x y H Q\/Wt K x y H Q\/Wu x y H Q
theorem bv':vF X (rIx X.K):=bq'.or (bs'.or bt')
theorem bw'(lo hi:Option Int)(n:Nat):(sliceBounds lo hi none n).1=((HT.bI n 0 lo:Nat):Int)/\(sliceBounds lo hi none n).2.1=((HT.bI n n hi:Nat):Int)/\(sliceBounds lo hi none n).2.2=1:=by
 refine⟨?_,?_,rfl⟩
 ·cases lo with
  |none=>simp[sliceBounds,HT.bI]
  |some i =>
   simp only[sliceBounds,HT.bI,Option.getD_none,show(1:Int)>0 by decide,if_true]
   by_cases h:i<0
   ·simp only[h,if_true]<;>lia
   ·simp only[h,if_false]<;>lia
 ·cases hi with
  |none=>simp[sliceBounds,HT.bI]
  |some i =>
   simp only[sliceBounds,HT.bI,Option.getD_none,show(1:Int)>0 by decide,if_true]
   by_cases h:i<0
   ·simp only[h,if_true]<;>lia
   ·simp only[h,if_false]<;>lia
theorem bx'(its:List Value)(lo hi:Option Int):slicePick its.toArray lo hi none=((its.drop (HT.bI its.length 0 lo)).take (HT.bI its.length its.length hi-HT.bI its.length 0 lo)).toArray:=by
 obtain⟨h1,h2,h3⟩:=bw' lo hi its.toArray.size
 unfold slicePick
 rw[h1,h2,h3]
 simp only[sliceRange_one,pick_run,gy]<;>rfl
def by'(K:PySem.W.Frag):V->Option Int->Option Int->Hp->VK->Prop:=fun x lo hi H Q=>∃ a xs,x=.ref a/\eM K H a xs/\∀ p,H p=none->Q (.ref p) (upd H p (.lst (A2 xs lo hi)))
theorem bz':HP X (by' X.K):=by
 intro pins s σ H x v vl vu lo hi sl Q I rx hs pl pu h
 obtain⟨a,xs,rfl,hx,q⟩:=h
 cases rx
 obtain⟨its,r,ht,hz⟩:=I.list hx
 have hlen:=r.length
 refine⟨"list",_,slot_list_getitem.lookup,ht.isList.typeIs,?_⟩
 refine wpAny_getItem_list_slice ht.isList hs pl pu .none (by simp) ?_ (by rw[gy]<;>lia)
 rw[bx',<- hlen]
 refine⟨.ref s.heap.objs.size,_,I.laid (t':=s.toks) (o:=.lst (A2 xs lo hi)) (fun b ob q=>eL _ q) (bS _) ?_,rfl,q _ (I.aC.fresh (bS _))⟩
 exact⟨jI (Wn xs lo hi) hz,_,0,(r.drop (HT.bI xs.length 0 lo)).take (HT.bI xs.length xs.length hi-HT.bI xs.length 0 lo),g9 _ rfl⟩
def zt:V->Bool
 |.non=>true
 |.bl _=>true
 |.int _=>true
 |.str _=>true
 |_=>false
def A4:V->V->Bool
 |.non,.non=>true
 |.bl a,.bl b=>a == b
 |.bl a,.int b=>(if a then 1 else 0) == b
 |.int a,.bl b=>a == (if b then 1 else 0)
 |.int a,.int b=>a == b
 |.str a,.str b=>a == b
 |_,_=>false
theorem bA'(ry:RelV y u)(rx:RelV x v)(fy:zt y=true)(fx:zt x=true):SeqAt.EqAt A s u v (A4 y x):=by
 cases y with
 |non =>
  cases ry
  cases x with
  |non=>cases rx;exact SeqAt.EqAt.same _
  |bl b=>cases rx;exact SeqAt.EqAt.none_bool b
  |int b=>obtain⟨t,rfl⟩:=rx;exact SeqAt.EqAt.none_int b t
  |str b=>obtain⟨t,rfl⟩:=rx;exact SeqAt.EqAt.none_str b t
  |_=>exact absurd (show false=true from fx) ja
 |bl a =>
  cases ry
  cases x with
  |non=>cases rx;exact SeqAt.EqAt.bool_none a
  |bl b=>cases rx;exact SeqAt.EqAt.bool_bool a b
  |int b=>obtain⟨t,rfl⟩:=rx;exact SeqAt.EqAt.bool_int a b t
  |str b=>obtain⟨t,rfl⟩:=rx;exact SeqAt.EqAt.bool_str a b t
  |_=>exact absurd (show false=true from fx) ja
 |int a =>
  obtain⟨t',rfl⟩:=ry
  cases x with
  |non=>cases rx;exact SeqAt.EqAt.int_none a t'
  |bl b=>cases rx;exact SeqAt.EqAt.int_bool a t' b
  |int b=>obtain⟨t,rfl⟩:=rx;exact SeqAt.EqAt.int_int a t' b t
  |str b=>obtain⟨t,rfl⟩:=rx;exact SeqAt.EqAt.int_str a t' b t
  |_=>exact absurd (show false=true from fx) ja
 |str a =>
  obtain⟨t',rfl⟩:=ry
  cases x with
  |non=>cases rx;exact SeqAt.EqAt.str_none a t'
  |bl b=>cases rx;exact SeqAt.EqAt.str_bool a t' b
  |int b=>obtain⟨t,rfl⟩:=rx;exact SeqAt.EqAt.str_int a t' b t
  |str b=>obtain⟨t,rfl⟩:=rx;exact SeqAt.EqAt.str_str a t' b t
  |_=>exact absurd (show false=true from fx) ja
 |_=>exact absurd (show false=true from fy) ja
def ri(x:V)(u:Value):Bool:=match u with
 |.none=>A4 .non x
 |.bool b=>A4 (.bl b) x
 |.int i _=>A4 (.int i) x
 |.str z _=>A4 (.str z) x
 |_=>false
theorem Wv(r:RelV y u)(f:zt y=true):ri x u=A4 y x:=by
 cases y with
 |non=>cases r;rfl
 |bl b=>cases r;rfl
 |int i=>obtain⟨t,rfl⟩:=r;rfl
 |str z=>obtain⟨t,rfl⟩:=r;rfl
 |_=>exact absurd (show false=true from f) ja
theorem Nf:∀ {xs:List V} {us:List Value},Vals xs us->xs.all zt=true->us.any (ri x)=xs.any fun y=>A4 y x
 |_,_,.nil,_=>rfl
 |y :: xs,u :: us,.cons r t,f=>by
  rw[B8,kH] at f
  rw[B9,B9,Wv r f.1,Nf t f.2]
theorem Ng(rx:RelV x v)(fx:zt x=true):∀ {xs:List V} {us:List Value},Vals xs us->xs.all zt=true->∀ u∈us,SeqAt.EqAt A s u v (ri x u)
 |_,_,.nil,_=>fun u hu=>by cases hu
 |y :: xs,u :: us,.cons r t,f=>fun u' hu=>by
  rw[B8,kH] at f
  rcases dA.mp hu with rfl|hu
  ·rw[Wv r f.1];exact bA' r rx f.1 fx
  ·exact Ng rx fx t f.2 u' hu
def PB(x:V)(xs:List V):Bool:=xs.any fun y=>A4 y x
def Nh(K:PySem.W.Frag)(neg:Bool):R2:=fun x y H Q=>∃ p xs,y=.ref p/\(eM K H p xs\/kg K H p xs)/\zt x=true/\xs.all zt=true/\Q (.bl (if neg then !PB x xs else PB x xs)) H
theorem bB':dn X (compareOp .In) (Nh X.K false):=by
 intro pins s σ H x y v u Q I rx ry h
 obtain⟨p,xs,rfl,hq,fx,fs,q⟩:=h
 cases ry
 rcases hq with hq|hq
 ·obtain⟨its,r,pl,hz⟩:=I.list hq
  refine SeqAt.in_listAt (ri x) pl.isList (fun w hw=>Ng rx fx r fs w (by simpa using hw)) ⟨.bl _,H,I,rfl,?_⟩
  rw[show its.toArray.any (ri x)=its.any (ri x) by simp,Nf r fs]
  exact q
 ·obtain⟨its,r,pl,hz⟩:=I.tuple hq
  refine SeqAt.in_tupleAt (ri x) pl (fun w hw=>Ng rx fx r fs w (by simpa using hw)) ⟨.bl _,H,I,rfl,?_⟩
  rw[show its.toArray.any (ri x)=its.any (ri x) by simp,Nf r fs]
  exact q
theorem bC':dn X (compareOp .NotIn) (Nh X.K true):=by
 intro pins s σ H x y v u Q I rx ry h
 obtain⟨p,xs,rfl,hq,fx,fs,q⟩:=h
 cases ry
 rcases hq with hq|hq
 ·obtain⟨its,r,pl,hz⟩:=I.list hq
  refine SeqAt.notIn_listAt (ri x) pl.isList (fun w hw=>Ng rx fx r fs w (by simpa using hw)) ⟨.bl _,H,I,rfl,?_⟩
  rw[show its.toArray.any (ri x)=its.any (ri x) by simp,Nf r fs]
  exact q
 ·obtain⟨its,r,pl,hz⟩:=I.tuple hq
  refine SeqAt.notIn_tupleAt (ri x) pl (fun w hw=>Ng rx fx r fs w (by simpa using hw)) ⟨.bl _,H,I,rfl,?_⟩
  rw[show its.toArray.any (ri x)=its.any (ri x) by simp,Nf r fs]
  exact q
theorem kS.or(h:kS X f r)(h':kS X f r'):kS X f (fun xs H Q=>r xs H Q\/r' xs H Q):=by
 intro pins s σ H xs us Q I rs q
 rcases q with q|q
 ·exact h pins s σ H xs us Q I rs q
 ·exact h' pins s σ H xs us Q I rs q
theorem bD':kS X (.type "list") (fun xs H Q=>∃ p ys,xs=[.ref p]/\(eM X.K H p ys\/kg X.K H p ys)/\∀ l,H l=none->Q (.ref l) (upd H l (.lst ys))):=by
 intro pins s σ H xs us Q I r h
 obtain⟨p,ys,rfl,hq,q⟩:=h
 obtain⟨u,rfl,rx⟩:=vals1 r
 cases rx
 have fin:∀ (its:List Value),Vals ys its->ys.length<=sizeLine->∀ (h':Heap) (c':Nat),(∀ b o',s.heap.get? b=some o'->h'.get? b=some o') ->
   h'.get? s.heap.objs.size=some { cls:=.type "list",dict:=none,data:=.seq its.toArray c',slots:=#[] }->EP X pins σ Q (.ref s.heap.objs.size) { s with heap:=h' }:=fun its r' hz h' c' kp e =>
  ⟨.ref s.heap.objs.size,_,I.laid (t':=s.toks) kp (bS _) (show eJ X.prog X.w _ h' _ (.lst ys) from⟨hz,its,c',r',e⟩),rfl,q _ (I.aC.fresh (bS _))⟩
 rcases hq with hq|hq
 ·obtain⟨its,r',pl,hz⟩:=I.list hq
  have hlen:=r'.length
  obtain⟨o,ho,hc,n,hd⟩:=pl.isList
  exact call_list_seq p (.inl rfl) ho hc hd (fun h' c' kp e=>fin its r' hz h' c' kp e) (by simp only[gy]<;>lia)
 ·obtain⟨its,r',pl,hz⟩:=I.tuple hq
  have hlen:=r'.length
  obtain⟨o,ho,hc,n,hd⟩:=pl
  exact call_list_seq p (.inr rfl) ho hc hd (fun h' c' kp e=>fin its r' hz h' c' kp e) (by simp only[gy]<;>lia)
def PC(K:PySem.W.Frag)(T:String)(x:V)(H:Hp):Prop:=match x with
 |.str _=>T = "str"
 |.int _=>T = "int"
 |.ref p=>(T = "list"/\∃ xs,eM K H p xs)\/(T = "tuple"/\∃ o,K.lookup p=some o/\o.cls=.type "tuple"/\o.dict=none) \/
   (T = "dict"/\((∃ kvs,H p=some (.dK kvs))\/∃ kvs,H p=some (.dT kvs)))\/(T = "set"/\∃ S n,H p=some (.set S n))
 |_=>False
theorem Ww{T:String}(I:Inv X pins σ H s)(r:RelV x v)(ty:PC X.K T x H) :
  s.TypeIs v T/\∀ a,v=.ref a->∃ ob,s.heap.get? a=some ob/\ob.dict=none:=by
 cases x with
 |str z =>
  obtain⟨t,rfl⟩:=r
  cases (show T = "str" from ty)
  exact⟨typeIs_str s z t,fun _ e=>nomatch e⟩
 |int i =>
  obtain⟨t,rfl⟩:=r
  cases (show T = "int" from ty)
  exact⟨typeIs_int s i t,fun _ e=>nomatch e⟩
 |ref p =>
  cases r
  rcases ty with⟨rfl,xs,hq⟩|⟨rfl,o,hk,hc,hd⟩|⟨rfl,hk⟩|⟨rfl,S,n,hk⟩
  ·obtain⟨its,_,pl,_⟩:=I.list hq
   refine⟨pl.isList.typeIs,fun a e=>?_⟩
   cases e
   obtain⟨o,n,e,c,hd,_⟩:=pl
   exact⟨o,e,hd⟩
  ·refine⟨⟨o,I.kf p o hk,hc⟩,fun a e=>?_⟩
   cases e
   exact⟨o,I.kf _ o hk,hd⟩
  ·have z:∃ o,s.heap.get? p=some o/\o.ExactDict:=by
    rcases hk with⟨kvs,hk⟩|⟨kvs,hk⟩
    ·obtain⟨_,_,_,_,o,_,_,e,ex,_⟩:=I.aC p _ hk
     exact⟨o,e,ex⟩
    ·obtain⟨_,_,_,_,o,_,_,e,ex,_⟩:=I.aC p _ hk
     exact⟨o,e,ex⟩
   obtain⟨o,e,ex⟩:=z
   refine⟨⟨o,e,ex.1⟩,fun a e2=>?_⟩
   cases e2
   exact⟨o,e,ex.2.1⟩
  ·obtain⟨o,_,_,_,e,ex,_⟩:=I.aC p _ hk
   refine⟨⟨o,e,ex.1⟩,fun a e2=>?_⟩
   cases e2
   exact⟨o,e,ex.2.1⟩
 |_=>exact False.elim ty
def bE'(K:PySem.W.Frag)(T:String)(r:V->List V->Hp->VK->Prop)(to:TE):TE:=fun σ H Q=>to σ H fun x H1=>PC K T x H1/\r x [] H1 Q
def tBM(K:PySem.W.Frag)(T:String)(r:V->List V->Hp->VK->Prop)(to:TE)(t:TA):TE:=fun σ H Q=>to σ H fun x H1=>PC K T x H1/\t σ H1 fun xs H2=>r x xs H2 Q
variable {o e:Expr}{es:List Expr}{to:TE}{t:TA}{name:Str}{apos dy:Pos}{T id:String}{r:V->List V->Hp->VK->Prop}
theorem bG' (pa:PlainAttrs T) (slot:Slot T name id) (Sn:typeOf (.builtin id)=pure (.type "method_descriptor")) (hm:Wq X id r) (ho:PE X o to)
  (tF:attributeBase o name X.env (eval o X.env)=eval o X.env:=by rfl) (hline:(apos.endLine == dy.line)=true:=by rfl):PE X (.Call (.Attribute o name apos) [] [] dy) (bE' X.K T r to):=by
 intro pins s σ H Q I h
 refine wpAny_Call_method0_late tF hline (b5 (ho pins s σ H _ I h) fun v s1 cE=>?_)
 obtain⟨x,H1,I1,r1,ty,q1⟩:=cE
 obtain⟨h1,h2⟩:=Ww I1 r1 ty
 exact⟨T,id,pa,slot,Sn,h1,h2,Calls.callWith_builtin rfl (PySem.evalArgs_none (hm pins s1 σ H1 x [] v [] Q I1 r1 .nil q1))⟩
theorem PD (pa:PlainAttrs T) (slot:Slot T name id) (Sn:typeOf (.builtin id)=pure (.type "method_descriptor")) (hm:Wq X id r) (ho:PE X o to) (ha:PA X (e :: es) t)
  (tF:attributeBase o name X.env (eval o X.env)=eval o X.env:=by rfl)
  (xh:((backTo dy (starEach (e :: es) X.env)).all (fun x=>!x.1) && (backToKw dy (keywordEach [] X.env)).all (fun x=>x.1.isSome)
   && decide ((e :: es).length+([]:List Keyword).length+(if ([]:List Keyword).isEmpty then 0 else 1)<30))=true:=by rfl)
  (hline:(apos.endLine == dy.line)=true:=by rfl) (hs:starEach (e :: es) X.env=(false,eval e X.env) :: starEach es X.env:=by rfl) (A5:(backTo dy (starEach es X.env)).any (·.1)=false:=by rfl) :
  PE X (.Call (.Attribute o name apos) (e :: es) [] dy) (tBM X.K T r to t):=by
 intro pins s σ H Q I h
 refine wpAny_Call_method_late tF xh hline rfl (b5 (ho pins s σ H _ I h) fun v s1 cE=>?_)
 obtain⟨x,H1,I1,r1,ty,q1⟩:=cE
 obtain⟨h1,h2⟩:=Ww I1 r1 ty
 refine⟨T,id,pa,slot,Sn,h1,h2,?_⟩
 have hA:=ha dy pins s1 σ H1 _ I1 q1
 rw[hs] at hA ⊢
 refine Calls.callWith_builtin (by show(false || (backTo dy (starEach es X.env)).any (·.1))=false;rw[A5]<;>rfl) (Calls.evalArgs_plain ?_)
 exact b5 hA fun us s2 b6=>L2.fE b6 fun vs H2 I2 r2 q2=>hm pins s2 σ H2 x vs v us Q I2 r1 r2 q2
end
def PF(X:Cx)(id:String)(r:V->List V->Hp->VK->Prop):Prop :=
 ∀ (pins:List (Addr × Obj)) (s:Shared) (σ:St) (H:Hp) (x:V) (xs:List V) (v:Value) (us:List Value) (Q:VK),Inv X pins σ H s->RelV x v->Vals xs us->r x xs H Q ->
  wpAny (model X.prog X.w) X.A (call (.builtin id) (v :: us)) (EP X pins σ Q) X.xe s
theorem Vals.one{x:V}{us:List Value}(h:Vals [x] us):∃ u,us=[u]/\RelV x u:=by
 cases h
 rename_i r h
 cases h
 exact⟨_,rfl,‹_›⟩
theorem Vals.two{x y:V}{us:List Value}(h:Vals [x,y] us):∃ u v,us=[u,v]/\RelV x u/\RelV y v:=by
 cases h
 rename_i r h
 cases h
 rename_i q h
 cases h
 exact⟨_,_,rfl,‹_›,‹_›⟩
theorem Vals.zero:∀ {us:List Value},Vals [] us->us=[]
 |_,.nil=>rfl
theorem Vals.dropLast(h:Vals xs us):Vals xs.dropLast us.dropLast:=by
 induction h with
 |nil=>exact .nil
 |cons r t ih =>
  cases t with
  |nil=>exact .nil
  |cons q t'=>exact .cons r ih
theorem Vals.eraseIdx:∀ {xs:List V} {us:List Value} (i:Nat),Vals xs us->Vals (xs.eraseIdx i) (us.eraseIdx i)
 |_,_,_,.nil=>.nil
 |_,_,0,.cons _ t=>t
 |_,_,i+1,.cons r t=>.cons r (Vals.eraseIdx i t)
theorem Vals.rep(h:Vals xs us):∀ k:Nat,Vals (List.replicate k xs).flatten (List.replicate k us).flatten
 |0=>.nil
 |k+1=>by
  rw[LV,LV,LZ,LZ]
  exact Vals.append h (Vals.rep h k)
theorem bH'{α:Type}(l:List α):l.eraseIdx (l.length-1)=l.dropLast:=by
 induction l with
 |nil=>rfl
 |cons a r ih =>
  cases r with
  |nil=>rfl
  |cons b r =>
   have e:(a :: b :: r).length-1=((b :: r).length-1)+1:=by
    have h1:(a :: b :: r).length=r.length+2:=rfl
    have h2:(b :: r).length=r.length+1:=rfl
    lia
   rw[e,List.eraseIdx_cons_succ,ih]
   all_goals rfl
theorem Wx{α:Type}:∀ (l:List α) (i:Nat),(l.eraseIdx i).length<=l.length
 |[],_=>bS _
 |_ :: _,0=>Cb _
 |_ :: r,i+1=>Nat.succ_le_succ (Wx r i)
section
variable {X:Cx}{pins:List (Addr × Obj)}{σ:St}{H:Hp}{s:Shared}{l:Addr}{xs ys:List V}
theorem Inv.PH{its its':List Value}{n:Nat}{f:Array Value->Array Value}{t':Nat}(I:Inv X pins σ H s)(hH:H l=some (.lst xs))
  (e:s.heap.get? l=some { cls:=.type "list",data:=.seq its.toArray n }) (hf:f its.toArray=its'.toArray) (hv:Vals ys its') (hz:ys.length<=sizeLine) :
  Inv X pins σ (upd H l (.lst ys)) { s with heap:=s.heap.update l (Obj.mapSeq f),toks:=t' }:=by
 have q:=PySem.IsL.update e f
 rw[hf] at q
 refine I.write (x:=l) (e:=l) (by rw[hH];exact trivial) (.inl rfl) (fun b' u hb hu=>(yy s.heap (Obj.mapSeq f) (Ne.symm hb)).trans hu) ⟨_,q⟩ ?_
 exact⟨hz,its',_,hv,q⟩
theorem Inv.Wy(I:Inv X pins σ H s)(hv:Vals ys its)(hz:ys.length<=sizeLine) :
  Inv X pins σ (upd H s.heap.objs.size (.lst ys)) { s with heap:=s.heap.push { cls:=.type "list",data:=.seq its.toArray },toks:=t' } :=
 I.laid (fun _ _ q=>eL _ q) (bS _) ⟨hz,its,0,hv,g9 _ rfl⟩
theorem Inv.fresh(I:Inv X pins σ H s):H s.heap.objs.size=none:=I.aC.fresh (bS _)
theorem Inv.Ni (I:Inv X pins σ H s) (hH:H l=some (.lst xs)):xs.length<=sizeLine/\∃ (its:List Value) (n:Nat),Vals xs its/\xs.length=its.length/\s.heap.get? l=some { cls:=.type "list",data:=.seq its.toArray n }:=by
 obtain⟨z,its,n,r,e⟩:=I.aC l _ hH
 exact⟨z,its,n,r,r.length,e⟩
theorem bI'(h:n<=sizeLine):Builtin.List.listTooLong n=false:=by
 unfold Builtin.List.listTooLong
 exact decide_eq_false (by lia)
end
section
variable {X:Cx}
def Wz:V->List V->Hp->VK->Prop:=fun x vs H Q=>∃ l xs y,x=.ref l/\vs=[y]/\H l=some (.lst xs)/\xs.length<sizeLine/\Q .non (upd H l (.lst (xs++[y])))
theorem Sq:PF X "list.append" Wz:=by
 intro pins s σ H x vs v us Q I rx rv h
 obtain⟨l,xs,y,rfl,rfl,hH,hz,q⟩:=h
 cases rx
 obtain⟨u,rfl,ru⟩:=rv.one
 obtain⟨z,its,n,r,hl,e⟩:=I.Ni hH
 refine call_meets F.slot_list_append ⟨_,e,rfl⟩ F.entry_list_append (F.args_list_append_2 _ _) (PySem.list_append l its.toArray n u (by rw[gy];lia)) ⟨e,?_⟩
 refine⟨.non,_,I.PH (its':=its++[u]) hH e (by simp) (r.append (.cons ru .nil)) ?_,rfl,q⟩
 rw[kz,LP]
 assumption
def bJ':V->List V->Hp->VK->Prop:=fun x vs H Q=>∃ l b xs zs,x=.ref l/\vs=[.ref b]/\H l=some (.lst xs)/\H b=some (.lst zs)/\xs.length+zs.length<=sizeLine/\Q .non (upd H l (.lst (xs++zs)))
theorem bK':PF X "list.extend" bJ':=by
 intro pins s σ H x vs v us Q I rx rv h
 obtain⟨l,b,xs,zs,rfl,rfl,hH,hB,hz,q⟩:=h
 cases rx
 obtain⟨u,rfl,ru⟩:=rv.one
 cases ru
 obtain⟨z,its,n,r,hl,e⟩:=I.Ni hH
 obtain⟨z2,A3,n2,r2,vS,e2⟩:=I.Ni hB
 have hsz:its.toArray.size+A3.toArray.size<=sizeLine:=by rw[gy,gy];lia
 have bL':¬ (!its.toArray.isEmpty && Builtin.List.listTooLong (its.toArray.size+A3.toArray.size))=true:=by
  rw[bI' hsz,Bool.and_false]
  exact ja
 refine call_meets F.slot_list_extend ⟨_,e,rfl⟩ F.entry_list_extend (F.args_list_extend_2 _ _)
  (AutoSeq1.list_extend_list_list_0 l its.toArray n b A3.toArray n2 bL' (by rw[gy];lia) (by lia)) ⟨e,e2,?_⟩
 refine⟨.non,_,I.PH (its':=its++A3) hH e (by simp) (r.append r2) ?_,rfl,q⟩
 rw[kz]
 lia
def bM':V->List V->Hp->VK->Prop:=fun x vs H Q=>∃ l xs y,x=.ref l/\vs=[]/\H l=some (.lst xs)/\xs[xs.length-1]? = some y/\Q y (upd H l (.lst xs.dropLast))
theorem bN':PF X "list.pop" bM':=by
 intro pins s σ H x vs v us Q I rx rv h
 obtain⟨l,xs,y,rfl,rfl,hH,hy,q⟩:=h
 cases rx
 have hus:=rv.zero
 subst hus
 obtain⟨z,its,n,r,hl,e⟩:=I.Ni hH
 obtain⟨u,hu,ru⟩:=r.get hy
 have hy':its.toArray[its.toArray.size-1]? = some u:=by
  show its.toArray[its.length-1]? = some u
  rw[<- mw,<- hl]
  exact hu
 refine call_meets F.slot_list_pop ⟨_,e,rfl⟩ F.entry_list_pop (F.args_list_pop_1 _) (MeetsSeq.list_pop_last l its.toArray n u hy' (by rw[gy];lia)) ⟨e,?_⟩
 refine⟨y,_,I.PH (its':=its.dropLast) hH e ?_ r.dropLast ?_,ru,q⟩
 ·show its.toArray.eraseIdxIfInBounds (its.toArray.size-1)=its.dropLast.toArray
  rw[gy,Vy,bH']
 ·rw[List.length_dropLast]
  lia
def bQ':V->List V->Hp->VK->Prop:=fun x vs H Q=>∃ l xs i k y,x=.ref l/\vs=[.int i]/\H l=some (.lst xs)/\-(2 ^ 63)<=i/\i<2 ^ 63/\seqIndex? i xs.length=some k/\xs[k]? = some y/\Q y (upd H l (.lst (xs.eraseIdx k)))
theorem bR':PF X "list.pop" bQ':=by
 intro pins s σ H x vs v us Q I rx rv h
 obtain⟨l,xs,i,k,y,rfl,rfl,hH,h1,h2,hk,hy,q⟩:=h
 cases rx
 obtain⟨u,rfl,ru⟩:=rv.one
 obtain⟨t,rfl⟩:=ru
 obtain⟨z,its,n,r,hl,e⟩:=I.Ni hH
 obtain⟨w,hw,kK⟩:=r.get hy
 refine call_meets F.slot_list_pop ⟨_,e,rfl⟩ F.entry_list_pop (F.args_list_pop_2 _ _)
  (MeetsSeq.list_pop_at l its.toArray n i t k w (fitsIndex_both h1 h2) (by rw[gy,<- hl];exact hk) (by rw[<- mw];exact hw) (by rw[gy];lia)) ⟨e,?_⟩
 refine⟨y,_,I.PH (its':=its.eraseIdx k) hH e ?_ (r.eraseIdx k) ?_,kK,q⟩
 ·show its.toArray.eraseIdxIfInBounds k=(its.eraseIdx k).toArray
  rw[Vy]
 ·have:=Wx xs k
  lia
theorem len_rep{α:Type}(xs:List α)(k:Nat):(List.replicate k xs).flatten.length=k*xs.length:=by
 induction k with
 |zero=>simp
 |succ k ih=>rw[LV,LZ,kz,ih,Nat.succ_mul,L8]
end
section
set_option maxRecDepth 100000 in
end
section
variable {κ:Type}[DecidableEq κ]
def fS(kvs:List (κ × V))(k:κ):Option V:=(kvs.find? fun kv=>decide (kv.1=k)).map (·.2)
def putK(kvs:List (κ × V))(k:κ)(v:V):List (κ × V) :=
 if (kvs.any fun kv=>decide (kv.1=k))=true then kvs.map (fun kv=>if kv.1=k then (kv.1,v) else kv) else kvs++[(k,v)]
theorem tI{p:κ × V}{r:List (κ × V)}{k:κ}(e:p.1=k):fS (p :: r) k=some p.2:=by simp[fS,GL,e]
theorem tJ{p:κ × V}{r:List (κ × V)}{k:κ}(e:¬ p.1=k):fS (p :: r) k=fS r k:=by simp[fS,GL,e]
theorem Nj(k:κ):∀ kvs:List (κ × V),(kvs.any fun kv=>decide (kv.1=k))=(fS kvs k).isSome
 |[]=>rfl
 |p :: r=>by
  rw[B9]
  by_cases e:p.1=k
  ·simp only[tI e,decide_eq_true e,Bool.true_or,Option.isSome_some]
  ·rw[tJ e,decide_eq_false e,Bool.false_or];exact Nj k r
theorem WB(k j:κ)(y:V):∀ kvs:List (κ × V),fS (kvs.map fun kv=>if kv.1=k then (kv.1,y) else kv) j=(fS kvs j).map fun x=>if j=k then y else x
 |[]=>rfl
 |p :: r=>by
  have ih:=WB k j y r
  rw[fT]
  by_cases h:p.1=k
  ·rw[if_pos h]
   by_cases e:p.1=j
   ·rw[tI (p:=(p.1,y)) e,tI e,MQ,if_pos (e.symm.trans h)]
   ·rw[tJ (p:=(p.1,y)) e,tJ e,ih]
  ·rw[if_neg h]
   by_cases e:p.1=j
   ·rw[tI (p:=p) e,tI e,MQ,if_neg (fun z=>h (e.trans z))]
   ·rw[tJ (p:=p) e,tJ e,ih]
theorem WC(k j:κ)(y:V):∀ kvs:List (κ × V),fS kvs k=none->fS (kvs++[(k,y)]) j=if j=k then some y else fS kvs j
 |[],_=>by
  by_cases e:k=j
  ·rw[if_pos e.symm];exact tI (p:=(k,y)) e
  ·rw[if_neg (fun z=>e z.symm)];exact tJ (p:=(k,y)) e
 |p :: r,hn=>by
  rw[OB]
  have hk:¬ p.1=k:=fun z=>by rw[tI z] at hn;cases hn
  rw[tJ hk] at hn
  have ih:=WC k j y r hn
  by_cases e:p.1=j
  ·rw[tI e,tI e,if_neg (fun z=>hk (e.trans z))]
  ·rw[tJ e,tJ e,ih]
theorem bS'(kvs:List (κ × V))(k j:κ)(y:V):fS (putK kvs k y) j=if j=k then some y else fS kvs j:=by
 unfold putK
 by_cases a:(kvs.any fun kv=>decide (kv.1=k))=true
 ·rw[if_pos a,WB]
  rw[Nj] at a
  by_cases e:j=k
  ·obtain⟨x,hx⟩:=RD.mp a
   rw[if_pos e,e,hx,MQ,if_pos rfl]
  ·rw[if_neg e]
   cases fS kvs j with
   |none=>rfl
   |some x=>rw[MQ,if_neg e]
 ·rw[if_neg a]
  refine WC k j y kvs ?_
  rw[Nj] at a
  cases q:fS kvs k with
  |none=>rfl
  |some x=>rw[q] at a;exact(a rfl).elim
theorem PJ(kvs:List (κ × V))(k:κ)(v:V):(putK kvs k v).length<=kvs.length+1:=by
 unfold putK
 split
 ·rw[bT];exact Rx _ _
 ·rw[kz,oy,OO];exact bS _
theorem tf.Nk(r:tf o u):o.isSome=u.isSome:=by
 cases o with
 |none=>cases u with
  |none=>rfl
  |some _=>exact(show False from r).elim
 |some _=>cases u with
  |none=>exact(show False from r).elim
  |some _=>rfl
theorem tf.getD(r:tf o u)(rd:RelV d d'):RelV (o.getD d) (u.getD d'):=by
 cases o with
 |none=>cases u with
  |none=>exact rd
  |some _=>exact(show False from r).elim
 |some _=>cases u with
  |none=>exact(show False from r).elim
  |some _=>exact r
theorem KV.val{kvs:List (κ × V)}{vs:List (κ × Value)}(r:KV kvs vs)(k:κ):tf (fS kvs k) (valueAt vs k):=by
 unfold KV at r
 induction r with
 |nil=>exact True.intro
 |@cons p q ps qs h t ih =>
  obtain⟨h1,h2⟩:=h
  by_cases e:p.1=k
  ·have e':q.1=k:=h1.symm.trans e
   have b:valueAt (q :: qs) k=some q.2:=by simp[valueAt,GL,e']
   rw[tI e,b];exact h2
  ·have e':¬ q.1=k:=fun z=>e (h1.trans z)
   have b:valueAt (q :: qs) k=valueAt qs k:=by simp[valueAt,GL,e']
   rw[tJ e,b];exact ih
theorem KV.any(r:KV kvs vs)(k:κ):(kvs.any fun kv=>decide (kv.1=k))=vs.any fun kv=>decide (kv.1=k):=by
 unfold KV at r
 induction r with
 |nil=>rfl
 |cons h t ih=>rw[B9,B9,ih,h.1]
theorem KV.repl(r:KV kvs vs)(k:κ)(ry:RelV y u) :
  KV (kvs.map fun kv=>if kv.1=k then (kv.1,y) else kv) (vs.map fun kv=>if kv.1=k then (kv.1,u) else kv):=by
 unfold KV at r ⊢
 induction r with
 |nil=>exact .nil
 |@cons p q ps qs h t ih =>
  rw[fT,fT]
  refine .cons ?_ ih
  obtain⟨h1,h2⟩:=h
  by_cases e:p.1=k
  ·rw[if_pos e,if_pos (h1.symm.trans e)];exact⟨h1,ry⟩
  ·rw[if_neg e,if_neg (fun z=>e (h1.trans z))];exact⟨h1,h2⟩
theorem KV.put(r:KV kvs vs)(k:κ)(ry:RelV y u):KV (putK kvs k y) (stored vs k u):=by
 unfold putK stored
 rw[r.any k]
 by_cases e:(vs.any fun kv=>decide (kv.1=k))=true
 ·rw[if_pos e,if_pos e];exact r.repl k ry
 ·rw[if_neg e,if_neg e];exact Paired.snoc r ⟨rfl,ry⟩
theorem KV.length(r:KV kvs vs):kvs.length=vs.length:=Paired.length r
end
theorem EL{P:Program}(r:RelV (kV k) u):(jS P w).is k u=true:=by
 cases k with
 |inl i=>obtain⟨t,e⟩:=(show ∃ t,u=Value.int i t from r);subst e;exact Zo P w i t
 |inr x=>obtain⟨t,e⟩:=(show ∃ t,u=Value.str x t from r);subst e;exact Zq P w x t
theorem Sr{P:Program}:∀ {ks:List Key} {us:List Value},Vals (ks.map kV) us->ItemsAre (jS P w) ks us
 |[],_,r=>by rw[List.map_nil] at r;cases r;exact .nil
 |k :: ks,_,r=>by
  rw[fT] at r
  cases r with
  |cons h t=>exact .cons (EL h) (Sr t)
abbrev KT(H:Hp):List (List Key × V)->List (List Key × Addr × Value)->Prop:=Paired fun p q=>p.1=q.1/\H q.2.1=some (.tup (p.1.map kV))/\RelV p.2 q.2.2
theorem KT.val{H:Hp}{kvs:List (List Key × V)}{xs:List (List Key × Addr × Value)}(r:KT H kvs xs)(k:List Key):tf (fS kvs k) ((atKey xs k).map (·.2)):=by
 induction r with
 |nil=>exact True.intro
 |@cons p q ps qs h t ih =>
  obtain⟨h1,_,h2⟩:=h
  by_cases e:p.1=k
  ·have e':q.1=k:=h1.symm.trans e
   have b:atKey (q :: qs) k=some q.2:=by simp[atKey,GL,e']
   rw[tI e,b];exact h2
  ·have e':¬ q.1=k:=fun z=>e (h1.trans z)
   have b:atKey (q :: qs) k=atKey qs k:=by simp[atKey,GL,e']
   rw[tJ e,b];exact ih
theorem KT.repl(r:KT H kvs xs)(k:List Key)(ry:RelV y u) :
  KT H (kvs.map fun kv=>if kv.1=k then (kv.1,y) else kv) (xs.map (putAt k u)):=by
 induction r with
 |nil=>exact .nil
 |@cons p q ps qs h t ih =>
  rw[fT,fT]
  refine .cons ?_ ih
  obtain⟨h1,h2,h3⟩:=h
  unfold putAt
  by_cases e:p.1=k
  ·rw[if_pos e,if_pos (h1.symm.trans e)];exact⟨h1,h2,ry⟩
  ·rw[if_neg e,if_neg (fun z=>e (h1.trans z))];exact⟨h1,h2,h3⟩
theorem KT.put(r:KT H kvs xs)(k:List Key)(hb:H b=some (.tup (k.map kV)))(ry:RelV y u) :
  KT H (putK kvs k y) (storedH xs k b u):=by
 have e:(kvs.any fun kv=>decide (kv.1=k))=(atKey xs k).isSome:=by
  rw[Nj,(r.val k).Nk,RG]
 unfold putK storedH
 rw[e]
 by_cases q:(atKey xs k).isSome=true
 ·rw[if_pos q,if_pos q];exact r.repl k ry
 ·rw[if_neg q,if_neg q];exact Paired.snoc r ⟨rfl,hb,ry⟩
theorem KT.keeps(r:KT H kvs xs)(ht:∀ b ys,H b=some (.tup ys)->H' b=some (.tup ys)):KT H' kvs xs :=
 Paired.RH r fun _ _ z=>⟨z.1,ht _ _ z.2.1,z.2.2⟩
section
variable {P:Program}{w:World}{H:Hp}{h:Heap}{a:Addr}
theorem WD(ok:gd P w H h)(e:Rd H a u):eJ P w H h a u:=e.ok ok
theorem CY(ok:gd P w H h)(e:Rd H a (.dK kvs)):kvs.length<=sizeLine/\(a == sysModules)=false/\∃ vs,KV kvs vs/\h.DictOf (jS P w) a vs :=
 show eJ P w H h a (.dK kvs) from WD ok e
theorem WH(ok:gd P w H h)(e:H a=some (.dK kvs)):kvs.length<=sizeLine/\(a == sysModules)=false/\∃ vs,KV kvs vs/\h.DictOf (jS P w) a vs:=CY ok (.inl e)
theorem ER(ok:gd P w H h)(e:H a=some (.tup (ks.map kV))):(tupleKind (jS P w)).is h ks a:=by
 obtain⟨_,its,r,o,h1,h2,n,h3⟩:=(show eJ P w H h a (.tup (ks.map kV)) from ok a _ e)
 exact⟨o,its.toArray,n,h1,h2,h3,by simpa using Sr r⟩
theorem EV(ok:gd P w H h)(e:Rd H a (.dT kvs)):kvs.length<=sizeLine/\(a == sysModules)=false /\
  ∃ xs,KT H kvs xs/\h.DictOfH (tupleKind (jS P w)) a xs:=by
 obtain⟨z,y,xs,r,o,es,ep,h1,h2,h3,h4,h5⟩:=(show eJ P w H h a (.dT kvs) from WD ok e)
 refine⟨z,y,xs,r,o,es,ep,h1,h2,h3,h4,fun x hx=>?_,h5⟩
 have all:∀ {l:List (List Key × V)} {m:List (List Key × Addr × Value)},KT H l m->∀ x∈m,(tupleKind (jS P w)).is h x.1 x.2.1:=by
  intro l m q
  induction q with
  |nil=>intro x hx;exact nomatch hx
  |@cons p q ps qs hq t ih =>
   intro x hx
   rcases dA.mp hx with e|hx
   ·subst e
    exact ER ok (by rw[<- hq.1];exact hq.2.1)
   ·exact ih x hx
 exact all r x hx
theorem WK(ok:gd P w H h)(e:H a=some (.dT kvs)):kvs.length<=sizeLine/\(a == sysModules)=false /\
  ∃ xs,KT H kvs xs/\h.DictOfH (tupleKind (jS P w)) a xs:=EV ok (.inl e)
end
def kL(H:Hp)(a:Addr)(y:V)(r:Option V):Prop :=
 (∃ kvs k,Rd H a (.dK kvs)/\y=kV k/\r=fS kvs k)\/∃ kvs k b,Rd H a (.dT kvs)/\y=.ref b/\H b=some (.tup (k.map kV))/\r=fS kvs k
def A6(H:Hp)(a:Addr)(y v:V)(H':Hp):Prop :=
 (∃ kvs k,H a=some (.dK kvs)/\y=kV k/\kvs.length<sizeLine/\H'=upd H a (.dK (putK kvs k v))) \/
 ∃ kvs k b,H a=some (.dT kvs)/\y=.ref b/\H b=some (.tup (k.map kV))/\kvs.length<sizeLine/\H'=upd H a (.dT (putK kvs k v))
theorem kL.k{H:Hp}{a:Addr}{kvs:List (Key × V)}{k:Key}(e:H a=some (.dK kvs)):kL H a (kV k) (fS kvs k):=.inl ⟨kvs,k,.inl e,rfl,rfl⟩
theorem kL.t{H:Hp}{a b:Addr}{kvs:List (List Key × V)}{k:List Key}(e:H a=some (.dT kvs))(eb:H b=some (.tup (k.map kV))):kL H a (.ref b) (fS kvs k):=.inr ⟨kvs,k,b,.inl e,rfl,eb,rfl⟩
theorem A6.k{H:Hp}{a:Addr}{kvs:List (Key × V)}{k:Key}{v:V}(e:H a=some (.dK kvs))(hl:kvs.length<sizeLine):A6 H a (kV k) v (upd H a (.dK (putK kvs k v))):=.inl ⟨kvs,k,e,rfl,hl,rfl⟩
theorem A6.t{H:Hp}{a b:Addr}{kvs:List (List Key × V)}{k:List Key}{v:V}(e:H a=some (.dT kvs))(eb:H b=some (.tup (k.map kV)))(hl:kvs.length<sizeLine) :
  A6 H a (.ref b) v (upd H a (.dT (putK kvs k v))):=.inr ⟨kvs,k,b,e,rfl,eb,hl,rfl⟩
section
variable {X:Cx}{pins:List (Addr × Obj)}{σ:St}{H:Hp}{s:Shared}{a:Addr}{y v:V}{u r:Value}{o:Option V}{A:Around}{E:Value->Shared->Prop}
theorem Inv.big(I:Inv X pins σ H s):sysModules<s.heap.objs.size:=by
 have h:mainGlobals<s.heap.objs.size:=(I.mod.glob.keeps I.bk).lt
 exact Ry (by decide) h
theorem bT'(hu:A.units+1<cLine)(I:Inv X pins σ H s)(g:kL H a y (some v))(ry:RelV y u)(h:∀ w' s',Inv X pins σ H s'->RelV v w'->Q w' s') :
  wpAny (model X.prog X.w) A (getItem (.ref a) u) Q E s:=by
 rcases g with⟨kvs,k,e,ey,l⟩|⟨kvs,k,b,e,ey,eb,l⟩
 ·subst ey
  obtain⟨z,hd,vs,rel,dd⟩:=CY I.aC e
  obtain⟨w',hw,kK⟩:=tf.some_of (v:=v) (o:=valueAt vs k) (by rw[l];exact rel.val k)
  exact wpAny_getItem_of (EL ry) dd.mapOf hw (h w' _ (I.tok _) kK)
 ·subst ey
  cases (show u=Value.ref b from ry)
  obtain⟨z,hd,xs,rel,dd⟩:=EV I.aC e
  obtain⟨w',hw,kK⟩:=tf.some_of (v:=v) (o:=(atKey xs k).map (·.2)) (by rw[l];exact rel.val k)
  obtain⟨p,hp,hp2⟩:=ML.mp hw
  refine wpAny_getItem_heap (tupleKind_room_in1 hu) (ER I.aC eb) dd hp ?_
  rw[hp2]
  exact h w' _ (I.tok _) kK
theorem bV'(hu:A.units+1<cLine)(I:Inv X pins σ H s)(g:kL H a y o)(ry:RelV y u)(h:∀ s',Inv X pins σ H s'->Q (.bool o.isSome) s') :
  wpAny (model X.prog X.w) A (compareOp .In u (.ref a)) Q E s:=by
 rcases g with⟨kvs,k,e,ey,l⟩|⟨kvs,k,b,e,ey,eb,l⟩
 ·subst ey
  obtain⟨z,hd,vs,rel,dd⟩:=CY I.aC e
  refine wpAny_in_of (EL ry) hd dd.mapOf ?_
  rw[<- (rel.val k).Nk,<- l]
  exact h _ (I.tok _)
 ·subst ey
  cases (show u=Value.ref b from ry)
  obtain⟨z,hd,xs,rel,dd⟩:=EV I.aC e
  refine wpAny_in_heap (tupleKind_room_in1 hu) (ER I.aC eb) hd dd ?_
  have q:=(rel.val k).Nk
  rw[RG] at q
  rw[<- q,<- l]
  exact h _ (I.tok _)
theorem bW'(hu:A.units+1<cLine)(I:Inv X pins σ H s)(g:kL H a y o)(ry:RelV y u)(h:∀ s',Inv X pins σ H s'->Q (.bool (!o.isSome)) s') :
  wpAny (model X.prog X.w) A (compareOp .NotIn u (.ref a)) Q E s:=by
 rcases g with⟨kvs,k,e,ey,l⟩|⟨kvs,k,b,e,ey,eb,l⟩
 ·subst ey
  obtain⟨z,hd,vs,rel,dd⟩:=CY I.aC e
  refine wpAny_notIn_of (EL ry) hd dd.mapOf ?_
  rw[<- (rel.val k).Nk,<- l]
  exact h _ (I.tok _)
 ·subst ey
  cases (show u=Value.ref b from ry)
  obtain⟨z,hd,xs,rel,dd⟩:=EV I.aC e
  refine wpAny_notIn_heap (tupleKind_room_in1 hu) (ER I.aC eb) hd dd ?_
  have q:=(rel.val k).Nk
  rw[RG] at q
  rw[<- q,<- l]
  exact h _ (I.tok _)
theorem PK(I:Inv X pins σ H s)(mu:MR (H a))(hs:Heap.SameBut a s.heap h')(he:∃ q,h'.get? a=some q)(new:eJ X.prog X.w (upd H a ob) h' a ob) :
  Inv X pins σ (upd H a ob) { s with heap:=h',toks:=t' } :=
 I.write (x:=a) (e:=a) mu (.inl rfl) (fun b q hb z=>(hs.2 b hb).trans z) he new
theorem WL{P:Program}(z:kvs.length<=sizeLine)(hd:(a == sysModules)=false)(rel:KV kvs vs)(dd:h'.DictOf (jS P w) a vs) :
  eJ P w H' h' a (.dK kvs):=⟨z,hd,vs,rel,dd⟩
theorem bX'(hu:A.units+1<cLine)(I:Inv X pins σ H s)(g:A6 H a y v H')(ry:RelV y u)(rv:RelV v r)(h:∀ s',Inv X pins σ H' s'->Q () s') :
  wpAny (model X.prog X.w) A (setItem (.ref a) u r) Q E s:=by
 rcases g with⟨kvs,k,e,ey,l,eH⟩|⟨kvs,k,b,e,ey,eb,l,eH⟩
 ·subst ey eH
  obtain⟨z,hd,vs,rel,dd⟩:=WH I.aC e
  have hz:vs.length<=sizeLine:=by rw[<- rel.length];exact z
  have hl:(putK kvs k v).length<=sizeLine:=by have:=PJ kvs k v;lia
  refine wpAny_setItem_pairs (hsz:=hz) (EL ry) dd fun h' A7 hs=>h _ ?_
  have he:∃ q,h'.get? a=some q:=let ⟨q,_,_,hq,_⟩:=A7;⟨q,hq⟩
  exact PK I (by rw[e];exact True.intro) hs he (WL hl hd (rel.put k rv) A7)
 ·subst ey eH
  cases (show u=Value.ref b from ry)
  obtain⟨z,hd,xs,rel,dd⟩:=WK I.aC e
  have hz:xs.length<=sizeLine:=by rw[<- Paired.length rel];exact z
  have hl:(putK kvs k v).length<=sizeLine:=by have:=PJ kvs k v;lia
  refine wpAny_setItem_heap (hsz:=hz) (tupleKind_room_in1 hu) (ER I.aC eb) dd fun h' A7 hs=>h _ ?_
  obtain⟨q,es,ep,hq,h2,h3,h4,_,h5⟩:=A7
  refine PK I (by rw[e];exact True.intro) hs ⟨q,hq⟩ ⟨hl,hd,_,(rel.put k eb rv).keeps fun c ys ec=>?_,q,es,ep,hq,h2,h3,h4,h5⟩
  rw[cc (VB ec e (fun z=>nomatch z))]
  exact ec
end
section
variable {X:Cx}{pins:List (Addr × Obj)}{σ:St}{H:Hp}{s:Shared}{a:Addr}{kvs:List (Key × V)}{A:Around}{E:Value->Shared->Prop}
theorem bY' (I:Inv X pins σ H s) (e:Rd H a (.dK kvs)) (h:∀ t s',Inv X pins σ H s'->Q (.int kvs.length t) s'):wpAny (model X.prog X.w) A (call (.builtin "len") [.ref a]) Q E s:=by
 obtain⟨z,hd,vs,rel,dd⟩:=CY I.aC e
 refine call_len_dict hd dd (by rw[<- rel.length];rw[sizeLine_eq] at z;lia) ?_
 rw[<- rel.length]
 exact h _ _ (I.tok _)
end
theorem bZ' {X:Cx} (I:Inv X pins σ H s) (g:kL H a y o):s.TypeIs (.ref a) "dict" := by
 rcases g with⟨kvs,k,e,_,_⟩|⟨kvs,k,b,e,_,_,_⟩
 ·obtain⟨_,_,vs,_,dd⟩:=CY I.aC e
  exact dd.typeIs
 ·obtain⟨_,_,xs,_,dd⟩:=EV I.aC e
  exact dd.typeIs
def ca'(td ty tv:TE):TS:=fun D σ H=>tv σ H fun v H1=>td σ H1 fun x H2=>ty σ H2 fun y H3=>∃ a H4,x=.ref a/\A6 H3 a y v H4/\D.nx σ H4
section
variable {X:Cx}{o i value:Expr}{pos pos':Pos}{td ty tv:TE}
theorem WM(hu:X.A.units+1<cLine)(ho:PE X o td)(hi:PE X i ty)(hv:PE X value tv)(hs:swapsWith value (some (.Subscript o i pos')) pos.line X.env=pure false) :
  PS X (.Assign [.Subscript o i pos'] value pos) (ca' td ty tv):=by
 intro pins s σ H D I h
 refine wpAny_Assign_Subscript (b5 (hv pins s σ H _ I h) fun r s1 b6=>L2.fE b6 fun v H1 I1 rv q1=>b5 (ho pins s1 σ H1 _ I1 q1) fun u s2 b6=>L2.fE b6 fun x H2 I2 rx q2=>b5 (hi pins s2 σ H2 _ I2 q2) fun iv s3 cE=>?_) hs
 obtain⟨y,H3,I3,ry,a,H4,ex,g,q3⟩:=cE
 subst ex
 obtain rfl:u=Value.ref a:=rx
 exact bX' hu I3 g ry rv fun s4 I4=>⟨σ,H4,I4,q3⟩
end
theorem cb' {P:Program} (h:Heap) (hb:sysModules<h.objs.size):eJ P w H (h.push { cls:=.type "dict",data:=.dict #[] }) h.objs.size (.dK []) :=
 ⟨eP _,beq_eq_false_iff_ne.mpr (Ne.symm (eI hb)),[],.nil,Heap.DictOf.new h⟩
theorem cc' {P:Program} (h:Heap) (hb:sysModules<h.objs.size):eJ P w H (h.push { cls:=.type "dict",data:=.dict #[] }) h.objs.size (.dT []) :=
 ⟨eP _,beq_eq_false_iff_ne.mpr (Ne.symm (eI hb)),[],.nil,_,#[],0,g9 _ rfl,⟨rfl,rfl,rfl⟩,rfl,rfl,ng⟩
def cd':TE:=fun _ H Q=>∀ p,H p=none->Q (.ref p) (upd H p (.dT []))
section
variable {X:Cx}{pos:Pos}
theorem ce':PE X (.Dict [] [] pos) cd':=fun pins s σ H Q I h =>
 wpAny_Dict_empty ⟨.ref s.heap.objs.size,_,I.laid (a:=s.heap.objs.size) (o:=.dT []) (t':=s.toks) (fun _ _ q=>eL _ q) (bS _) (cc' s.heap I.big),rfl,h _ (I.aC.fresh (bS _))⟩
end
def Ss:List (TE × TE)->St->Hp->(List (V × V)->Hp->Prop)->Prop
 |[],_,H,Q=>Q [] H
 | (tk,tv) :: r,σ,H,Q=>tk σ H fun x H1=>tv σ H1 fun y H2=>Ss r σ H2 fun ps H3=>Q ((x,y) :: ps) H3
abbrev VV:List (V × V)->List (Value × Value)->Prop:=Paired fun p q=>RelV p.1 q.1/\RelV p.2 q.2
def PL(X:Cx)(pos:Pos)(keys:List (Option Expr))(values:List Expr)(EW:List (TE × TE)):Prop :=
 ∀ (pins:List (Addr × Obj)) (s:Shared) (σ:St) (H:Hp) (Q:List (V × V)->Hp->Prop),Inv X pins σ H s->Ss EW σ H Q ->
  wpAny (model X.prog X.w) X.A (evalPairs (pairTrees keys values X.env pos)) (fun vs s'=>∃ ps H',Inv X pins σ H' s'/\VV ps vs/\Q ps H') X.xe s
theorem cf'{X:Cx}:PL X pos [] [] []:=fun pins s σ H Q I h=>pairTrees_nil_walk ⟨[],H,I,.nil,h⟩
theorem cg'{X:Cx}(hk:PE X k tk)(hv:PE X v tv)(hr:PL X pos ks vs EW) :
  PL X pos (some k :: ks) (v :: vs) ((tk,tv) :: EW):=fun pins s σ H Q I h =>
 pairTrees_cons_walk (b5 (hk pins s σ H _ I h) fun u s1 b6=>L2.fE b6 fun x H1 I1 rx q1=>b5 (hv pins s1 σ H1 _ I1 q1) fun w2 s2 b6=>L2.fE b6 fun y H2 I2 ry q2 =>
  b5 (hr pins s2 σ H2 _ I2 q2) fun ws s3 b6=>L2.fE b6 fun ps H3 I3 rel q3=>⟨(x,y) :: ps,H3,I3,.cons ⟨rx,ry⟩ rel,q3⟩)
def Nm(kvs more:List (Key × V)):List (Key × V):=more.foldl (fun acc kv=>putK acc kv.1 kv.2) kvs
theorem KV.merge:∀ {more:List (Key × V)} {rs:List (Key × Value)} {kvs:List (Key × V)} {vs:List (Key × Value)},KV more rs->KV kvs vs->KV (Nm kvs more) (merged vs rs):=by
 intro more rs kvs vs r
 unfold KV at r
 induction r generalizing kvs vs with
 |nil=>intro q;exact q
 |@cons p q ps qs h t ih =>
  intro r0
  have e:KV (putK kvs p.1 p.2) (stored vs q.1 q.2):=by
   have:=r0.put p.1 h.2
   rw[<- h.1];exact this
  exact ih e
theorem WN:∀ (more kvs:List (Key × V)),(Nm kvs more).length<=kvs.length+more.length
 |[],kvs=>by show kvs.length<=kvs.length+0;lia
 |p :: r,kvs=>by
  have h1:=WN r (putK kvs p.1 p.2)
  have h2:=PJ kvs p.1 p.2
  show(Nm (putK kvs p.1 p.2) r).length<=_
  rw[oy];lia
theorem WQ{P:Program}:∀ {kvs:List (Key × V)} {ws:List (Value × Value)},VV (kvs.map fun kv=>(kV kv.1,kv.2)) ws->∃ rs,Carries (jS P w) ws rs/\KV kvs rs
 |[],_,r=>by rw[List.map_nil] at r;cases r;exact⟨[],True.intro,.nil⟩
 |p :: kvs,_,r=>by
  rw[fT] at r
  cases r with
  |@cons a b as bs h t =>
   obtain⟨rs,c,q⟩:=WQ (P:=P) (w:=w) t
   obtain⟨b1,b2⟩:=b
   exact⟨(p.1,b2) :: rs,⟨EL h.1,rfl,c⟩,.cons ⟨rfl,h.2⟩ q⟩
def ch'(EW:List (TE × TE)):TE:=fun σ H Q=>∀ p,H p=none->Ss EW σ (upd H p (.dK [])) fun ps H2=>H2 p=some (.dK [])/\∃ kvs:List (Key × V),ps=kvs.map (fun kv=>(kV kv.1,kv.2))/\kvs.length<=15/\Q (.ref p) (upd H2 p (.dK (Nm [] kvs)))
theorem ci'{X:Cx}(h:PL X pos keys values EW)(nE:keys.all (·.isSome)=true)(hl:keys.length=values.length)(h0:keys≠[])
  (h15:keys.length<=15):PE X (.Dict keys values pos) (ch' EW):=by
 intro pins s σ H Q I q
 have hn:=I.aC.fresh (bS s.heap.objs.size)
 have I1:=I.laid (a:=s.heap.objs.size) (o:=.dK []) (h':=s.heap.push { cls:=.type "dict",data:=.dict #[] }) (t':=s.toks) (fun _ _ q=>eL _ q) (bS _) (cb' s.heap I.big)
 refine wpAny_Dict_walk (knd:=jS X.prog X.w) nE hl h0 h15 (b5 (h pins _ σ _ _ I1 (q _ hn)) fun ws s2 cE=>?_)
 obtain⟨ps,H2,I2,rel,e,kvs,ep,lk,q2⟩:=cE
 subst ep
 obtain⟨rs,c,rk⟩:=WQ (P:=X.prog) (w:=X.w) rel
 obtain⟨z,hd,vs0,r0,dd⟩:=WH I2.aC e
 cases r0
 refine⟨rs,c,dd,fun h' A7 hs=>⟨.ref s.heap.objs.size,_,?_,rfl,q2⟩⟩
 have hz:(Nm [] kvs).length<=sizeLine:=by
  have h1:=WN kvs []
  rw[OO] at h1
  rw[sizeLine_eq];lia
 have he:∃ q,h'.get? s.heap.objs.size=some q:=let ⟨q,_,_,hq,_⟩:=A7;⟨q,hq⟩
 exact PK I2 (by rw[e];exact True.intro) hs he (WL hz hd (rk.merge .nil) A7)
structure M2(X:Cx)(o:Expr)(m:Str)(apos:Pos)(e f:Expr)(dy:Pos):Prop where
 base:attributeBase o m X.env (eval o X.env)=eval o X.env
 few:((backTo dy (starEach [e,f] X.env)).all (fun x=>!x.1) && (backToKw dy (keywordEach [] X.env)).all (fun x=>x.1.isSome)
  && decide (([e,f]:List Expr).length+([]:List Keyword).length+(if ([]:List Keyword).isEmpty then 0 else 1)<30))=true
 line:(apos.endLine == dy.line)=true
 trees:backTo dy (starEach [e,f] X.env)=[(false,eval e X.env),(false,eval f X.env)]
def PN(H:Hp)(a:Addr):Prop:=(∃ kvs,Rd H a (.dK kvs))\/∃ kvs,Rd H a (.dT kvs)
theorem WR{X:Cx}(I:Inv X pins σ H s)(d:PN H a) :
  s.TypeIs (.ref a) "dict"/\(∀ b,Value.ref a=.ref b->∃ ob,s.heap.get? b=some ob/\ob.dict=none)/\(a == sysModules)=false:=by
 rcases d with⟨kvs,e⟩|⟨kvs,e⟩
 ·obtain⟨_,hd,vs,_,dd⟩:=CY I.aC e
  refine⟨dd.typeIs,fun b q=>?_,hd⟩
  cases q
  obtain⟨ob,_,_,h1,h2,_⟩:=dd
  exact⟨ob,h1,h2.2.1⟩
 ·obtain⟨_,hd,xs,_,dd⟩:=EV I.aC e
  refine⟨dd.typeIs,fun b q=>?_,hd⟩
  cases q
  obtain⟨ob,_,_,h1,h2,_⟩:=dd
  exact⟨ob,h1,h2.2.1⟩
section
variable {X:Cx}{pins:List (Addr × Obj)}{σ:St}{H:Hp}{s:Shared}{a:Addr}{y d:V}{u r:Value}{o:Option V}{A:Around}{E:Value->Shared->Prop}
theorem cl'(hu:A.units+1<cLine)(I:Inv X pins σ H s)(g:kL H a y o)(ry:RelV y u)(rd:RelV d r)(h:∀ w' s',Inv X pins σ H s'->RelV (o.getD d) w'->Q w' s') :
  wpAny (model X.prog X.w) A (call (.builtin "dict.get") [.ref a,u,r]) Q E s:=by
 rcases g with⟨kvs,k,e,ey,l⟩|⟨kvs,k,b,e,ey,eb,l⟩
 ·subst ey
  obtain⟨z,hd,vs,rel,dd⟩:=CY I.aC e
  refine call_meetsIn PySem.F.slot_dict_get dd.typeIs PySem.F.entry_dict_get (PySem.F.args_dict_get_3 _ _ _) (meets_dict_get_default (jS X.prog X.w) a (EL ry) hd r) ⟨_,dd.mapOf,h _ _ (I.tok _) ?_⟩
  rw[l]
  exact(rel.val k).getD rd
 ·subst ey
  cases (show u=Value.ref b from ry)
  obtain⟨z,hd,xs,rel,dd⟩:=EV I.aC e
  refine call_meetsIn PySem.F.slot_dict_get dd.typeIs PySem.F.entry_dict_get (PySem.F.args_dict_get_3 _ _ _) (meetsH_dict_get_default (tupleKind (jS X.prog X.w)) a b hd r) ⟨tupleKind_room_in1 hu,k,xs,ER I.aC eb,dd,h _ _ (I.tok _) ?_⟩
  rw[l]
  exact(rel.val k).getD rd
end
def WU(td ty tx:TE):TE:=fun σ H Q=>td σ H fun x H1=>∃ a,x=.ref a/\PN H1 a/\ty σ H1 fun y H2=>tx σ H2 fun z H3=>∃ o,kL H3 a y o/\Q (o.getD z) H3
section
variable {X:Cx}{o e f:Expr}{apos dy:Pos}{td ty tx:TE}
theorem cm' (hu:X.A.units+1<cLine) (ho:PE X o td) (he:PE X e ty) (hf:PE X f tx) (m:M2 X o "get" apos e f dy):PE X (.Call (.Attribute o "get" apos) [e,f] [] dy) (WU td ty tx):=by
 intro pins s σ H Q I h
 refine wpAny_Call_method m.base m.few m.line PySem.F.plainAttrs_dict PySem.F.slot_dict_get PySem.F.type_dict_get (b5 (ho pins s σ H _ I h) fun u s1 cE=>?_)
 obtain⟨x,H1,I1,rx,a,ex,d,q1⟩:=cE
 subst ex
 obtain rfl:u=Value.ref a:=rx
 obtain⟨t1,t2,_⟩:=WR I1 d
 refine⟨t1,t2,?_⟩
 rw[m.trees]
 refine Calls.callWith_builtin rfl (Calls.evalArgs_plain (Calls.spliced_cons (b5 (he pins s1 σ H1 _ I1 q1) fun iv s2 b6=>L2.fE b6 fun y H2 I2 ry q2 =>
  Calls.spliced_cons (b5 (hf pins s2 σ H2 _ I2 q2) fun fv s3 ⟨z,H3,I3,rz,ov,g,q3⟩=>Calls.spliced_nil ?_))))
 exact cl' hu I3 g ry rz fun w' s4 I4 kK=>⟨_,H3,I4,kK,q3⟩
end
end L2
namespace WV
open PySem PySem.W PySem.Calls PyProof.Rows
theorem cn'{P:Params}:∀ (ns:List Int) (vs:List Value),WellAll P h vs (ns.map WData.int)->IntsAre vs ns:=by
 intro ns
 induction ns with
 |nil =>
  intro vs w
  rw[List.map_nil] at w
  cases w
  exact .nil
 |cons n ns ih =>
  intro vs w
  rw[fT] at w
  cases w with
  |cons a b =>
   cases a
   exact .cons _ _ (ih _ b)
theorem co'{l:OpenLaw}{n:Nat}(hn:l.most=some n){P:Params}{h:Heap}{args:List WData}{vals:List Value}
  (Dp:l.row.toRowW.claim.pre args=true) (Dx:WellAll P h vals args) :
  ∃ a vs ns,vals=[Value.ref a]/\args=[WData.list (ns.map WData.int)]/\h.get? a=some { cls:=.type "list",data:=.seq vs.toArray }/\IntsAre vs ns/\ns.length<=n:=by
 have zv:WShape.hasAll [] args [.list .int]=true:=(pre_splitW Dp).1
 have hc:l.pre.holds [] { args:=args }=true:=(pre_splitW Dp).2
 obtain⟨d,r,rfl,h1,h2⟩:=hasAllW_cons zv
 obtain rfl:=hasAllW_nil h2
 obtain⟨xs,rfl,h3⟩:=hasW_list h1
 obtain⟨ns,rfl⟩:=items_int h3
 have hlen:ns.length<=n:=by
  unfold OpenLaw.pre at hc
  have h4:(WTm.not (.lt (.lit (.int (n:Int))) (.len (.arg 0)))).holds [] { args:=[.list (ns.map .int)] }=true:=by
   have h4:=(holds_andW hc).1
   rw[hn] at h4
   exact h4
  have h5:=condW_of h4 (w_not (w_lt w_lit (w_len_list (w_arg rfl))))
  rw[bT] at h5
  refine L5 fun q=>?_
  have q':(n:Int)<((ns.length:Nat):Int):=by lia
  first
   | (rw[decide_eq_true q'] at h5;exact absurd h5 (by decide))
   | (simp at h5;lia)
 cases Dx with
 |cons w1 w2 =>
  cases w2
  cases w1 with
  |list ho nE=>exact⟨_,_,ns,rfl,rfl,ho,cn' ns _ nE,hlen⟩
theorem cp'(l:OpenLaw)(args:List WData):l.row.toRowW.claim.post args (.bool true) args=true :=
 postW_of (r:=l.row.toRowW) (X:=(true == true))
  (show WShape.has [] (.bool true) .bool=true by first|rfl|decide|simp[WShape.has,WShape.arms,WShape.armsAll])
  (show(WTm.eq .res (.lit (.bool true))).value [] { args:=args,res:=some (.bool true),after:=args }=some (.bool (true == true)) from w_eq_bool (w_res rfl) w_lit) rfl
theorem cq'{l:OpenLaw}{n:Nat}{q:Program}{loose:List Str}{XP:(Str->Option Value)->Heap->Prop}{YP:World->Heap->Prop}{d:DefRec}
  (hn:l.most=some n) (Nn:d.params.defaults=[])
  (call:∀ (w:World) (eS eK:Shared) (mg mb:Str->Option Value) (fa:Addr) (o:Obj) (pm cd doc:Value) (a:Addr) (vs:List Value) (ns:List Int),
   Ground q loose [] XP w eS mg mb eK.heap->YP w eK.heap ->
   eK.heap.get? fa=some o->o.data=.func (docDef d.name d.params d.body d.scope pm cd doc)->eK.heap.CodeRec cd d.name->mg d.name=some (.ref fa) ->
   eK.heap.get? a=some { cls:=.type "list",data:=.seq vs.toArray }->IntsAre vs ns->ns.length<=n->eK.gens = #[] ->
   codeAny (model l.prog w) callerA (.call (.ref fa) ⟨[.ref a],[]⟩) (fun r s'=>r=.ok (.ret (.bool true))/\OldK eK.heap s'.heap/\s'.os=eK.os/\AllBare s'.gens) eK) :
  WalkO q loose XP YP l.row.toRowW d [] (fun f vs=>PySem.call f vs):=by
 intro w eS eK mg mb G Y fa o pm cd doc dV kV ho hd oz hD Np hg args vals as Dp hlay hrd Dx xi
 obtain rfl:dV=.none:=Dflts.none hD Nn
 obtain rfl:kV=.none:=Dflts.noKw hD
 obtain⟨a,vs,ns,rfl,rfl,Sv,hints,hlen⟩:=co' hn Dp Dx
 refine enter_call (codeAny_mono (call w eS eK mg mb fa o pm cd doc a vs ns G Y ho (fd_plain hd) oz Np Sv hints hlen hg) fun r s' hq=>?_)
 obtain⟨rfl,h2,h3,h4⟩:=hq
 exact⟨.inl ⟨.bool true,.bool true,[],rfl,fun _=>rfl,.bool true,cp' l _,fun _=>⟨List.Pairwise.nil,fun _ hm=>(nomatch hm)⟩⟩,h2,h3,h4⟩
end WV
namespace L2
open PySem PySem.Spec PyProof.Rows
theorem WW:∀ {vs:List Value} {ns:List Int},IntsAre vs ns->Vals (ns.map V.int) vs
 |_,_,.nil=>.nil
 |_,_,.cons n t h=>.cons ⟨t,rfl⟩ (WW h)
def Only(H:Hp):Prop:=∀ b,H b=none\/∃ o xs,H b=some (.dQ o (.lst xs))
theorem cr'{P:Program}{K:PySem.W.Frag}
  (KX:K.In eK.heap) (WX:eK.heap.Ns mainGlobals mg) (hb:eK.heap.Ns builtinsNs mb) (Sw:∀ x:Str,x ≠ "__name__"->mb x=bootBuiltins x) (cs':eK.heap.NoLimit) (hg:eK.gens = #[])
  (ha:eK.heap.get? a=some { cls:=.type "list",data:=.seq vs.toArray }) (hi:IntsAre vs ns) (hl:ns.length<=sizeLine) (hr:ki k callerA)
  (F:∀ base:Heap,K.In base->base.Ns mainGlobals mg->hJ P w K mg base CX k fa fd [x] sp) (ct':∀ (s:Shared) (u:Value),BindsTo s fd ⟨[u],[]⟩ [(x,u)])
  (zk:∀ H:Hp,Only H->eM K H a (ns.map V.int)->sp [.ref a] H (fun v _=>v=.bl true) fun _ _ _=>False)
  (Sx:∀ H e s',CX [] H eK (fun _ _ _=>False) e s'->False) :
  codeAny (model P w) callerA (.call (.ref fa) ⟨[.ref a],[]⟩) (fun r s'=>r=.ok (.ret (.bool true))/\OldK eK.heap s'.heap/\s'.os=eK.os/\AllBare s'.gens) eK:=by
 have rv:=WW hi
 have cu':=hi.length
 -- from an abstract heap in which nothing but the script may be tracked
 have core:∀ H:Hp,Only H->eM K H a (ns.map V.int)->gd P w H eK.heap->(∀ b,H b≠none->b=a)->(H a≠none->K.lookup a=none) ->
   codeAny (model P w) callerA (.call (.ref fa) ⟨[.ref a],[]⟩) (fun r s'=>r=.ok (.ret (.bool true))/\OldK eK.heap s'.heap/\s'.os=eK.os/\AllBare s'.gens) eK:=by
  intro H hO hS aC hA hK
  have WY:∀ {b:Addr} {o:Obj},eK.heap.get? b=some o->H b=none->(AR eK.heap H).get? b=some o:=fun e n=>Zu e n
  have Nb:∀ {b:Addr} {o:Obj} {es:Array DictEntry} {ep:Nat},eK.heap.get? b=some o->o.data=.dict es ep->H b=none:=fun {b o es ep} e d=>by
   cases q:H b with
   |none=>rfl
   |some u =>
    have e':b=a:=hA b (by rw[q];simp)
    subst e'
    rw[ha] at e;cases e
    have d':Data.seq vs.toArray _=Data.dict es ep:=d
    cases d'
  have PQ:∀ {b:Addr} {m:Str->Option Value},eK.heap.Ns b m->(AR eK.heap H).Ns b m:=fun {b m} ⟨o,es,ep,e,d,r⟩=>⟨o,es,ep,WY e (Nb e d),d,r⟩
  have WZ:K.In (AR eK.heap H):=fun b o e=>WY (KX b o e) (by
   cases q:H b with
   |none=>rfl
   |some u =>
    have e':b=a:=hA b (by rw[q];simp)
    subst e'
    rw[hK (by rw[q];simp)] at e;cases e)
  have hM:Mod K mg (AR eK.heap H):=⟨WZ,PQ WX,⟨mb,PQ hb,Sw⟩,let ⟨mc,h1,h2⟩:=cs';⟨mc,PQ h1,h2⟩⟩
  have e0:Pu P w K mg (AR eK.heap H) callerA [] eK H:=⟨rfl,hM,fun b o e=>Zv e,L9 (Zt _ _),trivial,fun b hb=>absurd (show b∈([]:List Addr) from hb) (by simp),aC,.of_eq hg⟩
  refine codeAny_mono ((F _ WZ (PQ WX)).run callerA [] eK H ⟨[.ref a],[]⟩ [.ref a] [.ref a] _ _ hr e0 (ct' eK (.ref a)) (.cons rfl .nil) (zk H hO hS)) fun r s' h=>?_
  cases r with
  |error e=>exact(Sx H e s' h).elim
  |ok fl =>
   cases fl with
   |next=>exact False.elim h
   |brk=>exact False.elim h
   |cont=>exact False.elim h
   |ret u =>
    obtain⟨v,H',os,bare,un,cv',r',q⟩:=h
    have q':v=.bl true:=q
    subst q'
    obtain rfl:u=Value.bool true:=r'
    refine⟨rfl,OldK.of_keep fun b o e=>?_,os,bare⟩
    cases q:H b with
    |none=>exact un.keep b o e q (by intro z;exact absurd (show b∈([]:List Addr) from z) (by simp)) (by simp)
    |some u =>
     rcases hO b with z|⟨ob,xs,z⟩
     ·rw[q] at z;cases z
     ·have z2:=un.pj b ob _ z
      obtain⟨e1,_⟩:=aC b _ z
      obtain⟨e2,_⟩:=cv' b _ z2
      rw[e] at e1;cases e1
      exact e2
 cases hk:K.lookup a with
 |some o =>
  -- the script is one of the module's own objects
  have e:=KX a o hk
  rw[ha] at e
  cases e
  refine core (fun _=>none) (fun _=>.inl rfl) (.inr ⟨_,vs.toArray,_,hk,rfl,rfl,rfl,by rw[gy,cu'];exact hl,by simpa using rv⟩) (fun b u z=>by have z':(none:Option HO)=some u:=z;cases z') (fun b z=>absurd rfl z) fun z=>absurd rfl z
 |none =>
  refine core (fun b=>if b=a then some (.dQ { cls:=.type "list",data:=.seq vs.toArray } (.lst (ns.map V.int))) else none) (fun b=>?_) (.inl (.inr ⟨{ cls:=.type "list",data:=.seq vs.toArray },if_pos rfl⟩)) (fun b u z=>?_) (fun b z=>?_) fun _=>hk
  ·by_cases hb:b=a
   ·exact .inr ⟨_,_,if_pos hb⟩
   ·exact .inl (if_neg hb)
  ·by_cases hb:b=a
   ·have z':=(if_pos hb).symm.trans z
    cases z'
    subst hb
    exact⟨ha,by rw[bT];exact hl,vs,_,rv,ha⟩
   ·have z':=(if_neg hb).symm.trans z
    cases z'
  ·by_cases hb:b=a
   ·exact hb
   ·exact absurd (if_neg hb) z
theorem cw'{l:PySem.W.OpenLaw}{n k:Nat}{q:Program}{loose:List Str}{XP:(Str->Option Value)->Heap->Prop}{YP:World->Heap->Prop}{d:DefRec}{K:Params->PySem.W.Frag}{CX:World->AY}{sp:World->Sp}{x:Str}
  (hn:l.most=some n) (HZ:n<=sizeLine) (Nn:d.params.defaults=[]) (hr:ki k callerA)
  (hY:∀ (w:World) (h:Heap),YP w h->(K w.params).In h)
  (F:∀ (w:World) (mg:Str->Option Value) (fa:Addr) (h:Heap),(K w.params).In h->h.Ns mainGlobals mg->mg d.name=some (.ref fa) ->
   ∃ fd:FuncData,(∀ (s:Shared) (u:Value),BindsTo s fd ⟨[u],[]⟩ [(x,u)]) /\
    ∀ base:Heap,(K w.params).In base->base.Ns mainGlobals mg->hJ l.prog w (K w.params) mg base (CX w) k fa fd [x] (sp w))
  (zk:∀ (w:World) (H:Hp) (a:Addr) (ns:List Int),ns.length<=n->Only H->eM (K w.params) H a (ns.map V.int)->sp w [.ref a] H (fun v _=>v=.bl true) fun _ _ _=>False)
  (Sx:∀ (w:World) (H:Hp) (s:Shared) (e:Value) (s':Shared),CX w [] H s (fun _ _ _=>False) e s'->False) :
  PySem.W.WalkO q loose XP YP l.row.toRowW d [] (fun f vs=>PySem.call f vs):=by
 refine WV.cq' hn Nn fun w eS eK mg mb fa o pm cd doc a vs ns G Y ho hd oz Np Sv hints hlen hg=>?_
 have KX:=hY w _ Y
 obtain⟨fd,hb,hF⟩:=F w mg fa _ KX G.T.g Np
 exact cr' KX G.T.g G.T.b G.T.builtins G.T.nolimit hg Sv hints (jI hlen HZ) hr hF hb (fun H hO hS=>zk w H a ns hlen hO hS) fun H e s'=>Sx w H eK e s'
def kD(s:Stmt):Arguments:=match s with
 |.FunctionDef _ a _ _ _ _ _ _ _ _=>a
 |_=>{ posonlyargs:=[],args:=[],vararg:=none,kwonlyargs:=[],kw_defaults:=[],kwarg:=none,defaults:=[] }
def ic(s:Stmt):List Stmt:=match s with
 |.FunctionDef _ _ b _ _ _ _ _ _ _=>b
 |_=>[]
def cv(s:Stmt):Scope:=match s with
 |.FunctionDef _ _ _ _ _ _ sc _ _ _=>sc
 |_=>{ kind:=.function,names:=[],isGenerator:=false,isCoroutine:=false }
abbrev kE:AY:=fun _ _ _ _ _ _=>False
abbrev E0:XK:=fun _ _ _=>False
theorem cx'{X:Cx}:Passes kE X E0:=fun _ _ _ _ _ _ _ h=>h.elim
structure hV(K:PySem.W.Frag)(x qual:Str)(st:Stmt)(f:Addr)(fd:FuncData):Prop where
 ex:∃ (oc:Value) (od:Option Addr) (kV doc pm:Value) (an:Option Addr) (cS ct:Value) (EK:Array (Option Value)),
  fd=PySem.W.fnOf x qual (kD st) (ic st) (cv st) .none kV doc pm an cS ct/\K.lookup f=some ⟨oc,od,.func fd,EK⟩/\PySem.W.codeIn K cS qual=true
 kp:PySem.W.keepIn K (.ref f)=true
section
variable {P:Program}{w:World}{K:PySem.W.Frag}{mg:Str->Option Value}{base:Heap}
theorem hV.ok{st:Stmt}{N ps:List Str}(F:hV K x qual st f fd)(S:kU N ps (cv st))(len:∀ vs H Q E,sp vs H Q E->vs.length=ps.length)
  (AZ:∀ (cS:Value) (A:Around) (outer:List Env) (s:Shared) (H:Hp) (vs:List V) (Q:VK) (E:XK),ki k (A.deeper (envOfC qual (cv st) s.heap.objs.size f cS))->sp vs H Q E ->
   ∃ t,nv (rg kE P w K mg base N qual (cv st) f cS A outer s H E).MX (ic st) t/\t { nx:=fun _ H'=>Q .non H',rt:=Q } (start N vs) H):hJ P w K mg base kE (k+1) f fd ps sp:=by
 obtain⟨oc,od,kV,doc,pm,an,cS,ct,EK,rfl,lk,oz⟩:=F.ex
 refine Wj lk oz S len fun A outer s H vs Q E hr zk=>?_
 obtain⟨t,h,q⟩:=AZ cS A outer s H vs Q E hr zk
 exact⟨t,h.MX,q⟩
theorem hV.binds{st:Stmt}{ps:List Str}(F:hV K x qual st f fd)
  (h:∀ (kV doc pm:Value) (an:Option Addr) (cS ct:Value) (us:List Value),us.length=ps.length->bindArgs (PySem.W.fnOf x qual (kD st) (ic st) (cv st) .none kV doc pm an cS ct) ⟨us,[]⟩=pure (ps.zip us)):Binds K fd ps []:=by
 obtain⟨oc,od,kV,doc,pm,an,cS,ct,EK,rfl,lk,oz⟩:=F.ex
 exact .all (h kV doc pm an cS ct)
theorem oB{st:Stmt}{kV doc pm cS ct:Value}(l:K.lookup f=some ⟨oc,od,.func (PySem.W.fnOf x qual (kD st) (ic st) (cv st) .none kV doc pm an cS ct),EK⟩)
  (c:PySem.W.codeIn K cS qual=true) (k:PySem.W.keepIn K (.ref f)=true):hV K x qual st f (PySem.W.fnOf x qual (kD st) (ic st) (cv st) .none kV doc pm an cS ct):=⟨⟨oc,od,kV,doc,pm,an,cS,ct,EK,rfl,l,c⟩,k⟩
end
section
variable {X:Cx}
theorem pv (i:Nat) (hN:X.N[i]? = some x:=by rfl) (hv:O7 X.env.scope x:=by first|exact Or.inl rfl|exact Or.inr (Or.inl rfl)|exact Or.inr (Or.inr rfl)) (hd:(x == ("__debug__" : Str))=false:=by decide)
  (oz:(x == ("__classdict__" : Str))=false:=by decide):PE X (.Name x pos) (CF i):=VN hN hv hd oz
end
def ay(H H':Hp):Prop:=∀ b o,H b=some o->H' b=some o
theorem ay.refl(H:Hp):ay H H:=fun _ _ h=>h
theorem ay.trans(a:ay H H1)(b:ay H1 H2):ay H H2:=fun c o h=>b c o (a c o h)
theorem ay.free(e:ay H H')(h:H' l=Option.none):H l=Option.none:=by
 cases q:H l with
 |none=>rfl
 |some o =>
  rw[e l o q] at h
  cases h
theorem ay.seq{K:PySem.W.Frag}(e:ay H H')(h:eM K H a xs):eM K H' a xs:=by
 rcases h with(h|⟨o,h⟩)|h
 ·exact .inl (.inl (e _ _ h))
 ·exact .inl (.inr ⟨o,e _ _ h⟩)
 ·exact .inr h
end L2
set_option maxHeartbeats 4000000
namespace L2
open PySem PySem.Spec PyProof.Rows
def og(env:Env):List (Str × NameKind)->List (Str × Addr)->List (Str × Addr)
 |[],cs=>cs
 | (n,k) :: r,cs=>og env r (if k == NameKind.free then (n,(env.cells.lookup n).getD 0) :: cs else cs)
theorem iC(env:Env):∀ (names:List (Str × NameKind)) (cs:List (Str × Addr)),(∀ y∈names,y.2=.free->∃ c,env.cells.lookup y.1=some c) ->
  (forIn names cs fun x r=>match x with
   | (name,kind)=>if (kind == NameKind.free)=true then do let a <- cellOf env name;pure (ForInStep.yield ((name,a) :: r)) else pure (ForInStep.yield r):Sem (List (Str × Addr)))=pure (og env names cs)
 |[],cs,_=>rfl
 | (n,k) :: r,cs,h=>by
  rw[List.forIn_cons]
  have ih:=iC env r
  by_cases hk:k=.free
  ·subst hk
   obtain⟨c,e⟩:=h (n,.free) df rfl
   have e:env.cells.lookup n=some c:=e
   have e2:cellOf env n=pure c:=by unfold cellOf;rw[e]
   have e3:og env ((n,.free) :: r) cs=og env r ((n,c) :: cs):=by
    show og env r (if (NameKind.free == NameKind.free)=true then (n,(env.cells.lookup n).getD 0) :: cs else cs)=_
    rw[e];rfl
   rw[e3,<- ih ((n,c) :: cs) fun y hy=>h y (de _ hy)]
   simp only[beq_self_eq_true,if_true,e2]
   rfl
  ·have hb:(k == NameKind.free)=false:=by simpa using hk
   have e3:og env ((n,k) :: r) cs=og env r cs:=by
    show og env r (if (k == NameKind.free)=true then _ else cs)=_
    rw[hb];rfl
   rw[e3,<- ih cs fun y hy=>h y (de _ hy)]
   simp only[hb,gL,if_false]
   rfl
theorem oU(h:∀ y∈scope.names,y.2=.free->∃ c,env.cells.lookup y.1=some c):closureFor scope env=pure (og env scope.names []):=by
 have:=iC env scope.names [] h
 unfold closureFor
 rw[<- bind_pure (forIn scope.names [] _)] at this
 exact this
theorem oF:∀ {names:List (Str × NameKind)} {cs:List (Str × Addr)},(∀ y∈names,y.2=.free->∃ c,env.cells.lookup y.1=some c)->(∀ y d,cs.lookup y=some d->env.cells.lookup y=some d) ->
  (og env names cs).lookup x=some c->env.cells.lookup x=some c
 |[],cs,_,h,e=>h x c e
 | (n,k) :: r,cs,hf,h,e=>by
  refine oF (names:=r) (fun y hy=>hf y (de _ hy)) ?_ e
  intro y d hd
  by_cases hk:k=.free
  ·subst hk
   obtain⟨c',e'⟩:=hf (n,.free) df rfl
   have e':env.cells.lookup n=some c':=e'
   simp only[beq_self_eq_true,if_true,e',Option.getD_some,yv] at hd
   cases hb:y == n with
   |true=>rw[hb] at hd;have:y=n:=eq_of_beq hb;subst this;rw[e'];exact hd
   |false=>rw[hb] at hd;exact h y d hd
  ·have hb:(k == NameKind.free)=false:=by simpa using hk
   simp only[hb,gL,if_false] at hd
   exact h y d hd
theorem kW:∀ {names:List (Str × NameKind)} {cs:List (Str × Addr)},((x,NameKind.free)∈names\/∃ c,cs.lookup x=some c)->∃ c,(og env names cs).lookup x=some c
 |[],cs,h=>by
  rcases h with h|h
  ·exact nomatch h
  ·exact h
 | (n,k) :: r,cs,h=>by
  refine kW (names:=r) ?_
  rcases h with h|⟨c,h⟩
  ·rcases dA.mp h with e|h
   ·cases e
    refine .inr ⟨(env.cells.lookup x).getD 0,?_⟩
    simp only[beq_self_eq_true,if_true,yv]
   ·exact .inl h
  ·refine .inr ?_
   by_cases hk:(k == NameKind.free)=true
   ·simp only[hk,if_true,yv]
    cases hb:x == n with
    |true=>exact⟨_,rfl⟩
    |false=>exact⟨c,h⟩
   ·simp only[hk,if_false]
    exact⟨c,h⟩
def cQ(X:Cx)(scope:Scope)(C:Addr)(N:List Str)(fp:List Addr)(cq:Shared)(cx:Hp):Cx :=
 { X with N:=N,eS:=cq,kc:=cx,env:=compEnvC scope (og X.env scope.names []) C X.env,outer:=X.stack,stack:=X.stack,ex:=fp,fn:=fun _=>false,pn:=[],xe:=fun _ _=>False }
def tN(X:Cx)(ifs:List Expr)(t:TT):Prop :=
 ∀ (pins:List (Addr × Obj)) (s:Shared) (σ:St) (H:Hp) (Q:Bool->Hp->Prop),Inv X pins σ H s->t σ H Q ->
  wpAny (model X.prog X.w) X.A (forIn ifs true fun c r=>if r=true then do let ok <- isTrue c X.env (eval c X.env);pure (ForInStep.yield ok) else pure (ForInStep.yield r)) (TP X pins σ Q) X.xe s
def cy':TT:=fun _ H Q=>Q true H
theorem Cz{X:Cx}:tN X [] cy':=fun _ _ _ H _ I h=>wpAny_tests_nil ⟨H,I,h⟩
theorem Eg{X:Cx}(h:PT X c t):tN X [c] t:=fun pins s σ H Q I hw=>wpAny_tests_one (h pins s σ H Q I hw)
theorem gF{R:Result->Shared->Prop}(I:Nat->Shared->Prop)(E:Value->Shared->Prop)
  (turn:∀ n s,I n s->wpAny (model prog w) A (pyNext it) (fun r eK=>match r with
   |none=>R (.ok .next) eK
   |some v=>wpAny (model prog w) A (letOwnedTupleGo target it v) (fun _ eS=>wpAny (model prog w) A (assign target env v) (fun _ EI =>
     wpAny (model prog w) A (forIn ifs true fun c r=>if r=true then do let ok <- isTrue c env (eval c env);pure (ForInStep.yield ok) else pure (ForInStep.yield r)) (fun ok cq =>
      if ok=true then wpAny (model prog w) A (eval elt env) (fun x W0 =>
       wpAny (model prog w) A (call (.builtin "list.append") [acc,x]) (fun _ W3=>∃ m,m<n/\I m W3) E W0) E cq
      else ∃ m,m<n/\I m cq) E EI) E eS) E eK) E s)
  (hE:∀ e s',E e s'->notedBy (model prog w) A env (fun e s'=>R (.error e) s') e s')
  (n:Nat) (h:I n s) :
  codeAny (model prog w) A (.compLoop (.ListComp elt [⟨target,iter,ifs,0⟩] scope pos) 0 it acc env) R s:=by
 refine codeAny_loop rfl I (fun n s hI=>?_) n h
 show wpAny _ A ((compTurn (.ListComp elt [⟨target,iter,ifs,0⟩] scope pos) 0 it acc env).onRaise (fun x=>do noteFrame x env;theTreesLotGoes x)) _ _ s
 refine wpAny_noted ?_
 rw[compTurn_list]
 refine oq (Q:=_) (E:=E) ?_ (fun _ _ q=>q) hE
 refine ah (wpAny_standAt (ah (oq (turn n s hI) (fun r eK Ic=>?_) fun _ _ h'=>h')))
 cases r with
 |none=>exact aI Ic
 |some v =>
  refine ah (oq Ic (fun _ eS h₀=>?_) fun _ _ h'=>h')
  refine ah (oq h₀ (fun _ EI cz'=>ah (oq cz' (fun ok cq W4=>?_) fun _ _ h'=>h')) fun _ _ h'=>h')
  cases ok with
  |false=>exact aI ⟨rfl,W4⟩
  |true =>
   exact ah (ah (oq W4 (fun x W0 cA'=>ah (oq cA' (fun _ W3 cB'=>aI (aI ⟨rfl,cB'⟩)) fun _ _ h'=>h')) fun _ _ h'=>h'))
def pR(tn:Nat)(ix:List Nat)(σ:St):St:=List.replicate tn none++ix.map fun j=>(σ[j]?).join
def rN(wi:TI)(g:TG)(tc:TT)(te:TE)(tn:Nat)(ix:List Nat):TE:=fun σ H Q=>wi σ H fun J H1=>∀ D,H1 D=none ->
 ∃ W:Nat->Nat->St->Hp->Prop,(∃ m,W 0 m (pR tn ix σ) (upd H1 D (.lst [])))/\∀ i m τ H,W i m τ H ->
  (J.stop i H/\Q (.ref D) H)\/(J.go i H/\∃ (N1:St->V->Hp->Prop) (N2:St->Hp->Prop),
   (∀ ly v H4,N1 ly v H4->∃ ys m',H4 D=some (.lst ys)/\ys.length<sizeLine/\m'<m/\W (i+1) m' ly (upd H4 D (.lst (ys++[v])))) /\
   (∀ ly H3,N2 ly H3->∃ m',m'<m/\W (i+1) m' ly H3) /\
   ∀ x H',J.kR i H x H'->g x τ H' fun ly H2=>tc ly H2 fun b H3=>if b=true then te ly H3 (N1 ly) else N2 ly H3)
section
variable {X:Cx}{scope:Scope}{tn cn:List Str}{ix:List Nat}
structure bH(X:Cx)(scope:Scope)(tn cn:List Str)(ix:List Nat):Prop where
 kind:scope.kind=.function
 Sy:∀ y∈scope.names,y.2≠.cell
 free:∀ y∈scope.names,y.2=.free->X.env.scope.names.lookup y.1=some .cell\/X.env.scope.names.lookup y.1=some .free
 names:∀ y∈scope.names,y.2=.local->scope.names.lookup y.1=some .local
 len:ix.length=cn.length
 cap:∀ (k j:Nat),ix[k]? = some j->∃ y,cn[k]? = some y/\X.N[j]? = some y/\(X.env.scope.names.lookup y=some .cell\/X.env.scope.names.lookup y=some .free)/\(y,NameKind.free)∈scope.names /\
  ((relabel scope X.env).names.lookup y=some .cell\/(relabel scope X.env).names.lookup y=some .free)
 all:∀ x,(relabel scope X.env).names.lookup x=some .cell\/(relabel scope X.env).names.lookup x=some .free->(x,NameKind.free)∈scope.names
end
def Nq(scope:Scope)(env:Env)(C:Addr):List (Str × Addr):=cellsFrom (C+1) scope.names (og env scope.names [])
theorem yV:∀ (names:List (Str × NameKind)) (n:Nat) (acc:List (Str × Addr)),(∀ y c,acc.lookup y=some c->c<n)->(∀ x y c,acc.lookup x=some c->acc.lookup y=some c->x=y) ->
  ∀ x y c,(cellsFrom n names acc).lookup x=some c->(cellsFrom n names acc).lookup y=some c->x=y
 |[],_,_,_,hi,x,y,c,h1,h2=>hi x y c h1 h2
 | (nm,k) :: r,n,acc,hb,hi,x,y,c,h1,h2=>by
  unfold cellsFrom at h1 h2
  split at h1
  ·rename_i hk
   rw[if_pos hk] at h2
   refine yV r (n+1) ((nm,n) :: acc) (fun y c e=>?_) (fun x y c e1 e2=>?_) x y c h1 h2
   ·rw[yv] at e
    cases hq:y == nm with
    |true=>rw[hq] at e;cases e;exact Nat.lt_succ_self _
    |false=>rw[hq] at e;exact qA (hb y c e)
   ·rw[yv] at e1 e2
    cases hq:x == nm with
    |true =>
     rw[hq] at e1;cases e1
     cases hz:y == nm with
     |true=>rw[eq_of_beq hq,eq_of_beq hz]
     |false=>rw[hz] at e2;exact absurd (hb y _ e2) (pf _)
    |false =>
     rw[hq] at e1
     cases hz:y == nm with
     |true=>rw[hz] at e2;cases e2;exact absurd (hb x _ e1) (pf _)
     |false=>rw[hz] at e2;exact hi x y c e1 e2
  ·rename_i hk
   rw[if_neg hk] at h2
   exact yV r n acc hb hi x y c h1 h2
theorem uF:∀ (names:List (Str × NameKind)) (n:Nat) (acc:List (Str × Addr)) (x:Str),(x,NameKind.cell)∉names->(cellsFrom n names acc).lookup x=acc.lookup x
 |[],_,_,_,_=>rfl
 | (nm,k) :: r,n,acc,x,h=>by
  unfold cellsFrom
  have hr:(x,NameKind.cell)∉r:=fun z=>h (de _ z)
  split
  ·rename_i hk
   rw[uF r _ _ x hr,yv]
   have:(x == nm)=false:=by
    cases hq:x == nm with
    |false=>rfl
    |true=>exact absurd (by rw[eq_of_beq hq,<- eq_of_beq hk];exact df) h
   rw[this]
  ·exact uF r n acc x hr
theorem Bc:∀ (names:List (Str × NameKind)) (n:Nat) (acc:List (Str × Addr)) (x:Str) (c:Addr),(cellsFrom n names acc).lookup x=some c->n<=c\/acc.lookup x=some c
 |[],_,_,_,_,h=>.inr h
 | (nm,k) :: r,n,acc,x,c,h=>by
  unfold cellsFrom at h
  split at h
  ·rcases Bc r (n+1) _ x c h with z|z
   ·exact .inl (by lia)
   ·rw[yv] at z
    cases hq:x == nm with
    |true=>rw[hq] at z;cases z;exact .inl (bS _)
    |false=>rw[hq] at z;exact .inr z
  ·exact Bc r n acc x c h
theorem sY:∀ (names:List (Str × NameKind)) (n:Nat) (acc:List (Str × Addr)) (x:Str),(∃ c,acc.lookup x=some c)->∃ c,(cellsFrom n names acc).lookup x=some c
 |[],_,_,_,h=>h
 | (nm,k) :: r,n,acc,x,⟨c,h⟩=>by
  unfold cellsFrom
  split
  ·refine sY r (n+1) _ x ?_
   rw[yv]
   cases hq:x == nm with
   |true=>exact⟨_,rfl⟩
   |false=>exact⟨c,h⟩
  ·exact sY r n acc x ⟨c,h⟩
theorem uw:∀ (names:List (Str × NameKind)) (n:Nat) (acc:List (Str × Addr)) (x:Str),(x,NameKind.cell)∈names->∃ c,(cellsFrom n names acc).lookup x=some c/\n<=c
 |[],_,_,_,h=>nomatch h
 | (nm,k) :: r,n,acc,x,h=>by
  unfold cellsFrom
  by_cases hr:(x,NameKind.cell)∈r
  ·split
   ·obtain⟨c,e,z⟩:=uw r (n+1) ((nm,n) :: acc) x hr
    exact⟨c,e,by lia⟩
   ·exact uw r n acc x hr
  ·rcases dA.mp h with e|z
   ·cases e
    rw[if_pos (by rfl),uF r _ _ _ hr]
    exact⟨n,by simp[yv],bS _⟩
   ·exact absurd z hr
theorem mq:∀ (names:List (Str × NameKind)) (h:Heap) (acc:List (Str × Addr)),(∀ x c,acc.lookup x=some c->∃ v,h.IsCell c v)->∀ x c,(cellsFrom h.objs.size names acc).lookup x=some c->∃ v,(pushCells h names).IsCell c v
 |[],_,_,hc,x,c,e=>hc x c e
 | (nm,k) :: r,h,acc,hc,x,c,e=>by
  unfold pushCells
  unfold cellsFrom at e
  split at e
  ·rename_i hk
   rw[if_pos hk]
   refine mq r (h.push { cls:=.type "cell",data:=.cell none }) ((nm,h.objs.size) :: acc) (fun y d z=>?_) x c (by rw[Ee];exact e)
   rw[yv] at z
   cases hq:y == nm with
   |true=>rw[hq] at z;cases z;exact⟨none,_,g9 _ rfl,rfl⟩
   |false =>
    rw[hq] at z
    obtain⟨v,o,ho,hd⟩:=hc y d z
    exact⟨v,o,eL _ ho,hd⟩
  ·rename_i hk
   rw[if_neg hk]
   exact mq r h acc hc x c e
theorem dJ
  (hc:∀ x c,cl.lookup x=some c->∃ v,s.heap.IsCell c v)
  (hQ:∀ h',h'.Ns s.heap.objs.size (fun _=>none)->(∀ b o,s.heap.get? b=some o->h'.get? b=some o)->(∀ x c,(cellsFrom (s.heap.objs.size+1) scope.names cl).lookup x=some c->∃ v,h'.IsCell c v) ->
   Q (newEnv scope s.heap.objs.size globals (cellsFrom (s.heap.objs.size+1) scope.names cl) qual none .none (some env) builtinsNs) { s with heap:=h' }) :
  wpAny M A (newFunctionEnv scope globals cl [] qual none .none (some env)) Q E s:=by
 simp only[newFunctionEnv,Option.isSome_some,if_true]
 refine ah (wpAny_alloc ?_)
 refine ah (wpAny_layCells _ (fun name kind cells=>by cases hkc:kind == NameKind.cell<;>simp[hkc]) _ _ _ _ ?_)
 rw[show({ s with heap:=s.heap.push { cls:=.type "dict",data:=.dict #[] } }:Shared).heap.objs.size=s.heap.objs.size+1 from Ee ..]
 refine ah ?_
 rw[List.forIn_nil]
 refine aI (aI (hQ _ ((Heap.Ns.new s.heap (.type "dict")).keeps (pushCells_keeps _ _)) (fun b o e=>pushCells_keeps _ _ b o (eL _ e)) fun x c e=>?_))
 refine mq scope.names (s.heap.push { cls:=.type "dict",data:=.dict #[] }) cl (fun y d z=>?_) x c (by rw[Ee];exact e)
 obtain⟨v,o,ho,hd⟩:=hc y d z
 exact⟨v,o,eL _ ho,hd⟩
def aJ(X:Cx)(scope:Scope)(C:Addr)(N:List Str)(fp:List Addr)(cq:Shared)(cx:Hp):Cx :=
 { X with N:=N,eS:=cq,kc:=cx,env:=compEnvC scope (Nq scope X.env C) C X.env,outer:=X.stack,stack:=X.stack,ex:=fp,fn:=fun x=>scope.names.lookup x == some .cell,pn:=[],xe:=fun _ _=>False }
section
variable {X:Cx}{tg iter elt:Expr}{ifs:List Expr}{scope:Scope}{pos:Pos}{wi:TI}{g:TG}{tc:TT}{te:TE}{tn cn:List Str}{ix:List Nat}
structure eO(X:Cx)(scope:Scope)(tn cn:List Str)(ix:List Nat):Prop where
 kind:scope.kind=.function
 free:∀ y∈scope.names,y.2=.free->X.env.scope.names.lookup y.1=some .cell\/X.env.scope.names.lookup y.1=some .free
 names:∀ y∈scope.names,y.2=.local->scope.names.lookup y.1=some .local
 len:ix.length=cn.length
 cap:∀ (k j:Nat),ix[k]? = some j->∃ y,cn[k]? = some y/\X.N[j]? = some y/\(X.env.scope.names.lookup y=some .cell\/X.env.scope.names.lookup y=some .free)/\(y,NameKind.free)∈scope.names /\
  ((relabel scope X.env).names.lookup y=some .cell\/(relabel scope X.env).names.lookup y=some .free)/\(y,NameKind.cell)∉scope.names
 all:∀ x,(relabel scope X.env).names.lookup x=some .cell\/(relabel scope X.env).names.lookup x=some .free->(x,NameKind.free)∈scope.names\/(x,NameKind.cell)∈scope.names
theorem vD(O:eO X scope tn cn ix)(I:Inv X pins σ H s)(hf:∀ b∈fp,tj X pins H b)(W5:∀ b∈fp,b<s.heap.objs.size)(hC:s.heap.objs.size<=C) :
  (aJ X scope C (tn++cn) fp s H).Ok:=by
 have ip:∀ y∈scope.names,y.2=.free->∃ c,X.env.cells.lookup y.1=some c:=fun y hy hk=>I.ok.has y.1 (O.free y hy hk)
 have sub:∀ x c,(og X.env scope.names []).lookup x=some c->X.env.cells.lookup x=some c:=fun x c e=>oF ip (fun y d h=>by simp at h) e
 have clt:∀ x c,(og X.env scope.names []).lookup x=some c->c<C+1:=fun x c e=>by
  obtain⟨v,hv⟩:=I.cell x c (sub x c e)
  exact qA (kP hv.lt hC)
 refine⟨I.ok.mod,O.kind,I.ok.glob,I.ok.blt,hC,yV _ _ _ clt fun x y c h1 h2=>I.ok.inj x y c (sub x c h1) (sub y c h2),fun x hx=>?_,fun x c h e=>?_,I.ok.hd,I.ok.frames,.inl rfl,fun b hb=>⟨?_,fun x c e=>?_⟩,
  I.bs,jI I.ok.ti I.sz,fun b o e hb=>?_,fun b hb=>?_,I.stack,I.RL⟩
 ·rcases O.all x hx with z|z
  ·exact sY _ _ _ _ (kW (.inl z))
  ·obtain⟨c,e,_⟩:=uw scope.names (C+1) (og X.env scope.names []) x z
   exact⟨c,e⟩
 ·have h:scope.names.lookup x=some .cell:=eq_of_beq h
  obtain⟨c',e',z⟩:=uw scope.names (C+1) (og X.env scope.names []) x (PySem.mem_of_lookup h)
  have e:(Nq scope X.env C).lookup x=some c:=e
  unfold Nq at e
  rw[e'] at e
  cases e
  exact jI hC (Rw z)
 ·exact eI (kP (W5 b hb) hC)
 ·rcases Bc _ _ _ _ _ e with z|z
  ·exact yA (kP (W5 b hb) (jI hC (Rw z)))
  ·exact(hf b hb).2.2.2.2.1 x c (sub x c z)
 ·rcases (hf b hb).2.2.2.1 with z|z
  ·exact I.ok.y3 b o e z
  ·exact absurd (kP (dc e) (jI I.ok.ti z)) (pf _)
 ·intro hz
  rcases dA.mp (I.RK b hz) with e|e
  ·exact(hf b hb).2.1 e
  ·exact(hf b hb).2.2.1 e
theorem lR{P:Value->Shared->Prop}(hc:X.calm=true)(hi:PI X tg iter wi)(O:eO X scope tn cn ix)
  (hg:∀ C fp cq cx,PG (aJ X scope C (tn++cn) fp cq cx) tg g) (mB:∀ C fp cq cx,tN (aJ X scope C (tn++cn) fp cq cx) ifs tc) (he:∀ C fp cq cx,PE (aJ X scope C (tn++cn) fp cq cx) elt te)
  (hs:∀ x,foldedSetIterable iter X.env x=pure x) (I:Inv X pins σ H s) (h:rN wi g tc te tn.length ix σ H Q)
  (fin:∀ (C D:Addr) (m:Str->Option Value) (H5:Hp) (s6:Shared) (r:Flow),Inv X pins σ H5 s6->s6.heap.Ns C m->H5 C=none->tj X pins H5 C->Q (.ref D) H5->compPost (model X.prog X.w) X.A X.xe use P (.ref D) C (.ok r) s6) :
  wpAny (model X.prog X.w) X.A (comprehension (.ListComp elt [⟨tg,iter,ifs,0⟩] scope pos) scope X.env W6 (newList []) false (eval iter X.env) use) P X.xe s:=by
 have ip:∀ y∈scope.names,y.2=.free->∃ c,X.env.cells.lookup y.1=some c:=fun y hy hk=>I.ok.has y.1 (O.free y hy hk)
 have sub:∀ x c,(og X.env scope.names []).lookup x=some c->X.env.cells.lookup x=some c:=fun x c e=>oF ip (fun y d h=>by simp at h) e
 refine wpAny_comprehension_free (use:=use) rfl hs (oU ip) O.kind O.names (b5 (hi pins s σ H _ I h) fun v s1 h1=>b5 h1 fun R0 s2 h2=>?_)
 obtain⟨it,fp,PR,J,H2,e,I2,T,vv,f2,h2⟩:=h2
 subst e
 obtain⟨W,⟨m0,w0⟩,turn⟩:=h2 s2.heap.objs.size (I2.aC.fresh (bS _))
 refine wpAny_newObj_type ?_
 have I3:Inv X pins σ (upd H2 s2.heap.objs.size (.lst [])) { s2 with heap:=s2.heap.push { cls:=.type "list",data:=.seq ([]:List Value).toArray } }:=I2.Wy (its:=[]) (t':=s2.toks) .nil (eP _)
 generalize hD:s2.heap.objs.size=D at *
 generalize W7:({ s2 with heap:=s2.heap.push { cls:=.type "list",data:=.seq ([]:List Value).toArray } }:Shared)=s3 at *
 have k23:∀ b o,s2.heap.get? b=some o->s3.heap.get? b=some o:=fun b o e=>by rw[<- W7];exact eL _ e
 have sz3:s3.heap.objs.size=D+1:=by rw[<- W7,<- hD];exact Ee ..
 have f3:∀ b∈fp,tj X pins (upd H2 D (.lst [])) b:=fun b hb=>by
  obtain⟨f0,fr⟩:=f2 b hb
  obtain⟨o,ho,_⟩:=T.obj _ _ vv b hb
  refine⟨?_,fr⟩
  rw[cc (eI (by rw[<- hD];exact dc ho))]
  exact f0
 have vw:PR 0 s3.heap:=T.keep _ _ _ vv fun b hb o e=>k23 b o e
 have lt3:∀ b∈fp,b<s3.heap.objs.size:=fun b hb=>by
  obtain⟨o,ho,_⟩:=T.obj _ _ vw b hb
  exact dc ho
 refine dJ (fun x c e=>I3.cell x c (sub x c e)) (fun Ic cG' Iq Sz=>?_)
 -- the block's context
 have PX:=vD (C:=s3.heap.objs.size) O I3 f3 lt3 (bS _)
 have I4:Inv (aJ X scope s3.heap.objs.size (tn++cn) fp s3 (upd H2 D (.lst []))) [] (pR tn.length ix σ) (upd H2 D (.lst [])) { s3 with heap:=Ic }:=by
  refine⟨PX,rfl,I3.bare,Un.kept Iq,⟨_,cG',fun i x v e1 e2 e3=>?_⟩,fun x c e=>?_,I3.aC.fresh (bS _),fun x c e=>(Bc _ _ _ _ _ e).elim (fun z=>I3.aC.fresh (Rw z)) fun z=>I3.nh x c (sub x c z),fun p hp=>absurd hp (by simp[aJ]),I3.aC.kept Iq,?_⟩
  ·have iE:tn.length<=i:=by
    by_cases q:i<tn.length
    ·unfold pR at e2
     rw[FY (by simpa using q),Rh] at e2
     simp[q] at e2
    ·lia
   unfold pR at e2
   rw[AI (by simpa using iE),Rj,ox] at e2
   have e1:(tn++cn)[i]? = some x:=e1
   rw[AI iE] at e1
   cases q:ix[i-tn.length]? with
   |none=>rw[q] at e2;cases e2
   |some j =>
    rw[q] at e2
    obtain⟨y,c1,c2,c3,c4,c5,c6⟩:=O.cap _ _ q
    rw[c1] at e1;cases e1
    have e2:σ[j]?.join=some v:=Option.some.inj e2
    have ej:σ[j]? = some (some v):=by
     cases z:σ[j]? with
     |none=>rw[z] at e2;cases e2
     |some o=>rw[z] at e2;exact congrArg some e2
    obtain⟨m,hn,hl⟩:=I3.loc
    obtain⟨u,r,l⟩:=hl j x v c2 ej (c3.elim (fun z=>.inr (.inl z)) fun z=>.inr (.inr z))
    refine⟨u,r,.inr ⟨c5,?_⟩⟩
    rcases l with⟨hk,_⟩|⟨hk,c,Pa,Sz⟩
    ·have hk:X.env.scope.names.lookup x=some .local:=hk
     rcases c3 with z|z
     ·rw[z] at hk;cases hk
     ·rw[z] at hk;cases hk
    ·obtain⟨c',y9⟩:=kW (env:=X.env) (cs:=[]) (Or.inl c4)
     have:=sub x c' y9
     rw[Pa] at this;cases this
     obtain⟨o,ho,hd⟩:=Sz
     exact⟨c,(uF _ _ _ _ c6).trans y9,o,Iq _ _ ho,hd⟩
  ·exact Sz x c e
  ·show(pR tn.length ix σ).length=(tn++cn).length
   unfold pR
   simp[O.len]
 -- from the block back to the body
 have back:∀ {τ:St} {H':Hp} {s':Shared},Inv (aJ X scope s3.heap.objs.size (tn++cn) fp s3 (upd H2 D (.lst []))) [] τ H' s'->Inv X pins σ H' s':=fun {τ H' s'} I' =>
  Inv.ZD (ch:=fp) I3 I'.os I'.base I'.aC I'.bare fun b hb=>by
   obtain⟨_,f1,_,f3',f4,f5⟩:=f3 b hb
   exact⟨f3',f1,f4,f5⟩
 have SD:∀ {H':Hp},(∀ b∈fp,H' b=none)->∀ b∈fp,tj (aJ X scope s3.heap.objs.size (tn++cn) fp s3 (upd H2 D (.lst []))) [] H' b:=fun hn b hb =>
  ⟨hn b hb,(PX.AV b hb).1,PX.y6 b hb,.inl hb,(PX.AV b hb).2,fun p hp=>absurd hp (by simp[aJ])⟩
 have loop:∀ s4:Shared,Inv (aJ X scope s3.heap.objs.size (tn++cn) fp s3 (upd H2 D (.lst []))) [] (pR tn.length ix σ) (upd H2 D (.lst [])) s4->PR 0 s4.heap ->
   codeAny (model X.prog X.w) X.A (.compLoop (.ListComp elt [⟨tg,iter,ifs,0⟩] scope pos) 0 (.ref it) (.ref D) (compEnvC scope (Nq scope X.env s3.heap.objs.size) s3.heap.objs.size X.env))
    (compPost (model X.prog X.w) X.A X.xe use P (.ref D) s3.heap.objs.size) s4:=by
  intro s4 I4 tP
  refine gF (fun n s'=>∃ i τ H',Inv (aJ X scope s3.heap.objs.size (tn++cn) fp s3 (upd H2 D (.lst []))) [] τ H' s'/\PR i s'.heap/\(∀ b∈fp,H' b=none)/\W i n τ H') (fun _ _=>False) ?_ (fun _ _ z=>z.elim) m0
   ⟨0,_,_,I4,tP,fun b hb=>(f3 b hb).1,w0⟩
  rintro n s5 ⟨i,τ,H5,I5,EH,Pn,w5⟩
  rcases turn i n τ H5 w5 with⟨stop,qn⟩|⟨go,N1,N2,hN1,A8,step⟩
  ·refine b5 (T.done (aJ X scope s3.heap.objs.size (tn++cn) fp s3 (upd H2 D (.lst []))) rfl rfl rfl hc i [] s5 τ H5 (fun _ _=>False) I5 (SD Pn) EH stop) fun r s6 cE=>?_
   obtain⟨hr,I6⟩:=cE
   subst hr
   have J6:=back I6
   obtain⟨m,hn,_⟩:=I6.loc
   exact fin _ D m H5 s6 _ J6 hn I6.free (I3.HC (b:=s3.heap.objs.size) (H':=H5) (bS _) I6.free) qn
  ·refine b5 (T.item (aJ X scope s3.heap.objs.size (tn++cn) fp s3 (upd H2 D (.lst []))) rfl rfl rfl hc i [] s5 τ H5 (fun _ _=>False) I5 (SD Pn) EH go) fun r s6 cE=>?_
   obtain⟨u,hr,h6⟩:=cE
   subst hr
   refine b5 h6 fun _ s7 cE=>?_
   obtain⟨x,H7,I7,r7,y7,SF,fr7⟩:=cE
   have I7':=I7.pinned (SD fr7) (T.obj _ _ SF)
   refine b5 (hg _ _ _ _ _ s7 τ H7 x u _ I7' r7 (step x H7 y7)) fun _ s8 cE=>?_
   obtain⟨Iy,H8,I8,q8⟩:=cE
   refine b5 (mB _ _ _ _ _ s8 Iy H8 _ I8 q8) fun ok s9 cE=>?_
   obtain⟨H9,I9,q9⟩:=cE
   have again:∀ {s':Shared} {H':Hp} {m':Nat},Inv (aJ X scope s3.heap.objs.size (tn++cn) fp s3 (upd H2 D (.lst []))) ([]++MZ fp s7.heap) Iy H' s'->m'<n->W (i+1) m' Iy H' ->
     ∃ m,m<n/\∃ i τ H',Inv (aJ X scope s3.heap.objs.size (tn++cn) fp s3 (upd H2 D (.lst []))) [] τ H' s'/\PR i s'.heap/\(∀ b∈fp,H' b=none)/\W i m τ H':=fun {s' H' m'} J hm w'=>by
    refine⟨m',hm,i+1,Iy,H',J.Pm,T.keep _ _ _ SF fun b hb o e=>(J.pin (b,o) (fw _ (fw _ (Pl hb e)))).1,fun b hb=>?_,w'⟩
    obtain⟨o,e,d⟩:=T.obj _ _ SF b hb
    exact(J.pin (b,o) (fw _ (fw _ (Pl hb e)))).2.1
   cases ok with
   |false =>
    rw[if_neg ja] at q9 ⊢
    obtain⟨m',hm,w'⟩:=A8 _ _ q9
    exact again I9 hm w'
   |true =>
    rw[if_pos rfl] at q9 ⊢
    refine b5 (he _ _ _ _ _ s9 Iy H9 _ I9 q9) fun x9 s10 b6=>L2.fE b6 fun v10 W8 I10 SG q10=>?_
    obtain⟨ys,m',hH,hz,hm,w'⟩:=hN1 _ _ _ q10
    refine b5 (Sq _ s10 Iy W8 (.ref D) [v10] (.ref D) [x9] (fun _ H'=>H'=upd W8 D (.lst (ys++[v10]))) I10 rfl (.cons SG .nil) ⟨D,ys,v10,rfl,rfl,hH,hz,rfl⟩) fun _ s11 b6=>L2.fE b6 fun _ H11 I11 _ q11=>?_
    subst q11
    exact again I11 hm w'
 exact codeAny_compStart_list (loop _ I4 (T.keep _ _ _ vw fun b hb o e=>Iq b o e)) (T.self _ 0 _ _ _ (T.keep _ _ _ vw fun b hb o e=>Iq b o e) (loop _ I4 (T.keep _ _ _ vw fun b hb o e=>Iq b o e)))
theorem Aj(hc:X.calm=true)(hi:PI X tg iter wi)(O:eO X scope tn cn ix)
  (hg:∀ C fp cq cx,PG (aJ X scope C (tn++cn) fp cq cx) tg g) (mB:∀ C fp cq cx,tN (aJ X scope C (tn++cn) fp cq cx) ifs tc) (he:∀ C fp cq cx,PE (aJ X scope C (tn++cn) fp cq cx) elt te)
  (hs:∀ x,foldedSetIterable iter X.env x=pure x:=by intro _;rfl):PE X (.ListComp elt [⟨tg,iter,ifs,0⟩] scope pos) (rN wi g tc te tn.length ix):=by
 intro pins s σ H Q I h
 rw[eval_ListComp]
 refine lR (use:=none) (P:=EP X pins σ Q) hc hi O hg mB he hs I h fun C D m H5 s6 r J6 hn hf ⟨_,g1,_,g3,g4,g5⟩ qn=>⟨m,hn,fun h' Nr=>⟨.ref D,H5,?_,rfl,qn⟩⟩
 exact J6.turned (t':=s6.toks) (fun b o hb e=>Nr.extBut b o hb e) hf g1 g3 g4 g5
theorem yC:∀ (names:List (Str × NameKind)) (n:Nat) (acc:List (Str × Addr)),(∀ y∈names,y.2≠.cell)->cellsFrom n names acc=acc
 |[],_,_,_=>rfl
 | (nm,k) :: r,n,acc,h=>by
  unfold cellsFrom
  rw[if_neg fun z=>h (nm,k) df (eq_of_beq z)]
  exact yC r n acc fun y hy=>h y (de _ hy)
theorem nQ(O:bH X scope tn cn ix)(C:Addr)(N:List Str)(fp:List Addr)(s:Shared)(H:Hp):aJ X scope C N fp s H=cQ X scope C N fp s H:=by
 unfold aJ cQ Nq
 rw[yC _ _ _ O.Sy]
 have:(fun x=>scope.names.lookup x == some NameKind.cell)=fun _=>false:=by
  funext x
  cases e:scope.names.lookup x with
  |none=>rfl
  |some k =>
   have:=O.Sy _ (PySem.mem_of_lookup e)
   cases k<;>simp_all
 rw[this]
theorem uO(O:bH X scope tn cn ix):eO X scope tn cn ix :=
 ⟨O.kind,O.free,O.names,O.len,fun k j h=>by
  obtain⟨y,a,b,c,d,e⟩:=O.cap k j h
  exact⟨y,a,b,c,d,e,fun z=>O.Sy _ z rfl⟩,fun x h=>.inl (O.all x h)⟩
theorem zW{W6:Pos}{use:Option (Value->Sem Unit)}{P:Value->Shared->Prop}(hc:X.calm=true)(hi:PI X tg iter wi)(O:bH X scope tn cn ix)
  (hg:∀ C fp cq cx,PG (cQ X scope C (tn++cn) fp cq cx) tg g) (mB:∀ C fp cq cx,tN (cQ X scope C (tn++cn) fp cq cx) ifs tc) (he:∀ C fp cq cx,PE (cQ X scope C (tn++cn) fp cq cx) elt te)
  (hs:∀ x,foldedSetIterable iter X.env x=pure x) {pins:List (Addr × Obj)} {s:Shared} {σ:St} {H:Hp} {Q:V->Hp->Prop} (I:Inv X pins σ H s) (h:rN wi g tc te tn.length ix σ H Q)
  (fin:∀ (C D:Addr) (m:Str->Option Value) (H5:Hp) (s6:Shared) (r:Flow),Inv X pins σ H5 s6->s6.heap.Ns C m->H5 C=none->tj X pins H5 C->Q (.ref D) H5->compPost (model X.prog X.w) X.A X.xe use P (.ref D) C (.ok r) s6) :
  wpAny (model X.prog X.w) X.A (comprehension (.ListComp elt [⟨tg,iter,ifs,0⟩] scope pos) scope X.env W6 (newList []) false (eval iter X.env) use) P X.xe s :=
 lR hc hi (uO O) (fun C fp cq cx=>by rw[nQ O];exact hg C fp cq cx) (fun C fp cq cx=>by rw[nQ O];exact mB C fp cq cx) (fun C fp cq cx=>by rw[nQ O];exact he C fp cq cx) hs I h fin
theorem DR(hc:X.calm=true)(hi:PI X tg iter wi)(O:bH X scope tn cn ix)
  (hg:∀ C fp cq cx,PG (cQ X scope C (tn++cn) fp cq cx) tg g) (mB:∀ C fp cq cx,tN (cQ X scope C (tn++cn) fp cq cx) ifs tc) (he:∀ C fp cq cx,PE (cQ X scope C (tn++cn) fp cq cx) elt te)
  (hs:∀ x,foldedSetIterable iter X.env x=pure x:=by intro _;rfl):PE X (.ListComp elt [⟨tg,iter,ifs,0⟩] scope pos) (rN wi g tc te tn.length ix) :=
 Aj hc hi (uO O) (fun C fp cq cx=>by rw[nQ O];exact hg C fp cq cx) (fun C fp cq cx=>by rw[nQ O];exact mB C fp cq cx) (fun C fp cq cx=>by rw[nQ O];exact he C fp cq cx) hs
theorem wz(hN:X.N.Nodup)(rp:X.N[i]? = some x)(hx:Loc X.env.scope x)(hc:X.calm=true)(hi:PI X tg iter wi)(O:bH X scope tn cn ix)
  (hg:∀ C fp cq cx,PG (cQ X scope C (tn++cn) fp cq cx) tg g) (mB:∀ C fp cq cx,tN (cQ X scope C (tn++cn) fp cq cx) ifs tc) (he:∀ C fp cq cx,PE (cQ X scope C (tn++cn) fp cq cx) elt te)
  (EX:swapsWith (.ListComp elt [⟨tg,iter,ifs,0⟩] scope pos) (some (.Name x pos')) A9.line X.env=pure true)
  (hs:∀ x,foldedSetIterable iter X.env x=pure x:=by intro _;rfl) (hf:X.fn x=true\/X.env.scope.names.lookup x=some .local:=by first|exact .inl rfl|exact .inr rfl|assumption) :
  PS X (.Assign [.Name x pos'] (.ListComp elt [⟨tg,iter,ifs,0⟩] scope pos) A9) (RW (rN wi g tc te tn.length ix) (Ph i)):=by
 intro pins s σ H D0 I h
 rw[exec_Assign_Name_used _ _ _ _ EX]
 refine ah (wpAny_standAt (ah ?_))
 show wpAny _ _ (do let _ <- comprehension (.ListComp elt [⟨tg,iter,ifs,0⟩] scope pos) scope X.env _ (newList []) false (eval iter X.env) (some (assign (.Name x pos') X.env))) _ _ s
 refine ah (oq (zW (use:=some (assign (.Name x pos') X.env)) (P:=fun _ s'=>SP X pins D0 .next s') hc hi O hg mB he hs I h fun C D m H5 s6 r J6 hn zC ⟨_,g1,_,g3,g4,g5⟩ qn=>?_) (fun _ s' hq=>aI (aI hq)) fun _ _ e=>e)
 refine(show wpAny _ _ (assign (.Name x pos') X.env (.ref D)) _ _ s6 from wpAny_assign_Name (O9 J6 hN rp hx (v:=.ref D) rfl (fun s7 I7 cE=>?_) hf))
 obtain⟨a,sb,ha⟩:=cE
 have SJ:C≠a:=by
  rcases ha with rfl|ha
  ·exact g1
  ·exact Ne.symm (g4 _ a ha)
 refine⟨m,hn.sameBut sb SJ,fun h' Nr=>⟨_,H5,?_,qn⟩⟩
 exact I7.turned (t':=s7.toks) (fun b o hb e=>Nr.extBut b o hb e) zC g1 g3 g4 g5
end
def IA (a b:String):Bool:=a == b || (a == "bool" && b == "int")
def SK (b:String):Bool:=["str", "int", "bool", "list", "tuple", "dict"].contains b
theorem jw (K:PySem.W.Frag) (a b:String) (ha:a∈["NoneType", "bool", "int", "str", "list", "tuple", "dict"]) (hb:b∈["str", "int", "bool", "list", "tuple", "dict"]):PySem.W.kitOne K (.type a) (.type b)=some (IA a b):=by
 simp only[dA,wt,or_false] at ha hb
 rcases ha with rfl|rfl|rfl|rfl|rfl|rfl|rfl<;>rcases hb with rfl|rfl|rfl|rfl|rfl|rfl<;>kernel_rfl
section
variable {X:Cx}
theorem dn.imp(h:dn X f r)(hi:∀ x y H Q,r' x y H Q->r x y H Q):dn X f r' :=
 fun pins s σ H x y v u Q I rx ry q=>h pins s σ H x y v u Q I rx ry (hi x y H Q q)
def Jd(K:PySem.W.Frag):R2:=fun x y H Q=>∃ l b xs zs,x=.ref l/\y=.ref b/\eM K H l xs/\eM K H b zs/\xs.length+zs.length<=sizeLine/\∀ p,H p=none->Q (.ref p) (upd H p (.lst (xs++zs)))
theorem Cm:dn X (binaryOp .Add) (Jd X.K):=by
 intro pins s σ H x y v u Q I rx ry h
 obtain⟨l,b,xs,zs,rfl,rfl,hH,hB,hz,q⟩:=h
 cases rx
 cases ry
 obtain⟨its,r,pl,z⟩:=I.list hH
 obtain⟨A3,r2,SN,z2⟩:=I.list hB
 have hl:=r.length
 have vS:=r2.length
 obtain⟨⟨cls,dd,data,sl⟩,ho,hc,n,hd⟩:=id pl.isList
 obtain⟨⟨aZ',Pw,data2,Px⟩,zo,HM,n2,hd2⟩:=id SN.isList
 simp only at hc hd HM hd2
 subst hc hd HM hd2
 have ea:its.toArray++A3.toArray=(its++A3).toArray:=by simp
 refine concat_meets ⟨_,ho,rfl⟩ ⟨_,zo,rfl⟩ noFill_list_add seq_list_add PySem.F.slot_list_add PySem.F.entry_list_add (PySem.F.args_list_add_2 _ _) (list_addW l b its.toArray A3.toArray n n2 dd Pw sl Px (by simp only[gy];lia)) ⟨ho,zo,?_⟩
 rw[ea]
 exact⟨.ref _,_,I.Wy (t':=s.toks) (r.append r2) (by rw[kz];lia),rfl,q _ I.fresh⟩
def zO(K:PySem.W.Frag):R2:=fun x y H Q=>match x,y with
 |.int i,.int j=>Q (.int (i+j)) H
 |.str i,.str j=>i.length+j.length<=sizeLine/\Q (.str (i++j)) H
 |.ref a,.ref b=>∃ xs zs,eM K H a xs/\eM K H b zs/\xs.length+zs.length<=sizeLine/\∀ p,H p=none->Q (.ref p) (upd H p (.lst (xs++zs)))
 |_,_=>False
theorem Et:dn X (binaryOp .Add) (zO X.K):=by
 refine(an'.or (aM'.or Cm)).imp fun x y H Q h=>?_
 unfold zO at h
 split at h
 ·exact .inl ⟨_,_,rfl,rfl,h⟩
 ·exact .inr (.inl ⟨_,_,rfl,rfl,h.1,h.2⟩)
 ·obtain⟨xs,zs,h1,h2,h3,h4⟩:=h
  exact .inr (.inr ⟨_,_,xs,zs,rfl,rfl,h1,h2,h3,h4⟩)
 ·exact h.elim
def Cq:R2:=fun x y H Q=>match x,y with
 |.int i,.int j=>Q (.int (i-j)) H
 |_,_=>False
theorem Cr:dn X (binaryOp .Sub) Cq:=ao'.imp fun x y H Q h=>by
 unfold Cq at h
 split at h
 ·exact⟨_,_,rfl,rfl,h⟩
 ·exact h.elim
def D_:R2:=fun x y H Q=>match x,y with
 |.int i,.int j=>EJ i j/\Q (.int (i*j)) H
 |_,_=>False
theorem Cg:dn X (binaryOp .Mult) D_:=ap'.imp fun x y H Q h=>by
 unfold D_ at h
 split at h
 ·exact⟨_,_,rfl,rfl,h.1,h.2⟩
 ·exact h.elim
def CV:R2:=fun x y H Q=>match x,y with
 |.int i,.int j=>(0<j/\j<1073741824)/\Q (.int (i / j)) H
 |_,_=>False
theorem Eo:dn X (binaryOp .FloorDiv) CV:=aq'.imp fun x y H Q h=>by
 unfold CV at h
 split at h
 ·exact⟨_,_,rfl,rfl,h.1,h.2⟩
 ·exact h.elim
def Dn:R2:=fun x y H Q=>match x,y with
 |.int i,.int j=>0<j/\Q (.int (i % j)) H
 |_,_=>False
theorem Cu:dn X (binaryOp .Mod) Dn:=ar'.imp fun x y H Q h=>by
 unfold Dn at h
 split at h
 ·exact⟨_,_,rfl,rfl,h.1,h.2⟩
 ·exact h.elim
def Dg:R2:=fun x y H Q=>match x,y with
 |.int i,.int j=>HL i j/\Q (.int (i ^ j.toNat)) H
 |_,_=>False
theorem Ep:dn X (binaryOp .Pow) Dg:=au'.imp fun x y H Q h=>by
 unfold Dg at h
 split at h
 ·exact⟨_,_,rfl,rfl,h.1,h.2⟩
 ·exact h.elim
def pE(x y:Str):Bool:=decide (x.cps.toList<y.cps.toList)
def SQ:R2:=fun x y H Q=>match x,y with
 |.int i,.int j=>Q (.bl (decide (i<j))) H
 |.str i,.str j=>Q (.bl (pE i j)) H
 |_,_=>False
theorem uf:dn X (compareOp .Lt) SQ:=(aB'.or aD').imp fun x y H Q h=>by
 unfold SQ at h
 split at h
 ·exact .inl ⟨_,_,rfl,rfl,h⟩
 ·exact .inr ⟨_,_,rfl,rfl,h⟩
 ·exact h.elim
theorem xM:dn X (compareOp .LtE) (fun x y H Q=>∃ i j,x=.str i/\y=.str j/\Q (.bl (!pE j i)) H):=by
 intro pins s σ H x y v u Q I rx ry h
 obtain⟨i,j,rfl,rfl,q⟩:=h
 obtain⟨t,rfl⟩:=rx
 obtain⟨t',rfl⟩:=ry
 exact PySem.P.le_str ⟨.bl _,H,I,rfl,q⟩
def SV:R2:=fun x y H Q=>match x,y with
 |.int i,.int j=>Q (.bl (decide (i<=j))) H
 |.str i,.str j=>Q (.bl (!pE j i)) H
 |_,_=>False
theorem GF:dn X (compareOp .LtE) SV:=(aC'.or xM).imp fun x y H Q h=>by
 unfold SV at h
 split at h
 ·exact .inl ⟨_,_,rfl,rfl,h⟩
 ·exact .inr ⟨_,_,rfl,rfl,h⟩
 ·exact h.elim
theorem Inv.rd(I:Inv X pins σ H s)(e:Rd H a u):eJ X.prog X.w H s.heap a u:=e.elim (I.aC a _) fun⟨o,e⟩=>(show eJ X.prog X.w H s.heap a (.dQ o u) from I.aC a _ e).2
def PY(K:PySem.W.Frag):List V->Hp->VK->Prop:=fun xs H Q=>match xs with
 |[.str y]=>y.length<=sizeLine/\Q (.int y.length) H
 |[.ref p]=>(∃ ys,eM K H p ys/\Q (.int ys.length) H)\/(∃ ys,kg K H p ys/\Q (.int ys.length) H)\/∃ kvs,Rd H p (.dK kvs)/\Q (.int kvs.length) H
 |_=>False
theorem yO:kS X (.builtin "len") (PY X.K):=by
 intro pins s σ H xs us Q I r h
 unfold PY at h
 split at h
 ·exact R7 pins s σ H _ us Q I r ⟨_,_,rfl,⟨h.1,rfl⟩,h.2⟩
 ·rcases h with⟨ys,h1,h2⟩|⟨ys,h1,h2⟩|⟨kvs,h1,h2⟩
  ·exact R7 pins s σ H _ us Q I r ⟨_,_,rfl,.inl ⟨ys,h1,rfl⟩,h2⟩
  ·exact R7 pins s σ H _ us Q I r ⟨_,_,rfl,.inr ⟨ys,h1,rfl⟩,h2⟩
  ·obtain⟨u,rfl,ru⟩:=vals1 r
   cases ru
   exact bY' I h1 fun t s' I'=>⟨.int kvs.length,H,I',⟨t,rfl⟩,h2⟩
 ·exact h.elim
def SW(K:PySem.W.Frag):R2:=fun x y H Q=>match x,y with
 |.ref p,.int i=>(∃ xs v,eM K H p xs/\fR xs i=some v/\Q v H)\/∃ xs v,kg K H p xs/\fR xs i=some v/\Q v H
 |.str z,.int i=>z.length<=sizeLine/\∃ c,fR z.cps.toList i=some c/\Q (.str ⟨#[c]⟩) H
 |_,_=>False
theorem Hj:vF X (SW X.K):=by
 intro value slice pins s σ H x y v u Q I rx ry h hs
 refine bv' value slice pins s σ H x y v u Q I rx ry ?_ hs
 unfold SW at h
 split at h
 ·rcases h with⟨xs,w,h1,h2,h3⟩|⟨xs,w,h1,h2,h3⟩
  ·exact .inl ⟨_,xs,_,w,rfl,rfl,h1,h2,h3⟩
  ·exact .inr (.inl ⟨_,xs,_,w,rfl,rfl,h1,h2,h3⟩)
 ·obtain⟨h1,c,h2,h3⟩:=h
  exact .inr (.inr ⟨_,_,c,rfl,rfl,h1,h2,h3⟩)
 ·exact h.elim
def rq(z:Str)(lo hi:Option Int):Str:=⟨((z.cps.toList.drop (HT.bI z.length 0 lo)).take (HT.bI z.length z.length hi-HT.bI z.length 0 lo)).toArray⟩
end
theorem wK(l:List Nat)(lo hi:Option Int)(h:((l.drop (HT.bI l.length 0 lo)).take (HT.bI l.length l.length hi-HT.bI l.length 0 lo)).length=l.length) :
  (l.drop (HT.bI l.length 0 lo)).take (HT.bI l.length l.length hi-HT.bI l.length 0 lo)=l:=by
 generalize HT.bI l.length 0 lo=a at *
 generalize HT.bI l.length l.length hi=b at *
 by_cases hl:l.length=0
 ·have:l=[]:=Ou.mp hl
  subst this;simp
 ·rw[mS,B6] at h
  have h1:a=0:=by lia
  subst h1
  rw[List.drop_zero]
  exact Ov (by lia)
theorem wI(lo hi:Option Int)(n:Nat):Builtin.Str.strSliceIndices lo hi 1 n=(List.range (HT.bI n n hi-HT.bI n 0 lo)).map (HT.bI n 0 lo + ·):=by
 unfold Builtin.Str.strSliceIndices
 have e1:(match lo with|none=>(0:Int)|some i=>max 0 (min (if i<0 then i+n else i) n))=((HT.bI n 0 lo:Nat):Int):=by
  cases lo with
  |none=>simp[HT.bI]
  |some i =>
   simp only[HT.bI]
   by_cases h:i<0
   ·simp only[h,if_true]<;>lia
   ·simp only[h,if_false]<;>lia
 have e2:(match hi with|none=>(n:Int)|some i=>max 0 (min (if i<0 then i+n else i) n))=((HT.bI n n hi:Nat):Int):=by
  cases hi with
  |none=>simp[HT.bI]
  |some i =>
   simp only[HT.bI]
   by_cases h:i<0
   ·simp only[h,if_true]<;>lia
   ·simp only[h,if_false]<;>lia
 rw[<- sliceRange_one,<- e1,<- e2]
 simp only[show(1:Int)>0 by decide,if_true]
 cases lo<;>cases hi<;>rfl
section
variable {X:Cx}
theorem part_of(h:IsPart v o):∃ p:Option (Int × Tok),v=partValue p/\p.map (·.1)=o:=by
 cases h with
 |none=>exact⟨none,rfl,rfl⟩
 |int i t=>exact⟨some (i,t),rfl,rfl⟩
def SX(K:PySem.W.Frag):V->Option Int->Option Int->Hp->VK->Prop:=fun x lo hi H Q=>match x with
 |.str z=>z.length<=sizeLine/\Q (.str (rq z lo hi)) H
 |.ref a=>∃ xs,eM K H a xs/\∀ p,H p=none->Q (.ref p) (upd H p (.lst (A2 xs lo hi)))
 |_=>False
theorem Fp:HP X (fun x lo hi H Q=>∃ z,x=.str z/\z.length<=sizeLine/\Q (.str (rq z lo hi)) H):=by
 intro pins s σ H x v vl vu lo hi sl Q I rx hs pl pu h
 obtain⟨z,rfl,hz,q⟩:=h
 obtain⟨t,rfl⟩:=rx
 obtain⟨p1,rfl,e1⟩:=part_of pl
 obtain⟨p2,rfl,e2⟩:=part_of pu
 refine⟨"str",_,F.slot_str_getitem.lookup,typeIs_str s z t,wpAny_getItem_str_slice (l:=p1) (u:=p2) (st:=none) hs rfl ?_⟩
 have hl:z.cps.toList.length=z.length:=by simp[Str.length]
 have ep:slicePicked z p1 p2 none=(List.range (HT.bI z.length z.length hi-HT.bI z.length 0 lo)).map (HT.bI z.length 0 lo + ·):=by
  unfold slicePicked
  rw[e1,e2]
  exact wI lo hi z.length
 have ef:(slicePicked z p1 p2 none).filterMap (z.cps[·]?)=(z.cps.toList.drop (HT.bI z.length 0 lo)).take (HT.bI z.length z.length hi-HT.bI z.length 0 lo):=by
  rw[ep];exact pick_run z.cps _ _
 unfold sliceMade
 split
 ·rename_i hc
  have hw:(slicePicked z p1 p2 none).length=z.length:=by simpa using hc
  have:rq z lo hi=z:=by
   unfold rq
   have e3:((z.cps.toList.drop (HT.bI z.cps.toList.length 0 lo)).take (HT.bI z.cps.toList.length z.cps.toList.length hi-HT.bI z.cps.toList.length 0 lo)).length=z.cps.toList.length:=by
    rw[hl,mS,B6,hl]
    rw[ep,bT,Rq] at hw
    have h0:HT.bI z.length 0 lo<=z.length:=by
     cases lo with
     |none=>simp[HT.bI]
     |some i=>simp only[HT.bI];split<;>lia
    have h1:HT.bI z.length z.length hi<=z.length:=by
     cases hi with
     |none=>simp[HT.bI]
     |some i=>simp only[HT.bI];split<;>lia
    lia
   have:=wK z.cps.toList lo hi e3
   rw[hl] at this
   rw[this]
  rw[this] at q
  exact⟨.str z,H,I,⟨t,rfl⟩,q⟩
 ·rw[ef]
  exact⟨by
   show(rq z lo hi).length<=sizeLine
   unfold rq Str.length
   simp only[gy,mS,B6,hl]
   have:z.cps.toList.length=z.length:=hl
   lia,⟨.str (rq z lo hi),H,I.tok _,⟨_,rfl⟩,q⟩⟩
theorem Gk:HP X (SX X.K):=by
 intro pins s σ H x v vl vu lo hi sl Q I rx hs pl pu h
 unfold SX at h
 split at h
 ·exact Fp pins s σ H _ v vl vu lo hi sl Q I rx hs pl pu ⟨_,rfl,h.1,h.2⟩
 ·obtain⟨xs,h1,h2⟩:=h
  exact bz' pins s σ H _ v vl vu lo hi sl Q I rx hs pl pu ⟨_,xs,rfl,h1,h2⟩
 ·exact h.elim
end
structure mK(J:It)(its:List V)(cond:Hp->Prop):Prop where
 go:∀ i H,cond H->i<its.length->J.go i H
 kR:∀ i H x H',cond H->i<its.length->J.kR i H x H'->H'=H/\its[i]? = some x
 stop:∀ H,cond H->J.stop its.length H
theorem Af(K:PySem.W.Frag)(a:Addr)(xs:List V):mK (Pk K a) xs (fun H=>eM K H a xs) where
 go:=fun i H h hi=>⟨xs,xs[i],h,by simp[hi]⟩
 kR:=fun i H x H' h _ y=>⟨y.1,y.2 xs h⟩
 stop:=fun H h=>⟨xs,h,bS _⟩
theorem Ew(K:PySem.W.Frag)(a:Addr)(xs:List V):mK (R1 K a) xs (fun H=>kg K H a xs) where
 go:=fun i H h hi=>⟨xs,xs[i],h,by simp[hi]⟩
 kR:=fun i H x H' h _ y=>⟨y.1,y.2 xs h⟩
 stop:=fun H h=>⟨xs,h,bS _⟩
def xX(lo:Int)(n:Nat):List V:=(List.range n).map fun i=>.int (lo+(i:Nat))
theorem Cp(lo:Int)(n:Nat):mK (HG lo n) (xX lo n) (fun _=>True) where
 go:=fun i H _ h=>by simpa[xX,HG] using h
 kR:=fun i H x H' _ hi h=>by
  have hi:i<n:=by simpa[xX] using hi
  obtain⟨rfl,rfl⟩:=h
  refine⟨rfl,?_⟩
  simp[xX,hi]
 stop:=fun H _=>by simp[xX,HG]
def PZ(J:It)(g:TG)(tb:TS)(D:Ends)(σ:St)(H:Hp):Prop :=
 ∃ W:Nat->Nat->St->Hp->Prop,(∃ m,W 0 m σ H)/\∀ i m σ H,W i m σ H ->
   (J.stop i H/\D.nx σ H)\/(J.go i H/\∃ N:St->Hp->Prop,(∀ aS H',N aS H'->∃ m',m'<m/\W (i+1) m' aS H')/\∀ x H',J.kR i H x H'->g x σ H' fun i3 H2=>tb { D with nx:=N,ct:=N,bk:=D.nx } i3 H2)
theorem zb(wi:TI)(g:TG)(tb:TS)(D:Ends)(σ:St)(H:Hp):VX wi g tb D σ H=wi σ H fun J H1=>PZ J g tb D σ H1:=rfl
def HJ(J:It)(g:TG)(tc:TT)(te:TE)(τ0:St)(H1:Hp)(D:Addr)(Q:VK):Prop :=
 ∃ W:Nat->Nat->St->Hp->Prop,(∃ m,W 0 m τ0 (upd H1 D (.lst [])))/\∀ i m τ H,W i m τ H ->
  (J.stop i H/\Q (.ref D) H)\/(J.go i H/\∃ (N1:St->V->Hp->Prop) (N2:St->Hp->Prop),
   (∀ ly v H4,N1 ly v H4->∃ ys m',H4 D=some (.lst ys)/\ys.length<sizeLine/\m'<m/\W (i+1) m' ly (upd H4 D (.lst (ys++[v])))) /\
   (∀ ly H3,N2 ly H3->∃ m',m'<m/\W (i+1) m' ly H3) /\
   ∀ x H',J.kR i H x H'->g x τ H' fun ly H2=>tc ly H2 fun b H3=>if b=true then te ly H3 (N1 ly) else N2 ly H3)
theorem zL(wi:TI)(g:TG)(tc:TT)(te:TE)(tn:Nat)(ix:List Nat)(σ:St)(H:Hp)(Q:VK):rN wi g tc te tn ix σ H Q=wi σ H fun J H1=>∀ D,H1 D=none->HJ J g tc te (pR tn ix σ) H1 D Q:=rfl
mutual
inductive Rep(K:PySem.W.Frag)(H:Hp):PyData->V->Prop
 |none:Rep K H .none .non
 |bool (b:Bool):Rep K H (.bool b) (.bl b)
 |int (i:Int):Rep K H (.int i) (.int i)
 |str (x:Str):Rep K H (.str x) (.str x)
 |list {a:Addr} {vs:List V} {ds:List PyData}:eM K H a vs->bp K H ds vs->Rep K H (.list ds) (.ref a)
 |tuple {a:Addr} {vs:List V} {ds:List PyData}:kg K H a vs->bp K H ds vs->Rep K H (.tuple ds) (.ref a)
inductive bp(K:PySem.W.Frag)(H:Hp):List PyData->List V->Prop
 |nil:bp K H [] []
 |cons {d:PyData} {v:V} {ds:List PyData} {vs:List V}:Rep K H d v->bp K H ds vs->bp K H (d :: ds) (v :: vs)
end
section
variable {X:Cx}{pins:List (Addr × Obj)}{σ:St}{H:Hp}{s:Shared}
mutual
theorem Rep.reads(I:Inv X pins σ H s):∀ {d:PyData} {v:V} {u:Value},Rep X.K H d v->RelV v u->∃ as,Reads s.heap u d as
 |_,_,_,.none,r=>by cases (show _=Value.none from r);exact⟨_,.none⟩
 |_,_,_,.bool b,r=>by cases (show _=Value.bool b from r);exact⟨_,.bool b⟩
 |_,_,_,.int i,r=>by obtain⟨t,e⟩:=r;subst e;exact⟨_,.int i t⟩
 |_,_,_,.str x,r=>by obtain⟨t,e⟩:=r;subst e;exact⟨_,.str x t⟩
 |_,_,_,.list h hs,r=>by
  cases r
  obtain⟨its,rv,pl,_⟩:=I.list h
  obtain⟨o,e,c,n,d⟩:=pl.isList
  obtain⟨as,q⟩:=bp.reads I hs rv
  exact⟨_,.list e c d q⟩
 |_,_,_,.tuple h hs,r=>by
  cases r
  obtain⟨its,rv,⟨o,e,c,n,d⟩,_⟩:=I.tuple h
  obtain⟨as,q⟩:=bp.reads I hs rv
  exact⟨_,.tuple e c d q⟩
theorem bp.reads(I:Inv X pins σ H s):∀ {ds:List PyData} {vs:List V} {us:List Value},bp X.K H ds vs->Vals vs us->∃ as,ReadsAll s.heap us ds as
 |_,_,_,.nil,.nil=>⟨_,.nil⟩
 |_,_,_,.cons h hs,.cons r rs=>by
  obtain⟨as,q⟩:=Rep.reads I h r
  obtain⟨bs,q'⟩:=bp.reads I hs rs
  exact⟨_,.cons q q'⟩
end
def SY(K:PySem.W.Frag):R2:=fun x y H Q=>∃ d e,Rep K H d x/\Rep K H e y/\d.canLay0=true/\e.canLay0=true/\d.depth<=60/\Q (.bl (PyData.eqv d e)) H
def S0(K:PySem.W.Frag):R2:=fun x y H Q=>∃ d e,Rep K H d x/\Rep K H e y/\d.canLay0=true/\e.canLay0=true/\d.depth<=60/\Q (.bl (!PyData.eqv d e)) H
theorem Fq(hu:X.A.units+64<cLine):dn X (compareOp .Eq) (SY X.K):=by
 intro pins s σ H x y v u Q I rx ry h
 obtain⟨d,e,h1,h2,h3,h4,h5,q⟩:=h
 obtain⟨as,r1⟩:=h1.reads I rx
 obtain⟨bs,r2⟩:=h2.reads I ry
 exact PySem.SeqAt.rcAt_reads r1 r2 h3 h4 (by lia) X.prog X.w X.xe _ ⟨.bl _,H,I,rfl,q⟩
theorem Hd(hu:X.A.units+64<cLine):dn X (compareOp .NotEq) (S0 X.K):=by
 intro pins s σ H x y v u Q I rx ry h
 obtain⟨d,e,h1,h2,h3,h4,h5,q⟩:=h
 obtain⟨as,r1⟩:=h1.reads I rx
 obtain⟨bs,r2⟩:=h2.reads I ry
 exact PySem.SeqAt.rcNeAt_reads r1 r2 h3 h4 (by lia) X.prog X.w X.xe _ ⟨.bl _,H,I,rfl,q⟩
def P0(K:PySem.W.Frag):R2:=fun x y H Q=>match x,y with
 |.int i,.int j=>Q (.bl (decide (i=j))) H
 |.str i,.str j=>Q (.bl (decide (i=j))) H
 |.bl i,.bl j=>Q (.bl (decide (i=j))) H
 |_,_=>SY K x y H Q
theorem FJ(hu:X.A.units+64<cLine):dn X (compareOp .Eq) (P0 X.K):=(az'.or (Fq hu)).imp fun x y H Q h=>by
 unfold P0 at h
 split at h
 ·refine .inl ⟨rfl,?_⟩;simpa using h
 ·refine .inl ⟨rfl,?_⟩;simpa using h
 ·refine .inl ⟨rfl,?_⟩;simpa using h
 ·exact .inr h
def P1(K:PySem.W.Frag):R2:=fun x y H Q=>match x,y with
 |.int i,.int j=>Q (.bl (!decide (i=j))) H
 |.str i,.str j=>Q (.bl (!decide (i=j))) H
 |.bl i,.bl j=>Q (.bl (!decide (i=j))) H
 |_,_=>S0 K x y H Q
theorem Hk(hu:X.A.units+64<cLine):dn X (compareOp .NotEq) (P1 X.K):=(aA'.or (Hd hu)).imp fun x y H Q h=>by
 unfold P1 at h
 split at h
 ·refine .inl ⟨rfl,?_⟩;simpa using h
 ·refine .inl ⟨rfl,?_⟩;simpa using h
 ·refine .inl ⟨rfl,?_⟩;simpa using h
 ·exact .inr h
end
end L2
namespace L2
open PySem PySem.Spec PyProof.Rows
section
variable {X:Cx}{pins:List (Addr × Obj)}{σ:St}{H:Hp}{s:Shared}{h':Heap}
theorem Inv.Jo{t':Nat}{fp:List Addr}(I:Inv X pins σ H s)(hf:∀ b∈fp,tj X pins H b)(k:∀ b o,b∉fp->s.heap.get? b=some o->h'.get? b=some o):Inv X pins σ H { s with heap:=h',toks:=t' }:=by
 have CD:∀ b u,H b=some u->b∉fp:=fun b u e z=>by rw[(hf b z).1] at e;cases e
 refine I.step (g':=s.gens) (d':=s.drawn) (ch:=fp) (fun b hb=>?_) (fun b o _ _ hc e _=>k b o hc e) (fun b o _ _ hc e _=>⟨o.slots,k b o hc e⟩) (fun _ _ _ _ n=>n)
  (fun b o hc e=>⟨o,k b o hc e⟩) (fun _ _ e=>e) (fun _ _ _ e=>e) (fun b ps e=>⟨#[],by rw[e];simp⟩) (fun m hm=>?_) (fun b u e=>?_) I.bare
 ·obtain⟨f0,f1,f2,f3,f4,f5⟩:=hf b hb
  exact⟨f3,f1,f4,f5⟩
 ·obtain⟨o,es,ep,ho,r⟩:=hm
  exact⟨o,es,ep,k _ o (fun z=>(hf _ z).2.1 rfl) ho,r⟩
 ·refine(I.aC b u e).fh (fun c v hc q=>k c v ?_ q) (fun _ q=>q) fun _ _ q=>q
  rcases hc with z|z
  ·rw[z];exact CD b u e
  ·exact CD c _ z
theorem Inv.cR'{t':Nat}{fp:List Addr}{p:Addr}{xs:List V}(I:Inv X pins σ H s)(hf:∀ b∈fp,tj X pins H b)(k:∀ b o,b∉fp->s.heap.get? b=some o->h'.get? b=some o)(hp:s.heap.objs.size<=p)
  (new:eJ X.prog X.w (upd H p (.tup xs)) h' p (.tup xs)):Inv X pins σ (upd H p (.tup xs)) { s with heap:=h',toks:=t' }:=by
 have hn:=I.aC.fresh hp
 have CD:∀ b u,H b=some u->b∉fp:=fun b u e z=>by rw[(hf b z).1] at e;cases e
 have lt:∀ b o,s.heap.get? b=some o->b≠p:=fun b o e=>eI (kP (dc e) hp)
 refine I.step (g':=s.gens) (d':=s.drawn) (ch:=fp) (fun b hb=>?_) (fun b o _ _ hc e _=>k b o hc e) (fun b o _ _ hc e _=>⟨o.slots,k b o hc e⟩) (fun b o _ e n=>by rw[cc (lt b o e)];exact n)
  (fun b o hc e=>⟨o,k b o hc e⟩) (fun _ _ e=>by rw[cc (vn e hn)];exact e) (fun _ _ _ e=>by rw[cc (vn e hn)];exact e) (fun b ps e=>⟨#[],by rw[cc (vn e hn),e];simp⟩) (fun m hm=>?_) (fun b u e=>?_) I.bare
 ·obtain⟨f0,f1,f2,f3,f4,f5⟩:=hf b hb
  exact⟨f3,f1,f4,f5⟩
 ·obtain⟨o,es,ep,ho,r⟩:=hm
  exact⟨o,es,ep,k _ o (fun z=>(hf _ z).2.1 rfl) ho,r⟩
 ·by_cases hb:b=p
  ·subst hb;rw[eR] at e;cases e;exact new
  ·rw[cc hb] at e
   refine(I.aC b u e).fh (fun c v hc q=>k c v ?_ q) (fun c q=>by rw[cc (vn q hn)];exact q) fun c xs q=>by rw[cc (vn q hn)];exact q
   rcases hc with z|z
   ·rw[z];exact CD b u e
   ·exact CD c _ z
end
def S4(K:PySem.W.Frag)(a:Addr):It :=
 ⟨fun i H=>∃ xs x,eM K H a xs/\xs[i]? = some x,fun i H x H'=>∃ p v,x=.ref p/\H p=none/\H'=upd H p (.tup [.int i,v])/\∀ xs,eM K H a xs->xs[i]? = some v,fun i H=>∃ xs,eM K H a xs/\xs.length<=i⟩
theorem Bx:(2:Nat)<=sizeLine:=by rw[sizeLine_eq];decide
theorem yR{P:Program}{w:World}{K:PySem.W.Frag}{elts:List Expr}{k:Nat}{pos:Pos}(a e it:Addr)(W9:e≠it):Turn P w K (.Tuple elts k pos) (S4 K a) [e,it] e (fun i h=>(∃ old,IsEnum h e it i old)/\h.IsListIter it a i) where
 mem:=by simp
 obj:=fun i h ⟨⟨old,he⟩,st⟩ b hb=>by
  rcases dA.mp hb with rfl|hb
  ·exact⟨_,he,fun v z=>nomatch z⟩
  ·have e:b=it:=by simpa using hb
   subst e
   obtain⟨o,e,c,d⟩:=st
   exact⟨o,e,fun v z=>by rw[d] at z;cases z⟩
 keep:=fun i h h' ⟨⟨old,he⟩,st⟩ k=>⟨⟨old,k e (by simp) _ he⟩,st.at fun o e=>k it (by simp) o e⟩
 item:=by
  intro X hP hw hK hc i pins s σ H E I hf st hg
  subst hP hw hK
  obtain⟨xs,x,hq,hx⟩:=hg
  obtain⟨its,rv,p,hz⟩:=I.list hq
  obtain⟨u,hu,ru⟩:=rv.get hx
  obtain⟨⟨old,he⟩,hit⟩:=st
  refine wpAny_pyNext_enum_item he hit p.isList (x:=u) (by simpa using hu) W9 fun h1 ho cS' hT hsz hk=>⟨_,rfl,?_⟩
  refine wpAny_letOwnedTupleGo_enum (s:={ s with heap:=h1,toks:=s.toks+1 }) ho fun h2 S5 oC=>?_
  have ke:∀ b o,b∉[e,it]->s.heap.get? b=some o->h2.get? b=some o:=fun b o hb q=>(oC.2 b fun z=>hb (by simp[z])).trans (hk b o (fun z=>hb (by simp[z])) (fun z=>hb (by simp[z])) q)
  have dr:e<s.heap.objs.size:=dc he
  have hT2:h2.get? s.heap.objs.size=some { cls:=.type "tuple",data:=.seq #[.int i s.toks,u] }:=(oC.2 _ (yA dr)).trans hT
  have I1:Inv X pins σ (upd H s.heap.objs.size (.tup [.int i,x])) { s with heap:=h2,toks:=s.toks+1 } :=
   I.cR' hf ke (bS _) ⟨Bx,[.int i s.toks,u],.cons ⟨s.toks,rfl⟩ (.cons ru .nil),_,hT2,rfl,_,rfl⟩
  refine⟨.ref s.heap.objs.size,_,I1,rfl,⟨_,x,rfl,I.fresh,rfl,fun ys hy=>by rw[I.VQ hy hq];exact hx⟩,⟨⟨u,by simpa using S5⟩,cS'.at fun o q=>(oC.2 it W9.symm).trans q⟩,fun b hb=>?_⟩
  rw[cc]
  ·exact(hf b hb).1
  ·rcases dA.mp hb with rfl|hb
   ·exact eI dr
   ·have e:b=it:=by simpa using hb
    subst e
    obtain⟨o,q,_⟩:=hit
    exact eI (dc q)
 done:=by
  intro X hP hw hK hc i pins s σ H E I hf st hg
  subst hP hw hK
  obtain⟨xs,hq,hx⟩:=hg
  obtain⟨its,rv,p,hz⟩:=I.list hq
  obtain⟨⟨old,he⟩,hit⟩:=st
  have hl:=rv.length
  exact wpAny_pyNext_enum_end (I.ok.hd hc) he hit p.isList (by simp;lia) fun h' eb=>⟨rfl,I.Jo (t':=s.toks) hf fun b o hb q=>eb b o (fun z=>hb (by simp[z])) q⟩
 self:=fun _ _ _ _ _ ⟨⟨old,he⟩,_⟩ h=>wpAny_pyIter_enum he h
theorem Fo(h:b∈[n+1,n]):n<=b:=by simp at h;lia
section
variable {X:Cx}
def Iu(K:PySem.W.Frag)(ta:TA):TI:=fun σ H R=>ta σ H fun vs H1=>∃ a,vs=[.ref a]/\(∃ xs,eM K H1 a xs)/\R (S4 K a) H1
theorem CT (hg:Gl X "enumerate") (hm:X.mg "enumerate" = none) (ha:PA X [a] ta) (hs:starEach [a] X.env=[(false,eval a X.env)]:=by rfl) :
  PI X (.Tuple elts k tp) (.Call (.Name "enumerate" p) [a] [] pos) (Iu X.K ta):=by
 intro pins s σ H R I h
 refine Call_ (AX I hg hm boot_enumerate (PyProof.Rows.callWith_type1 (b5 (ha pos pins s σ H _ I h) fun us s1 b6=>L2.fE b6 fun vs H1 I1 r1 q1=>?_) hs rfl))
 obtain⟨l,e,⟨xs,hq⟩,q⟩:=q1
 subst e
 cases r1 with
 |cons r rr =>
  cases rr
  cases r
  obtain⟨its,rv,pl,hz⟩:=I1.list hq
  refine call_enumerate_list pl.isList fun h2 he hit hsz hk=>?_
  refine wpAny_pyIter_enum (s:={ s1 with heap:=h2 }) he ?_
  refine⟨s1.heap.objs.size+1,[s1.heap.objs.size+1,s1.heap.objs.size],_,_,H1,rfl,I1.kept (t':=s1.toks) hk,yR l _ _ (Nat.succ_ne_self _),⟨⟨_,he⟩,hit⟩,fun b hb=>?_,q⟩
  have e:s1.heap.objs.size<=b:=Fo hb
  exact I1.HC e (I1.aC.fresh e)
end
def vT(sc:Scope)(names:List (Str × NameKind)):List (Str × NameKind):=names.map fun y=>if (y.2 == NameKind.free && sc.kind == .function && sc.names.lookup y.1 == some .cell)=true then (y.1,NameKind.cell) else (y.1,y.2)
def DB(o:Option NameKind):Bool:=o == some .cell || o == some .free
def Dl(sc scope:Scope)(N cn:List Str)(ix:List Nat):Bool :=
 scope.kind == .function && scope.names.all (fun y=>y.2 != .cell) && scope.names.all (fun y=>y.2 != .free || DB (sc.names.lookup y.1)) && scope.names.all (fun y=>y.2 != .local || scope.names.lookup y.1 == some .local) &&
 ix.length == cn.length && (List.range ix.length).all (fun k=>match ix[k]?,cn[k]? with
  |some j,some y=>N[j]? == some y && DB (sc.names.lookup y) && scope.names.contains (y,NameKind.free) && DB ((vT sc scope.names).lookup y)
  |_,_=>false) &&
 (vT sc scope.names).all (fun y=>!(y.2 == .cell || y.2 == .free) || scope.names.contains (y.1,NameKind.free))
theorem jg(h:DB o=true):o=some .cell\/o=some .free:=by
 unfold DB at h
 simpa using h
theorem bH.of{X:Cx}(rL:X.env.scope=sc)(hN:X.N=N)(h:Dl sc scope N cn ix=true):bH X scope tn cn ix:=by
 unfold Dl at h
 simp only[kH] at h
 obtain⟨⟨⟨⟨⟨⟨h1,h2⟩,h3⟩,h4⟩,h5⟩,h6⟩,h7⟩:=h
 rw[OD] at h2 h3 h4 h6 h7
 have Nt:(relabel scope X.env).names=vT sc scope.names:=by
  unfold relabel vT
  rw[<- rL]
  rfl
 refine⟨by simpa using h1,fun y hy=>by simpa using h2 y hy,fun y hy hk=>?_,fun y hy hk=>?_,by simpa using h5,fun k j hk=>?_,fun x hx=>?_⟩
 ·have:=h3 y hy
  rw[hk] at this
  rw[rL]
  exact jg (by simpa using this)
 ·have:=h4 y hy
  rw[hk] at this
  simpa using this
 ·have iF:k<ix.length:=(lh.mp hk).1
  have:=h6 k (pe.mpr iF)
  rw[hk] at this
  cases e:cn[k]? with
  |none=>rw[e] at this;cases this
  |some y =>
   rw[e] at this
   simp only[kH] at this
   obtain⟨⟨⟨a1,a2⟩,a3⟩,a4⟩:=this
   refine⟨y,rfl,by rw[hN];simpa using a1,by rw[rL];exact jg a2,by simpa using a3,by rw[Nt];exact jg a4⟩
 ·rw[Nt] at hx
  have mem:∃ k,(x,k)∈vT sc scope.names/\(k=.cell\/k=.free):=by
   rcases hx with hx|hx
   ·exact⟨_,PySem.mem_of_lookup hx,.inl rfl⟩
   ·exact⟨_,PySem.mem_of_lookup hx,.inr rfl⟩
  obtain⟨k,hm,hk⟩:=mem
  have:=h7 _ hm
  rcases hk with rfl|rfl<;>simpa using this
structure gE(P:Program)(w:World)(K:PySem.W.Frag)(mg:Str->Option Value)(base:Heap)(k:Nat)(x:Str)(ps:List Str)(sp:Sp):Prop where
 ex:∃ (g:Addr) (fd:FuncData),mg x=some (.ref g)/\PySem.W.keepIn K (.ref g)=true/\Binds K fd ps []/\hJ P w K mg base kE k g fd ps sp
section
variable {X:Cx}{k:Nat}{x:Str}{ps:List Str}{sp:Sp}{p pos:Pos}{e:Expr}{es:List Expr}{t:TA}
theorem Fb (C:gE X.prog X.w X.K X.mg X.base k x ps sp) (hr:ki k X.A) (ha:PA X (e :: es) t) (hg:Gl X x:=by rfl) (i5:(x == ("__debug__" : Str))=false:=by decide) (he:starEach (e :: es) X.env=(false,eval e X.env) :: starEach es X.env:=by rfl)
  (fi:(backTo pos (starEach es X.env)).any (·.1)=false:=by rfl):PE X (.Call (.Name x p) (e :: es) [] pos) (M_ sp [] E0 t):=by
 obtain⟨g,fd,hm,hk,hb,F⟩:=C.ex
 exact Wa F hr hg hm hk hb .nil cx' ha i5 he fi
end
theorem hV.tS{P:Program}{K:PySem.W.Frag}{st:Stmt}{ps:List Str}(F:hV K x qual st f fd)(hm:mg x=some (.ref f))
  (G:hJ P w K mg base kE k f fd ps sp)
  (h:∀ (kV doc pm:Value) (an:Option Addr) (cS ct:Value) (us:List Value),us.length=ps.length->bindArgs (PySem.W.fnOf x qual (kD st) (ic st) (cv st) .none kV doc pm an cS ct) ⟨us,[]⟩=pure (ps.zip us)):gE P w K mg base k x ps sp :=
 ⟨f,fd,hm,F.kp,F.binds h,G⟩
def S6(mg:Str->Option Value)(x:Str)(z:Str):Prop:=∃ t,mg x=some (.str z t)
theorem Iz {X:Cx} (h:S6 X.mg x z) (hg:Gl X x:=by rfl) (hd:(x == ("__debug__" : Str))=false:=by decide):PE X (.Name x pos) (tC (.str z)):=by
 obtain⟨t,e⟩:=h
 exact zh hg e ⟨t,rfl⟩ hd
theorem Ej:bootBuiltins "bool" = some (.type "bool"):=by decide +kernel
theorem jl:bootBuiltins "list" = some (.type "list"):=by decide +kernel
theorem iW:bootBuiltins "isinstance" = some (.builtin "isinstance"):=by decide +kernel
theorem qF:bootBuiltins "len" = some (.builtin "len"):=by decide +kernel
theorem FQ {X:Cx} {T:String} (hm:X.mg x=none) (hv:bootBuiltins x=some (.type T)) (hg:Gl X x:=by rfl) (hn:x ≠ "__name__" := by decide) (hd:(x == ("__debug__" : Str))=false:=by decide):PE X (.Name x pos) (tC (.ty T)) :=
 ZH hg hm hv rfl hn hd
def P4(i j:Str):Bool:=!(Builtin.Str.occurrences j i 0 j.length 1).isEmpty
def EZ(K:PySem.W.Frag)(neg:Bool):R2:=fun x y H Q=>match x,y with
 |.str i,.str j=>Q (.bl (if neg then !P4 i j else P4 i j)) H
 |_,.ref p=>(∃ o,kL H p x o/\Q (.bl (if neg then !o.isSome else o.isSome)) H)\/Nh K neg x y H Q
 |_,_=>False
theorem G8{X:Cx}(hu:X.A.units+64<cLine):dn X (compareOp .In) (EZ X.K false):=by
 intro pins s σ H x y v u Q I rx ry h
 unfold EZ at h
 split at h
 ·exact aE' pins s σ H _ _ v u Q I rx ry ⟨_,_,rfl,rfl,h⟩
 ·rcases h with⟨o,g,q⟩|h
  ·cases ry
   exact bV' (by lia) I g rx fun s3 I3=>⟨.bl o.isSome,H,I3,rfl,q⟩
  ·exact bB' pins s σ H _ _ v u Q I rx ry h
 ·exact h.elim
theorem yU{X:Cx}(hu:X.A.units+64<cLine):dn X (compareOp .NotIn) (EZ X.K true):=by
 intro pins s σ H x y v u Q I rx ry h
 unfold EZ at h
 split at h
 ·exact aF' pins s σ H _ _ v u Q I rx ry ⟨_,_,rfl,rfl,h⟩
 ·rcases h with⟨o,g,q⟩|h
  ·cases ry
   exact bW' (by lia) I g rx fun s3 I3=>⟨.bl (!o.isSome),H,I3,rfl,q⟩
  ·exact bC' pins s σ H _ _ v u Q I rx ry h
 ·exact h.elim
theorem ay.upd(h:ay H H')(hp:H' p=none):ay H (upd H' p o):=fun b u e=>by
 have e':=h b u e
 rw[cc (vn e' hp)]
 exact e'
theorem ay.lst{K:PySem.W.Frag}(e:ay H H')(h:eM K H a xs):eM K H' a xs:=e.seq h
theorem ay.tup{K:PySem.W.Frag}(e:ay H H')(h:kg K H a xs):kg K H' a xs:=by
 rcases h with(h|⟨o,h⟩)|h
 ·exact .inl (.inl (e _ _ h))
 ·exact .inl (.inr ⟨o,e _ _ h⟩)
 ·exact .inr h
mutual
theorem Rep.same{K:PySem.W.Frag}(s:ay H H'):∀ {d:PyData} {v:V},Rep K H d v->Rep K H' d v
 |_,_,.none=>.none
 |_,_,.bool b=>.bool b
 |_,_,.int i=>.int i
 |_,_,.str x=>.str x
 |_,_,.list h hs=>.list (s.lst h) (bp.same s hs)
 |_,_,.tuple h hs=>.tuple (s.tup h) (bp.same s hs)
theorem bp.same{K:PySem.W.Frag}(s:ay H H'):∀ {ds:List PyData} {vs:List V},bp K H ds vs->bp K H' ds vs
 |_,_,.nil=>.nil
 |_,_,.cons h hs=>.cons (Rep.same s h) (bp.same s hs)
end
section
variable {X:Cx}{K:PySem.W.Frag}
theorem sA(hu:X.A.units+64<cLine)(hK:X.K=K:=by rfl):dn X (compareOp .Eq) (P0 K):=by subst hK;exact FJ hu
theorem DC(hu:X.A.units+64<cLine)(hK:X.K=K:=by rfl):dn X (compareOp .NotEq) (P1 K):=by subst hK;exact Hk hu
theorem kf(hu:X.A.units+64<cLine)(hK:X.K=K:=by rfl):dn X (compareOp .In) (EZ K false):=by subst hK;exact G8 hu
theorem Fw(hu:X.A.units+64<cLine)(hK:X.K=K:=by rfl):dn X (compareOp .NotIn) (EZ K true):=by subst hK;exact yU hu
end
theorem Lh{α:Type}{a:α}{p:α->Prop}:(∃ v,a=v/\p v)↔p a:=⟨fun⟨_,e,h⟩=>e ▸ h,fun h=>⟨a,rfl,h⟩⟩
end L2
namespace L2
open PySem PySem.Spec PyProof.Rows
abbrev P5:=Array DictEntry
def sC(h:Heap)(d:Addr)(es:P5)(ep:Nat):Prop:=∃ o,h.get? d=some o/\o.ExactDict/\o.data=.dict es ep
theorem sC.typ {s:Shared} {d:Addr} {es:P5} {ep:Nat} (x:sC s.heap d es ep):s.TypeIs (.ref d) "dict" := let ⟨o,e,c,_⟩:=x;⟨o,e,c.1⟩
section
variable {prog:Program}{w:World}{A:Around}{E:Value->Shared->Prop}{s:Shared}{d it:Addr}{es:P5}{ep i:Nat}
theorem ur{Q:Value->Shared->Prop}(lo:(d == sysModules)=false)(x:sC s.heap d es ep)
  (q:Q (.ref s.heap.objs.size) { s with heap:=s.heap.push { cls:=.type "dict_keyiterator",data:=.fields #[.ref d,.int 0 0,.int es.size 0,.int ep 0] } }):wpAny (model prog w) A (pyIter (.ref d)) Q E s:=by
 obtain⟨o,ho,hc,P6⟩:=id x
 refine wpAny_pyIter_slot x.typ F.slot_dict_iter (wpAny_call_entry F.slot_dict_iter x.typ F.entry_dict_iter ?_ (F.args_dict_iter_1 _))
 unfold Builtin.«dict.__iter__»
 refine ah ?_
 unfold Builtin.Dict.dictSlotNone
 refine ah (wpAny_notOrdered_dict x.typ ?_)
 refine(show wpAny _ _ (pure (Value.ref d)) _ _ s from aI ?_)
 refine(show wpAny _ _ (Builtin.Dict.showsAll d >>= _) _ _ s from ?_)
 unfold Builtin.Dict.showsAll
 rw[if_neg (by rw[lo];decide)]
 refine ah (aI (ah (wpAny_dictEntries ho P6 (ah (wpAny_dictEpoch ho P6 (ah (wpAny_newObj_type (aI ⟨_,rfl, "dict_keyiterator",_,⟨_,g9 _ rfl,rfl⟩,F.slot_dict_keyiterator_next.lookup,?_⟩))))))))
 simpa[rawInt] using q
theorem uU(hit:s.heap.IsKeyIter it d i es.size ep)(x:sC s.heap d es ep)(hx:i<es.size)
  (q:∀ h',h'.IsKeyIter it d (i+1) es.size ep->Heap.SameBut it s.heap h'->Q (some es[i].key) { s with heap:=h' }):wpAny (model prog w) A (pyNext (.ref it)) Q E s:=by
 obtain⟨o,ho,hc,hd⟩:=id hit
 obtain⟨od,E2,oz,Nu⟩:=id x
 have ty:=hit.typeIs
 unfold pyNext
 refine ah (wpAny_attempt (wpAny_callSpecial?_slot (name:=Str.ofString "__next__") ty F.slot_dict_keyiterator_next (wpAny_call_entry F.slot_dict_keyiterator_next ty F.entry_dict_keyiterator_next ?_ (F.args_dict_keyiterator_next_1 _))))
 refine ah (aI (ah (ah ?_)))
 first|refine ah (wpAny_typeNameOfWhole_keyiter ty (aI ?_))|refine ah (wpAny_typeNameOf_keyiter ty (aI ?_))
 refine ah (wpAny_fieldsOf ho hd ?_)
 simp only[show Builtin.Dict_items.ownsTuple "dict_keyiterator" = false by decide,gL,if_false]
 refine(show wpAny _ _ (if (Value.ref d == Value.none)=true then _ else _) _ _ s from ?_)
 rw[if_neg (show ¬ ((Value.ref d == Value.none)=true) by intro h;cases h)]
 refine ah (aI (ah (wpAny_dictEntries E2 Nu ?_)))
 rw[if_neg (by intro h;simp at h)]
 refine ah (aI (ah (wpAny_dictEpoch E2 Nu ?_)))
 rw[if_neg (by intro h;simp at h)]
 refine aI ?_
 simp only[show ¬ ((i:Int)<0) by lia,if_false,MD,sT hx]
 refine ah ?_
 first|refine ah (wpAny_typeNameOfWhole_keyiter ty (aI ?_))|refine ah (wpAny_typeNameOf_keyiter ty (aI ?_))
 refine ah (wpAny_isOneOf_keyiter ty ?_)
 refine(show wpAny _ _ (setField (.ref it) 1 (rawInt ((i:Int)+1)) >>= _) _ _ s from ah (wpAny_setField ho hd (by simp) ?_))
 have W_:(s.heap.update it (Obj.mapFields (·.setIfInBounds 1 (rawInt ((i:Int)+1))))).IsKeyIter it d (i+1) es.size ep :=
  ⟨_,AK _ ho (Obj.isFreed_of_fields (Obj.data_mapFields hd _)),(Obj.cls_mapFields ..).trans hc,by rw[Obj.data_mapFields hd];simp[rawInt]⟩
 refine ah (wpAny_holding (ah (wpAny_isOneOf_keyiter (s:={ s with heap:=s.heap.update it (Obj.mapFields (·.setIfInBounds 1 (rawInt ((i:Int)+1)))) }) W_.typeIs ?_)))
 refine(show wpAny _ _ (pure es[i].key) _ _ _ from aI (aI ⟨_,rfl,aI (q _ W_ (Heap.SameBut.update ..))⟩))
theorem vd(hh:A.handled=none)(hit:s.heap.IsKeyIter it d es.size es.size ep)(x:sC s.heap d es ep)(q:∀ h',Heap.ExtBut it s.heap h'->Q none { s with heap:=h' }) :
  wpAny (model prog w) A (pyNext (.ref it)) Q E s:=by
 obtain⟨o,ho,hc,hd⟩:=id hit
 obtain⟨od,E2,oz,Nu⟩:=id x
 have ty:=hit.typeIs
 unfold pyNext
 refine ah (wpAny_attempt (wpAny_callSpecial?_slot (name:=Str.ofString "__next__") ty F.slot_dict_keyiterator_next (wpAny_call_entry F.slot_dict_keyiterator_next ty F.entry_dict_keyiterator_next ?_ (F.args_dict_keyiterator_next_1 _))))
 refine ah (aI (ah (ah ?_)))
 first|refine ah (wpAny_typeNameOfWhole_keyiter ty (aI ?_))|refine ah (wpAny_typeNameOf_keyiter ty (aI ?_))
 refine ah (wpAny_fieldsOf ho hd ?_)
 simp only[show Builtin.Dict_items.ownsTuple "dict_keyiterator" = false by decide,gL,if_false]
 refine(show wpAny _ _ (if (Value.ref d == Value.none)=true then _ else _) _ _ s from ?_)
 rw[if_neg (show ¬ ((Value.ref d == Value.none)=true) by intro h;cases h)]
 refine ah (aI (ah (wpAny_dictEntries E2 Nu ?_)))
 rw[if_neg (by intro h;simp at h)]
 refine ah (aI (ah (wpAny_dictEpoch E2 Nu ?_)))
 rw[if_neg (by intro h;simp at h)]
 refine aI ?_
 simp only[show ¬ ((es.size:Int)<0) by lia,if_false,MD,CB (bS es.size)]
 refine ah ?_
 first|refine ah (wpAny_typeNameOfWhole_keyiter ty (aI ?_))|refine ah (wpAny_typeNameOf_keyiter ty (aI ?_))
 refine(show wpAny _ _ (setField (.ref it) 0 .none >>= _) _ _ s from ah (wpAny_setField ho hd (by simp) ?_))
 refine(show wpAny _ _ (newExc (.type "StopIteration") [] >>= _) _ _ _ from ah ?_)
 simp only[newExc,newTuple]
 refine ah (wpAny_newObj_type ?_ (by size_fits))
 refine ah (m:=firstArgMember _ _) (wpAny_of_eq (a:=Value.none) (by first|rfl|(simp only[firstArgMember];rfl)) (wpAny_newObj_type ?_ (by size_fits)))
 simp only[raiseNew]
 refine ah (wpAny_handled ?_)
 rw[show A.in1.handled=none from hh]
 refine ah (aI (wpAny_throw ?_))
 refine ah (wpAny_isInstance (b:=true) (T := "StopIteration") ⟨_,g9 _ rfl,rfl⟩ isSubtype_stop ?_)
 exact aI (q _ (((Heap.SameBut.update ..).extBut.push _).push _))
theorem sC.at(x:sC h d es ep)(e:∀ o,h.get? d=some o->h'.get? d=some o):sC h' d es ep:=let ⟨o,ho,r⟩:=x;⟨o,e o ho,r⟩
theorem sC.lt(x:sC h d es ep):d<h.objs.size:=let ⟨_,e,_⟩:=x;dc e
theorem xH(hh:A.handled=none)(I:Addr)(fI:d≠I):Walks prog w A I [I,d] [I] es.size (fun i v=>∃ e,es[i]? = some e/\v=e.key) (fun i h=>h.IsKeyIter I d i es.size ep/\sC h d es ep) where
 sub:=fun b hb=>by simp at hb;simp[hb]
 frame:=fun _ _ _ st hk=>⟨st.1.at fun o e=>hk I (by simp) o e,st.2.at fun o e=>hk d (by simp) o e⟩
 item:=fun i s Q E hi st hQ=>uU st.1 st.2 hi fun h' a b=>hQ _ h' s.toks ⟨es[i],by simp[hi],rfl⟩ ⟨a,st.2.at fun o e=>b.extBut d o fI e⟩ fun c o hb e=>b.extBut c o (fun h=>hb (by simp[h])) e
 done:=fun s Q E st hQ=>vd hh st.1 st.2 fun h' IB=>hQ h' s.toks fun b o hb e=>IB b o (fun h=>hb (by simp[h])) e
 self:=fun _ _ _ _ st hQ=>wpAny_pyIter_keyiter st.1 hQ
theorem CW (lo:(d == sysModules)=false):PySem.W.KdlSrc prog w "dict" d d es.size (fun i v=>∃ e,es[i]? = some e/\v=e.key) (fun h=>sC h d es ep) where
 type:=fun _ x=>x.typ
 there:=fun _ x=>⟨x.lt,x.lt⟩
 keep:=fun _ _ x hk=>x.at fun o e=>hk d (.inl rfl) o e
 notList:=by decide
 notTuple:=by decide
 hint:=fun _ _ _ _ x hq=>PySem.W.kdl_hint_dict x.typ hq
 iter:=fun _ _ hh x=>⟨_,_,(fun _ _ hq=>ur lo x hq),xH hh _ (eI x.lt),⟨⟨_,g9 _ rfl,rfl,rfl⟩,x.at fun o e=>eL _ e⟩⟩
end
theorem Paired.n0{α β:Type}{R:α->β->Prop}{bs:List β}(h:Paired R [] bs):bs=[]:=by cases h;rfl
theorem Paired.c{α β:Type}{R:α->β->Prop}{a:α}{as:List α}{bs:List β}(h:Paired R (a :: as) bs):∃ b cs,bs=b :: cs/\R a b/\Paired R as cs:=by
 cases h with
 |cons r t=>exact⟨_,_,rfl,r,t⟩
def b7(H:Hp)(ys:List V)(ks:List (List Key)):Prop:=Paired (fun(v:V) (k:List Key)=>∃ b,v=.ref b/\H b=some (.tup (k.map kV))) ys ks
section
variable {X:Cx}
def uq:List V->Hp->VK->Prop:=fun xs H Q=>match xs with
 |[.ref p]=>∃ kvs,Rd H p (.dT kvs)/\∀ ys l,b7 H ys (kvs.map (·.1))->H l=none->Q (.ref l) (upd H l (.lst ys))
 |_=>False
theorem wR
  (h:Paired (fun(p:List Key × V) (q:List Key × Addr × Value)=>p.1=q.1/\H q.2.1=some (.tup (p.1.map kV))/\RelV p.2 q.2.2) kvs xs) :
  b7 H (xs.map fun q=>.ref q.2.1) (kvs.map (·.1))/\Vals (xs.map fun q=>.ref q.2.1) ((xs.map (entryOfKey (tupleKind (jS prog w)))).map (·.key)):=by
 induction h with
 |nil=>exact⟨.nil,.nil⟩
 |cons r t ih=>exact⟨.cons ⟨_,rfl,r.2.1⟩ ih.1,.cons rfl ih.2⟩
theorem vC (hc:X.calm=true):kS X (.type "list") uq:=by
 intro pins s σ H xs us Q I r h
 unfold uq at h
 split at h
 ·rename_i p
  obtain⟨kvs,e,q⟩:=h
  obtain⟨u,rfl,ru⟩:=Vals.one r
  cases ru
  obtain⟨z,y,ps,rel,o,es,ep,h1,h2,h3,h4,h5⟩:=(show eJ X.prog X.w H s.heap p (.dT kvs) from I.rd e)
  obtain⟨ta,va⟩:=wR (prog:=X.prog) (w:=X.w) rel
  have hlen:es.size=kvs.length:=by
   have:=congrArg List.length h4
   rw[vi,bT] at this
   rw[this];exact rel.length.symm
  refine PySem.W.kdl_call (CW (es:=es) (ep:=ep) y) (I.ok.hd hc) ⟨o,h1,h2,h3⟩ (by lia) fun h' tk acc c kp eo sD=>?_
  have hv:acc.toList=(ps.map (entryOfKey (tupleKind (jS X.prog X.w)))).map (·.key):=by
   apply D8
   intro i
   by_cases hi:i<es.size
   ·have oi:i<acc.size:=by rw[sD.1];exact hi
    obtain⟨en,e1,e2⟩:=sD.2 i acc[i] (by simp[oi])
    rw[<- h4,ox,mw,mw,e1]
    simp[oi,e2]
   ·rw[<- h4,ox,mw,mw,CB (by rw[sD.1];lia),CB (by lia)]
    rfl
  refine⟨.ref s.heap.objs.size,_,I.laid (t':=tk) kp (bS _) (show eJ X.prog X.w _ h' _ (.lst (ps.map fun q=>.ref q.2.1)) from⟨?_,acc.toList,c,?_,?_⟩),rfl,q _ _ ta (I.aC.fresh (bS _))⟩
  ·rw[bT,<- rel.length];exact z
  ·rw[hv];exact va
  ·rw[O0];exact eo
 ·exact h.elim
end
end L2
namespace xk
open PySem PyProof.Rows
def R(r:Value->Int)(xs:Array Keyed)(i:Nat):Int:=match xs[i]? with
 |some p=>r p.1
 |none=>0
theorem dq(h:xs[i]? = ys[j]?):R r xs i=R r ys j:=by unfold R;rw[h]
def lI(prog:Program)(w:World)(A:Around)(s:Shared)(κ:SortKind)(r:Value->Int)(P:Value->Prop):Prop :=
 ∀ x y,P x->P y->∀ (Q:Bool->Shared->Prop) (E:Value->Shared->Prop),Q (decide (r x<r y)) s->wpAny (model prog w) A (keyLt' κ x y) Q E s
def AllP(P:Value->Prop)(xs:Array Keyed):Prop:=∀ p∈xs.toList,P p.1
theorem AllP.perm{P:Value->Prop}(h:AllP P xs)(hp:ys.Perm xs):AllP P ys:=fun p hm=>h p ((RA.mp hp).mem_iff.mp hm)
theorem AllP.at{P:Value->Prop}{xs:Array Keyed}(h:AllP P xs){i:Nat}{p:Keyed}(e:xs[i]? = some p):P p.1:=h p (by
 obtain⟨hi,rfl⟩:=GY.mp e
 simp)
structure kX(lo hi:Nat)(st ag:SortSt):Prop where
 kind:kindOf ag=kindOf st
 failed:failedOf ag=failedOf st
 pend:pendingOf ag=pendingOf st
 perm:(arrOf ag).Perm (arrOf st)
 out:∀ k,k<lo\/hi<=k->(arrOf ag)[k]? = (arrOf st)[k]?
theorem kX.refl(lo hi:Nat)(st:SortSt):kX lo hi st st:=⟨rfl,rfl,rfl,Array.Perm.refl _,fun _ _=>rfl⟩
theorem kX.trans{lo hi:Nat}(h:kX lo hi a b)(g:kX lo hi b c):kX lo hi a c :=
 ⟨g.kind.trans h.kind,g.failed.trans h.failed,g.pend.trans h.pend,g.perm.trans h.perm,fun k hk=>(g.out k hk).trans (h.out k hk)⟩
theorem kX.mono{lo hi E3 iE:Nat}(h:kX lo hi a b)(h1:E3<=lo)(h2:hi<=iE):kX E3 iE a b :=
 ⟨h.kind,h.failed,h.pend,h.perm,fun k hk=>h.out k (by lia)⟩
theorem kX.size{lo hi:Nat}(h:kX lo hi a b):(arrOf b).size=(arrOf a).size:=h.perm.size_eq
def Up(r:Value->Int)(xs:Array Keyed)(lo hi:Nat):Prop:=∀ i j,lo<=i->i<=j->j<hi->R r xs i<=R r xs j
def Down(r:Value->Int)(xs:Array Keyed)(lo hi:Nat):Prop:=∀ i j,lo<=i->i<=j->j<hi->R r xs j<=R r xs i
theorem uo(hs:src<xs.size)(hd:d<=src)(k:Nat) :
  R r (bubble xs src d) k=if k=src-d then R r xs src else if src-d<k/\k<=src then R r xs (k-1) else R r xs k:=by
 have e:=getElem?_bubble hs d hd k
 by_cases h1:k=src-d
 ·rw[if_pos h1] at e ⊢;exact dq e
 ·rw[if_neg h1] at e ⊢
  by_cases h2:src-d<k/\k<=src
  ·rw[if_pos h2] at e ⊢;exact dq e
  ·rw[if_neg h2] at e ⊢;exact dq e
theorem n_(hj:j<=xs.size)(k:Nat) :
  R r (mirror xs i j ((j-i) / 2)) k=if i<=k/\k<j then R r xs (i+j-1-k) else R r xs k:=by
 have e:=getElem?_mirror_all (i:=i) hj k
 by_cases h1:i<=k/\k<j
 ·rw[if_pos h1] at e ⊢;exact dq e
 ·rw[if_neg h1] at e ⊢;exact dq e
theorem bU(hj:j<=xs.size)(heq:∀ k,i<=k->k<j->R r xs k=R r xs (j-1))(k:Nat) :
  R r (mirror xs i j ((j-i) / 2)) k=R r xs k:=by
 rw[n_ hj]
 split
 ·rw[heq _ (by lia) (by lia),heq k (by lia) (by lia)]
 ·rfl
section
variable {prog:Program}{w:World}{A:Around}{E:Value->Shared->Prop}{s:Shared}{κ:SortKind}{r:Value->Int}{P:Value->Prop}
theorem qP{st:SortSt}(C:lI prog w A s κ r P)(hk:kindOf st=κ)(hx:P x.1)(hy:P y.1)(h:Q (some (decide (r x.1<r y.1))) st) :
  wpS (model prog w) A E s (lt' x y) Q st:=by
 rw[lt'_eq]
 refine wpS_bind (wpS_get ?_)
 rw[hk]
 refine wpS_bind (wpS_lift (wpAny_attempt (C x.1 y.1 hx hy _ _ ⟨rfl,?_⟩)))
 exact wpS_pure h
theorem aH{st:SortSt}(hi:i<xs.size)(h:∀ p,xs[i]? = some p->Q p st):wpS (model prog w) A E s (elem' xs i) Q st:=by
 rw[elem'_eq,getElem?_pos xs i hi]
 exact wpS_pure (h _ (getElem?_pos xs i hi))
theorem kj{st:SortSt}{i j:Nat}{Q:Option Bool->SortSt->Prop}(C:lI prog w A s κ r P)(hk:kindOf st=κ)(hP:AllP P (arrOf st))(hi:i<(arrOf st).size)(hj:j<(arrOf st).size)
  (h:Q (some (decide (R r (arrOf st) i<R r (arrOf st) j))) st):wpS (model prog w) A E s (ltAt' i j) Q st:=by
 rw[ltAt'_eq]
 refine wpS_bind (wpS_get ?_)
 show wpS _ _ _ _ (do let x <- elem' (arrOf st) i;let y <- elem' (arrOf st) j;lt' x y) Q st
 refine wpS_bind (aH hi fun p ep=>wpS_bind (aH hj fun q eq=>qP C hk (hP.at ep) (hP.at eq) ?_))
 have e1:R r (arrOf st) i=r p.1:=by unfold R;rw[ep]
 have e2:R r (arrOf st) j=r q.1:=by unfold R;rw[eq]
 rw[<- e1,<- e2]
 exact h
theorem dF{st:SortSt}(h:Q () (setArr st (mirror (arrOf st) i j ((j-i) / 2)))) :
  wpS (model prog w) A E s (reverseSlice' i j) Q st:=by
 rw[reverseSlice'_eq];exact wpS_modify h
theorem gB{st:SortSt}(hj:j<=(arrOf st).size):kX i j st (setArr st (mirror (arrOf st) i j ((j-i) / 2))) :=
 ⟨rfl,rfl,rfl,mirror_perm _ _ _ _,fun k hk=>by
  have e:=getElem?_mirror_all (i:=i) hj k
  rw[if_neg (by lia)] at e
  exact e⟩
theorem vG{st:SortSt}{lo src d:Nat}(hs:src<(arrOf st).size)(hd:lo+d<=src):kX lo (src+1) st (setArr st (bubble (arrOf st) src d)) :=
 ⟨rfl,rfl,rfl,bubble_perm _ _ _,fun k hk=>by
  have e:=getElem?_bubble hs d (by walk_at "s4") k
  rw[if_neg (by lia),if_neg (by lia)] at e
  exact e⟩
theorem wpS_binarySort{st:SortSt}{lo n ok:Nat}(C:lI prog w A s κ r P)(hk:kindOf st=κ)(hP:AllP P (arrOf st))(hn:lo+n<=(arrOf st).size)(aC:ok<=n)(hs:Up r (arrOf st) lo (lo+ok))
  (h:∀ ag,kX lo (lo+n) st ag->Up r (arrOf ag) lo (lo+n)->Q true ag):wpS (model prog w) A E s (binarySort' lo n ok) Q st:=by
 rw[binarySort'_eq]
 refine wpS_bind (wpS_mono (wpS_forRange (I:=fun k c ag=>c=(none,())/\kX lo (lo+n) st ag/\Up r (arrOf ag) lo (lo+min k n))
  (Q:=fun c ag=>c=(none,())/\kX lo (lo+n) st ag/\Up r (arrOf ag) lo (lo+n)) ?step ?fin ?init) ?post)
 case post =>
  rintro c ag ⟨rfl,iL,hX⟩
  exact wpS_pure (h ag iL hX)
 case init =>
  refine⟨rfl,.refl _ _ _,fun i j hl kM hj=>?_⟩
  by_cases h1:ok=0
  ·have:i=j:=by lia
   subst this;exact qB _
  ·exact hs i j hl kM (by lia)
 case fin =>
  rintro c ag ⟨hc,iL,hX⟩
  refine⟨hc,iL,?_⟩
  rwa[show min (max (max ok 1) n) n=n by lia] at hX
 case step =>
  rintro k c ag hak hkn ⟨rfl,iL,hX⟩
  rw[show min k n=k by lia] at hX
  have hsz:=iL.size
  have iF:kindOf ag=κ:=iL.kind.trans hk
  have pS:=hP.perm iL.perm
  refine wpS_bind (wpS_mono (wpS_forRange (I:=fun x c xl=>xl=ag/\∃ l r',c=(none,l,r')/\l<=r'/\r'<=k/\r'-l<=k-x /\
    (∀ i,lo<=i->i<lo+l->R r (arrOf ag) i<=R r (arrOf ag) (lo+k))/\(∀ i,lo+r'<=i->i<lo+k->R r (arrOf ag) (lo+k)<R r (arrOf ag) i))
   (Q:=fun c xl=>xl=ag/\∃ l r',c=(none,l,r')/\l<=k /\
    (∀ i,lo<=i->i<lo+l->R r (arrOf ag) i<=R r (arrOf ag) (lo+k))/\(∀ i,lo+l<=i->i<lo+k->R r (arrOf ag) (lo+k)<R r (arrOf ag) i)) ?cU' ?cV' ?cW') ?cX')
  case cW'=>exact⟨rfl,0,k,rfl,by lia,by lia,by lia,fun i _ hi=>by lia,fun i h1 h2=>by lia⟩
  case cV' =>
   rintro c xl ⟨rfl,l,r',rfl,hlr,E4,hm,xi,zD⟩
   have:l=r':=by lia
   subst this
   exact⟨rfl,l,l,rfl,E4,xi,zD⟩
  case cU' =>
   rintro x c xl _ hxk ⟨rfl,l,r',rfl,hlr,E4,hm,xi,zD⟩
   dsimp only
   by_cases pT:l >= r'
   ·rw[if_pos pT]
    have:l=r':=by lia
    subst this
    exact wpS_pure ⟨rfl,l,l,rfl,E4,xi,zD⟩
   ·rw[if_neg pT]
    refine wpS_bind (kj C iF pS (by lia) (by lia) ?_)
    by_cases tT:R r (arrOf xl) (lo+k)<R r (arrOf xl) (lo+(l+r') / 2)
    ·simp only[tT,decide_true,if_true]
     refine wpS_pure ⟨rfl,l,(l+r') / 2,rfl,by lia,by lia,by lia,xi,fun i h1 h2=>?_⟩
     exact Int.lt_of_lt_of_le tT (hX _ _ (by lia) h1 h2)
    ·simp only[tT,decide_false,gL,if_false]
     refine wpS_pure ⟨rfl,(l+r') / 2+1,r',rfl,by lia,by lia,by lia,fun i h0 h1=>?_,zD⟩
     exact vj (hX i (lo+(l+r') / 2) h0 (by lia) (by lia)) (Int.not_lt.mp tT)
  case cX' =>
   rintro c xl ⟨rfl,l,r',rfl,hlk,xi,zD⟩
   show wpS _ _ _ _ (do moveDown' (lo+k) (lo+l);pure (ForInStep.yield (none,()))) _ _
   rw[moveDown'_eq]
   have E5:lo+k<(arrOf xl).size:=by lia
   refine wpS_bind (wpS_modify (wpS_pure ⟨rfl,iL.trans ((vG (lo:=lo) E5 (by lia)).mono (bS _) (by lia)),?_⟩))
   rw[show min (k+1) n=k+1 by lia]
   intro i j hl kM hj
   show R r (bubble (arrOf xl) (lo+k) (lo+k-(lo+l))) i<=R r (bubble (arrOf xl) (lo+k) (lo+k-(lo+l))) j
   rw[uo E5 (by lia),uo E5 (by lia),show lo+k-(lo+k-(lo+l))=lo+l by lia]
   repeat' split
   all_goals first
    | (exfalso;lia)
    |exact qB _
    |exact xi _ (by lia) (by lia)
    |exact AO (zD _ (by lia) (by lia))
    |exact hX _ _ (by lia) (by lia) (by lia)
end
def ascL(lo a nrem:Nat):StateT SortSt Sem AscSt :=
 forIn [a:nrem] ((none,a):AscSt) fun _ __s=>do
  let __x ← ltAt' (lo + __s.snd) (lo + __s.snd - 1)
  match __x with
  |some smaller=>if smaller=true then pure (ForInStep.done (none,__s.snd)) else pure (ForInStep.yield (none,__s.snd+1))
  |_=>pure (ForInStep.done (some none,__s.snd))
def qi(lo n nrem:Nat):StateT SortSt Sem (Option Nat):=do
 reverseSlice' lo (lo+n)
 let __s ← ascL lo n nrem
 match __s.fst with
 |some r=>pure r
 |none=>pure (some __s.snd)
def zV(lo n nrem:Nat):StateT SortSt Sem DescSt :=
 forIn [n:nrem] ((none,n,0):DescSt) fun _ __s=>do
  let __x ← ltAt' (lo + __s.snd.fst) (lo + __s.snd.fst - 1)
  match __x with
  |some smaller =>
   if smaller=true then
    if __s.snd.snd>0 then do
     reverseSlice' (lo+__s.snd.fst-(__s.snd.snd+1)) (lo+__s.snd.fst)
     pure (ForInStep.yield (none,__s.snd.fst+1,0))
    else pure (ForInStep.yield (none,__s.snd.fst+1,0))
   else do
    let __x ← ltAt' (lo+__s.snd.fst - 1) (lo+__s.snd.fst)
    match __x with
    |some larger =>
     if larger=true then pure (ForInStep.done (none,__s.snd.fst,__s.snd.snd))
     else pure (ForInStep.yield (none,__s.snd.fst+1,__s.snd.snd+1))
    |_=>pure (ForInStep.done (some none,__s.snd.fst,__s.snd.snd))
  |_=>pure (ForInStep.done (some none,__s.snd.fst,__s.snd.snd))
def fO(lo n nrem:Nat):StateT SortSt Sem (Option Nat):=do
 liftM (rule "list.sort.descending-run")
 let __s ← zV lo (n+1) nrem
 match __s.fst with
 |some r=>pure r
 |none =>
  if __s.snd.snd>0 then do
   reverseSlice' (lo+__s.snd.fst-(__s.snd.snd+1)) (lo+__s.snd.fst)
   qi lo __s.snd.fst nrem
  else qi lo __s.snd.fst nrem
theorem rC(lo nrem:Nat):countRun' lo nrem=(do
  let __s ← ascL lo 1 nrem
  match __s.fst with
  |some r=>pure r
  |none =>
   if (__s.snd == nrem)=true then pure (some __s.snd)
   else if __s.snd>1 then do
    let __x ← ltAt' lo (lo+__s.snd - 1)
    match __x with
    |some Xa=>if Xa=true then pure (some __s.snd) else do
      reverseSlice' lo (lo+__s.snd)
      fO lo __s.snd nrem
    |_=>pure none
   else fO lo __s.snd nrem):=by
 rw[countRun'_eq]
 dsimp only
 unfold fO qi zV ascL
 congr 1
 funext __s
 obtain⟨r,n⟩:=__s
 cases r with
 |some r=>rfl
 |none =>
  dsimp only
  split
  ·rfl
  ·split
   ·congr 1
    funext x
    cases x with
    |none=>rfl
    |some Xa =>
     dsimp only
     split
     ·rfl
     ·congr 1
      funext _r
      (congr 1;funext _u;congr 1;congr 1;funext s2;obtain⟨r2,n2,q2⟩:=s2;cases r2 with
       |some r2=>rfl
       |none=>(dsimp only;split;(congr 1;funext _v;(congr 1;funext _w;congr 1;(funext s3;obtain⟨r3,n3⟩:=s3;cases r3<;>rfl)));(congr 1;funext _w;congr 1;(funext s3;obtain⟨r3,n3⟩:=s3;cases r3<;>rfl))))
   ·(congr 1;funext _u;congr 1;congr 1;funext s2;obtain⟨r2,n2,q2⟩:=s2;cases r2 with
     |some r2=>rfl
     |none=>(dsimp only;split;(congr 1;funext _v;(congr 1;funext _w;congr 1;(funext s3;obtain⟨r3,n3⟩:=s3;cases r3<;>rfl)));(congr 1;funext _w;congr 1;(funext s3;obtain⟨r3,n3⟩:=s3;cases r3<;>rfl))))
section
variable {prog:Program}{w:World}{A:Around}{E:Value->Shared->Prop}{s:Shared}{κ:SortKind}{r:Value->Int}{P:Value->Prop}
theorem ue{st:SortSt}{lo a nrem:Nat}(C:lI prog w A s κ r P)(hk:kindOf st=κ)(hP:AllP P (arrOf st))(hn:lo+nrem<=(arrOf st).size)(ha:1<=a)(han:a<=nrem)
  (hs:Up r (arrOf st) lo (lo+a))
  (h:∀ n,a<=n->n<=nrem->Up r (arrOf st) lo (lo+n)->(n=nrem\/R r (arrOf st) (lo+n)<R r (arrOf st) (lo+n-1))->Q (none,n) st) :
  wpS (model prog w) A E s (ascL lo a nrem) Q st:=by
 unfold ascL
 refine wpS_forRange (I:=fun x c ag=>ag=st/\c=(none,x)/\Up r (arrOf st) lo (lo+x)) ?step ?fin ⟨rfl,rfl,hs⟩
 case fin =>
  rintro c ag ⟨rfl,rfl,hX⟩
  rw[show max a nrem=nrem by lia] at hX ⊢
  exact h nrem han (bS _) hX (.inl rfl)
 case step =>
  rintro x c ag Nv hxn ⟨rfl,rfl,hX⟩
  dsimp only
  refine wpS_bind (kj C hk hP (by lia) (by lia) ?_)
  by_cases tT:R r (arrOf ag) (lo+x)<R r (arrOf ag) (lo+x-1)
  ·simp only[tT,decide_true,if_true]
   exact wpS_pure (h x Nv (by lia) hX (.inr tT))
  ·simp only[tT,decide_false,gL,if_false]
   refine wpS_pure ⟨rfl,rfl,fun i j hl kM hj=>?_⟩
   by_cases Nw:j<lo+x
   ·exact hX i j hl kM Nw
   ·have wa:j=lo+x:=by lia
    subst wa
    by_cases iE:i=lo+x
    ·subst iE;exact qB _
    ·exact vj (hX i (lo+x-1) hl (by lia) (by lia)) (Int.not_lt.mp tT)
theorem nM{st:SortSt}{lo n nrem:Nat}(C:lI prog w A s κ r P)(hk:kindOf st=κ)(hP:AllP P (arrOf st))(hn:lo+nrem<=(arrOf st).size)(h1:1<=n)(Bi:n<=nrem)
  (hs:Down r (arrOf st) lo (lo+n)) (h:∀ m ag,kX lo (lo+nrem) st ag->1<=m->m<=nrem->Up r (arrOf ag) lo (lo+m)->Q (some m) ag) :
  wpS (model prog w) A E s (qi lo n nrem) Q st:=by
 unfold qi
 have hsz:lo+n<=(arrOf st).size:=by lia
 refine wpS_bind (dF ?_)
 have iL:=gB (i:=lo) hsz
 refine wpS_bind (ue C (iL.kind.trans hk) (hP.perm iL.perm) (by rw[iL.size];exact hn) h1 Bi ?_ fun m kF mE S7 _=>wpS_pure (h m _ (iL.mono (bS _) (by lia)) (by lia) mE S7))
 intro i j hl kM hj
 show R r (mirror (arrOf st) lo (lo+n) ((lo+n-lo) / 2)) i<=R r (mirror (arrOf st) lo (lo+n) ((lo+n-lo) / 2)) j
 rw[n_ hsz,n_ hsz,if_pos (by lia),if_pos (by lia)]
 exact hs _ _ (by lia) (by lia) (by lia)
theorem yQ{st:SortSt}{lo n nrem:Nat}(C:lI prog w A s κ r P)(hk:kindOf st=κ)(hP:AllP P (arrOf st))(hn:lo+nrem<=(arrOf st).size)(h1:1<=n)(Bi:n<=nrem)
  (hs:Down r (arrOf st) lo (lo+n))
  (h:∀ m pV ag,kX lo (lo+nrem) st ag->n<=m->m<=nrem->Down r (arrOf ag) lo (lo+m)->pV+1<=m->(∀ i,lo+m-(pV+1)<=i->i<lo+m->R r (arrOf ag) i=R r (arrOf ag) (lo+m-1))->Q (none,m,pV) ag) :
  wpS (model prog w) A E s (zV lo n nrem) Q st:=by
 unfold zV
 refine wpS_forRange (I:=fun x c ag=>∃ pV,c=(none,x,pV)/\kX lo (lo+nrem) st ag/\Down r (arrOf ag) lo (lo+x)/\pV+1<=x /\
   (∀ i,lo+x-(pV+1)<=i->i<lo+x->R r (arrOf ag) i=R r (arrOf ag) (lo+x-1))) ?step ?fin ⟨0,rfl,.refl _ _ _,hs,by lia,fun i h1 h2=>by congr 1;lia⟩
 case fin =>
  rintro c ag ⟨pV,rfl,iL,hX,hq,he⟩
  rw[show max n nrem=nrem by lia] at hX hq he ⊢
  exact h nrem pV ag iL Bi (bS _) hX hq he
 case step =>
  rintro x c ag Nv hxn ⟨pV,rfl,iL,hX,hq,he⟩
  dsimp only
  have hz:=iL.size
  have hsz:lo+x<=(arrOf ag).size:=by lia
  have iF:=iL.kind.trans hk
  have pS:=hP.perm iL.perm
  refine wpS_bind (kj C iF pS (by lia) (by lia) ?_)
  by_cases tT:R r (arrOf ag) (lo+x)<R r (arrOf ag) (lo+x-1)
  ·simp only[tT,decide_true,if_true]
   have Xb:∀ xs:Array Keyed,(∀ k,R r xs k=R r (arrOf ag) k)->Down r xs lo (lo+(x+1)):=by
    intro xs Xc i j hl kM hj
    rw[Xc,Xc]
    by_cases Nw:j<lo+x
    ·exact hX i j hl kM Nw
    ·have wa:j=lo+x:=by lia
     subst wa
     by_cases iE:i=lo+x
     ·subst iE;exact qB _
     ·exact vj (AO tT) (hX i (lo+x-1) hl (by lia) (by lia))
   by_cases Nx:pV>0
   ·rw[if_pos Nx]
    refine wpS_bind (dF (wpS_pure ⟨0,rfl,iL.trans ((gB hsz).mono (by lia) (by lia)),Xb _ (bU hsz he),by lia,fun i h1 h2=>by congr 1;lia⟩))
   ·rw[if_neg Nx]
    exact wpS_pure ⟨0,rfl,iL,Xb _ (fun _=>rfl),by lia,fun i h1 h2=>by congr 1;lia⟩
  ·simp only[tT,decide_false,gL,if_false]
   refine wpS_bind (kj C iF pS (by lia) (by lia) ?_)
   by_cases Xd:R r (arrOf ag) (lo+x-1)<R r (arrOf ag) (lo+x)
   ·simp only[Xd,decide_true,if_true]
    exact wpS_pure (h x pV ag iL Nv (by lia) hX hq he)
   ·simp only[Xd,decide_false,gL,if_false]
    have Xe:R r (arrOf ag) (lo+x)=R r (arrOf ag) (lo+x-1):=by lia
    refine wpS_pure ⟨pV+1,rfl,iL,fun i j hl kM hj=>?_,by lia,fun i h1 h2=>?_⟩
    ·by_cases Nw:j<lo+x
     ·exact hX i j hl kM Nw
     ·have wa:j=lo+x:=by lia
      subst wa
      by_cases iE:i=lo+x
      ·subst iE;exact qB _
      ·rw[Xe];exact hX i (lo+x-1) hl (by lia) (by lia)
    ·rw[show lo+(x+1)-1=lo+x by lia]
     by_cases E6:i=lo+x
     ·subst E6;rfl
     ·rw[Xe];exact he i (by lia) (by lia)
theorem iM{st:SortSt}{lo n nrem:Nat}(C:lI prog w A s κ r P)(hk:kindOf st=κ)(hP:AllP P (arrOf st))(hn:lo+nrem<=(arrOf st).size)(Bi:n+1<=nrem)
  (hs:Down r (arrOf st) lo (lo+(n+1))) (h:∀ m ag,kX lo (lo+nrem) st ag->1<=m->m<=nrem->Up r (arrOf ag) lo (lo+m)->Q (some m) ag) :
  wpS (model prog w) A E s (fO lo n nrem) Q st:=by
 unfold fO
 refine wpS_bind (wpS_lift (wpAny_rule ⟨rfl,?_⟩))
 refine wpS_bind (yQ C hk hP hn (by lia) Bi hs fun m pV ag iL kF mE hX hq he=>?_)
 dsimp only
 have hz:=iL.size
 have hsz:lo+m<=(arrOf ag).size:=by lia
 have iF:=iL.kind.trans hk
 have pS:=hP.perm iL.perm
 by_cases Nx:pV>0
 ·rw[if_pos Nx]
  have hW:=gB (i:=lo+m-(pV+1)) hsz
  refine wpS_bind (dF (nM C (hW.kind.trans iF) (pS.perm hW.perm) (by rw[hW.size,hz];exact hn) (by lia) mE ?_ fun m2 vv Ny=>h m2 vv ((iL.trans (hW.mono (by lia) (by lia))).trans Ny)))
  intro i j hl kM hj
  show R r (mirror (arrOf ag) _ _ _) j<=R r (mirror (arrOf ag) _ _ _) i
  rw[bU hsz he,bU hsz he]
  exact hX i j hl kM hj
 ·rw[if_neg Nx]
  exact nM C iF pS (by rw[hz];exact hn) (by lia) mE hX fun m2 vv Ny=>h m2 vv (iL.trans Ny)
theorem wpS_countRun{st:SortSt}{lo nrem:Nat}(C:lI prog w A s κ r P)(hk:kindOf st=κ)(hP:AllP P (arrOf st))(hn:lo+nrem<=(arrOf st).size)(h1:1<=nrem)
  (h:∀ m ag,kX lo (lo+nrem) st ag->1<=m->m<=nrem->Up r (arrOf ag) lo (lo+m)->Q (some m) ag) :
  wpS (model prog w) A E s (countRun' lo nrem) Q st:=by
 rw[rC]
 refine wpS_bind (ue C hk hP hn (bS 1) h1 (fun i j hl kM hj=>by
  have:i=j:=by lia
  subst this;exact qB _) fun n Xf HZ lP hor=>?_)
 dsimp only
 by_cases Bi:n=nrem
 ·rw[if_pos (by simpa using Bi)]
  exact wpS_pure (h n st (.refl _ _ _) Xf HZ lP)
 ·rw[if_neg (by simpa using Bi)]
  have dr:R r (arrOf st) (lo+n)<R r (arrOf st) (lo+n-1):=hor.resolve_left Bi
  by_cases Xg:n>1
  ·rw[if_pos Xg]
   refine wpS_bind (kj C hk hP (by lia) (by lia) ?_)
   by_cases Xh:R r (arrOf st) lo<R r (arrOf st) (lo+n-1)
   ·simp only[Xh,decide_true,if_true]
    exact wpS_pure (h n st (.refl _ _ _) Xf HZ lP)
   ·simp only[Xh,decide_false,gL,if_false]
    have hsz:lo+n<=(arrOf st).size:=by lia
    have nE:∀ k,lo<=k->k<lo+n->R r (arrOf st) k=R r (arrOf st) (lo+n-1):=by
     intro k hl hk
     have a1:=lP lo k (by lia) hl hk
     have a2:=lP k (lo+n-1) hl (by lia) (by lia)
     lia
    have hW:=gB (i:=lo) hsz
    refine wpS_bind (dF (iM C (hW.kind.trans hk) (hP.perm hW.perm) (by rw[hW.size];exact hn) (by lia) ?_ fun m2 vv Ny=>h m2 vv ((hW.mono (bS _) (by lia)).trans Ny)))
    intro i j hl kM hj
    show R r (mirror (arrOf st) _ _ _) j<=R r (mirror (arrOf st) _ _ _) i
    rw[bU hsz nE,bU hsz nE]
    by_cases hjn:j<lo+n
    ·rw[nE i hl (by lia),nE j (by lia) hjn];exact qB _
    ·have wa:j=lo+n:=by lia
     subst wa
     by_cases iE:i=lo+n
     ·subst iE;exact qB _
     ·rw[nE i hl (by lia)];exact AO dr
  ·rw[if_neg Xg]
   have de':n=1:=by lia
   subst de'
   refine iM C hk hP hn (by lia) ?_ h
   intro i j hl kM hj
   by_cases iE:i=j
   ·subst iE;exact qB _
   ·have rp:i=lo:=by lia
    have hj1:j=lo+1:=by lia
    subst rp;subst hj1
    exact AO dr
end
def xq(left:Bool)(key:Keyed)(arr:Array Keyed)(base i:Nat):StateT SortSt Sem (Option Bool):=do
 let x ← elem' arr (base+i)
 if left then lt' x key else return (<- lt' key x).map (!·)
def jX:Bool->Keyed->Array Keyed->Nat->Nat->Nat->StateT SortSt Sem (Option Nat):=sortPriv% PySem.Builtin.gallop
section
variable {prog:Program}{w:World}{A:Around}{E:Value->Shared->Prop}{s:Shared}{κ:SortKind}{r:Value->Int}{P:Value->Prop}
def fm(r:Value->Int)(left:Bool)(key:Keyed)(arr:Array Keyed)(base i:Nat):Bool :=
 if left then decide (R r arr (base+i)<r key.1) else !decide (r key.1<R r arr (base+i))
theorem eE{st:SortSt}(C:lI prog w A s κ r P)(hk:kindOf st=κ)(hP:AllP P arr)(hy:P key.1)(hi:base+i<arr.size)
  (h:Q (some (fm r left key arr base i)) st):wpS (model prog w) A E s (xq left key arr base i) Q st:=by
 unfold xq
 refine wpS_bind (aH hi fun p ep=>?_)
 have e1:R r arr (base+i)=r p.1:=by unfold R;rw[ep]
 unfold fm at h
 rw[e1] at h
 cases left with
 |true =>
  simp only[if_true] at h ⊢
  exact qP C hk (hP.at ep) hy h
 |false =>
  simp only[gL,if_false] at h ⊢
  exact wpS_bind (qP C hk hy (hP.at ep) (wpS_pure h))
theorem z7(hu:Up r arr base (base+n))(kM:i<=j)(hj:j<n)(h:fm r left key arr base j=true):fm r left key arr base i=true:=by
 have q:=hu (base+i) (base+j) (by lia) (by lia) (by lia)
 unfold fm at h ⊢
 cases left with
 |true=>simp only[if_true,decide_eq_true_eq] at h ⊢;lia
 |false=>simp only[gL,if_false,Rz,decide_eq_false_iff_not] at h ⊢;lia
theorem dh{st:SortSt}{base n hint:Nat}(C:lI prog w A s κ r P)(hk:kindOf st=κ)(hP:AllP P arr)(hy:P key.1)(hn:base+n<=arr.size)(hh:hint<n)
  (hu:Up r arr base (base+n))
  (h:∀ k,k<=n->(∀ i,i<k->fm r left key arr base i=true)->(∀ i,k<=i->i<n->fm r left key arr base i=false)->Q (some k) st):wpS (model prog w) A E s (jX left key arr base n hint) Q st:=by
 have mono:∀ {i j},i<=j->j<n->fm r left key arr base j=true->fm r left key arr base i=true:=fun a b c=>z7 hu a b c
 have P7:∀ {i j},i<=j->j<n->fm r left key arr base i=false->fm r left key arr base j=false:=fun {i j} a b c=>by
  cases q:fm r left key arr base j with
  |false=>rfl
  |true=>rw[mono a b q] at c;cases c
 refine wpS_bind (eE C hk hP hy (by lia) ?_)
 dsimp only
 cases q0:fm r left key arr base hint with
 |true =>
  simp only[if_true]
  refine wpS_bind (wpS_mono (wpS_forRange (I:=fun x c ag=>ag=st/\∃ lst fe,c=(none,lst,fe)/\lst<fe/\lst<n-hint/\x+1<=fe/\fm r left key arr base (hint+lst)=true)
   (Q:=fun c ag=>ag=st/\∃ lst fe,c=(none,lst,fe)/\lst<fe/\lst<n-hint/\fm r left key arr base (hint+lst)=true/\(n-hint<=fe\/fm r left key arr base (hint+fe)=false)) ?step ?fin ?init) ?post)
  case init=>exact⟨rfl,0,1,rfl,by lia,by lia,by lia,q0⟩
  case fin =>
   rintro c ag ⟨rfl,lst,fe,rfl,h1,h2,h3,h4⟩
   exact⟨rfl,lst,fe,rfl,h1,h2,h4,.inl (by lia)⟩
  case step =>
   rintro x c ag _ hx ⟨rfl,lst,fe,rfl,h1,h2,h3,h4⟩
   dsimp only
   by_cases pT:fe >= n-hint
   ·rw[if_pos pT]
    exact wpS_pure ⟨rfl,lst,fe,rfl,h1,h2,h4,.inl pT⟩
   ·rw[if_neg pT]
    refine wpS_bind (eE C hk hP hy (by lia) ?_)
    cases q:fm r left key arr base (hint+fe) with
    |true =>
     simp only[OY,gL,if_false]
     exact wpS_pure ⟨rfl,_,_,rfl,by lia,by lia,by lia,q⟩
    |false =>
     simp only[Bool.not_false,if_true]
     exact wpS_pure ⟨rfl,lst,fe,rfl,h1,h2,h4,.inr q⟩
  case post =>
   rintro c ag ⟨rfl,lst,fe,rfl,h1,h2,h4,h5⟩
   dsimp only
   generalize ag=st at *
   have hl:∀ i,i<hint+lst+1->fm r left key arr base i=true:=fun i hi=>mono (j:=hint+lst) (by lia) (by lia) h4
   have zD:∀ i,hint+min fe (n-hint)<=i->i<n->fm r left key arr base i=false:=fun i hi ck=>by
    rcases h5 with h5|h5
    ·lia
    ·by_cases z:n-hint<=fe
     ·lia
     ·exact P7 (i:=hint+fe) (by lia) ck h5
   have S8:hint+lst+1<=hint+min fe (n-hint):=by lia
   have S9:hint+min fe (n-hint)<=n:=by lia
   generalize hint+lst+1=lo at *
   generalize hint+min fe (n-hint)=hi at *
   refine wpS_bind (wpS_mono (wpS_forRange (I:=fun x c ag=>ag=st/\∃ l u,c=(none,l,u)/\l<=u/\u<=n/\u-l<=n-x/\(∀ i,i<l->fm r left key arr base i=true)/\(∀ i,u<=i->i<n->fm r left key arr base i=false))
    (Q:=fun c ag=>ag=st/\∃ l,c=(none,l,l)/\l<=n/\(∀ i,i<l->fm r left key arr base i=true)/\(∀ i,l<=i->i<n->fm r left key arr base i=false)) ?dg' ?dh' ?di') ?postA)
   case di'=>exact⟨rfl,lo,hi,rfl,S8,S9,by lia,hl,zD⟩
   case dh' =>
    rintro c ag ⟨rfl,l,u,rfl,h1,h2,h3,h4,h5⟩
    have:l=u:=by lia
    subst this
    exact⟨rfl,l,rfl,h2,h4,h5⟩
   case dg' =>
    rintro x c ag _ hx ⟨rfl,l,u,rfl,h1,h2,h3,h4,h5⟩
    dsimp only
    by_cases pT:l >= u
    ·rw[if_pos pT]
     have:l=u:=by lia
     subst this
     exact wpS_pure ⟨rfl,l,rfl,h2,h4,h5⟩
    ·rw[if_neg pT]
     refine wpS_bind (eE C hk hP hy (by lia) ?_)
     cases q:fm r left key arr base (l+(u-l) / 2) with
     |true =>
      simp only[if_true]
      exact wpS_pure ⟨rfl,_,_,rfl,by lia,by lia,by lia,fun i hi=>mono (j:=l+(u-l) / 2) (by lia) (by lia) q,h5⟩
     |false =>
      simp only[gL,if_false]
      exact wpS_pure ⟨rfl,_,_,rfl,by lia,by lia,by lia,h4,fun i hi ck=>P7 (i:=l+(u-l) / 2) (by lia) ck q⟩
   case postA =>
    rintro c ag ⟨rfl,l,rfl,h2,h4,h5⟩
    exact wpS_pure (h l h2 h4 h5)
 |false =>
  simp only[gL,if_false]
  refine wpS_bind (wpS_mono (wpS_forRange (I:=fun x c ag=>ag=st/\∃ lst fe,c=(none,lst,fe)/\lst<fe/\lst<hint+1/\x+1<=fe/\fm r left key arr base (hint-lst)=false)
   (Q:=fun c ag=>ag=st/\∃ lst fe,c=(none,lst,fe)/\lst<fe/\lst<hint+1/\fm r left key arr base (hint-lst)=false/\(hint+1<=fe\/fm r left key arr base (hint-fe)=true)) ?dk' ?fin2 ?dl') ?dm')
  case dl'=>exact⟨rfl,0,1,rfl,by lia,by lia,by lia,q0⟩
  case fin2 =>
   rintro c ag ⟨rfl,lst,fe,rfl,h1,h2,h3,h4⟩
   exact⟨rfl,lst,fe,rfl,h1,h2,h4,.inl (by lia)⟩
  case dk' =>
   rintro x c ag _ hx ⟨rfl,lst,fe,rfl,h1,h2,h3,h4⟩
   dsimp only
   by_cases pT:fe >= hint+1
   ·rw[if_pos pT]
    exact wpS_pure ⟨rfl,lst,fe,rfl,h1,h2,h4,.inl pT⟩
   ·rw[if_neg pT]
    refine wpS_bind (eE C hk hP hy (by lia) ?_)
    cases q:fm r left key arr base (hint-fe) with
    |true =>
     simp only[if_true]
     exact wpS_pure ⟨rfl,lst,fe,rfl,h1,h2,h4,.inr q⟩
    |false =>
     simp only[gL,if_false]
     exact wpS_pure ⟨rfl,_,_,rfl,by lia,by lia,by lia,q⟩
  case dm' =>
   rintro c ag ⟨rfl,lst,fe,rfl,h1,h2,h4,h5⟩
   dsimp only
   generalize ag=st at *
   have hl:∀ i,i<hint+1-min fe (hint+1)->fm r left key arr base i=true:=fun i hi=>by
    rcases h5 with h5|h5
    ·lia
    ·by_cases z:hint+1<=fe
     ·lia
     ·exact mono (j:=hint-fe) (by lia) (by lia) h5
   have zD:∀ i,hint-lst<=i->i<n->fm r left key arr base i=false:=fun i hi ck=>P7 (i:=hint-lst) (by lia) ck h4
   have S8:hint+1-min fe (hint+1)<=hint-lst:=by lia
   have S9:hint-lst<=n:=by lia
   generalize hint+1-min fe (hint+1)=lo at *
   generalize hint-lst=hi at *
   refine wpS_bind (wpS_mono (wpS_forRange (I:=fun x c ag=>ag=st/\∃ l u,c=(none,l,u)/\l<=u/\u<=n/\u-l<=n-x/\(∀ i,i<l->fm r left key arr base i=true)/\(∀ i,u<=i->i<n->fm r left key arr base i=false))
    (Q:=fun c ag=>ag=st/\∃ l,c=(none,l,l)/\l<=n/\(∀ i,i<l->fm r left key arr base i=true)/\(∀ i,l<=i->i<n->fm r left key arr base i=false)) ?dn' ?dp' ?dq') ?dr')
   case dq'=>exact⟨rfl,lo,hi,rfl,S8,S9,by lia,hl,zD⟩
   case dp' =>
    rintro c ag ⟨rfl,l,u,rfl,h1,h2,h3,h4,h5⟩
    have:l=u:=by lia
    subst this
    exact⟨rfl,l,rfl,h2,h4,h5⟩
   case dn' =>
    rintro x c ag _ hx ⟨rfl,l,u,rfl,h1,h2,h3,h4,h5⟩
    dsimp only
    by_cases pT:l >= u
    ·rw[if_pos pT]
     have:l=u:=by lia
     subst this
     exact wpS_pure ⟨rfl,l,rfl,h2,h4,h5⟩
    ·rw[if_neg pT]
     refine wpS_bind (eE C hk hP hy (by lia) ?_)
     cases q:fm r left key arr base (l+(u-l) / 2) with
     |true =>
      simp only[if_true]
      exact wpS_pure ⟨rfl,_,_,rfl,by lia,by lia,by lia,fun i hi=>mono (j:=l+(u-l) / 2) (by lia) (by lia) q,h5⟩
     |false =>
      simp only[gL,if_false]
      exact wpS_pure ⟨rfl,_,_,rfl,by lia,by lia,by lia,h4,fun i hi ck=>P7 (i:=l+(u-l) / 2) (by lia) ck q⟩
   case dr' =>
    rintro c ag ⟨rfl,l,rfl,h2,h4,h5⟩
    exact wpS_pure (h l h2 h4 h5)
end
abbrev Le(r:Value->Int)(x y:Keyed):Prop:=r x.1<=r y.1
theorem nI(e:xs[i]? = some p):R r xs i=r p.1:=by unfold R;rw[e]
theorem G9(h:i<xs.size):R r xs i=r xs[i].1:=nI (getElem?_pos xs i h)
structure MI(r:Value->Int)(a b out:Array Keyed)(ia ib:Nat):Prop where
 ha:ia<=a.size
 hb:ib<=b.size
 perm:out.toList.Perm (a.toList.take ia++b.toList.take ib)
 up:out.toList.Pairwise (Le r)
 la:∀ x∈out.toList,∀ i,ia<=i->i<a.size->r x.1<=R r a i
 lb:∀ x∈out.toList,∀ j,ib<=j->j<b.size->r x.1<=R r b j
section
variable {r:Value->Int}{a b out:Array Keyed}{ia ib:Nat}
theorem nW{α:Type}{l:List α}{i:Nat}{x:α}(h:l[i]? = some x):l.take (i+1)=l.take i++[x]:=by
 rw[AJ,h];rfl
theorem MI.qC(M:MI r a b out ia ib)(hA:Up r a 0 a.size)(hB:Up r b 0 b.size){y:Keyed}(e:b[ib]? = some y)(hl:ia<a.size->R r b ib<=R r a ia):MI r a b (out.push y) ia (ib+1):=by
 have S_:ib<b.size:=(GY.mp e).1
 have ey:=nI (r:=r) e
 refine⟨M.ha,S_,?_,?_,?_,?_⟩
 ·rw[n9,nW (x:=y) (by simpa using e),<- wq]
  exact M.perm.append_right _
 ·rw[n9,LS]
  refine⟨M.up,by simp,fun x hx z hz=>?_⟩
  have:z=y:=by simpa using hz
  subst this
  show r x.1<=r z.1
  rw[<- ey]
  exact M.lb x hx ib (bS _) S_
 ·intro x hx i hi IC
  rw[n9] at hx
  rcases dz.mp hx with hx|hx
  ·exact M.la x hx i hi IC
  ·have:x=y:=by simpa using hx
   subst this
   rw[<- ey]
   exact vj (hl (by walk_at "s1")) (hA ia i (eP _) hi IC)
 ·intro x hx j hj Nz
  rw[n9] at hx
  rcases dz.mp hx with hx|hx
  ·exact M.lb x hx j (by exact kQ ‹_›) Nz
  ·have:x=y:=by simpa using hx
   subst this
   rw[<- ey]
   exact hB ib j (eP _) (by exact kQ ‹_›) Nz
theorem MI.rT(M:MI r a b out ia ib)(hA:Up r a 0 a.size)(hB:Up r b 0 b.size){y:Keyed}(e:a[ia]? = some y)(hl:ib<b.size->R r a ia<=R r b ib):MI r a b (out.push y) (ia+1) ib:=by
 have IC:ia<a.size:=(GY.mp e).1
 have ey:=nI (r:=r) e
 refine⟨IC,M.hb,?_,?_,?_,?_⟩
 ·rw[n9,nW (x:=y) (by simpa using e),wq]
  refine(M.perm.append_right [y]).trans ?_
  rw[wq]
  exact List.Perm.append_left _ Rk
 ·rw[n9,LS]
  refine⟨M.up,by simp,fun x hx z hz=>?_⟩
  have:z=y:=by simpa using hz
  subst this
  show r x.1<=r z.1
  rw[<- ey]
  exact M.la x hx ia (bS _) IC
 ·intro x hx i hi oi
  rw[n9] at hx
  rcases dz.mp hx with hx|hx
  ·exact M.la x hx i (by exact kQ ‹_›) oi
  ·have:x=y:=by simpa using hx
   subst this
   rw[<- ey]
   exact hA ia i (eP _) (by exact kQ ‹_›) oi
 ·intro x hx j hj Nz
  rw[n9] at hx
  rcases dz.mp hx with hx|hx
  ·exact M.lb x hx j hj Nz
  ·have:x=y:=by simpa using hx
   subst this
   rw[<- ey]
   exact vj (hl (by walk_at "s1")) (hB ib j (eP _) hj Nz)
theorem fZ{xs:Array Keyed}{i k:Nat}(h:i+k<xs.size):xs.extract i (i+(k+1))=(xs.extract i (i+k)).push xs[i+k]:=by
 apply O1.mp
 rw[n9]
 simp only[RB,Rf]
 rw[show i+(k+1)-i=k+1 by exact Nat.add_sub_cancel_left ..,show i+k-i=k by exact Nat.add_sub_cancel_left ..,AJ]
 congr 1
 rw[List.getElem?_drop]
 simp[h]
theorem MI.Bn(hA:Up r a 0 a.size)(hB:Up r b 0 b.size):∀ (k:Nat) {out:Array Keyed} {ia:Nat},MI r a b out ia ib->ia+k<=a.size->(ib<b.size->∀ i,i<k->R r a (ia+i)<=R r b ib)->MI r a b (out++a.extract ia (ia+k)) (ia+k) ib
 |0,out,ia,M,h1,h2=>by
  have:a.extract ia (ia+0) = #[]:=MA (by simp only[ED];lia)
  rw[this]
  simpa using M
 |k+1,out,ia,M,h1,h2=>by
  have q:=MI.Bn hA hB k M (by exact kQ ‹_›) fun hb i hi=>h2 hb i (by exact qA ‹_›)
  have e:a[ia+k]? = some a[ia+k]:=getElem?_pos a (ia+k) (by assumption)
  have z:=q.rT hA hB e fun hb=>h2 hb k (by exact bS _)
  rw[fZ (by assumption),Array.append_push]
  exact z
theorem MI.Bz(hA:Up r a 0 a.size)(hB:Up r b 0 b.size):∀ (k:Nat) {out:Array Keyed} {ib:Nat},MI r a b out ia ib->ib+k<=b.size->(ia<a.size->∀ i,i<k->R r b (ib+i)<=R r a ia)->MI r a b (out++b.extract ib (ib+k)) ia (ib+k)
 |0,out,ib,M,h1,h2=>by
  have:b.extract ib (ib+0) = #[]:=MA (by simp only[ED];lia)
  rw[this]
  simpa using M
 |k+1,out,ib,M,h1,h2=>by
  have q:=MI.Bz hA hB k M (by exact kQ ‹_›) fun ha i hi=>h2 ha i (by exact qA ‹_›)
  have e:b[ib+k]? = some b[ib+k]:=getElem?_pos b (ib+k) (by assumption)
  have z:=q.qC hA hB e fun ha=>h2 ha k (by exact bS _)
  rw[fZ (by assumption),Array.append_push]
  exact z
def cz(r:Value->Int)(a b out:Array Keyed):Prop:=out.toList.Perm (a.toList++b.toList)/\out.toList.Pairwise (Le r)
theorem MI.whole(M:MI r a b out a.size b.size):cz r a b out:=by
 refine⟨?_,M.up⟩
 have h:=M.perm
 rw[Ov (by simp),Ov (by simp)] at h
 exact h
theorem MI.IV(M:MI r a b out ia b.size)(hA:Up r a 0 a.size)(hB:Up r b 0 b.size):cz r a b (out++a.extract ia a.size++b.extract b.size b.size):=by
 have e:b.extract b.size b.size = #[]:=by simp
 rw[e,RC]
 have ha:=M.ha
 have q:=MI.Bn hA hB (a.size-ia) M (by lia) fun hb=>absurd hb (pf _)
 rw[show ia+(a.size-ia)=a.size by exact L6 ‹_›] at q
 exact q.whole
theorem MI.Ie(M:MI r a b out a.size ib)(hA:Up r a 0 a.size)(hB:Up r b 0 b.size):cz r a b (out++a.extract a.size a.size++b.extract ib b.size):=by
 have e:a.extract a.size a.size = #[]:=by simp
 rw[e,RC]
 have hb:=M.hb
 have q:=MI.Bz hA hB (b.size-ib) M (by lia) fun ha=>absurd ha (pf _)
 rw[show ib+(b.size-ib)=b.size by exact L6 ‹_›] at q
 exact q.whole
theorem MI.IE(M:MI r a b out ia ib)(hA:Up r a 0 a.size)(hB:Up r b 0 b.size)(e:ib=b.size):cz r a b (out++a.extract ia a.size++b.extract ib b.size):=by subst e;exact M.IV hA hB
theorem MI.IG(M:MI r a b out ia ib)(hA:Up r a 0 a.size)(hB:Up r b 0 b.size)(e:ia=a.size):cz r a b (out++a.extract ia a.size++b.extract ib b.size):=by subst e;exact M.Ie hA hB
theorem MI.Jc(M:MI r a b out ia ib)(hA:Up r a 0 a.size)(hB:Up r b 0 b.size)(IC:ia+1=a.size)(hg:∀ j,j<b.size->R r b j<=R r a ia):cz r a b (out++b.extract ib b.size++a.extract ia a.size):=by
 have hb:=M.hb
 have q:=MI.Bz hA hB (b.size-ib) M (by lia) fun ha i hi=>hg _ (by lia)
 rw[show ib+(b.size-ib)=b.size by exact L6 ‹_›] at q
 have z:=MI.Bn hA hB (a.size-ia) q (by lia) fun hb=>absurd hb (pf _)
 rw[show ia+(a.size-ia)=a.size by lia] at z
 exact z.whole
theorem MI.start(hA:Up r a 0 a.size)(hB:Up r b 0 b.size):MI r a b #[] 0 0:=⟨eP _,eP _,by simp,by simp,fun x hx=>by simp at hx,fun x hx=>by simp at hx⟩
end
def bM:Nat->StateT SortSt Sem Unit:=sortPriv% PySem.Builtin.setMinGallop
def uL:Array Keyed->Array Keyed->StateT SortSt Sem (Array Keyed):=sortPriv% PySem.Builtin.mergeLo
def um:Array Keyed->Array Keyed->StateT SortSt Sem (Array Keyed):=sortPriv% PySem.Builtin.mergeHi
theorem jy(g:Nat):bM g=modify fun s=>SortSt.mk' (kindOf s) (arrOf s) (pendingOf s) g (failedOf s):=rfl
def Mg(st ag:SortSt):Prop:=∃ g,ag=SortSt.mk' (kindOf st) (arrOf st) (pendingOf st) g (failedOf st)
theorem Mg.refl(st:SortSt):Mg st st:=⟨gallopOf st,rfl⟩
theorem Mg.kind{st ag:SortSt}(h:Mg st ag):kindOf ag=kindOf st:=by obtain⟨g,rfl⟩:=h;rfl
theorem Mg.set{st ag:SortSt}(h:Mg st ag)(g:Nat):Mg st (SortSt.mk' (kindOf ag) (arrOf ag) (pendingOf ag) g (failedOf ag)):=by obtain⟨g',rfl⟩:=h;exact⟨g,rfl⟩
section
variable {prog:Program}{w:World}{A:Around}{E:Value->Shared->Prop}{s:Shared}{r:Value->Int}
theorem iK{st:SortSt}(h:Q () (SortSt.mk' (kindOf st) (arrOf st) (pendingOf st) g (failedOf st))):wpS (model prog w) A E s (bM g) Q st:=by
 rw[jy];exact wpS_modify h
theorem zG(h:fm r false key arr base i=true):R r arr (base+i)<=r key.1:=by
 unfold fm at h;simp only[gL,if_false,Rz,decide_eq_false_iff_not] at h;lia
theorem yD(h:fm r false key arr base i=false):r key.1<R r arr (base+i):=by
 unfold fm at h;simp only[gL,if_false,Bool.not_eq_false',decide_eq_true_eq] at h;exact h
theorem Dv(h:fm r true key arr base i=true):R r arr (base+i)<r key.1:=by
 unfold fm at h;simp only[if_true,decide_eq_true_eq] at h;exact h
theorem vh(h:fm r true key arr base i=false):r key.1<=R r arr (base+i):=by
 unfold fm at h;simp only[if_true,decide_eq_false_iff_not] at h;lia
end
theorem Mg.trans(h:Mg a b)(g:Mg b c):Mg a c:=by obtain⟨x,rfl⟩:=h;obtain⟨y,rfl⟩:=g;exact⟨y,rfl⟩
theorem DQ{K G:Prop}(pk:K)(h:K->G):G:=h pk
abbrev SM:=StateT SortSt Sem
abbrev L1:=Option (Array Keyed) × Array Keyed × Nat × Nat × Nat
abbrev E7:=Option (Array Keyed) × Array Keyed × Nat × Nat × Nat × Nat
abbrev L3:=Option (Array Keyed) × Array Keyed × Nat × Nat × Nat × Nat × Nat
def DE(a b out:Array Keyed)(ia ib:Nat):Array Keyed:=out++a.extract ia a.size++b.extract ib b.size
def NB(a b out:Array Keyed)(ia ib:Nat):Array Keyed:=out++b.extract ib b.size++a.extract ia a.size
def Ta(a b:Array Keyed)(mg ac bc ia ib:Nat)(out:Array Keyed):SM (ForInStep L3):=elem' a ia >>= fun p =>
 if (ia+1+1 == a.size)=true then pure (.done (some (NB a b (out.push p) (ia+1) ib),out.push p,ia+1,ib,mg,ac,bc))
 else if (decide (ac<7) && decide (bc<7))=true then pure (.done (none,out.push p,ia+1,ib,mg,ac,bc)) else pure (.yield (none,out.push p,ia+1,ib,mg,ac,bc))
def E8(a b:Array Keyed)(mg ac bc ia ib:Nat)(out:Array Keyed):SM (ForInStep L3):=elem' a ia >>= fun p=>jX true p b ib (b.size-ib) 0 >>= fun x=>match x with
 |some k=>if k>0 then
   if (ib+k == b.size)=true then pure (.done (some (DE a b (out++b.extract ib (ib+k)) ia (ib+k)),out++b.extract ib (ib+k),ia,ib+k,mg,ac,k))
   else Ta a b mg ac k ia (ib+k) (out++b.extract ib (ib+k))
  else Ta a b mg ac k ia ib out
 |_=>pure (.done (some (DE a b out ia ib),out,ia,ib,mg,ac,bc))
def lo1(a b:Array Keyed)(mg ac bc ia ib:Nat)(out:Array Keyed):SM (ForInStep L3):=elem' b ib >>= fun p =>
 if (ib+1 == b.size)=true then pure (.done (some (DE a b (out.push p) ia (ib+1)),out.push p,ia,ib+1,mg,ac,bc)) else E8 a b mg ac bc ia (ib+1) (out.push p)
def Tb(a b:Array Keyed)(mg ac bc ia ib:Nat)(out:Array Keyed):SM (ForInStep L3):=bM mg >>= fun _=>elem' b ib >>= fun p=>jX false p a ia (a.size-ia) 0 >>= fun x=>match x with
 |some k=>if k>0 then
   if (ia+k+1 == a.size)=true then pure (.done (some (NB a b (out++a.extract ia (ia+k)) (ia+k) ib),out++a.extract ia (ia+k),ia+k,ib,mg,k,bc))
   else if (ia+k == a.size)=true then pure (.done (some (DE a b (out++a.extract ia (ia+k)) (ia+k) ib),out++a.extract ia (ia+k),ia+k,ib,mg,k,bc))
   else lo1 a b mg k bc (ia+k) ib (out++a.extract ia (ia+k))
  else lo1 a b mg k bc ia ib out
 |_=>pure (.done (some (DE a b out ia ib),out,ia,ib,mg,ac,bc))
def Xi(a b:Array Keyed)(_:Nat)(s:L3):SM (ForInStep L3) :=
 if s.2.2.2.2.1>1 then Tb a b (s.2.2.2.2.1-1) s.2.2.2.2.2.1 s.2.2.2.2.2.2 s.2.2.1 s.2.2.2.1 s.2.1 else Tb a b s.2.2.2.2.1 s.2.2.2.2.2.1 s.2.2.2.2.2.2 s.2.2.1 s.2.2.2.1 s.2.1
def Xj(a b:Array Keyed)(mg bc ia ib:Nat)(out:Array Keyed):SM (ForInStep E7):=elem' b ib >>= fun p =>
 if (ib+1 == b.size)=true then pure (.done (some (DE a b (out.push p) ia (ib+1)),out.push p,ia,ib+1,0,bc+1))
 else if bc+1 >= mg then pure (.done (none,out.push p,ia,ib+1,0,bc+1)) else pure (.yield (none,out.push p,ia,ib+1,0,bc+1))
def Xk(a b:Array Keyed)(mg ac ia ib:Nat)(out:Array Keyed):SM (ForInStep E7):=elem' a ia >>= fun p =>
 if (ia+1+1 == a.size)=true then pure (.done (some (NB a b (out.push p) (ia+1) ib),out.push p,ia+1,ib,ac+1,0))
 else if ac+1 >= mg then pure (.done (none,out.push p,ia+1,ib,ac+1,0)) else pure (.yield (none,out.push p,ia+1,ib,ac+1,0))
def Xl(a b:Array Keyed)(mg:Nat)(_:Nat)(s:E7):SM (ForInStep E7):=elem' b s.2.2.2.1 >>= fun pb=>elem' a s.2.2.1 >>= fun pa=>lt' pb pa >>= fun x=>match x with
 |some w=>if w=true then Xj a b mg s.2.2.2.2.2 s.2.2.1 s.2.2.2.1 s.2.1 else Xk a b mg s.2.2.2.2.1 s.2.2.1 s.2.2.2.1 s.2.1
 |_=>pure (.done (some (DE a b s.2.1 s.2.2.1 s.2.2.2.1),s.2.1,s.2.2.1,s.2.2.2.1,s.2.2.2.2.1,s.2.2.2.2.2))
def Xm (a b:Array Keyed) (mg:Nat) (t:E7):SM (ForInStep L1):=(liftM (rule "list.sort.gallop"):SM Unit) >>= fun _ =>
 forIn [:a.size+b.size] ((none,t.2.1,t.2.2.1,t.2.2.2.1,mg+1,t.2.2.2.2.1,t.2.2.2.2.2):L3) (Xi a b) >>= fun u=>match u.1 with
 |some r=>pure (.done (some r,u.2.1,u.2.2.1,u.2.2.2.1,u.2.2.2.2.1))
 |none=>bM (u.2.2.2.2.1+1) >>= fun _=>pure (.yield (none,u.2.1,u.2.2.1,u.2.2.2.1,u.2.2.2.2.1+1))
def Xn(a b:Array Keyed)(_:Nat)(s:L1):SM (ForInStep L1):=forIn [:a.size+b.size] ((none,s.2.1,s.2.2.1,s.2.2.2.1,0,0):E7) (Xl a b s.2.2.2.2) >>= fun t=>match t.1 with
 |some r=>pure (.done (some r,t.2.1,t.2.2.1,t.2.2.2.1,s.2.2.2.2))
 |none=>Xm a b s.2.2.2.2 t
def loM (a b:Array Keyed):SM (Array Keyed):=(liftM (rule "list.sort.merge-lo"):SM Unit) >>= fun _=>elem' b 0 >>= fun y =>
 if (1 == b.size)=true then pure (DE a b #[y] 0 1)
 else if (0+1 == a.size)=true then pure (NB a b #[y] 0 1)
 else get >>= fun st=>forIn [:a.size+b.size] ((none,#[y],0,1,gallopOf st):L1) (Xn a b) >>= fun t=>match t.1 with
 |some r=>pure r
 |none=>(liftM (unsupported (α:=Array Keyed) "internal:list.sort.merge-bound"):SM (Array Keyed))
set_option smartUnfolding false in
theorem v_:uL=loM:=rfl
section
variable {prog:Program}{w:World}{A:Around}{E:Value->Shared->Prop}{s:Shared}{κ:SortKind}{r:Value->Int}{P:Value->Prop}{a b out:Array Keyed}{mg ac bc ia ib N:Nat}{st:SortSt}
structure MC(prog:Program)(w:World)(A:Around)(s:Shared)(κ:SortKind)(r:Value->Int)(P:Value->Prop)(a b:Array Keyed):Prop where
 C:lI prog w A s κ r P
 pa:AllP P a
 pb:AllP P b
 hA:Up r a 0 a.size
 hB:Up r b 0 b.size
 hl:∀ i,i<a.size->R r b 0<=R r a i
 hg:∀ j,j<b.size->R r b j<=R r a (a.size-1)
def HS(r:Value->Int)(a b:Array Keyed)(c:Option (Array Keyed) × β):Prop:=∃ out rest,c=(some out,rest)/\cz r a b out
def LY(r:Value->Int)(a b:Array Keyed)(N:Nat)(c:L3):Prop:=∃ out ia ib mg ac bc,c=(none,out,ia,ib,mg,ac,bc)/\MI r a b out ia ib/\ia+1<a.size/\ib<b.size/\N<=ia+ib
def LI(r:Value->Int)(a b:Array Keyed)(N:Nat)(c:E7):Prop:=∃ out ia ib ac bc,c=(none,out,ia,ib,ac,bc)/\MI r a b out ia ib/\ia+1<a.size/\ib<b.size/\N<=ia+ib
theorem MC.last(c:MC prog w A s κ r P a b)(M:MI r a b out ia ib)(z:ia+1=a.size):cz r a b (NB a b out ia ib):=M.Jc c.hA c.hB z fun j hj=>by
 have:=c.hg j hj
 rwa[show a.size-1=ia by lia] at this
theorem Bu(c:MC prog w A s κ r P a b)(M:MI r a b out ia ib)(h1:ia+1<a.size)(lt:R r a ia<=R r b ib)(h2:ib<b.size)(hN:N<=ia+ib)(D:∀ c,HS r a b c->Q (.done c) st)(Y:∀ c,LY r a b N c->Q (.done c) st/\Q (.yield c) st):wpS (model prog w) A E s (Ta a b mg ac bc ia ib out) Q st:=by
 refine wpS_bind (aH (by lia) fun p e=>?_)
 have M2:=M.rT c.hA c.hB e fun _=>lt
 by_cases z:ia+1+1=a.size
 ·rw[if_pos (by simpa using z)]
  exact wpS_pure (D _ ⟨_,_,rfl,c.last M2 z⟩)
 ·rw[if_neg (by simpa using z)]
  have y:=Y _ ⟨_,_,_,mg,ac,bc,rfl,M2,by lia,h2,by lia⟩
  split
  ·exact wpS_pure y.1
  ·exact wpS_pure y.2
theorem Gw(c:MC prog w A s κ r P a b)(hk:kindOf st=κ)(M:MI r a b out ia ib)(h1:ia+1<a.size)(h2:ib<b.size)(hN:N<=ia+ib)(D:∀ c,HS r a b c->Q (.done c) st)(Y:∀ c,LY r a b N c->Q (.done c) st/\Q (.yield c) st):wpS (model prog w) A E s (E8 a b mg ac bc ia ib out) Q st:=by
 refine wpS_bind (aH (by lia) fun p e=>wpS_bind (dh c.C hk c.pb (c.pa.at e) (by lia) (by lia) (fun i j u v w=>c.hB i j (by lia) v (by lia)) fun l wc vS IH=>?_))
 have ra:=nI (r:=r) e
 dsimp only
 have lt:ib+l<b.size->R r a ia<=R r b (ib+l):=fun z=>by have:=vh (IH l (bS _) (by lia));lia
 by_cases l0:l>0
 ·have M5:=MI.Bz c.hA c.hB l M (by lia) fun _ i hi=>by have:=Dv (vS i hi);lia
  rw[if_pos l0]
  by_cases z:ib+l=b.size
  ·rw[if_pos (by simpa using z)]
   exact wpS_pure (D _ ⟨_,_,rfl,M5.IE c.hA c.hB z⟩)
  ·rw[if_neg (by simpa using z)]
   exact Bu c M5 h1 (lt (by lia)) (by lia) (by lia) D Y
 ·rw[if_neg l0]
  obtain rfl:l=0:=by lia
  exact Bu c M h1 (lt h2) h2 hN D Y
theorem Bt(c:MC prog w A s κ r P a b)(hk:kindOf st=κ)(M:MI r a b out ia ib)(h1:ia+1<a.size)(lt:R r b ib<=R r a ia)(h2:ib<b.size)(hN:N<=ia+ib)(D:∀ c,HS r a b c->Q (.done c) st)(Y:∀ c,LY r a b N c->Q (.done c) st/\Q (.yield c) st):wpS (model prog w) A E s (lo1 a b mg ac bc ia ib out) Q st:=by
 refine wpS_bind (aH h2 fun p e=>?_)
 have M4:=M.qC c.hA c.hB e fun _=>lt
 by_cases z:ib+1=b.size
 ·rw[if_pos (by simpa using z)]
  exact wpS_pure (D _ ⟨_,_,rfl,M4.IE c.hA c.hB z⟩)
 ·rw[if_neg (by simpa using z)]
  exact Gw c hk M4 h1 (by lia) (by lia) D Y
theorem GZ(c:MC prog w A s κ r P a b)(hk:kindOf st=κ)(M:MI r a b out ia ib)(h1:ia+1<a.size)(h2:ib<b.size)(hN:N<=ia+ib)(D:∀ ag,Mg st ag->∀ c,HS r a b c->Q (.done c) ag)(Y:∀ ag,Mg st ag->∀ c,LY r a b N c->Q (.done c) ag/\Q (.yield c) ag):wpS (model prog w) A E s (Tb a b mg ac bc ia ib out) Q st:=by
 have g:=(Mg.refl st).set mg
 refine wpS_bind (iK ?_)
 refine wpS_bind (aH h2 fun p e=>wpS_bind (dh c.C (g.kind.trans hk) c.pa (c.pb.at e) (by lia) (by lia) (fun i j u v w=>c.hA i j (by lia) v (by lia)) fun k II IJ E9=>?_))
 have rb:=nI (r:=r) e
 dsimp only
 have lt:ia+k<a.size->R r b ib<=R r a (ia+k):=fun z=>by have:=yD (E9 k (bS _) (by lia));lia
 by_cases k0:k>0
 ·have M3:=MI.Bn c.hA c.hB k M (by lia) fun _ i hi=>by have:=zG (IJ i hi);lia
  rw[if_pos k0]
  by_cases z:ia+k+1=a.size
  ·rw[if_pos (by simpa using z)]
   exact wpS_pure (D _ g _ ⟨_,_,rfl,c.last M3 z⟩)
  ·rw[if_neg (by simpa using z)]
   by_cases z2:ia+k=a.size
   ·rw[if_pos (by simpa using z2)]
    exact wpS_pure (D _ g _ ⟨_,_,rfl,M3.IG c.hA c.hB z2⟩)
   ·rw[if_neg (by simpa using z2)]
    exact Bt c (g.kind.trans hk) M3 (by lia) (lt (by lia)) h2 (by lia) (D _ g) (Y _ g)
 ·rw[if_neg k0]
  obtain rfl:k=0:=by lia
  exact Bt c (g.kind.trans hk) M h1 (lt (by lia)) h2 hN (D _ g) (Y _ g)
theorem Ga(c:MC prog w A s κ r P a b)(M:MI r a b out ia ib)(h1:ia+1<a.size)(lt:R r b ib<=R r a ia)(h2:ib<b.size)(hN:N<=ia+ib+1)(D:∀ c,HS r a b c->Q (.done c) st)(Y:∀ c,LI r a b N c->Q (.done c) st/\Q (.yield c) st):wpS (model prog w) A E s (Xj a b mg bc ia ib out) Q st:=by
 refine wpS_bind (aH h2 fun p e=>?_)
 have M2:=M.qC c.hA c.hB e fun _=>lt
 by_cases z:ib+1=b.size
 ·rw[if_pos (by simpa using z)]
  exact wpS_pure (D _ ⟨_,_,rfl,M2.IE c.hA c.hB z⟩)
 ·rw[if_neg (by simpa using z)]
  have y:=Y _ ⟨_,_,_,0,bc+1,rfl,M2,h1,by lia,hN⟩
  split
  ·exact wpS_pure y.1
  ·exact wpS_pure y.2
theorem Hi(c:MC prog w A s κ r P a b)(M:MI r a b out ia ib)(h1:ia+1<a.size)(lt:R r a ia<=R r b ib)(h2:ib<b.size)(hN:N<=ia+ib+1)(D:∀ c,HS r a b c->Q (.done c) st)(Y:∀ c,LI r a b N c->Q (.done c) st/\Q (.yield c) st):wpS (model prog w) A E s (Xk a b mg ac ia ib out) Q st:=by
 refine wpS_bind (aH (by lia) fun p e=>?_)
 have M2:=M.rT c.hA c.hB e fun _=>lt
 by_cases z:ia+1+1=a.size
 ·rw[if_pos (by simpa using z)]
  exact wpS_pure (D _ ⟨_,_,rfl,c.last M2 z⟩)
 ·rw[if_neg (by simpa using z)]
  have y:=Y _ ⟨_,_,_,ac+1,0,rfl,M2,by lia,h2,by lia⟩
  split
  ·exact wpS_pure y.1
  ·exact wpS_pure y.2
theorem Gm(c:MC prog w A s κ r P a b)(hk:kindOf st=κ)(M:MI r a b out ia ib)(h1:ia+1<a.size)(h2:ib<b.size)(hN:N<=ia+ib+1)(D:∀ c,HS r a b c->Q (.done c) st)(Y:∀ c,LI r a b N c->Q (.done c) st/\Q (.yield c) st):wpS (model prog w) A E s (Xl a b mg x (none,out,ia,ib,ac,bc)) Q st:=by
 refine wpS_bind (aH h2 fun pb eb=>wpS_bind (aH (show ia<a.size by lia) fun pa ea=>wpS_bind (qP c.C hk (c.pb.at eb) (c.pa.at ea) ?_)))
 have rb:R r b ib=r pb.1:=nI eb
 have ra:R r a ia=r pa.1:=nI ea
 dsimp only
 by_cases hw:r pb.1<r pa.1
 ·rw[if_pos (decide_eq_true hw)]
  exact Ga c M h1 (by lia) h2 hN D Y
 ·rw[if_neg (by simpa using hw)]
  exact Hi c M h1 (by lia) h2 hN D Y
theorem Ha(c:MC prog w A s κ r P a b)(hk:kindOf st=κ)(M:MI r a b out ia ib)(h1:ia+1<a.size)(h2:ib<b.size)(hN:N<=ia+ib)(D:∀ ag,Mg st ag->∀ c,HS r a b c->Q (.done c) ag)
  (Y:∀ ag,Mg st ag->∀ out ia ib mg,MI r a b out ia ib->ia+1<a.size->ib<b.size->N<=ia+ib->Q (.yield (none,out,ia,ib,mg)) ag):wpS (model prog w) A E s (Xm a b mg (none,out,ia,ib,ac,bc)) Q st:=by
 refine wpS_bind (wpS_lift (wpAny_rule ⟨rfl,?_⟩))
 refine wpS_bind (wpS_mono (wpS_forRange (I:=fun _ c ag=>Mg st ag/\LY r a b N c) (Q:=fun c ag=>Mg st ag/\(HS r a b c\/LY r a b N c)) ?step ?fin ⟨.refl st,_,_,_,_,_,_,rfl,M,h1,h2,hN⟩) ?post)
 case fin =>
  rintro c ag ⟨hm,q⟩
  exact⟨hm,.inr q⟩
 case step =>
  rintro y c1 BD _ _ ⟨hm,out,ia,ib,mg,ac,bc,rfl,M,h1,h2,hN⟩
  unfold Xi
  dsimp only
  split<;>exact GZ c (hm.kind.trans hk) M h1 h2 hN (fun ag g c q=>⟨hm.trans g,.inl q⟩) fun ag g c q=>⟨⟨hm.trans g,.inr q⟩,hm.trans g,q⟩
 case post =>
  rintro c ag ⟨hm,⟨o,rest,rfl,hM⟩|⟨out,ia,ib,mg,ac,bc,rfl,M,h1,h2,hN⟩⟩
  ·exact wpS_pure (D _ hm _ ⟨_,_,rfl,hM⟩)
  ·exact wpS_bind (iK (wpS_pure (Y _ (hm.set _) _ _ _ _ M h1 h2 hN)))
theorem Gu(c:MC prog w A s κ r P a b)(hk:kindOf st=κ)(M:MI r a b out ia ib)(h1:ia+1<a.size)(h2:ib<b.size)(hN:N<=ia+ib)(D:∀ ag,Mg st ag->∀ c,HS r a b c->Q (.done c) ag)
  (Y:∀ ag,Mg st ag->∀ out ia ib mg,MI r a b out ia ib->ia+1<a.size->ib<b.size->N+1<=ia+ib->Q (.yield (none,out,ia,ib,mg)) ag):wpS (model prog w) A E s (Xn a b x (none,out,ia,ib,mg)) Q st:=by
 refine wpS_bind (wpS_mono (wpS_forRange (I:=fun y c ag=>ag=st/\LI r a b (N+y) c) (Q:=fun c ag=>ag=st/\(HS r a b c\/LI r a b (N+1) c)) ?step ?fin ⟨rfl,_,_,_,_,_,rfl,M,h1,h2,hN⟩) ?post)
 case fin =>
  rintro c ag ⟨rfl,o,ia',ib',ac,bc,rfl,M',q1,q2,q3⟩
  exact⟨rfl,.inr ⟨_,_,_,_,_,rfl,M',q1,q2,by lia⟩⟩
 case step =>
  rintro y c1 BD _ hy ⟨rfl,o,ia',ib',ac,bc,rfl,M',q1,q2,q3⟩
  exact Gm (N:=N+y+1) c hk M' q1 q2 (by lia) (fun c q=>⟨rfl,.inl q⟩) fun c q=>by
   obtain⟨o,ia,ib,ac,bc,rfl,M,h1,h2,h3⟩:=q
   exact⟨⟨rfl,.inr ⟨_,_,_,_,_,rfl,M,h1,h2,by lia⟩⟩,rfl,_,_,_,_,_,rfl,M,h1,h2,by lia⟩
 case post =>
  rintro c1 ag ⟨rfl,⟨o,rest,rfl,hM⟩|⟨o,ia,ib,ac,bc,rfl,M',q1,q2,q3⟩⟩
  ·exact wpS_pure (D _ (.refl _) _ ⟨_,_,rfl,hM⟩)
  ·exact Ha c hk M' q1 q2 q3 D Y
theorem tV{st:SortSt}(C:lI prog w A s κ r P)(hk:kindOf st=κ)(Tc:AllP P a)(Td:AllP P b)(hA:Up r a 0 a.size)(hB:Up r b 0 b.size)(na:1<=a.size)(nb:1<=b.size)
  (h0:R r b 0<=R r a 0) (hg:∀ j,j<b.size->R r b j<=R r a (a.size-1)) (h:∀ out ag,cz r a b out->Mg st ag->Q out ag):wpS (model prog w) A E s (uL a b) Q st:=by
 have c:MC prog w A s κ r P a b:=⟨C,Tc,Td,hA,hB,fun i hi=>vj h0 (hA 0 i (bS _) (eP _) hi),hg⟩
 rw[v_]
 refine wpS_bind (wpS_lift (wpAny_rule ⟨rfl,?_⟩))
 refine wpS_bind (aH nb fun y0 e0=>?_)
 have M1:MI r a b #[y0] 0 1:=(MI.start hA hB).qC hA hB e0 fun _=>h0
 by_cases c1:1=b.size
 ·rw[if_pos (by simpa using c1)]
  exact wpS_pure (h _ _ (M1.IE hA hB c1) (.refl st))
 ·rw[if_neg (by simpa using c1)]
  by_cases c2:0+1=a.size
  ·rw[if_pos (by simpa using c2)]
   exact wpS_pure (h _ _ (c.last M1 c2) (.refl st))
  ·rw[if_neg (by simpa using c2)]
   refine wpS_bind (wpS_get ?_)
   refine wpS_bind (wpS_mono (wpS_forRange (I:=fun x c ag=>Mg st ag/\∃ out ia ib mg,c=(none,out,ia,ib,mg)/\MI r a b out ia ib/\ia+1<a.size/\ib<b.size/\x+1<=ia+ib)
    (Q:=fun c ag=>Mg st ag/\HS r a b c) ?step ?fin ⟨.refl st,_,_,_,_,rfl,M1,by lia,by lia,by lia⟩) ?post)
   case fin =>
    rintro c ag ⟨_,out,ia,ib,mg,rfl,M,h1,h2,h3⟩
    lia
   case post =>
    rintro c ag ⟨hm,out,rest,rfl,hM⟩
    exact wpS_pure (h out ag hM hm)
   case step =>
    rintro x c1 BD _ hx ⟨kF,out,ia,ib,mg,rfl,M,h1,h2,h3⟩
    exact Gu (N:=x+1) c (kF.kind.trans hk) M h1 h2 h3 (fun ag g c q=>⟨kF.trans g,q⟩) fun ag g out ia ib mg M h1 h2 h3=>⟨kF.trans g,_,_,_,_,rfl,M,h1,h2,h3⟩
end
abbrev Ge(r:Value->Int)(x y:Keyed):Prop:=r y.1<=r x.1
structure MH(r:Value->Int)(a b out:Array Keyed)(na nb:Nat):Prop where
 ha:na<=a.size
 hb:nb<=b.size
 perm:out.toList.Perm (a.toList.drop na++b.toList.drop nb)
 down:out.toList.Pairwise (Ge r)
 ga:∀ x∈out.toList,∀ i,i<na->R r a i<=r x.1
 gb:∀ x∈out.toList,∀ j,j<nb->R r b j<=r x.1
section
variable {r:Value->Int}{a b out:Array Keyed}{na nb:Nat}
theorem rR{α:Type}{l:List α}{i:Nat}{x:α}(h0:0<i)(h:l[i-1]? = some x):l.drop (i-1)=x :: l.drop i:=by
 obtain⟨hi,e⟩:=lh.mp h
 rw[D7 hi,e,show i-1+1=i by exact Nat.sub_add_cancel ‹_›]
theorem MH.rT(M:MH r a b out na nb)(hA:Up r a 0 a.size)(hB:Up r b 0 b.size)(h0:0<na){y:Keyed}(e:a[na-1]? = some y)(hl:0<nb->R r b (nb-1)<=R r a (na-1)):MH r a b (out.push y) (na-1) nb:=by
 have ey:=nI (r:=r) e
 have ha:=M.ha
 have hb:=M.hb
 refine⟨by lia,M.hb,?_,?_,?_,?_⟩
 ·rw[n9,rR (x:=y) h0 (by simpa using e)]
  refine(M.perm.append_right [y]).trans ?_
  exact Rk
 ·rw[n9,LS]
  refine⟨M.down,by simp,fun x hx z hz=>?_⟩
  have:z=y:=by simpa using hz
  subst this
  show r z.1<=r x.1
  rw[<- ey]
  exact M.ga x hx (na-1) (by exact EC ‹_› EB)
 ·intro x hx i hi
  rw[n9] at hx
  rcases dz.mp hx with hx|hx
  ·exact M.ga x hx i (by walk_at "s4")
  ·have:x=y:=by simpa using hx
   subst this
   rw[<- ey]
   exact hA i (na-1) (eP _) (by exact kQ ‹_›) (by lia)
 ·intro x hx j hj
  rw[n9] at hx
  rcases dz.mp hx with hx|hx
  ·exact M.gb x hx j hj
  ·have:x=y:=by simpa using hx
   subst this
   rw[<- ey]
   exact vj (hB j (nb-1) (eP _) (by lia) (by lia)) (hl (by lia))
theorem MH.qC(M:MH r a b out na nb)(hA:Up r a 0 a.size)(hB:Up r b 0 b.size)(h0:0<nb){y:Keyed}(e:b[nb-1]? = some y)(hl:0<na->R r a (na-1)<=R r b (nb-1)):MH r a b (out.push y) na (nb-1):=by
 have ey:=nI (r:=r) e
 have ha:=M.ha
 have hb:=M.hb
 refine⟨M.ha,by lia,?_,?_,?_,?_⟩
 ·rw[n9,rR (x:=y) h0 (by simpa using e)]
  refine(M.perm.append_right [y]).trans ?_
  rw[wq]
  exact List.Perm.append_left _ Rk
 ·rw[n9,LS]
  refine⟨M.down,by simp,fun x hx z hz=>?_⟩
  have:z=y:=by simpa using hz
  subst this
  show r z.1<=r x.1
  rw[<- ey]
  exact M.gb x hx (nb-1) (by exact EC ‹_› EB)
 ·intro x hx i hi
  rw[n9] at hx
  rcases dz.mp hx with hx|hx
  ·exact M.ga x hx i hi
  ·have:x=y:=by simpa using hx
   subst this
   rw[<- ey]
   exact vj (hA i (na-1) (eP _) (by lia) (by lia)) (hl (by lia))
 ·intro x hx j hj
  rw[n9] at hx
  rcases dz.mp hx with hx|hx
  ·exact M.gb x hx j (by walk_at "s4")
  ·have:x=y:=by simpa using hx
   subst this
   rw[<- ey]
   exact hB j (nb-1) (eP _) (by exact kQ ‹_›) (by lia)
theorem kO{xs:Array Keyed}{i n:Nat}(h:i<n)(hn:n<=xs.size):(xs.extract i n).reverse = #[xs[n-1]'(by lia)]++(xs.extract i (n-1)).reverse:=by
 obtain⟨k,rfl⟩:∃ k,n=i+(k+1):=⟨n-1-i,by lia⟩
 have e3:i+(k+1)-1=i+k:=by rfl
 simp only[e3]
 rw[fZ (by assumption),Array.reverse_push]
theorem MH.Bn(hA:Up r a 0 a.size)(hB:Up r b 0 b.size):∀ (k:Nat) {out:Array Keyed} {na p:Nat},MH r a b out na nb->p+k=na->(0<nb->∀ i,p<=i->i<na->R r b (nb-1)<=R r a i)->MH r a b (out++(a.extract p na).reverse) p nb
 |0,out,na,p,M,h1,h2=>by
  have:a.extract p na = #[]:=MA (by simp only[ED];lia)
  have e:na=p:=by walk_at "s1"
  subst e
  rw[this]
  simpa using M
 |k+1,out,na,p,M,h1,h2=>by
  have ha:=M.ha
  have e:a[na-1]? = some (a[na-1]'(by lia)):=getElem?_pos a (na-1) (by lia)
  have q:=M.rT hA hB (by lia) e fun hb=>h2 hb _ (by lia) (by lia)
  have z:=MH.Bn hA hB k (p:=p) q (by lia) fun hb i qa oi=>h2 hb i qa (by walk_at "s4")
  rw[kO (by lia) ha,<- MB]
  simpa using z
theorem MH.Bz(hA:Up r a 0 a.size)(hB:Up r b 0 b.size):∀ (k:Nat) {out:Array Keyed} {nb p:Nat},MH r a b out na nb->p+k=nb->(0<na->∀ i,p<=i->i<nb->R r a (na-1)<=R r b i)->MH r a b (out++(b.extract p nb).reverse) na p
 |0,out,nb,p,M,h1,h2=>by
  have:b.extract p nb = #[]:=MA (by simp only[ED];lia)
  have e:nb=p:=by walk_at "s1"
  subst e
  rw[this]
  simpa using M
 |k+1,out,nb,p,M,h1,h2=>by
  have hb:=M.hb
  have e:b[nb-1]? = some (b[nb-1]'(by lia)):=getElem?_pos b (nb-1) (by lia)
  have q:=M.qC hA hB (by lia) e fun ha=>h2 ha _ (by lia) (by lia)
  have z:=MH.Bz hA hB k (p:=p) q (by lia) fun ha i qa oi=>h2 ha i qa (by walk_at "s4")
  rw[kO (by lia) hb,<- MB]
  simpa using z
theorem MH.whole(M:MH r a b out 0 0):cz r a b out.reverse:=by
 refine⟨?_,?_⟩
 ·have h:=M.perm
  rw[List.drop_zero,List.drop_zero] at h
  rw[Array.toList_reverse]
  exact(List.reverse_perm _).trans h
 ·rw[Array.toList_reverse,List.pairwise_reverse]
  exact M.down
theorem qb(x y:Array Keyed):(x++y.reverse).reverse=y++x.reverse:=by
 apply O1.mp
 simp
theorem MH.IG(M:MH r a b out na nb)(hA:Up r a 0 a.size)(hB:Up r b 0 b.size)(e:na=0):cz r a b (a.extract 0 na++b.extract 0 nb++out.reverse):=by
 subst e
 have z:=MH.Bz hA hB nb (p:=0) M (by exact L8 ..) fun ha=>absurd ha (pf _)
 have q:=z.whole
 rw[qb] at q
 have e2:a.extract 0 0 = #[]:=by simp
 rw[e2,Array.empty_append]
 exact q
theorem MH.IE(M:MH r a b out na nb)(hA:Up r a 0 a.size)(hB:Up r b 0 b.size)(e:nb=0):cz r a b (a.extract 0 na++b.extract 0 nb++out.reverse):=by
 subst e
 have z:=MH.Bn hA hB na (p:=0) M (by exact L8 ..) fun hb=>absurd hb (pf _)
 have q:=z.whole
 rw[qb] at q
 have e2:b.extract 0 0 = #[]:=by simp
 rw[e2,RC]
 exact q
theorem MH.vz(M:MH r a b out na nb)(hA:Up r a 0 a.size)(hB:Up r b 0 b.size)(e:nb=1)(hl:∀ i,i<a.size->R r b 0<=R r a i):cz r a b (b.extract 0 nb++a.extract 0 na++out.reverse):=by
 subst e
 have ha:=M.ha
 have z:=MH.Bn hA hB na (p:=0) M (by exact L8 ..) fun _ i _ hi=>hl i (by walk_at "s1")
 have z2:=MH.Bz hA hB 1 (p:=0) z (by exact L8 ..) fun h=>absurd h (pf _)
 have q:=z2.whole
 rw[qb,qb] at q
 rw[MB]
 exact q
theorem MH.start:MH r a b #[] a.size b.size:=⟨bS _,bS _,by simp,by simp,fun x hx=>by simp at hx,fun x hx=>by simp at hx⟩
end
abbrev S1:=Option (Array Keyed) × Nat × Nat × Array Keyed × Nat
abbrev S2:=Option (Array Keyed) × Nat × Nat × Array Keyed × Nat × Nat
abbrev S3:=Option (Array Keyed) × Nat × Nat × Array Keyed × Nat × Nat × Nat
def DF(a b out:Array Keyed)(na nb:Nat):Array Keyed:=a.extract 0 na++b.extract 0 nb++out.reverse
def P8(a b out:Array Keyed)(na nb:Nat):Array Keyed:=b.extract 0 nb++a.extract 0 na++out.reverse
def Te(a b:Array Keyed)(mg ac bc na nb:Nat)(out:Array Keyed):SM (ForInStep S3):=elem' a (na-1) >>= fun p =>
 if (na-1 == 0)=true then pure (.done (some (DF a b (out.push p) (na-1) nb),na-1,nb,out.push p,mg,ac,bc))
 else if (decide (ac<7) && decide (bc<7))=true then pure (.done (none,na-1,nb,out.push p,mg,ac,bc)) else pure (.yield (none,na-1,nb,out.push p,mg,ac,bc))
def oi(a b:Array Keyed)(mg ac bc na nb:Nat)(out:Array Keyed):SM (ForInStep S3):=elem' a (na-1) >>= fun p=>jX true p b 0 nb (nb-1) >>= fun x=>match x with
 |some k=>if nb-k>0 then
   if (k == 1)=true then pure (.done (some (P8 a b (out++(b.extract k nb).reverse) na k),na,k,out++(b.extract k nb).reverse,mg,ac,nb-k))
   else if (k == 0)=true then pure (.done (some (DF a b (out++(b.extract k nb).reverse) na k),na,k,out++(b.extract k nb).reverse,mg,ac,nb-k))
   else Te a b mg ac (nb-k) na k (out++(b.extract k nb).reverse)
  else Te a b mg ac (nb-k) na nb out
 |_=>pure (.done (some (DF a b out na nb),na,nb,out,mg,ac,bc))
def qa(a b:Array Keyed)(mg ac bc na nb:Nat)(out:Array Keyed):SM (ForInStep S3):=elem' b (nb-1) >>= fun p =>
 if (nb-1 == 1)=true then pure (.done (some (P8 a b (out.push p) na (nb-1)),na,nb-1,out.push p,mg,ac,bc)) else oi a b mg ac bc na (nb-1) (out.push p)
def rp(a b:Array Keyed)(mg ac bc na nb:Nat)(out:Array Keyed):SM (ForInStep S3):=bM mg >>= fun _=>elem' b (nb-1) >>= fun p=>jX false p a 0 na (na-1) >>= fun x=>match x with
 |some k=>if na-k>0 then
   if (k == 0)=true then pure (.done (some (DF a b (out++(a.extract k na).reverse) k nb),k,nb,out++(a.extract k na).reverse,mg,na-k,bc))
   else qa a b mg (na-k) bc k nb (out++(a.extract k na).reverse)
  else qa a b mg (na-k) bc na nb out
 |_=>pure (.done (some (DF a b out na nb),na,nb,out,mg,ac,bc))
def Xo(a b:Array Keyed)(_:Nat)(s:S3):SM (ForInStep S3) :=
 if s.2.2.2.2.1>1 then rp a b (s.2.2.2.2.1-1) s.2.2.2.2.2.1 s.2.2.2.2.2.2 s.2.1 s.2.2.1 s.2.2.2.1 else rp a b s.2.2.2.2.1 s.2.2.2.2.2.1 s.2.2.2.2.2.2 s.2.1 s.2.2.1 s.2.2.2.1
def Xp(a b:Array Keyed)(mg ac na nb:Nat)(out:Array Keyed):SM (ForInStep S2):=elem' a (na-1) >>= fun p =>
 if (na-1 == 0)=true then pure (.done (some (DF a b (out.push p) (na-1) nb),na-1,nb,out.push p,ac+1,0))
 else if ac+1 >= mg then pure (.done (none,na-1,nb,out.push p,ac+1,0)) else pure (.yield (none,na-1,nb,out.push p,ac+1,0))
def Xq(a b:Array Keyed)(mg bc na nb:Nat)(out:Array Keyed):SM (ForInStep S2):=elem' b (nb-1) >>= fun p =>
 if (nb-1 == 1)=true then pure (.done (some (P8 a b (out.push p) na (nb-1)),na,nb-1,out.push p,0,bc+1))
 else if bc+1 >= mg then pure (.done (none,na,nb-1,out.push p,0,bc+1)) else pure (.yield (none,na,nb-1,out.push p,0,bc+1))
def Xr(a b:Array Keyed)(mg:Nat)(_:Nat)(s:S2):SM (ForInStep S2):=elem' b (s.2.2.1-1) >>= fun pb=>elem' a (s.2.1-1) >>= fun pa=>lt' pb pa >>= fun x=>match x with
 |some w=>if w=true then Xp a b mg s.2.2.2.2.1 s.2.1 s.2.2.1 s.2.2.2.1 else Xq a b mg s.2.2.2.2.2 s.2.1 s.2.2.1 s.2.2.2.1
 |_=>pure (.done (some (DF a b s.2.2.2.1 s.2.1 s.2.2.1),s.2.1,s.2.2.1,s.2.2.2.1,s.2.2.2.2.1,s.2.2.2.2.2))
def Xs (a b:Array Keyed) (mg:Nat) (t:S2):SM (ForInStep S1):=(liftM (rule "list.sort.gallop"):SM Unit) >>= fun _ =>
 forIn [:a.size+b.size] ((none,t.2.1,t.2.2.1,t.2.2.2.1,mg+1,t.2.2.2.2.1,t.2.2.2.2.2):S3) (Xo a b) >>= fun u=>match u.1 with
 |some r=>pure (.done (some r,u.2.1,u.2.2.1,u.2.2.2.1,u.2.2.2.2.1))
 |none=>bM (u.2.2.2.2.1+1) >>= fun _=>pure (.yield (none,u.2.1,u.2.2.1,u.2.2.2.1,u.2.2.2.2.1+1))
def Xt(a b:Array Keyed)(_:Nat)(s:S1):SM (ForInStep S1):=forIn [:a.size+b.size] ((none,s.2.1,s.2.2.1,s.2.2.2.1,0,0):S2) (Xr a b s.2.2.2.2) >>= fun t=>match t.1 with
 |some r=>pure (.done (some r,t.2.1,t.2.2.1,t.2.2.2.1,s.2.2.2.2))
 |none=>Xs a b s.2.2.2.2 t
def hiM (a b:Array Keyed):SM (Array Keyed):=(liftM (rule "list.sort.merge-hi"):SM Unit) >>= fun _=>elem' a (a.size-1) >>= fun y =>
 if (a.size-1 == 0)=true then pure (DF a b #[y] (a.size-1) b.size)
 else if (b.size == 1)=true then pure (P8 a b #[y] (a.size-1) b.size)
 else get >>= fun st=>forIn [:a.size+b.size] ((none,a.size-1,b.size,#[y],gallopOf st):S1) (Xt a b) >>= fun t=>match t.1 with
 |some r=>pure r
 |none=>(liftM (unsupported (α:=Array Keyed) "internal:list.sort.merge-bound"):SM (Array Keyed))
set_option smartUnfolding false in
theorem vX:um=hiM:=rfl
section
variable {prog:Program}{w:World}{A:Around}{E:Value->Shared->Prop}{s:Shared}{κ:SortKind}{r:Value->Int}{P:Value->Prop}{a b out:Array Keyed}{mg ac bc na nb N:Nat}{st:SortSt}{Q:ForInStep S3->SortSt->Prop}
def HD(r:Value->Int)(a b:Array Keyed)(Q:ForInStep S3->SortSt->Prop)(st:SortSt):Prop:=∀ o rest,cz r a b o->Q (.done (some o,rest)) st
def HY(r:Value->Int)(a b:Array Keyed)(N:Nat)(Q:ForInStep S3->SortSt->Prop)(st:SortSt):Prop :=
 ∀ o na nb mg ac bc,MH r a b o na nb->1<=na->2<=nb->na+nb<=N->Q (.done (none,na,nb,o,mg,ac,bc)) st/\Q (.yield (none,na,nb,o,mg,ac,bc)) st
theorem Bm(c:MC prog w A s κ r P a b)(M:MH r a b out na nb)(h1:0<na)(lt:R r b (nb-1)<=R r a (na-1))(h2:2<=nb)(hN:na+nb<=N)(D:HD r a b Q st)(Y:HY r a b N Q st):wpS (model prog w) A E s (Te a b mg ac bc na nb out) Q st:=by
 have ha:=M.ha
 refine wpS_bind (aH (by lia) fun p e=>?_)
 have M2:=M.rT c.hA c.hB h1 e fun _=>lt
 by_cases z:na-1=0
 ·rw[if_pos (by simpa using z)]
  exact wpS_pure (D _ _ (M2.IG c.hA c.hB z))
 ·rw[if_neg (by simpa using z)]
  have y:=Y _ _ _ mg ac bc M2 (by lia) h2 (by lia)
  split
  ·exact wpS_pure y.1
  ·exact wpS_pure y.2
theorem Gb(c:MC prog w A s κ r P a b)(hk:kindOf st=κ)(M:MH r a b out na nb)(h1:0<na)(h2:2<=nb)(hN:na+nb<=N)(D:HD r a b Q st)(Y:HY r a b N Q st):wpS (model prog w) A E s (oi a b mg ac bc na nb out) Q st:=by
 have ha:=M.ha
 have hb:=M.hb
 refine wpS_bind (aH (by lia) fun p e=>wpS_bind (dh c.C hk c.pb (c.pa.at e) (by lia) (by lia) (fun i j u v w=>c.hB i j u v (by lia)) fun l wc vS IH=>?_))
 have ra:=nI (r:=r) e
 dsimp only
 have lt:0<l->R r b (l-1)<=R r a (na-1):=fun z=>by have:=Dv (vS (l-1) (by exact EC ‹_› EB));rw[Mb] at this;lia
 by_cases l0:nb-l>0
 ·have M5:=MH.Bz c.hA c.hB (nb-l) (p:=l) M (by exact L6 ‹_›) fun _ i qa oi=>by have:=vh (IH i qa oi);rw[Mb] at this;lia
  rw[if_pos l0]
  by_cases z4:l=1
  ·rw[if_pos (by simpa using z4)]
   exact wpS_pure (D _ _ (M5.vz c.hA c.hB z4 c.hl))
  ·rw[if_neg (by simpa using z4)]
   by_cases z6:l=0
   ·rw[if_pos (by simpa using z6)]
    exact wpS_pure (D _ _ (M5.IE c.hA c.hB z6))
   ·rw[if_neg (by simpa using z6)]
    exact Bm c M5 h1 (lt (by lia)) (by lia) (by lia) D Y
 ·rw[if_neg l0]
  obtain rfl:l=nb:=by lia
  exact Bm c M h1 (lt (by exact Rv ‹_›)) h2 hN D Y
theorem BJ(c:MC prog w A s κ r P a b)(hk:kindOf st=κ)(M:MH r a b out na nb)(h1:0<na)(h2:2<=nb)(lt:R r a (na-1)<=R r b (nb-1))(hN:na+nb<=N)(D:HD r a b Q st)(Y:HY r a b N Q st):wpS (model prog w) A E s (qa a b mg ac bc na nb out) Q st:=by
 have hb:=M.hb
 refine wpS_bind (aH (by lia) fun p e=>?_)
 have M4:=M.qC c.hA c.hB (by exact Rv ‹_›) e fun _=>lt
 by_cases z:nb-1=1
 ·rw[if_pos (by simpa using z)]
  exact wpS_pure (D _ _ (M4.vz c.hA c.hB z c.hl))
 ·rw[if_neg (by simpa using z)]
  exact Gb c hk M4 h1 (by lia) (by lia) D Y
theorem Gf(c:MC prog w A s κ r P a b)(hk:kindOf st=κ)(M:MH r a b out na nb)(h1:0<na)(h2:2<=nb)(hN:na+nb<=N)(D:∀ ag,Mg st ag->HD r a b Q ag)(Y:∀ ag,Mg st ag->HY r a b N Q ag):wpS (model prog w) A E s (rp a b mg ac bc na nb out) Q st:=by
 have ha:=M.ha
 have hb:=M.hb
 have g:=(Mg.refl st).set mg
 refine wpS_bind (iK ?_)
 refine wpS_bind (aH (by lia) fun p e=>wpS_bind (dh c.C (g.kind.trans hk) c.pa (c.pb.at e) (by lia) (by exact EC ‹_› EB) (fun i j u v w=>c.hA i j u v (by lia)) fun k II IJ E9=>?_))
 have rb:=nI (r:=r) e
 dsimp only
 have lt:0<k->R r a (k-1)<=R r b (nb-1):=fun z=>by have:=zG (IJ (k-1) (by exact EC ‹_› EB));rw[Mb] at this;lia
 by_cases k0:na-k>0
 ·have M3:=MH.Bn c.hA c.hB (na-k) (p:=k) M (by exact L6 ‹_›) fun _ i qa oi=>by have:=yD (E9 i qa oi);rw[Mb] at this;lia
  rw[if_pos k0]
  by_cases z:k=0
  ·rw[if_pos (by simpa using z)]
   exact wpS_pure (D _ g _ _ (M3.IG c.hA c.hB z))
  ·rw[if_neg (by simpa using z)]
   exact BJ c (g.kind.trans hk) M3 (by lia) h2 (lt (by lia)) (by lia) (D _ g) (Y _ g)
 ·rw[if_neg k0]
  obtain rfl:k=na:=by lia
  exact BJ c (g.kind.trans hk) M h1 h2 (lt h1) hN (D _ g) (Y _ g)
def HI(r:Value->Int)(a b:Array Keyed)(N:Nat)(c:S2):Prop:=∃ na nb out ac bc,c=(none,na,nb,out,ac,bc)/\MH r a b out na nb/\1<=na/\2<=nb/\na+nb<=N
theorem G7{Q:ForInStep S2->SortSt->Prop}(c:MC prog w A s κ r P a b)(M:MH r a b out na nb)(h1:0<na)(lt:R r b (nb-1)<=R r a (na-1))(h2:2<=nb)(hN:na+nb<=N+1)(D:∀ c,HS r a b c->Q (.done c) st)(Y:∀ c,HI r a b N c->Q (.done c) st/\Q (.yield c) st):wpS (model prog w) A E s (Xp a b mg ac na nb out) Q st:=by
 have ha:=M.ha
 refine wpS_bind (aH (by lia) fun p e=>?_)
 have M2:=M.rT c.hA c.hB h1 e fun _=>lt
 by_cases z:na-1=0
 ·rw[if_pos (by simpa using z)]
  exact wpS_pure (D _ ⟨_,_,rfl,M2.IG c.hA c.hB z⟩)
 ·rw[if_neg (by simpa using z)]
  have y:=Y _ ⟨_,_,_,ac+1,0,rfl,M2,by lia,h2,by lia⟩
  split
  ·exact wpS_pure y.1
  ·exact wpS_pure y.2
theorem GJ{Q:ForInStep S2->SortSt->Prop}(c:MC prog w A s κ r P a b)(M:MH r a b out na nb)(h1:0<na)(lt:R r a (na-1)<=R r b (nb-1))(h2:2<=nb)(hN:na+nb<=N+1)(D:∀ c,HS r a b c->Q (.done c) st)(Y:∀ c,HI r a b N c->Q (.done c) st/\Q (.yield c) st):wpS (model prog w) A E s (Xq a b mg bc na nb out) Q st:=by
 have hb:=M.hb
 refine wpS_bind (aH (by lia) fun p e=>?_)
 have M2:=M.qC c.hA c.hB (by exact Rv ‹_›) e fun _=>lt
 by_cases z:nb-1=1
 ·rw[if_pos (by simpa using z)]
  exact wpS_pure (D _ ⟨_,_,rfl,M2.vz c.hA c.hB z c.hl⟩)
 ·rw[if_neg (by simpa using z)]
  have y:=Y _ ⟨_,_,_,0,bc+1,rfl,M2,h1,by lia,by lia⟩
  split
  ·exact wpS_pure y.1
  ·exact wpS_pure y.2
theorem Ho{Q:ForInStep S2->SortSt->Prop}{x:Nat}(c:MC prog w A s κ r P a b)(hk:kindOf st=κ)(M:MH r a b out na nb)(h1:0<na)(h2:2<=nb)(hN:na+nb<=N+1)(D:∀ c,HS r a b c->Q (.done c) st)(Y:∀ c,HI r a b N c->Q (.done c) st/\Q (.yield c) st):wpS (model prog w) A E s (Xr a b mg x (none,na,nb,out,ac,bc)) Q st:=by
 have ha:=M.ha
 have hb:=M.hb
 refine wpS_bind (aH (show nb-1<b.size by lia) fun pb eb=>wpS_bind (aH (show na-1<a.size by lia) fun pa ea=>wpS_bind (qP c.C hk (c.pb.at eb) (c.pa.at ea) ?_)))
 have rb:R r b (nb-1)=r pb.1:=nI eb
 have ra:R r a (na-1)=r pa.1:=nI ea
 dsimp only
 by_cases hw:r pb.1<r pa.1
 ·rw[if_pos (decide_eq_true hw)]
  exact G7 c M h1 (by lia) h2 hN D Y
 ·rw[if_neg (by simpa using hw)]
  exact GJ c M h1 (by lia) h2 hN D Y
theorem F_{Q:ForInStep S1->SortSt->Prop}(c:MC prog w A s κ r P a b)(hk:kindOf st=κ)(M:MH r a b out na nb)(h1:0<na)(h2:2<=nb)(hN:na+nb<=N)(D:∀ ag,Mg st ag->∀ c,HS r a b c->Q (.done c) ag)
  (Y:∀ ag,Mg st ag->∀ out na nb mg,MH r a b out na nb->1<=na->2<=nb->na+nb<=N->Q (.yield (none,na,nb,out,mg)) ag):wpS (model prog w) A E s (Xs a b mg (none,na,nb,out,ac,bc)) Q st:=by
 refine wpS_bind (wpS_lift (wpAny_rule ⟨rfl,?_⟩))
 refine wpS_bind (wpS_mono (wpS_forRange (I:=fun _ c ag=>Mg st ag/\∃ na nb out mg ac bc,c=(none,na,nb,out,mg,ac,bc)/\MH r a b out na nb/\1<=na/\2<=nb/\na+nb<=N)
  (Q:=fun c ag=>Mg st ag/\(HS r a b c\/∃ na nb out mg ac bc,c=(none,na,nb,out,mg,ac,bc)/\MH r a b out na nb/\1<=na/\2<=nb/\na+nb<=N)) ?step ?fin ⟨.refl st,_,_,_,_,_,_,rfl,M,h1,h2,hN⟩) ?post)
 case fin =>
  rintro c ag ⟨hm,q⟩
  exact⟨hm,.inr q⟩
 case step =>
  rintro y c1 BD _ _ ⟨hm,na,nb,out,mg,ac,bc,rfl,M,h1,h2,hN⟩
  unfold Xo
  dsimp only
  split<;>exact Gf c (hm.kind.trans hk) M h1 h2 hN (fun ag g o rest hM=>⟨hm.trans g,.inl ⟨o,rest,rfl,hM⟩⟩) fun ag g o na nb mg ac bc M h1 h2 hN=>⟨⟨hm.trans g,.inr ⟨_,_,_,_,_,_,rfl,M,h1,h2,hN⟩⟩,hm.trans g,_,_,_,_,_,_,rfl,M,h1,h2,hN⟩
 case post =>
  rintro c ag ⟨hm,⟨o,rest,rfl,hM⟩|⟨na,nb,out,mg,ac,bc,rfl,M,h1,h2,hN⟩⟩
  ·exact wpS_pure (D _ hm _ ⟨_,_,rfl,hM⟩)
  ·exact wpS_bind (iK (wpS_pure (Y _ (hm.set _) _ _ _ _ M h1 h2 hN)))
theorem Hh{Q:ForInStep S1->SortSt->Prop}{x:Nat}(c:MC prog w A s κ r P a b)(hk:kindOf st=κ)(M:MH r a b out na nb)(h1:0<na)(h2:2<=nb)(hN:na+nb<=N+1)(D:∀ ag,Mg st ag->∀ c,HS r a b c->Q (.done c) ag)
  (Y:∀ ag,Mg st ag->∀ out na nb mg,MH r a b out na nb->1<=na->2<=nb->na+nb<=N->Q (.yield (none,na,nb,out,mg)) ag):wpS (model prog w) A E s (Xt a b x (none,na,nb,out,mg)) Q st:=by
 have ha:=M.ha
 have hb:=M.hb
 refine wpS_bind (wpS_mono (wpS_forRange (I:=fun y c ag=>ag=st/\HI r a b (N+1-y) c) (Q:=fun c ag=>ag=st/\(HS r a b c\/HI r a b N c)) ?step ?fin ⟨rfl,_,_,_,_,_,rfl,M,h1,h2,hN⟩) ?post)
 case fin =>
  rintro c ag ⟨rfl,na',nK,o,ac,bc,rfl,M',q1,q2,q3⟩
  exact⟨rfl,.inr ⟨_,_,_,_,_,rfl,M',q1,q2,by lia⟩⟩
 case step =>
  rintro y c1 BD _ hy ⟨rfl,na',nK,o,ac,bc,rfl,M',q1,q2,q3⟩
  exact Ho (N:=N-y) c hk M' q1 q2 (by lia) (fun c q=>⟨rfl,.inl q⟩) fun c q=>by
   obtain⟨na,nb,o,ac,bc,rfl,M,h1,h2,h3⟩:=q
   exact⟨⟨rfl,.inr ⟨_,_,_,_,_,rfl,M,h1,h2,by walk_at "s4"⟩⟩,rfl,_,_,_,_,_,rfl,M,h1,h2,by lia⟩
 case post =>
  rintro c1 ag ⟨rfl,⟨o,rest,rfl,hM⟩|⟨na,nb,o,ac,bc,rfl,M',q1,q2,q3⟩⟩
  ·exact wpS_pure (D _ (.refl _) _ ⟨_,_,rfl,hM⟩)
  ·exact F_ c hk M' q1 q2 q3 D Y
theorem tW{st:SortSt}{a b:Array Keyed}{Q:Array Keyed->SortSt->Prop}(C:lI prog w A s κ r P)(hk:kindOf st=κ)(Tc:AllP P a)(Td:AllP P b)(hA:Up r a 0 a.size)(hB:Up r b 0 b.size)(na:1<=a.size)(nb:1<=b.size)
  (h0:R r b 0<=R r a 0) (hg:∀ j,j<b.size->R r b j<=R r a (a.size-1)) (h:∀ out ag,cz r a b out->Mg st ag->Q out ag):wpS (model prog w) A E s (um a b) Q st:=by
 have c:MC prog w A s κ r P a b:=⟨C,Tc,Td,hA,hB,fun i hi=>vj h0 (hA 0 i (bS _) (eP _) hi),hg⟩
 rw[vX]
 refine wpS_bind (wpS_lift (wpAny_rule ⟨rfl,?_⟩))
 refine wpS_bind (aH (by exact EC ‹_› EB) fun y0 e0=>?_)
 have M1:MH r a b #[y0] (a.size-1) b.size:=MH.start.rT hA hB na e0 fun _=>hg _ (by exact EC ‹_› EB)
 by_cases c1:a.size-1=0
 ·rw[if_pos (by simpa using c1)]
  exact wpS_pure (h _ _ (M1.IG hA hB c1) (.refl st))
 ·rw[if_neg (by simpa using c1)]
  by_cases c2:b.size=1
  ·rw[if_pos (by simpa using c2)]
   exact wpS_pure (h _ _ (M1.vz hA hB c2 c.hl) (.refl st))
  ·rw[if_neg (by simpa using c2)]
   refine wpS_bind (wpS_get ?_)
   refine wpS_bind (wpS_mono (wpS_forRange (I:=fun x c ag=>Mg st ag/\∃ na nb out mg,c=(none,na,nb,out,mg)/\MH r a b out na nb/\1<=na/\2<=nb/\na+nb<=a.size+b.size-x)
    (Q:=fun c ag=>Mg st ag/\HS r a b c) ?step ?fin ⟨.refl st,_,_,_,_,rfl,M1,by lia,by lia,by lia⟩) ?post)
   case fin =>
    rintro c ag ⟨_,na,nb,out,mg,rfl,M,h1,h2,h3⟩
    lia
   case post =>
    rintro c ag ⟨hm,out,rest,rfl,hM⟩
    exact wpS_pure (h out ag hM hm)
   case step =>
    rintro x c1 BD _ hx ⟨kF,na,nb,out,mg,rfl,M,h1,h2,h3⟩
    exact Hh (N:=a.size+b.size-(x+1)) c (kF.kind.trans hk) M h1 h2 (by lia) (fun ag g c q=>⟨kF.trans g,q⟩) fun ag g out na nb mg M h1 h2 h3=>⟨kF.trans g,_,_,_,_,rfl,M,h1,h2,h3⟩
end
def wr(p:Nat)(m:List Keyed)(n:Nat)(xs:Array Keyed):Array Keyed:=(m.zipIdx n).foldl (fun a (q:Keyed × Nat)=>a.setIfInBounds (p+q.2) q.1) xs
theorem wW(p:Nat):∀ (m:List Keyed) (n:Nat) (xs:Array Keyed),p+n+m.length<=xs.size->∀ k:Nat,(wr p m n xs)[k]? = if p+n<=k/\k<p+n+m.length then m[k-(p+n)]? else xs[k]?
 |[],n,xs,h,k=>by
  rw[if_neg (by simp only[OO];lia)];rfl
 |q :: m,n,xs,h,k=>by
  have ih:=wW p m (n+1) (xs.setIfInBounds (p+n) q) (by rw[Array.size_setIfInBounds];simp only[oy] at h;lia) k
  have e:wr p (q :: m) n xs=wr p m (n+1) (xs.setIfInBounds (p+n) q):=by unfold wr;rw[List.zipIdx_cons,List.foldl_cons]
  simp only[oy] at h ⊢
  rw[e,ih]
  by_cases h1:p+(n+1)<=k/\k<p+(n+1)+m.length
  ·rw[if_pos h1,if_pos (by lia),show k-(p+n)=(k-(p+(n+1)))+1 by lia,List.getElem?_cons_succ]
  ·rw[if_neg h1]
   by_cases h2:k=p+n
   ·subst h2
    rw[if_pos (by walk_at "s4"),Nat.sub_self,Ri,Array.getElem?_setIfInBounds_self_of_lt (by lia)]
   ·rw[if_neg (by lia),Array.getElem?_setIfInBounds_ne (by walk_at "s1")]
theorem Dj(h:p+m.length<=xs.size):(wr p m 0 xs).toList=xs.toList.take p++m++xs.toList.drop (p+m.length):=by
 have hl:xs.toList.length=xs.size:=by simp
 apply D8
 intro k
 have e:=wW p m 0 xs h k
 rw[Mk] at e
 rw[mw,e]
 by_cases h1:k<p
 ·rw[if_neg (by lia),wq,FY (by rw[mS];lia),List.getElem?_take_of_lt h1,mw]
 ·by_cases h2:k<p+m.length
  ·rw[if_pos (by lia),wq,AI (by rw[mS];lia),mS,show min p xs.toList.length=p by lia,FY (by lia)]
  ·rw[if_neg (by lia),wq,AI (by rw[mS];lia),mS,show min p xs.toList.length=p by lia,AI (by lia),List.getElem?_drop,
    show p+m.length+(k-p-m.length)=k by lia,mw]
theorem FW{p q:Nat}{xs:Array Keyed}(h:p<=q)(h2:q<=xs.size):xs.toList=xs.toList.take p++(xs.extract p q).toList++xs.toList.drop q:=by
 rw[RB,Rf]
 have e1:xs.toList.take p++(xs.toList.drop p).take (q-p)=xs.toList.take q:=by
  rw[<- Ow p (xs.toList.take q),List.take_take,List.drop_take,Nat.min_eq_left h]
 rw[e1,Ow]
theorem Eb{p q:Nat}{m:List Keyed}{xs:Array Keyed}(h:p<=q)(h2:q<=xs.size)(hm:m.Perm (xs.extract p q).toList):(wr p m 0 xs).Perm xs:=by
 have hl:m.length=q-p:=by rw[hm.length_eq];simp;lia
 rw[RA,Dj (by lia),show p+m.length=q by lia]
 have e:=FW (xs:=xs) h h2
 exact(List.Perm.append_right _ (List.Perm.append_left _ hm)).trans (by rw[<- e])
def Runs(r:Value->Int)(xs:Array Keyed):List (Nat × Nat × Nat)->Nat->Nat->Prop
 |[],a,b=>a=b
 | (s,n,_) :: rest,a,b=>s=a/\1<=n/\Up r xs s (s+n)/\Runs r xs rest (s+n) b
section
variable {r:Value->Int}{xs ys:Array Keyed}
theorem Runs.le:∀ {ps:List (Nat × Nat × Nat)} {a b:Nat},Runs r xs ps a b->a+ps.length<=b
 |[],a,b,h=>by simp only[Runs] at h;simp;lia
 | (s,n,p) :: rest,a,b,h=>by
  obtain⟨rfl,h1,_,h3⟩:=h
  have:=Runs.le h3
  simp only[oy];lia
theorem Runs.append:∀ {ps qs:List (Nat × Nat × Nat)} {a b:Nat},Runs r xs (ps++qs) a b↔∃ c,Runs r xs ps a c/\Runs r xs qs c b
 |[],qs,a,b=>by simp[Runs]
 | (s,n,p) :: rest,qs,a,b=>by
  simp only[OB,Runs]
  constructor
  ·rintro⟨h1,h2,h3,h4⟩
   obtain⟨c,h5,h6⟩:=Runs.append.mp h4
   exact⟨c,⟨h1,h2,h3,h5⟩,h6⟩
  ·rintro⟨c,⟨h1,h2,h3,h5⟩,h6⟩
   exact⟨h1,h2,h3,Runs.append.mpr ⟨c,h5,h6⟩⟩
theorem Up.congr(h:Up r xs a b)(e:∀ k,a<=k->k<b->ys[k]? = xs[k]?):Up r ys a b:=fun i j h1 h2 h3=>by
 rw[dq (e i h1 (by lia)),dq (e j (by lia) h3)];exact h i j h1 h2 h3
theorem Runs.congr:∀ {ps:List (Nat × Nat × Nat)} {a b:Nat},Runs r xs ps a b->(∀ k,a<=k->k<b->ys[k]? = xs[k]?)->Runs r ys ps a b
 |[],a,b,h,_=>h
 | (s,n,p) :: rest,a,b,h,e=>by
  obtain⟨rfl,h1,h2,h3⟩:=h
  have l:=h3.le
  exact⟨rfl,h1,h2.congr fun k u v=>e k u (by lia),Runs.congr h3 fun k u v=>e k (by walk_at "s4") v⟩
theorem Up.glue(h1:Up r xs a b)(h2:Up r xs b c)(h:∀ i j,a<=i->i<b->b<=j->j<c->R r xs i<=R r xs j):Up r xs a c:=fun i j u v w=>by
 by_cases hj:j<b
 ·exact h1 i j u v hj
 ·by_cases hi:i<b
  ·exact h i j u hi (by lia) w
  ·exact h2 i j (by lia) v w
end
section
variable {prog:Program}{w:World}{A:Around}{E:Value->Shared->Prop}{s:Shared}{κ:SortKind}{r:Value->Int}{P:Value->Prop}
theorem AllP.extract(h:AllP P xs)(i j:Nat):AllP P (xs.extract i j):=fun p hp=>h p (by
 rw[RB,Rf] at hp
 exact Ox (Oy hp))
theorem eG(h:i+k<j)(hj:j<=xs.size):R r (xs.extract i j) k=R r xs (i+k):=by
 apply dq
 rw[OZ,if_pos (by lia)]
theorem Up.extract(h:Up r xs i j)(kM:i<=j)(hj:j<=xs.size):Up r (xs.extract i j) 0 (xs.extract i j).size:=fun a b _ h2 h3=>by
 have e:(xs.extract i j).size=j-i:=by simp only[ED];lia
 rw[e] at h3
 rw[eG (by lia) hj,eG (by lia) hj]
 exact h _ _ (by lia) (by lia) (by lia)
theorem yu(hz:sa+na+nb<=xs.size)(hk:k<na)(hnb:nK<=nb)(hA:Up r xs sa (sa+na))(hB:Up r xs (sa+na) (sa+na+nb))
  (lo1:∀ i,i<k->R r xs (sa+i)<=R r xs (sa+na)) (E8:R r xs (sa+na)<R r xs (sa+k)) (qa:∀ i,i<nK->R r xs (sa+na+i)<R r xs (sa+na-1)) (oi:∀ i,nK<=i->i<nb->R r xs (sa+na-1)<=R r xs (sa+na+i))
  (hm:cz r (xs.extract (sa+k) (sa+na)) (xs.extract (sa+na) (sa+na+nK)) m) :
  Up r (wr (sa+k) m.toList 0 xs) sa (sa+na+nb)/\(wr (sa+k) m.toList 0 xs).Perm xs/\∀ j,j<sa\/sa+na+nb<=j->(wr (sa+k) m.toList 0 xs)[j]? = xs[j]? := by
 obtain⟨mp,mu⟩:=hm
 have eab:(xs.extract (sa+k) (sa+na)).toList++(xs.extract (sa+na) (sa+na+nK)).toList=(xs.extract (sa+k) (sa+na+nK)).toList:=by
  rw[<- Array.toList_append,Array.extract_append_extract,show min (sa+k) (sa+na)=sa+k by lia,show max (sa+na) (sa+na+nK)=sa+na+nK by lia]
 rw[eab] at mp
 have ml:m.toList.length=na+nK-k:=by rw[mp.length_eq];simp;lia
 have hw:sa+k+m.toList.length<=xs.size:=by lia
 have get:=wW (sa+k) m.toList 0 xs (by lia)
 rw[Mk,ml] at get
 -- every merged item is one of the io'
 have mem:∀ (j:Nat) (p:Keyed),m.toList[j]? = some p->∃ i,sa+k<=i/\i<sa+na+nK/\r p.1=R r xs i:=fun j p e=>by
  have hp:p∈(xs.extract (sa+k) (sa+na+nK)).toList:=mp.mem_iff.mp (pd e)
  obtain⟨i,hi⟩:=List.getElem?_of_mem hp
  rw[mw,OZ] at hi
  split at hi
  ·exact⟨sa+k+i,by lia,by lia,(nI hi).symm⟩
  ·cases hi
 have low:∀ i,sa+k<=i->i<sa+na+nK->R r xs (sa+na)<=R r xs i:=fun i h1 h2=>by
  by_cases h3:i<sa+na
  ·exact vj (AO E8) (hA (sa+k) i (by lia) h1 h3)
  ·exact hB (sa+na) i (bS _) (by lia) (by lia)
 have high:∀ i,sa+k<=i->i<sa+na+nK->R r xs i<=R r xs (sa+na-1):=fun i h1 h2=>by
  by_cases h3:i<sa+na
  ·exact hA i (sa+na-1) (by lia) (by lia) (by lia)
  ·have:=qa (i-(sa+na)) (by lia)
   rw[show sa+na+(i-(sa+na))=i by lia] at this
   lia
 have Xu:∀ j,j<na+nK-k->∃ i,sa+k<=i/\i<sa+na+nK/\R r (wr (sa+k) m.toList 0 xs) (sa+k+j)=R r xs i:=fun j hj=>by
  have e:=get (sa+k+j)
  rw[if_pos (by lia),show sa+k+j-(sa+k)=j by lia] at e
  have wa:j<m.toList.length:=by lia
  obtain⟨i,h1,h2,h3⟩:=mem j m.toList[j] (ve wa)
  rw[ve wa] at e
  exact⟨i,h1,h2,(nI e).trans h3⟩
 have IL:∀ j,j<sa+k\/sa+na+nK<=j->(wr (sa+k) m.toList 0 xs)[j]? = xs[j]? := fun j hj=>by
  have e:=get j
  rw[if_neg (by lia)] at e
  exact e
 refine⟨?_,Eb (by lia) (by lia) mp,fun j hj=>IL j (by lia)⟩
 have U1:Up r (wr (sa+k) m.toList 0 xs) sa (sa+k):=Up.congr (xs:=xs) (fun i j h1 h2 h3=>hA i j h1 h2 (by lia)) fun j h1 h2=>IL j (.inl h2)
 have U2:Up r (wr (sa+k) m.toList 0 xs) (sa+k) (sa+na+nK):=fun i j h1 h2 h3=>by
  have ei:=get i
  have ej:=get j
  rw[if_pos (by lia)] at ei ej
  have li:i-(sa+k)<m.toList.length:=by lia
  have lj:j-(sa+k)<m.toList.length:=by lia
  rw[ve li] at ei
  rw[ve lj] at ej
  rw[nI ei,nI ej]
  by_cases kM:i=j
  ·subst kM;exact qB _
  ·exact(Rg.mp mu) _ _ li lj (by lia)
 have U3:Up r (wr (sa+k) m.toList 0 xs) (sa+na+nK) (sa+na+nb):=Up.congr (xs:=xs) (fun i j h1 h2 h3=>hB i j (by lia) h2 h3) fun j h1 h2=>IL j (.inr h1)
 refine(U1.glue U2 fun i j h1 h2 h3 h4=>?_).glue U3 fun i j h1 h2 h3 h4=>?_
 ·obtain⟨q,q1,q2,q3⟩:=Xu (j-(sa+k)) (by lia)
  rw[show sa+k+(j-(sa+k))=j by lia] at q3
  rw[q3,dq (IL i (.inl h2))]
  have:=lo1 (i-sa) (by lia)
  rw[show sa+(i-sa)=i by lia] at this
  exact vj this (low q q1 q2)
 ·have e2:=oi (j-(sa+na)) (by lia) (by lia)
  rw[show sa+na+(j-(sa+na))=j by lia] at e2
  rw[dq (IL j (.inr h3))]
  by_cases hi:i<sa+k
  ·rw[dq (IL i (.inl hi))]
   have:=lo1 (i-sa) (by lia)
   rw[show sa+(i-sa)=i by lia] at this
   have:=low (sa+na-1) (by lia) (by lia)
   lia
  ·obtain⟨q,q1,q2,q3⟩:=Xu (i-(sa+k)) (by lia)
   rw[show sa+k+(i-(sa+k))=i by lia] at q3
   rw[q3]
   exact vj (high q q1 q2) e2
structure St(r:Value->Int)(κ:SortKind)(eT:Array Keyed)(st:SortSt)(ps:List (Nat × Nat × Nat))(lo:Nat):Prop where
 kind:kindOf st=κ
 failed:failedOf st=none
 perm:(arrOf st).Perm eT
 pend:pendingOf st=ps.toArray
 runs:Runs r (arrOf st) ps 0 lo
theorem St.size{st:SortSt}{ps:List (Nat × Nat × Nat)}{lo:Nat}(h:St r κ eT st ps lo):(arrOf st).size=eT.size:=h.perm.size_eq
theorem zp{ps:List (Nat × Nat × Nat)}(h:i+1<ps.length):∃ pre x y post,ps=pre++x :: y :: post/\pre.length=i:=by
 refine⟨ps.take i,ps[i],ps[i+1],ps.drop (i+2),?_,by rw[mS];lia⟩
 rw[<- D7 (by lia),<- D7 (by lia),Ow]
theorem jV{st:SortSt}{ps:List (Nat × Nat × Nat)}{lo i:Nat}(C:lI prog w A s κ r P)(hP:AllP P eT)(H:St r κ eT st ps lo)(xi:lo<=eT.size)(hi:i+1<ps.length)
  (h:∀ ag hZ,St r κ eT ag hZ lo->hZ.length+1=ps.length->hZ≠[]->(∀ k,lo<=k->(arrOf ag)[k]? = (arrOf st)[k]?)->Q true ag):wpS (model prog w) A E s (mergeAt' i) Q st:=by
 obtain⟨pre,⟨sa,na,pa⟩,⟨sb,nb,pb⟩,post,rfl,Dp⟩:=zp hi
 have hz:=H.size
 have pS:AllP P (arrOf st):=hP.perm H.perm
 obtain⟨c,Xv,hr2⟩:=Runs.append.mp H.runs
 obtain⟨rfl,n1,u1,rfl,n2,u2,Xw⟩:=hr2
 have le3:=Xw.le
 have le1:=Xv.le
 -- the new pending list
 have dz':((pendingOf st).setIfInBounds i (sa,na+nb,pa)).eraseIdxIfInBounds (i+1)=(pre++(sa,na+nb,pa) :: post).toArray:=by
  rw[H.pend]
  apply O1.mp
  simp[<- Dp,List.eraseIdx_append_of_length_le]
 have new:∀ (xs:Array Keyed) (g:Nat),xs.Perm (arrOf st)->(∀ j,j<sa\/sa+na+nb<=j->xs[j]? = (arrOf st)[j]?)->Up r xs sa (sa+(na+nb)) ->
   St r κ eT (SortSt.mk' (kindOf st) xs (pre++(sa,na+nb,pa) :: post).toArray g (failedOf st)) (pre++(sa,na+nb,pa) :: post) lo:=fun xs g hp ho hu =>
  ⟨H.kind,H.failed,hp.trans H.perm,rfl,Runs.append.mpr ⟨sa,Xv.congr fun k _ hk=>ho k (.inl hk),rfl,by lia,hu,by
   rw[show sa+(na+nb)=sa+na+nb by lia]
   exact Xw.congr fun k hk _=>ho k (.inr hk)⟩⟩
 have len:(pre++(sa,na+nb,pa) :: post).length+1=(pre++(sa,na,pa) :: (sa+na,nb,pb) :: post).length:=by simp;lia
 have e0:(pendingOf st)[i]? = some (sa,na,pa):=by rw[H.pend,<- Dp];simp
 have e1:(pendingOf st)[i+1]? = some (sa+na,nb,pb):=by rw[H.pend,<- Dp];simp
 refine wpS_bind (wpS_get ?_)
 rw[e0,e1]
 dsimp only
 refine wpS_bind (wpS_modify (f:=fun _=>SortSt.mk' (kindOf st) (arrOf st) (((pendingOf st).setIfInBounds i (sa,na+nb,pa)).eraseIdxIfInBounds (i+1)) (gallopOf st) (failedOf st)) ?_)
 rw[dz']
 refine wpS_bind (aH (xs:=arrOf st) (by lia) fun kb Xx=>wpS_bind (dh (arr:=arrOf st) C H.kind pS (pS.at Xx) (by lia) (by lia) u1 fun k II IJ E9=>?_))
 have rkb:=nI (r:=r) Xx
 dsimp only
 by_cases z:na-k=0
 ·rw[if_pos (by simpa using z)]
  refine wpS_pure (h _ _ (new (arrOf st) (gallopOf st) (Array.Perm.refl _) (fun _ _=>rfl) ?_) len (by simp) fun _ _=>rfl)
  rw[show sa+(na+nb)=sa+na+nb by lia]
  refine u1.glue u2 fun i j h1 h2 h3 h4=>?_
  have:=zG (IJ (i-sa) (by lia))
  rw[show sa+(i-sa)=i by lia] at this
  have:=u2 (sa+na) j (bS _) h3 h4
  lia
 ·rw[if_neg (by simpa using z)]
  refine wpS_bind (aH (xs:=arrOf st) (by lia) fun ka Xy=>wpS_bind (dh (arr:=arrOf st) C H.kind pS (pS.at Xy) (by lia) (by lia) u2 fun l wc vS IH=>?_))
  have rka:=nI (r:=r) Xy
  rw[show sa+k+(na-k)-1=sa+na-1 by lia] at rka
  dsimp only
  by_cases z2:l=0
  ·rw[if_pos (by simpa using z2)]
   refine wpS_pure (h _ _ (new (arrOf st) (gallopOf st) (Array.Perm.refl _) (fun _ _=>rfl) ?_) len (by simp) fun _ _=>rfl)
   rw[show sa+(na+nb)=sa+na+nb by lia]
   refine u1.glue u2 fun i j h1 h2 h3 h4=>?_
   have:=vh (IH (j-(sa+na)) (by lia) (by lia))
   rw[show sa+na+(j-(sa+na))=j by lia] at this
   have:=u1 i (sa+na-1) h1 (by lia) (by lia)
   lia
  ·rw[if_neg (by simpa using z2)]
   have lo1:∀ i,i<k->R r (arrOf st) (sa+i)<=R r (arrOf st) (sa+na):=fun i hi=>by have:=zG (IJ i hi);lia
   have E8:R r (arrOf st) (sa+na)<R r (arrOf st) (sa+k):=by have:=yD (E9 k (bS _) (by lia));lia
   have qa:∀ i,i<l->R r (arrOf st) (sa+na+i)<R r (arrOf st) (sa+na-1):=fun i hi=>by have:=Dv (vS i hi);lia
   have oi:∀ i,l<=i->i<nb->R r (arrOf st) (sa+na-1)<=R r (arrOf st) (sa+na+i):=fun i h1 h2=>by have:=vh (IH i h1 h2);lia
   have sx:((arrOf st).extract (sa+k) (sa+na)).size=na-k:=by simp only[ED];lia
   have sy:((arrOf st).extract (sa+na) (sa+na+l)).size=l:=by simp only[ED];lia
   have ux:Up r ((arrOf st).extract (sa+k) (sa+na)) 0 ((arrOf st).extract (sa+k) (sa+na)).size:=Up.extract (fun i j h1 h2 h3=>u1 i j (by lia) h2 h3) (by lia) (by lia)
   have uy:Up r ((arrOf st).extract (sa+na) (sa+na+l)) 0 ((arrOf st).extract (sa+na) (sa+na+l)).size:=Up.extract (fun i j h1 h2 h3=>u2 i j h1 h2 (by lia)) (by lia) (by lia)
   have Xz:R r ((arrOf st).extract (sa+na) (sa+na+l)) 0<=R r ((arrOf st).extract (sa+k) (sa+na)) 0:=by
    rw[eG (by lia) (by lia),eG (by lia) (by lia)]
    exact AO E8
   have XA:∀ j,j<((arrOf st).extract (sa+na) (sa+na+l)).size->R r ((arrOf st).extract (sa+na) (sa+na+l)) j<=R r ((arrOf st).extract (sa+k) (sa+na)) (((arrOf st).extract (sa+k) (sa+na)).size-1):=fun j hj=>by
    rw[sx,eG (by lia) (by lia),eG (by lia) (by lia),show sa+k+(na-k-1)=sa+na-1 by lia]
    exact AO (qa j (by lia))
   have fin:∀ out ag,cz r ((arrOf st).extract (sa+k) (sa+na)) ((arrOf st).extract (sa+na) (sa+na+l)) out->Mg (SortSt.mk' (kindOf st) (arrOf st) (pre++(sa,na+nb,pa) :: post).toArray (gallopOf st) (failedOf st)) ag ->
     Q true (SortSt.mk' (kindOf ag) (wr (sa+k) out.toList 0 (arrOf ag)) (pendingOf ag) (gallopOf ag) (failedOf ag)):=fun out ag hm hg=>by
    obtain⟨g,rfl⟩:=hg
    obtain⟨m1,m2,m3⟩:=yu (by lia) (by lia) wc u1 u2 lo1 E8 qa oi hm
    exact h _ _ (new _ g m2 m3 (by rw[show sa+(na+nb)=sa+na+nb by lia];exact m1)) len (by simp) fun k hk=>m3 k (.inr (by lia))
   have fin2:∀ out ag,cz r ((arrOf st).extract (sa+k) (sa+na)) ((arrOf st).extract (sa+na) (sa+na+l)) out->Mg (SortSt.mk' (kindOf st) (arrOf st) (pre++(sa,na+nb,pa) :: post).toArray (gallopOf st) (failedOf st)) ag ->
     failedOf ag=none:=fun out ag _ hg=>by
    obtain⟨g,rfl⟩:=hg
    exact H.failed
   by_cases z3:na-k<=l
   ·rw[if_pos z3]
    refine wpS_bind (tV (a:=(arrOf st).extract (sa+k) (sa+na)) (b:=(arrOf st).extract (sa+na) (sa+na+l)) C H.kind (pS.extract _ _) (pS.extract _ _) ux uy (by lia) (by lia) Xz XA fun out ag hm hg=>?_)
    refine wpS_bind (wpS_modify (wpS_bind (wpS_get ?_)))
    have f:=fin out ag hm hg
    have f2:=fin2 out ag hm hg
    refine wpS_pure ?_
    show Q (failedOf ag).isNone _
    rw[f2]
    exact f
   ·rw[if_neg z3]
    refine wpS_bind (tW (a:=(arrOf st).extract (sa+k) (sa+na)) (b:=(arrOf st).extract (sa+na) (sa+na+l)) C H.kind (pS.extract _ _) (pS.extract _ _) ux uy (by lia) (by lia) Xz XA fun out ag hm hg=>?_)
    refine wpS_bind (wpS_modify (wpS_bind (wpS_get ?_)))
    have f:=fin out ag hm hg
    have f2:=fin2 out ag hm hg
    refine wpS_pure ?_
    show Q (failedOf ag).isNone _
    rw[f2]
    exact f
theorem Runs.modify(hf:∀ x,(f x).1=x.1/\(f x).2.1=x.2.1):∀ {ps:List (Nat × Nat × Nat)} {i a b:Nat},Runs r xs ps a b->Runs r xs (ps.modify i f) a b
 |[],_,_,_,h=>by simpa using h
 | (s,n,p) :: rest,0,a,b,h=>by
  obtain⟨h1,h2⟩:=hf (s,n,p)
  rw[List.modify_zero_cons]
  have e:f (s,n,p)=(s,n,(f (s,n,p)).2.2):=Prod.ext h1 (Prod.ext h2 rfl)
  rw[e]
  exact h
 | (s,n,p) :: rest,i+1,a,b,h=>by
  rw[List.modify_succ_cons]
  obtain⟨h1,h2,h3,h4⟩:=h
  exact⟨h1,h2,h3,Runs.modify hf h4⟩
theorem St.win{st ag:SortSt}{ps:List (Nat × Nat × Nat)}{lo hi:Nat}(H:St r κ eT st ps lo)(hw:kX lo hi st ag):St r κ eT ag ps lo :=
 ⟨hw.kind.trans H.kind,hw.failed.trans H.failed,hw.perm.trans H.perm,hw.pend.trans H.pend,H.runs.congr fun k _ hk=>hw.out k (.inl hk)⟩
theorem wpS_sortRuns{st:SortSt}(C:lI prog w A s κ r P)(hk:kindOf st=κ)(hP:AllP P (arrOf st))(hp:pendingOf st = #[])(hf:failedOf st=none)
  (h:∀ ag,(arrOf ag).Perm (arrOf st)->failedOf ag=none->Up r (arrOf ag) 0 (arrOf st).size->Q () ag):wpS (model prog w) A E s sortRuns' Q st:=by
 rw[sortRuns'_eq]
 refine wpS_bind (wpS_get ?_)
 dsimp only
 generalize ha:arrOf st=eT at *
 have H0:St r κ eT st [] 0:=⟨hk,hf,by rw[ha],by rw[hp],rfl⟩
 refine wpS_bind (wpS_mono (wpS_forRange (I:=fun x c ag=>∃ ps lo,c=(none,lo)/\St r κ eT ag ps lo/\lo<=eT.size/\x<=lo)
  (Q:=fun c ag=>∃ ps,c=(none,eT.size)/\St r κ eT ag ps eT.size) ?step ?fin ⟨[],0,rfl,H0,eP _,bS _⟩) ?post)
 case fin =>
  rintro c ag ⟨ps,lo,rfl,H,h1,h2⟩
  have:lo=eT.size:=by lia
  subst this
  exact⟨ps,rfl,H⟩
 case post =>
  rintro c ag ⟨ps,rfl,H⟩
  dsimp only
  have l0:=H.runs.le
  refine wpS_bind (wpS_mono (wpS_forRange (I:=fun y c ag=>c=(none,())/\∃ hZ,St r κ eT ag hZ eT.size/\hZ.length+y<=eT.size)
   (Q:=fun c ag=>c=(none,())/\∃ hZ,St r κ eT ag hZ eT.size/\hZ.length<=1) ?dB' ?P9 ⟨rfl,ps,H,by lia⟩) ?dC')
  case P9 =>
   rintro c ag ⟨rfl,hZ,H',hl⟩
   exact⟨rfl,hZ,H',by lia⟩
  case dC' =>
   rintro c ag ⟨rfl,hZ,H',hl⟩
   refine wpS_pure (h ag H'.perm H'.failed ?_)
   have q:=H'.runs
   match hZ,hl,q with
   |[],_,q =>
    have q:0=eT.size:=q
    intro i j _ _ hj
    lia
   |[(s',n',p')],_,q =>
    obtain⟨rfl,_,hu,e⟩:=q
    have e:0+n'=eT.size:=e
    rw[<- e]
    exact hu
  case dB' =>
   rintro y c BD _ hy ⟨rfl,hZ,H',hl⟩
   refine wpS_bind (wpS_get ?_)
   have ep:(pendingOf BD).size=hZ.length:=by rw[H'.pend];simp
   by_cases z:(pendingOf BD).size<=1
   ·rw[if_pos z]
    exact wpS_pure ⟨rfl,hZ,H',by lia⟩
   ·rw[if_neg z]
    refine wpS_bind (jV C hP H' (bS _) (by(repeat' split)<;>lia) fun vv ps2 H2 hlen _ _=>?_)
    rw[if_neg (by simp)]
    exact wpS_pure ⟨rfl,ps2,H2,by lia⟩
 case step =>
  rintro x c BD _ hx ⟨ps,lo,rfl,H,h1,h2⟩
  dsimp only
  by_cases z:lo >= eT.size
  ·rw[if_pos z]
   have:lo=eT.size:=by lia
   subst this
   exact wpS_pure ⟨ps,rfl,H⟩
  ·rw[if_neg z]
   have hz:=H.size
   refine wpS_bind (wpS_countRun C H.kind (hP.perm H.perm) (by lia) (by lia) fun m vv hw kF mE hu=>?_)
   have H2:=H.win hw
   dsimp only
   refine DQ (K:=?K) ?pk fun key=>?main
   case main =>
    by_cases z2:m<minRun' eT.size eT.size 0
    ·rw[if_pos z2]
     refine wpS_bind (wpS_lift (wpAny_rule ⟨rfl,?_⟩))
     refine wpS_bind (wpS_binarySort C H2.kind (hP.perm H2.perm) (by clear key;have:=H2.size;lia) (by clear key;lia) hu fun vw XB Tf=>?_)
     have H3:=H2.win XB
     rw[if_neg (by simp)]
     have b1:1<=min (eT.size-lo) (minRun' eT.size eT.size 0):=by clear key;lia
     have b2:lo+min (eT.size-lo) (minRun' eT.size eT.size 0)<=eT.size:=by clear key;lia
     clear XB
     generalize min (eT.size-lo) (minRun' eT.size eT.size 0)=nn at *
     revert nn vw
     exact key
    ·rw[if_neg z2]
     exact key _ H2 _ hu kF (by lia)
   intro vw H3 nn Tf b1 b2
   refine wpS_bind (wpS_get ?_)
   have push:∀ (ag:SortSt) (hZ:List (Nat × Nat × Nat)),St r κ eT ag hZ lo->Up r (arrOf ag) lo (lo+nn)->∃ ps E3,((none:Option Unit),lo+nn)=(none,E3)/\St r κ eT (setPending ag ((pendingOf ag).push (lo,nn,0))) ps E3/\E3<=eT.size/\x+1<=E3:=fun ag hZ G u =>
    ⟨hZ++[(lo,nn,0)],lo+nn,rfl,⟨G.kind,G.failed,G.perm,by show(pendingOf ag).push _=_;rw[G.pend];simp,Runs.append.mpr ⟨lo,G.runs,rfl,b1,u,rfl⟩⟩,b2,by lia⟩
   cases hb:(pendingOf vw).back? with
   |none =>
    dsimp only
    exact wpS_bind (wpS_modify (wpS_pure (push vw ps H3 Tf)))
   |some t =>
    obtain⟨s1,n1,p1⟩:=t
    dsimp only
    generalize power' eT.size (2*s1+n1) (2*s1+n1+n1+nn) eT.size=pw
    refine wpS_bind (wpS_mono (wpS_forRange (I:=fun y c ag=>c=(none,())/\∃ hZ,St r κ eT ag hZ lo/\Up r (arrOf ag) lo (lo+nn))
     (Q:=fun c ag=>c=(none,())/\∃ hZ,St r κ eT ag hZ lo/\Up r (arrOf ag) lo (lo+nn)) ?_ (fun _ _ q=>q) ⟨rfl,ps,H3,Tf⟩) ?_)
    ·rintro y c tP _ hy ⟨rfl,hZ,H4,NC⟩
     refine wpS_bind (wpS_get ?_)
     have ep:(pendingOf tP).size=hZ.length:=by rw[H4.pend];simp
     by_cases z3:(pendingOf tP).size>1
     ·rw[if_pos z3]
      have e4:(pendingOf tP)[(pendingOf tP).size-2]? = some ((pendingOf tP)[(pendingOf tP).size-2]'(by lia)):=getElem?_pos _ _ (by lia)
      rw[e4]
      generalize (pendingOf tP)[(pendingOf tP).size-2]'(by lia)=tt
      obtain⟨t1,t2,dD'⟩:=tt
      dsimp only
      by_cases z4:dD'<=pw
      ·rw[if_pos z4]
       exact wpS_pure ⟨rfl,hZ,H4,NC⟩
      ·rw[if_neg z4]
       refine wpS_bind (jV C hP H4 h1 (by lia) fun EH ps5 H5 hlen _ ND=>?_)
       rw[if_neg (by simp)]
       exact wpS_pure ⟨rfl,ps5,H5,NC.congr fun k hk _=>ND k hk⟩
     ·rw[if_neg z3]
      exact wpS_pure ⟨rfl,hZ,H4,NC⟩
    ·rintro c tP ⟨rfl,hZ,H4,NC⟩
     dsimp only
     refine wpS_bind (wpS_modify (wpS_bind (wpS_modify (wpS_pure ?_))))
     refine push _ (hZ.modify (hZ.length-1) fun x=>(x.1,x.2.1,pw)) ⟨H4.kind,H4.failed,H4.perm,?_,Runs.modify (f:=fun x=>(x.1,x.2.1,pw)) (fun _=>⟨rfl,rfl⟩) H4.runs⟩ NC
     show(pendingOf tP).modify ((pendingOf tP).size-1) (fun x=>(x.1,x.2.1,pw))=_
     rw[H4.pend]
     simp
def dw (h:Heap) (a:Addr) (vs:List Value):Heap:=((h.update a (Obj.mapSeq fun _=>#[])).push (seqObj "tuple" vs.toArray 0)).push (seqObj "list" #[] 0)
theorem h_(hb:b≠a)(dr:b<h.objs.size):(dw h a vs).get? b=h.get? b:=by
 unfold dw
 rw[GO _ _ _ (by rw[size_push',D9];exact eI (qA dr)),
  GO _ _ _ (by rw[D9];exact eI dr),Ru _ _ _ _ hb]
theorem sE(hp:xs.Perm (pairsOf vs))(hs:Up r xs 0 vs.length):(xs.map (·.2)).toList.Perm vs/\(xs.map (·.2)).toList.Pairwise fun x y=>r x<=r y:=by
 have hl:xs.toList.Perm (vs.zip vs):=by rw[<- pairsOf_toList];exact RA.mp hp
 have BE:∀ p,p∈xs.toList->p.1=p.2:=fun p fo=>(mem_zip_self (hl.mem_iff.mp fo)).1
 have e:(xs.map (·.2)).toList=xs.toList.map (·.1):=by
  rw[Array.toList_map];exact GA fun p fo=>(BE p fo).symm
 have hsz:xs.size=vs.length:=by rw[hp.size_eq,pairsOf_size]
 rw[e]
 refine⟨?_,?_⟩
 ·have h1:=hl.map (·.1)
  rwa[L4 (bS _)] at h1
 ·rw[Rg]
  intro i j hi hj kM
  have iE:i<xs.size:=by simpa using hi
  have wa:j<xs.size:=by simpa using hj
  have h1:=hs i j (eP _) (kQ kM) (by lia)
  rw[G9 iE,G9 wa] at h1
  simpa using h1
theorem gh {F:PySem.Fin->Shared->Prop} (ho:s.heap.get? a=some (seqObj "list" vs.toArray n)) (hsz:vs.length<=sizeLine) (hP:∀ v∈vs,P v)
  (hk:2<=vs.length->∀ (Q:SortKind->Shared->Prop),Q κ { s with heap:=dw s.heap a vs }->wpAny (model prog w) A (keyKind' vs.toArray) Q E { s with heap:=dw s.heap a vs })
  (C:2<=vs.length->lI prog w A { s with heap:=dw s.heap a vs } κ r P)
  (h:∀ out:Array Value,out.toList.Perm vs->(out.toList.Pairwise fun x y=>r x<=r y)->F (.done (.ret .none)) { s with heap:=sortedHeap s.heap a vs out }) :
  wpAny (model prog w) A (Builtin.«list.sort» ⟨[.ref a],[]⟩) F E s:=by
 rw[list_sort_plain]
 have ha:a<s.heap.objs.size:=dc ho
 refine ah (listItems_at ho rfl ?_)
 refine ah (listUpdate_at ho rfl ?_ (by simpa using hsz) (eP _))
 obtain⟨e1,zI⟩:∃ e1,(s.heap.update a (Obj.mapSeq fun _=>#[])).get? a=some (seqObj "list" #[] e1):=⟨_,get?_update_seq ho (fun _=>#[])⟩
 refine ah (seqEpoch_at zI rfl ?_)
 refine ah (wpAny_newTuple ?_ (by simpa using hsz))
 refine ah (wpAny_newList ?_ (eP _))
 refine wpAny_holding ?_
 have P_:(dw s.heap a vs).get? a=some (seqObj "list" #[] e1):=by
  unfold dw
  rw[GO _ _ _ (by rw[size_push',D9];exact eI (qA ha)),GO _ _ _ (by rw[D9];exact eI ha)]
  exact zI
 show wpAny (model prog w) A _ F E { s with heap:=dw s.heap a vs }
 dsimp only
 have hvz:vs.toArray.size=vs.length:=by simp
 have fin:∀ ag:SortSt,(arrOf ag).Perm (pairsOf vs)->Up r (arrOf ag) 0 vs.length->F (.done (.ret .none)) { s with heap:=sortedHeap s.heap a vs ((arrOf ag).map (·.2)) }:=by
  intro ag hp hs
  obtain⟨h1,h2⟩:=sE hp hs
  exact h _ h1 h2
 by_cases h2:vs.toArray.size<2
 ·rw[if_pos h2,if_pos h2]
  refine ah (aI ?_)
  rw[StateT.run_pure]
  refine ah (aI ?_)
  dsimp only
  refine ah (seqEpoch_at P_ rfl ?_)
  refine ah (listUpdate_at P_ rfl ?_ (eP _) (by rw[Array.size_map];show(pairsOf vs).size<=_;rw[pairsOf_size];lia))
  simp only[bne_self_eq_false,gL,if_false]
  refine aI (fin (SortSt.mk' general' (vs.toArray.zip vs.toArray) #[] 7 none) (Array.Perm.refl _) ?_)
  intro i j _ kM hj
  have:i=j:=by lia
  subst this;exact qB _
 ·rw[if_neg h2,if_neg h2]
  refine ah (hk (by lia) _ ?_)
  refine ah (oq (wpS_sortRuns (st:=SortSt.mk' κ (vs.toArray.zip vs.toArray) #[] 7 none)
   (Q:=fun _ ag=>(arrOf ag).Perm (pairsOf vs)/\failedOf ag=none/\Up r (arrOf ag) 0 vs.length)
   (C (by lia)) rfl (fun p hp=>?_) rfl rfl fun ag a1 a2 a3=>⟨a1,a2,?_⟩) ?_ fun _ _ e=>e)
  ·have fo:p∈(pairsOf vs).toList:=hp
   rw[pairsOf_toList] at fo
   exact hP _ (mem_zip_self fo).2
  ·have e:(arrOf (SortSt.mk' κ (vs.toArray.zip vs.toArray) #[] 7 none)).size=vs.length:=pairsOf_size vs
   rw[e] at a3
   exact a3
  ·rintro⟨⟨⟩,ag⟩ s' ⟨rfl,hp,hf,hs⟩
   dsimp only
   refine ah (seqEpoch_at P_ rfl ?_)
   refine ah (listUpdate_at P_ rfl ?_ (eP _) (by refine jI (L9 ((Array.size_map ..).trans (hp.size_eq.trans (pairsOf_size _)))) ?_;lia))
   rw[hf]
   simp only[bne_self_eq_false,gL,if_false]
   exact aI (fin ag hp hs)
def ie (h:Heap) (vs:List Value):Heap:=((h.push (seqObj "list" #[] 0)).update h.objs.size (Obj.mapSeq (· ++ vs.toArray))).push (seqObj "list" vs.toArray 0)
theorem lF(hb:h.get? b=some o):(dw (ie h vs) (h.objs.size+1) vs).get? b=some o:=by
 have dr:b<h.objs.size:=dc hb
 have e:(ie h vs).get? b=some o:=by
  unfold ie
  rw[GO _ _ _ (by rw[D9,size_push'];exact eI (qA dr)),Ru _ _ _ _ (eI dr),GO _ _ _ (eI dr)]
  exact hb
 rw[h_ (eI (qA dr)) (dc e)]
 exact e
theorem yJ(hl:s.heap.IsList l vs.toArray)(hsz:vs.length<=sizeLine)(hP:∀ v∈vs,P v)
  (hk:2<=vs.length->∀ (A':Around) (E':Value->Shared->Prop) (s':Shared),(∀ b o,s.heap.get? b=some o->s'.heap.get? b=some o)->∀ (Q:SortKind->Shared->Prop),Q κ s'->wpAny (model prog w) A' (keyKind' vs.toArray) Q E' s')
  (C:2<=vs.length->∀ (s':Shared),(∀ b o,s.heap.get? b=some o->s'.heap.get? b=some o)->lI prog w A.in1.in1 s' κ r P)
  (h:∀ (h':Heap) (out:List Value) (n:Nat),out.Perm vs->(out.Pairwise fun x y=>r x<=r y)->(∀ b o,s.heap.get? b=some o->h'.get? b=some o)->h'.get? (s.heap.objs.size+1)=some (seqObj "list" out.toArray n)->Q (.ref (s.heap.objs.size+1)) { s with heap:=h' }) :
  wpAny (model prog w) A (call (.builtin "sorted") [.ref l]) Q E s:=by
 refine Calls.call_function_entry kind_sorted plain_sorted entry_sorted (args_sorted1 _) ?_
 unfold Builtin.«sorted»
 refine ah (m:=checkCount "sorted" 1 1 _) (aI ?_)
 refine ah (collect_list hl ?_ hsz)
 refine ah (wpAny_newList ?_ (by simpa using hsz))
 have XC:((s.heap.push (seqObj "list" #[] 0)).update s.heap.objs.size (Obj.mapSeq (· ++ vs.toArray))).objs.size=s.heap.objs.size+1:=by
  rw[D9,size_push']
 have vt:(ie s.heap vs).get? (s.heap.objs.size+1)=some (seqObj "list" vs.toArray 0):=by
  unfold ie
  rw[<- XC];exact g9 _ rfl
 show wpAny _ _ _ _ _ { s with heap:=ie s.heap vs }
 rw[XC]
 refine ah (wpAny_holding (wpAny_call_entry slot_list_sort ⟨_,vt,rfl⟩ entry_list_sort (gh (r:=r) (s:={ s with heap:=ie s.heap vs }) vt hsz hP
  (fun h2=>hk h2 _ _ _ fun b o e=>lF e) (fun h2=>?_) fun out a1 a2=>⟨_,rfl,?_⟩) (args_list_sort _)))
 ·exact C h2 _ fun b o e=>lF e
 ·obtain⟨n,e⟩:=sortedAll_at s.heap vs out
  refine aI ⟨_,rfl,h (sortedAll s.heap vs out) out.toList n a1 a2 (fun b o e=>sortedAll_old e) (by rw[O0];exact e)⟩
end
end xk
namespace L2
open PySem PySem.Spec PyProof.Rows
def qc:Key->Key->Bool
 |.inl i,.inl j=>decide (i<j)
 |.inr x,.inr y=>pE x y
 |_,_=>false
def gi:List Key->List Key->Bool
 |a :: as,b :: bs=>if a=b then gi as bs else qc a b
 |_,_=>false
def qf:Key->Bool
 |.inl _=>true
 |.inr _=>false
def iq(k:List Key):List Bool:=k.map qf
theorem Dr(x:Str):pE x x=false:=by unfold pE;simp[List.lt_irrefl]
theorem EY(h:pE x y=true)(g:pE y z=true):pE x z=true:=by
 unfold pE at *
 simp only[decide_eq_true_eq] at *
 exact List.lt_trans h g
theorem yH{x y:Str}(h:x.cps.toList=y.cps.toList):x=y:=by
 cases x;cases y
 simp only at h
 rw[O1.mp h]
theorem Eh{x y:Str}(h:pE x y=false)(g:pE y x=false):x=y:=by
 unfold pE at *
 simp only[decide_eq_false_iff_not] at *
 apply yH
 exact List.le_antisymm (List.not_lt.mp g) (List.not_lt.mp h)
theorem xQ(a:Key):qc a a=false:=by cases a with|inl i=>simp[qc]|inr x=>exact Dr x
theorem GK(h:qc a b=true)(g:qc b c=true):qc a c=true:=by
 cases a<;>cases b<;>cases c<;>simp only[qc,decide_eq_true_eq] at *<;>first|lia|contradiction|exact EY h g
theorem Ex(e:qf a=qf b)(h:qc a b=false)(g:qc b a=false):a=b:=by
 cases a<;>cases b<;>simp only[qc,qf,decide_eq_false_iff_not] at *
 ·congr 1;lia
 ·cases e
 ·cases e
 ·congr 1;exact Eh h g
theorem oO:∀ a:List Key,gi a a=false
 |[]=>rfl
 |a :: as=>by unfold gi;rw[if_pos rfl];exact oO as
theorem wG:∀ {a b c:List Key},gi a b=true->gi b c=true->gi a c=true
 |[],_,_,h,_=>by simp[gi] at h
 |_ :: _,[],_,h,_=>by simp[gi] at h
 |_ :: _,_ :: _,[],_,g=>by simp[gi] at g
 |a :: as,b :: bs,c :: cs,h,g=>by
  unfold gi at h g ⊢
  by_cases e1:a=b
  ·subst e1
   rw[if_pos rfl] at h
   by_cases e2:a=c
   ·subst e2
    rw[if_pos rfl] at g ⊢
    exact wG h g
   ·rw[if_neg e2] at g ⊢
    exact g
  ·rw[if_neg e1] at h
   by_cases e2:b=c
   ·subst e2
    rw[if_neg e1]
    exact h
   ·rw[if_neg e2] at g
    have t:=GK h g
    have ne:a≠c:=fun e=>by subst e;rw[xQ] at t;cases t
    rw[if_neg ne]
    exact t
theorem oE:∀ {a b:List Key},iq a=iq b->gi a b=false->gi b a=false->a=b
 |[],[],_,_,_=>rfl
 |[],_ :: _,e,_,_=>by simp[iq] at e
 |_ :: _,[],e,_,_=>by simp[iq] at e
 |a :: as,b :: bs,e,h,g=>by
  simp only[iq,fT,List.cons.injEq] at e
  unfold gi at h g
  by_cases e1:a=b
  ·subst e1
   rw[if_pos rfl] at h g
   rw[oE (show iq as=iq bs from e.2) h g]
  ·rw[if_neg e1] at h
   rw[if_neg (Ne.symm e1)] at g
   exact absurd (Ex e.1 h g) e1
theorem count_le(p q:α->Bool):∀ (l:List α),(∀ x∈l,p x=true->q x=true)->l.countP p<=l.countP q
 |[],_=>bS _
 |x :: l,h=>by
  have ih:=count_le p q l fun y hy=>h y (de _ hy)
  have h1:=h x df
  rw[OG,OG]
  cases hp:p x<;>cases hq:q x<;>simp_all<;>lia
theorem t_(p q:α->Bool)(a:α)(ha:p a=false)(hb:q a=true):∀ (l:List α),a∈l->(∀ x∈l,p x=true->q x=true)->l.countP p<l.countP q
 |[],m,_=>by cases m
 |x :: l,m,h=>by
  rw[OG,OG]
  rcases dA.mp m with rfl|m
  ·have:=count_le p q l fun y hy=>h y (de _ hy)
   rw[ha,hb];simp;lia
  ·have ih:=t_ p q a ha hb l m fun y hy=>h y (de _ hy)
   have h1:=h x df
   cases hp:p x<;>cases hq:q x<;>simp_all<;>lia
def zS(L:List (List Key))(k:List Key):Int:=(L.countP fun j=>gi j k:Nat)
theorem qY(e:iq a=iq b)(ma:a∈L):decide (zS L a<zS L b)=gi a b:=by
 unfold zS
 cases h:gi a b with
 |true =>
  have:=t_ (fun j=>gi j a) (fun j=>gi j b) a (oO a) h L ma fun x _ hx=>wG hx h
  exact decide_eq_true (by lia)
 |false =>
  apply decide_eq_false
  cases g:gi b a with
  |false=>rw[oE e h g];lia
  |true =>
   have:=count_le (fun j=>gi j b) (fun j=>gi j a) L fun x _ hx=>wG hx g
   lia
def Tg:V->Option Key
 |.int i=>some (.inl i)
 |.str x=>some (.inr x)
 |_=>none
theorem Ir(k:Key):Tg (kV k)=some k:=by cases k<;>rfl
theorem Bl:∀ k:List Key,(k.map kV).filterMap Tg=k
 |[]=>rfl
 |a :: as=>by rw[fT,yn,Ir,Bl as]
def mL(H:Hp):Value->List Key
 |.ref b=>match H b with
  |some (.tup xs)=>xs.filterMap Tg
  |_=>[]
 |_=>[]
theorem cI(h:H b=some (.tup (k.map kV))):mL H (.ref b)=k:=by
 simp only[mL,h];exact Bl k
section
variable {prog:Program}{w:World}{A:Around}{E:Value->Shared->Prop}{s:Shared}{Q:Bool->Shared->Prop}
theorem Fg(ru:RelV (kV a) u)(rv:RelV (kV b) v)(e:qf a=qf b)(q:Q (qc a b) s):wpAny (model prog w) A (oneLt' false u v) Q E s:=by
 refine PySem.W.kat_one u v ?_
 cases a with
 |inl i =>
  cases b with
  |inr x=>cases e
  |inl j =>
   obtain⟨t,rfl⟩:=ru
   obtain⟨t',rfl⟩:=rv
   exact lt_int q
 |inr x =>
  cases b with
  |inl j=>cases e
  |inr y =>
   obtain⟨t,rfl⟩:=ru
   obtain⟨t',rfl⟩:=rv
   exact PySem.P.lt_str q
theorem Fz(ru:RelV (kV a) u)(rv:RelV (kV b) v)(e:qf a=qf b)(q:Q (decide (a=b)) s):wpAny (model prog w) A (eqBool u v) Q E s:=by
 cases a with
 |inl i =>
  cases b with
  |inr x=>cases e
  |inl j =>
   obtain⟨t,rfl⟩:=ru
   obtain⟨t',rfl⟩:=rv
   refine wpAny_eqBool_int ?_
   rw[<- Vz];exact q
 |inr x =>
  cases b with
  |inl j=>cases e
  |inr y =>
   obtain⟨t,rfl⟩:=ru
   obtain⟨t',rfl⟩:=rv
   refine wpAny_eqBool_str ?_
   rw[<- VA];exact q
theorem zu(k m:List Key)(us vs:List Value)(i:Nat)(ha:Vals (k.map kV) us)(hb:Vals (m.map kV) vs)(e:iq k=iq m)(hf:fin=false)(q:Q (gi k m) s) :
  PySem.W.KatLex prog w A true fin Q (us.zip vs) i s:=by
 induction k generalizing m us vs i with
 |nil =>
  cases m with
  |cons b m=>simp[iq] at e
  |nil =>
   rw[Paired.n0 ha,Paired.n0 hb]
   subst hf
   exact PySem.W.kat_nil q
 |cons a k ih =>
  cases m with
  |nil=>simp[iq] at e
  |cons b m =>
   obtain⟨u,us,rfl,ra,rk⟩:=Paired.c ha
   obtain⟨v,vs,rfl,rb,rm⟩:=Paired.c hb
   simp only[iq,fT,List.cons.injEq] at e
   rw[GB]
   refine PySem.W.kat_cons (Fz ra rb e.1 (PySem.W.kat_go (fun h=>PySem.W.kat_yes ?_) (fun h=>PySem.W.kat_no ?_)))
   ·have h:=of_decide_eq_true h
    subst h
    unfold gi at q
    rw[if_pos rfl] at q
    exact ih m _ _ (i+1) rk rm e.2 q
   ·have h:=of_decide_eq_false h
    unfold gi at q
    rw[if_neg h] at q
    by_cases h0:i=0
    ·subst h0
     cases a with
     |inr x =>
      cases b with
      |inl j=>cases e.1
      |inr y =>
       obtain⟨t,rfl⟩:=ra
       obtain⟨t',rfl⟩:=rb
       exact oneLt_str q
     |inl i =>
      cases b with
      |inr x=>cases e.1
      |inl j =>
       obtain⟨t,rfl⟩:=ra
       obtain⟨t',rfl⟩:=rb
       exact oneLt_int q
    ·rw[show(true && i == 0)=false by simp[h0]]
     exact Fg ra rb e.1 q
end
section
variable {X:Cx}{pins:List (Addr × Obj)}{σ:St}{H:Hp}{s:Shared}
theorem Inv.tup(I:Inv X pins σ H s)(h:H b=some (.tup xs)):∃ its:List Value,Vals xs its/\IsTup s.heap b its.toArray:=(I.aC b _ h).2
theorem uC(I:Inv X pins σ H s)(kp:∀ b o,s.heap.get? b=some o->s'.heap.get? b=some o) :
  xk.lI X.prog X.w A s' (tuples' true) (fun v=>zS L (mL H v)) (fun v=>∃ b k,v=.ref b/\H b=some (.tup (k.map kV))/\iq k=b0 :: sh/\k∈L):=by
 rintro x y ⟨b,k,rfl,hb,hk,mk⟩ ⟨c,m,rfl,hc,hm,mm⟩ Q E q
 obtain⟨us,ru,o,e1,c1,n1,d1⟩:=I.tup hb
 obtain⟨vs,rv,o',e2,c2,n2,d2⟩:=I.tup hc
 have Ti:iq k=iq m:=hk.trans hm.symm
 simp only[cI hb,cI hc] at q
 rw[qY Ti mk] at q
 refine PySem.W.kat_lt (kp _ _ e1) d1 (kp _ _ e2) d2 (zu k m us vs 0 ru rv Ti ?_ q)
 ·have h1:=ru.length
  have h2:=rv.length
  have h3:k.length=m.length:=by
   have:=congrArg List.length Ti
   simpa[iq] using this
  simp only[bT] at h1 h2
  exact decide_eq_false (by simp only[gy];lia)
theorem kat_tups(I:Inv X pins σ H s){s':Shared}(kp:∀ b o,s.heap.get? b=some o->s'.heap.get? b=some o){b0:Bool}{sh:List Bool}{ys:List V}{ks:List (List Key)}{vs:List Value}(ht:b7 H ys ks)(hv:Vals ys vs)(hs:∀ k∈ks,iq k=b0 :: sh) :
  ∃ fs:List Value,PySem.W.KatTups s'.heap vs fs/\fs.length=vs.length/\∀ f∈fs,(b0=true->∃ i t,f=Value.int i t)/\(b0=false->∃ x t,f=Value.str x t):=by
 induction ys generalizing ks vs with
 |nil =>
  rw[Paired.n0 hv]
  exact⟨[],.nil,rfl,by simp⟩
 |cons y ys ih =>
  obtain⟨k,ks,rfl,⟨b,rfl,hb⟩,t⟩:=Paired.c ht
  obtain⟨v,vs,rfl,rfl,rs⟩:=Paired.c hv
  obtain⟨fs,f1,f2,f3⟩:=ih t rs fun j hj=>hs j (de _ hj)
  have hk:=hs k df
  obtain⟨us,ru,o,e1,c1,n1,d1⟩:=I.tup hb
  cases k with
  |nil=>simp[iq] at hk
  |cons a k =>
   obtain⟨u,us,rfl,ra,rr⟩:=Paired.c ru
   simp only[iq,fT,List.cons.injEq] at hk
   refine⟨u :: fs,.cons (kp _ _ e1) c1 d1 rfl f1,by simp[f2],fun f hf=>?_⟩
   rcases dA.mp hf with rfl|hf
   ·cases a with
    |inr x =>
     obtain⟨tk,rfl⟩:=ra
     exact⟨(fun z=>by rw[<- hk.1] at z;cases z),fun _=>⟨_,_,rfl⟩⟩
    |inl i =>
     obtain⟨tk,rfl⟩:=ra
     exact⟨fun _=>⟨_,_,rfl⟩,fun z=>by rw[<- hk.1] at z;cases z⟩
   ·exact f3 f hf
end
def uD(K:PySem.W.Frag):List V->Hp->VK->Prop:=fun xs H Q=>match xs with
 |[.ref p]=>∃ ys ks sh,eM K H p ys/\b7 H ys ks/\(∀ k∈ks,iq k=true :: sh) /\
   ∀ zs ms l,b7 H zs ms->ms.Perm ks->(ms.Pairwise fun a b=>gi b a=false)->H l=none->Q (.ref l) (upd H l (.lst zs))
 |_=>False
theorem b7.keys(h:b7 H ys ks)(hv:Vals ys vs):vs.map (mL H)=ks/\∀ v∈vs,∃ b k,v=.ref b/\H b=some (.tup (k.map kV))/\k∈ks:=by
 induction ys generalizing ks vs with
 |nil=>rw[Paired.n0 hv,show ks=[] from Paired.n0 h];exact⟨rfl,by simp⟩
 |cons y ys ih =>
  obtain⟨k,ks,rfl,⟨b,rfl,g⟩,t⟩:=Paired.c h
  obtain⟨v,vs,rfl,rfl,rs⟩:=Paired.c hv
  obtain⟨e,m⟩:=ih t rs
  refine⟨by rw[fT,cI g,e],fun v hv=>?_⟩
  rcases dA.mp hv with rfl|hv
  ·exact⟨b,k,rfl,g,df⟩
  ·obtain⟨b',k',e1,e2,e3⟩:=m v hv
   exact⟨b',k',e1,e2,de _ e3⟩
theorem b7.of{H:Hp}{ks:List (List Key)}(vs:List Value)(h:∀ v∈vs,∃ b k,v=Value.ref b/\H b=some (.tup (k.map kV))/\k∈ks):∃ zs,b7 H zs (vs.map (mL H))/\Vals zs vs:=by
 induction vs with
 |nil=>exact⟨[],.nil,.nil⟩
 |cons v vs ih =>
  obtain⟨zs,a,c⟩:=ih fun u hu=>h u (de _ hu)
  obtain⟨b,k,rfl,e,_⟩:=h v df
  exact⟨.ref b :: zs,.cons ⟨b,rfl,by rw[cI e];exact e⟩ a,.cons rfl c⟩
section
variable {X:Cx}
theorem vI:kS X (.builtin "sorted") (uD X.K):=by
 intro pins s σ H xs us Q I r h
 unfold uD at h
 split at h
 ·rename_i p
  obtain⟨ys,ks,sh,hl,ht,hs,q⟩:=h
  obtain⟨u,rfl,ru⟩:=Vals.one r
  cases ru
  obtain⟨vs,rv,pl,hz⟩:=I.list hl
  obtain⟨ek,mem⟩:=ht.keys rv
  have hlen:=rv.length
  refine xk.yJ (κ:=tuples' true) (r:=fun v=>zS ks (mL H v)) (P:=fun v=>∃ b k,v=.ref b/\H b=some (.tup (k.map kV))/\iq k=true :: sh/\k∈ks) pl.isList (by lia) (fun v hv=>?_) (fun h2 A' E' s' kp Q' q'=>?_) (fun h2 s' kp=>uC I kp) fun h' out n pm pw kp eo=>?_
  ·obtain⟨b,k,e1,e2,e3⟩:=mem v hv
   exact⟨b,k,e1,e2,hs k e3,e3⟩
  ·obtain⟨fs,f1,f2,f3⟩:=kat_tups I kp ht rv hs
   refine PySem.W.kat_kind (T:=.type "int") f1 (by lia) (fun f hf=>?_) (by decide) q'
   obtain⟨i,t,rfl⟩:=(f3 f hf).1 rfl
   exact .now
  ·obtain⟨zs,z1,z2⟩:=b7.of (H:=H) (ks:=ks) out fun v hv=>mem v (pm.mem_iff.mp hv)
   have zl:=z2.length
   have ol:=pm.length_eq
   have Qa:(out.map (mL H)).Perm ks:=by rw[<- ek];exact pm.map _
   refine⟨.ref (s.heap.objs.size+1),_,I.laid (a:=s.heap.objs.size+1) (t':=s.toks) kp (Cb _) (show eJ X.prog X.w _ h' _ (.lst zs) from⟨by lia,out,n,z2,eo⟩),rfl,
    q zs _ _ z1 Qa ?_ (I.aC.fresh (Cb _))⟩
   rw[qq]
   refine pw.imp_of_mem fun {x y} mx my hle=>?_
   obtain⟨b,k,rfl,hb,kk⟩:=mem x (pm.mem_iff.mp mx)
   obtain⟨c,m,rfl,hc,km⟩:=mem y (pm.mem_iff.mp my)
   rw[cI hb,cI hc] at *
   have:=qY (L:=ks) ((hs m km).trans (hs k kk).symm) km
   rw[<- this]
   exact decide_eq_false (by lia)
 ·exact h.elim
end
end L2
namespace xk
open PySem PyProof.Rows
section
variable {prog:Program}{w:World}{A:Around}{E:Value->Shared->Prop}{s:Shared}{κ:SortKind}{r:Value->Int}{P:Value->Prop}
theorem qK{T:String}{r d:Addr}{n:Nat}{P:Nat->Value->Prop}{OK:Heap->Prop}{R:Result->Shared->Prop}(K:PySem.W.KdlSrc prog w T r d n P OK)(hh:A.handled=none)(aC:OK s.heap)(hn:n<=sizeLine)
  (hR:∀ h' tk acc c,(∀ b o,s.heap.get? b=some o->h'.get? b=some o)->h'.get? s.heap.objs.size=some { cls:=.type "list",data:=.seq acc c }->ItemsOf P acc n->R (.ok (.ret (.ref s.heap.objs.size))) { s with heap:=h',toks:=tk }) :
  codeAny (model prog w) A (.builtin "proto.collect" ⟨[.ref r],[]⟩) R s:=by
 have XD:=K.there _ aC
 have hS:(s.heap.push { cls:=.type "list",data:=.seq ([]:List Value).toArray }).get? s.heap.objs.size=some { cls:=.type "list",data:=.seq ([]:List Value).toArray }:=g9 _ rfl
 refine codeAny_builtin F.entry_proto_collect ?_
 rw[Around.under_plainId F.plain_proto_collect _]
 show wpAny _ A.in1 (newList [] >>= fun l=>again (.builtin "list.__iadd__" ⟨[l,.ref r],[]⟩)) _ _ s
 refine ah (wpAny_newObj_type ?_)
 refine aI ⟨plainId_quiet F.plain_list_iadd _,codeAny_builtin F.entry_list_iadd ?_⟩
 rw[Around.under_plainId F.plain_list_iadd _]
 show wpAny _ A.in1 (Builtin.List.listExtendWith (.ref s.heap.objs.size) (.ref r) (.ref s.heap.objs.size)) _ _ _
 exact PySem.W.kdl_extend (R:=R) (s:={ s with heap:=s.heap.push { cls:=.type "list",data:=.seq ([]:List Value).toArray } }) K hh (K.keep _ _ aC fun b _ o e=>eL _ e) s.heap.objs.size (yA XD.1) (yA XD.2) _ 0 hS
  (fun h' tk mG c' kp eo ia=>hR h' tk mG c' (fun b o e=>kp b o (eI (dc e)) (eL _ e)) eo ia) hn
theorem tO{T:String}{r d:Addr}{n:Nat}{P:Nat->Value->Prop}{OK:Heap->Prop}{Q:List Value->Shared->Prop}(K:PySem.W.KdlSrc prog w T r d n P OK)(hh:A.handled=none)(aC:OK s.heap)(hn:n<=sizeLine)
  (hQ:∀ h' tk acc,(∀ b o,s.heap.get? b=some o->h'.get? b=some o)->s.heap.objs.size<=h'.objs.size->ItemsOf P acc n->Q acc.toList { s with heap:=h',toks:=tk }):wpAny (model prog w) A (collect (.ref r)) Q E s:=by
 unfold collect
 refine ah (wpAny_runValue (qK K hh aC hn fun h' tk acc c kp eo ia=>?_))
 show wpAny _ A (load s.heap.objs.size >>= _) _ _ { s with heap:=h',toks:=tk }
 refine ah (wpAny_load eo ?_)
 exact aI (hQ h' tk acc kp (kQ (dc eo)) ia)
theorem vL{R:List Value->Prop}
  (Tj:∀ (A':Around) (E':Value->Shared->Prop) (Q':List Value->Shared->Prop),A'.handled=A.handled->(∀ vs h1 tk,R vs->(∀ b o,s.heap.get? b=some o->h1.get? b=some o)->s.heap.objs.size<=h1.objs.size->Q' vs { s with heap:=h1,toks:=tk })->wpAny (model prog w) A' (collect v) Q' E' s)
  (hsz:∀ vs,R vs->vs.length<=sizeLine) (hP:∀ vs,R vs->∀ v∈vs,P v)
  (hk:∀ vs,R vs->2<=vs.length->∀ (A':Around) (E':Value->Shared->Prop) (s':Shared),(∀ b o,s.heap.get? b=some o->s'.heap.get? b=some o)->∀ (Q:SortKind->Shared->Prop),Q κ s'->wpAny (model prog w) A' (keyKind' vs.toArray) Q E' s')
  (C:∀ (s':Shared),(∀ b o,s.heap.get? b=some o->s'.heap.get? b=some o)->lI prog w A.in1.in1 s' κ r P)
  (h:∀ (vs:List Value) (h':Heap) (a:Addr) (out:List Value) (n tk:Nat),R vs->out.Perm vs->(out.Pairwise fun x y=>r x<=r y)->(∀ b o,s.heap.get? b=some o->h'.get? b=some o)->s.heap.objs.size<=a->h'.get? a=some (seqObj "list" out.toArray n)->Q (.ref a) { s with heap:=h',toks:=tk }) :
  wpAny (model prog w) A (call (.builtin "sorted") [v]) Q E s:=by
 refine Calls.call_function_entry kind_sorted plain_sorted entry_sorted (args_sorted1 _) ?_
 unfold Builtin.«sorted»
 refine ah (m:=checkCount "sorted" 1 1 _) (aI ?_)
 refine ah (Tj _ _ _ rfl fun vs h1 tk hR kp hz=>?_)
 have z0:=hsz vs hR
 refine ah (wpAny_newList ?_ (by simpa using z0))
 have vt:(h1.push (seqObj "list" vs.toArray 0)).get? h1.objs.size=some (seqObj "list" vs.toArray 0):=g9 _ rfl
 have old:∀ b o,s.heap.get? b=some o->(dw (h1.push (seqObj "list" vs.toArray 0)) h1.objs.size vs).get? b=some o:=fun b o e=>by
  have dr:b<h1.objs.size:=dc (kp b o e)
  rw[h_ (eI dr) (by rw[size_push'];exact qA dr)]
  exact eL _ (kp b o e)
 show wpAny _ _ _ _ _ { s with heap:=h1.push (seqObj "list" vs.toArray 0),toks:=tk }
 refine ah (wpAny_holding (wpAny_call_entry slot_list_sort ⟨_,vt,rfl⟩ entry_list_sort (gh (r:=r) (s:={ s with heap:=h1.push (seqObj "list" vs.toArray 0),toks:=tk }) vt z0 (hP vs hR)
  (fun h2=>hk vs hR h2 _ _ _ old) (fun h2=>C _ old) fun out a1 a2=>⟨_,rfl,?_⟩) (args_list_sort _)))
 obtain⟨n,e⟩:=sortedHeap_at (out:=out) vt
 refine aI ⟨_,rfl,h vs _ h1.objs.size out.toList n tk hR a1 a2 (fun b o e=>?_) hz (by rw[O0];exact e)⟩
 have dr:b<h1.objs.size:=dc (kp b o e)
 rw[sortedHeap_old (eI dr) (by rw[size_push'];exact qA dr)]
 exact eL _ (kp b o e)
end
end xk
namespace L2
open PySem PySem.Spec PyProof.Rows
def qt:Value->List Key
 |.int i _=>[.inl i]
 |.str x _=>[.inr x]
 |_=>[]
theorem rZ(h:RelV (kV k) v):qt v=[k]:=by
 cases k with
 |inl i=>obtain⟨t,rfl⟩:=h;rfl
 |inr x=>obtain⟨t,rfl⟩:=h;rfl
theorem wL:gi [a] [b]=qc a b:=by
 unfold gi
 by_cases e:a=b
 ·subst e;rw[if_pos rfl,xQ];rfl
 ·rw[if_neg e]
theorem zc{prog:Program}{w:World}{A:Around}{s:Shared}{b:Bool}{L:List Key} :
  xk.lI prog w A s oneType' (fun v=>zS (L.map fun k=>[k]) (qt v)) (fun v=>∃ k,RelV (kV k) v/\qf k=b/\k∈L):=by
 rintro x y ⟨k,rk,ik,mk⟩ ⟨m,rm,im,mm⟩ Q E q
 simp only[rZ rk,rZ rm] at q
 rw[qY (by simp[iq,ik,im]) (dk.mpr ⟨k,mk,rfl⟩),wL] at q
 rw[keyLt'_oneType]
 cases k with
 |inl i =>
  cases m with
  |inr y=>rw[<- im] at ik;cases ik
  |inl j =>
   obtain⟨t,rfl⟩:=rk
   obtain⟨u,rfl⟩:=rm
   exact oneLt_int q
 |inr x =>
  cases m with
  |inl y=>rw[<- im] at ik;cases ik
  |inr j =>
   obtain⟨t,rfl⟩:=rk
   obtain⟨u,rfl⟩:=rm
   exact oneLt_str q
theorem ints_of{ks:List Key}{vs:List Value}(r:Vals (ks.map kV) vs)(h:∀ k∈ks,qf k=true):∃ ns,IntsAre vs ns:=by
 induction ks generalizing vs with
 |nil=>rw[Paired.n0 r];exact⟨[],.nil⟩
 |cons k ks ih =>
  obtain⟨v,vs,rfl,r,rs⟩:=Paired.c r
  obtain⟨ns,q⟩:=ih rs fun j hj=>h j (de _ hj)
  have:=h k df
  cases k with
  |inr x=>cases this
  |inl i=>obtain⟨t,rfl⟩:=r;exact⟨_,.cons i t q⟩
theorem Ec{ks:List Key}{vs:List Value}(r:Vals (ks.map kV) vs)(h:∀ k∈ks,qf k=false):∃ ns,StrsAre vs ns:=by
 induction ks generalizing vs with
 |nil=>rw[Paired.n0 r];exact⟨[],.nil⟩
 |cons k ks ih =>
  obtain⟨v,vs,rfl,r,rs⟩:=Paired.c r
  obtain⟨ns,q⟩:=ih rs fun j hj=>h j (de _ hj)
  have:=h k df
  cases k with
  |inl x=>cases this
  |inr i=>obtain⟨t,rfl⟩:=r;exact⟨_,.cons i t q⟩
theorem x_{prog:Program}{w:World}{A:Around}{E:Value->Shared->Prop}{s:Shared}{b:Bool}{ks:List Key}{vs:List Value}(r:Vals (ks.map kV) vs)(h:∀ k∈ks,qf k=b)(h2:2<=vs.length){Q:SortKind->Shared->Prop}(q:Q oneType' s) :
  wpAny (model prog w) A (keyKind' vs.toArray) Q E s:=by
 match vs,h2 with
 |v1 :: v2 :: vs,_ =>
  cases b with
  |true=>obtain⟨ns,hI⟩:=ints_of r h;rw[keyKind_ints hI];exact aI q
  |false=>obtain⟨ns,hI⟩:=Ec r h;rw[keyKind_strs hI];exact aI q
theorem mem_keys{ks:List Key}{vs:List Value}(r:Vals (ks.map kV) vs)(v:Value)(h:v∈vs):∃ k,RelV (kV k) v/\k∈ks:=by
 induction ks generalizing vs with
 |nil=>rw[Paired.n0 r] at h;cases h
 |cons k ks ih =>
  obtain⟨u,vs,rfl,r,rs⟩:=Paired.c r
  rcases dA.mp h with rfl|h
  ·exact⟨k,r,df⟩
  ·obtain⟨j,a,b⟩:=ih rs h
   exact⟨j,a,de _ b⟩
theorem keys_map{ks:List Key}{vs:List Value}(r:Vals (ks.map kV) vs):vs.map qt=ks.map fun k=>[k]:=by
 induction ks generalizing vs with
 |nil=>rw[Paired.n0 r];rfl
 |cons k ks ih =>
  obtain⟨u,vs,rfl,r,rs⟩:=Paired.c r
  rw[fT,fT,rZ r,ih rs]
theorem xj{ks:List Key}(vs:List Value)(h:∀ v∈vs,∃ k,RelV (kV k) v/\k∈ks):∃ ms:List Key,Vals (ms.map kV) vs:=by
 induction vs with
 |nil=>exact⟨[],.nil⟩
 |cons v vs ih =>
  obtain⟨ms,r⟩:=ih fun u hu=>h u (de _ hu)
  obtain⟨k,rk,_⟩:=h v df
  exact⟨k :: ms,.cons rk r⟩
theorem yX:∀ {ms ks:List Key},(ms.map fun k=>[k]).Perm (ks.map fun k=>[k])->ms.Perm ks:=fun {ms ks} h=>by
 have:=h.map (fun l:List Key=>l.head?)
 simp only[i9] at this
 have e:∀ l:List Key,l.map ((fun l:List Key=>l.head?) ∘ fun k=>[k])=l.map some:=fun l=>GA fun _ _=>rfl
 rw[e,e] at this
 have:=this.filterMap id
 simpa using this
section
variable {X:Cx}
def uA(K:PySem.W.Frag):List V->Hp->VK->Prop:=fun xs H Q=>match xs with
 |[.ref p]=>∃ ks b,(eM K H p (ks.map kV)\/∃ kvs,Rd H p (.dK kvs)/\ks=kvs.map (·.1))/\(∀ k∈ks,qf k=b) /\
   ∀ (ms:List Key) (l:Addr),ms.Perm ks->(ms.Pairwise fun a b=>qc b a=false)->H l=none->Q (.ref l) (upd H l (.lst (ms.map kV)))
 |_=>False
theorem vN (hc:X.calm=true):kS X (.builtin "sorted") (uA X.K):=by
 intro pins s σ H xs us Q I r h
 unfold uA at h
 split at h
 ·rename_i p
  obtain⟨ks,b,hl,hb,q⟩:=h
  obtain⟨u,rfl,ru⟩:=Vals.one r
  cases ru
  have hsz:ks.length<=sizeLine:=by
   rcases hl with hl|⟨kvs,e,rfl⟩
   ·obtain⟨vs,rv,pl,hz⟩:=I.list hl
    simpa using hz
   ·obtain⟨z,_⟩:=(show eJ X.prog X.w H s.heap p (.dK kvs) from I.rd e)
    simpa using z
  refine xk.vL (κ:=oneType') (R:=fun vs=>Vals (ks.map kV) vs) (r:=fun v=>zS (ks.map fun k=>[k]) (qt v)) (P:=fun v=>∃ k,RelV (kV k) v/\qf k=b/\k∈ks) (fun A' E' Q' hA hQ=>?_) (fun vs rv=>?_) (fun vs rv v hv=>?_)
   (fun vs rv h2 A' E' s' kp Q' q'=>x_ rv hb h2 q') (fun s' kp=>zc) fun vs h' a out n tk rv pm pw kp ha eo=>?_
  ·rcases hl with hl|⟨kvs,e,rfl⟩
   ·obtain⟨vs,rv,pl,hz⟩:=I.list hl
    refine collect_list pl.isList (hQ vs _ s.toks rv (fun b o e=>?_) ?_) (by have:=rv.length;lia)
    ·rw[Ru _ _ _ _ (eI (dc e))]
     exact eL _ e
    ·rw[D9,size_push'];exact Cb _
   ·obtain⟨z,y,vs,rel,dd⟩:=(show eJ X.prog X.w H s.heap p (.dK kvs) from I.rd e)
    obtain⟨ep,da⟩:=dd.dictAt
    have hlen:vs.length=kvs.length:=rel.length.symm
    refine xk.tO (PySem.W.kdl_dict (knd:=jS X.prog X.w) (kvs:=vs) (ep:=ep) y) (hA.trans (I.ok.hd hc)) da (by lia) fun h' tk acc kp hz sD=>hQ _ h' tk ?_ kp hz
    have go:∀ {l1:List (Key × V)} {l2:List (Key × Value)} (ac:List Value),KV l1 l2->ac.length=l2.length->(∀ (i:Nat) (v:Value),ac[i]? = some v->∃ k x,l2[i]? = some (k,x)/\EF k v=true)->Vals ((l1.map (·.1)).map kV) ac:=by
     intro l1 l2 ac rl
     induction rl generalizing ac with
     |nil=>intro hl _;cases ac with
      |nil=>exact .nil
      |cons _ _=>cases hl
     |@cons p1 q1 l1 l2 r1 rs ih =>
      intro hl hi
      cases ac with
      |nil=>cases hl
      |cons v ac =>
       obtain⟨k,x,e1,e2⟩:=hi 0 v rfl
       simp only[Ri,Option.some.injEq] at e1
       subst e1
       refine .cons ?_ (ih ac (by simpa using hl) fun i v h=>hi (i+1) v (by simpa using h))
       have Tn:p1.1=k:=r1.1
       show RelV (kV p1.1) v
       rw[Tn]
       rcases vk e2 with⟨i,t,rfl,rfl⟩|⟨x,t,rfl,rfl⟩<;>exact⟨t,rfl⟩
    exact go acc.toList rel (by rw[vi];exact sD.1) fun i v h=>sD.2 i v (by simpa using h)
  ·have:=rv.length
   rw[bT] at this
   lia
  ·obtain⟨k,rk,mk⟩:=mem_keys rv v hv
   exact⟨k,rk,hb k mk,mk⟩
  ·obtain⟨ms,rm⟩:=xj (ks:=ks) out fun v hv=>mem_keys rv v (pm.mem_iff.mp hv)
   have pk:ms.Perm ks:=yX (by rw[<- keys_map rm,<- keys_map rv];exact pm.map _)
   refine⟨.ref a,_,I.laid (a:=a) (t':=tk) kp ha (show eJ X.prog X.w _ h' _ (.lst (ms.map kV)) from⟨by rw[bT,pk.length_eq];exact hsz,out,n,rm,eo⟩),rfl,q ms _ pk ?_ (I.aC.fresh ha)⟩
   have XE:(out.map qt).Pairwise fun x y=>zS (ks.map fun k=>[k]) x<=zS (ks.map fun k=>[k]) y:=qq.mpr pw
   rw[keys_map rm,qq] at XE
   refine XE.imp_of_mem fun {x y} mx my hle=>?_
   have mx:=pk.mem_iff.mp mx
   have my:=pk.mem_iff.mp my
   rw[<- wL,<- qY (L:=ks.map fun k=>[k]) (by simp[iq,hb x mx,hb y my]) (dk.mpr ⟨y,my,rfl⟩)]
   exact decide_eq_false (by lia)
 ·exact h.elim
end
def jx:HO->Prop
 |.dK _=>True
 |.dT _=>True
 |_=>False
section
variable {X:Cx}{pins:List (Addr × Obj)}{σ:St}{H:Hp}{s:Shared}
theorem Inv.rD(I:Inv X pins σ H s)(e:H p=some u)(nt:∀ xs,u≠.tup xs)(no:∀ y,u≠.own y)(nf:∀ o w,X.kc p≠some (.dQ o w))(nb:∀ ps,X.kc p≠some (.qS ps))(new:eJ X.prog X.w (upd H p v) s.heap p v):Inv X pins σ (upd H p v) s:=by
 have ne:∀ {b:Addr},H b=none->b≠p:=fun h z=>by subst z;rw[e] at h;cases h
 have ht:∀ b xs,H b=some (.tup xs)->upd H p v b=some (.tup xs):=fun b xs q=>by
  rw[cc fun z=>by subst z;rw[e] at q;cases q;exact nt _ rfl];exact q
 refine⟨I.ok,I.os,I.bare,⟨I.base.keep,I.base.slot,fun b o q n hx=>?_,I.base.there,fun b xs q=>ht b xs (I.base.hG b xs q),fun b o w q=>?_,fun b ps q=>?_⟩,I.loc,I.cell,?_,fun x c q=>?_,fun q hq=>?_,fun b o q=>?_,I.len⟩
 ·have:=I.base.free b o q n hx
  rw[cc (ne this)];exact this
 ·rw[cc fun z=>by subst z;exact nf _ _ q];exact I.base.pj b o w q
 ·rw[cc fun z=>by subst z;exact nb _ q];exact I.base.qV b ps q
 ·rw[cc (ne I.free)];exact I.free
 ·rw[cc (ne (I.nh x c q))];exact I.nh x c q
 ·obtain⟨a,b,c⟩:=I.pin q hq
  exact⟨a,by rw[cc (ne b)];exact b,c⟩
 ·by_cases z:b=p
  ·subst z;rw[eR] at q;cases q;exact new
  ·rw[cc z] at q
   refine(I.aC b o q).fh (fun _ _ _ h=>h) (fun c h=>?_) ht
   rw[cc fun z=>by subst z;rw[e] at h;cases h;exact no _ rfl];exact h
theorem Inv.Gq(I:Inv X pins σ H s)(e:H p=some u)(hu:jx u):(∀ o w,X.kc p≠some (.dQ o w))/\∀ ps,X.kc p≠some (.qS ps) :=
 ⟨fun o w z=>by have:=I.base.pj p o w z;rw[e] at this;cases this;exact hu,fun ps z=>by obtain⟨m,this⟩:=I.base.qV p ps z;rw[e] at this;cases this;exact hu⟩
theorem Inv.freeze(I:Inv X pins σ H s)(e:H p=some u)(hu:jx u)(ho:s.heap.get? p=some o):Inv X pins σ (upd H p (.dQ o u)) s:=by
 obtain⟨nf,nb⟩:=I.Gq e hu
 refine I.rD e (fun xs z=>by subst z;exact hu) (fun y z=>by subst z;exact hu) nf nb ⟨ho,(I.aC p u e).fh (fun _ _ _ h=>h) (fun c h=>?_) fun c xs h=>?_⟩
 ·rw[cc fun z=>by subst z;rw[e] at h;cases h;exact hu];exact h
 ·rw[cc fun z=>by subst z;rw[e] at h;cases h;exact hu];exact h
theorem Inv.Qb(I:Inv X pins σ H s)(e:H p=some (.dQ o u))(nf:∀ o w,X.kc p≠some (.dQ o w))(nb:∀ ps,X.kc p≠some (.qS ps)):Inv X pins σ (upd H p u) s:=by
 have ob:eJ X.prog X.w H s.heap p (.dQ o u):=I.aC p _ e
 refine I.rD e (fun xs z=>nomatch z) (fun y z=>nomatch z) nf nb (ob.2.fh (fun _ _ _ h=>h) (fun c h=>?_) fun c xs h=>?_)
 ·rw[cc fun z=>by subst z;rw[e] at h;cases h];exact h
 ·rw[cc fun z=>by subst z;rw[e] at h;cases h];exact h
def BF(X:Cx)(N:St->Hp->Prop):St->Hp->Prop:=fun σ H=>N σ H\/∃ p u o,H p=some (.dQ o u)/\(∀ o w,X.kc p≠some (.dQ o w))/\(∀ ps,X.kc p≠some (.qS ps))/\N σ (upd H p u)
def To(X:Cx)(N:V->Hp->Prop):V->Hp->Prop:=fun v H=>N v H\/∃ p u o,H p=some (.dQ o u)/\(∀ o w,X.kc p≠some (.dQ o w))/\(∀ ps,X.kc p≠some (.qS ps))/\N v (upd H p u)
theorem DG{st:Stmt}(h:PS X st t):PS X st (fun D σ H=>t { D with nx:=BF X D.nx,bk:=BF X D.bk,ct:=BF X D.ct,rt:=To X D.rt } σ H):=by
 intro pins s σ H D I q
 refine b5 (h pins s σ H _ I q) fun f s1 z=>?_
 cases f with
 |next =>
  obtain⟨oa,H1,I1,n|⟨p,u,o,e,nf,nb,n⟩⟩:=z
  ·exact⟨oa,H1,I1,n⟩
  ·exact⟨oa,_,I1.Qb e nf nb,n⟩
 |cont =>
  obtain⟨oa,H1,I1,n|⟨p,u,o,e,nf,nb,n⟩⟩:=z
  ·exact⟨oa,H1,I1,n⟩
  ·exact⟨oa,_,I1.Qb e nf nb,n⟩
 |brk =>
  obtain⟨oa,H1,I1,n|⟨p,u,o,e,nf,nb,n⟩⟩:=z
  ·exact⟨oa,H1,I1,n⟩
  ·exact⟨oa,_,I1.Qb e nf nb,n⟩
 |ret v =>
  obtain⟨x1,oa,H1,I1,r1,n|⟨p,u,o,e,nf,nb,n⟩⟩:=z
  ·exact⟨x1,oa,H1,I1,r1,n⟩
  ·exact⟨x1,oa,_,I1.Qb e nf nb,r1,n⟩
end
def Fc(p:Addr)(o:Obj)(ks:List V):It :=
 ⟨fun i H=>i<ks.length/\∃ u,H p=some (.dQ o u),fun i H x H'=>H'=H/\ks[i]? = some x,fun i H=>i=ks.length/\∃ u,H p=some (.dQ o u)⟩
theorem xu{P:Program}{K:PySem.W.Frag}(p it:Addr)(hx:o.ExactDict)(hd:o.data=.dict es ep)(hl:es.size=ks.length)
  (hk:∀ (i:Nat) x,ks[i]? = some x->∃ e,es[i]? = some e/\RelV x e.key):Turn P w K tg (Fc p o ks) [it] it (fun i h=>h.IsKeyIter it p i es.size ep) where
 mem:=by simp
 obj:=fun i h st b hb=>by
  have e:b=it:=by simpa using hb
  subst e
  obtain⟨o,e,c,d⟩:=st
  exact⟨o,e,fun v z=>by rw[d] at z;cases z⟩
 keep:=fun i h h' st k=>st.at fun o e=>k it (by simp) o e
 item:=by
  intro X hP hw hK hc i pins s σ H E I hf st hg
  subst hP hw hK
  obtain⟨hi,u,Tp⟩:=hg
  have ob:eJ X.prog X.w H s.heap p (.dQ o u):=I.aC p _ Tp
  obtain⟨e,he,rk⟩:=hk i ks[i] (ve hi)
  obtain⟨f0,f1,f2,f3,f4,f5⟩:=hf it (by simp)
  have iE:i<es.size:=by lia
  have IB:es[i]=e:=by rw[sT iE] at he;exact Option.some.inj he
  refine uU st ⟨o,ob.1,hx,hd⟩ iE fun h' ag sb=>?_
  have I1:Inv X pins σ H { s with heap:=h' }:=I.turned (t':=s.toks) (fun b o hb e=>(sb.2 b hb).trans e) f0 f1 f3 f4 f5
  obtain⟨o2,e2,c2,d2⟩:=id ag
  exact⟨_,rfl,Pj (s:={ s with heap:=h' }) e2 c2 d2 (by decide) ⟨ks[i],H,I1,by rw[IB];exact rk,⟨rfl,ve hi⟩,ag,fun b hb=>(hf b hb).1⟩⟩
 done:=by
  intro X hP hw hK hc i pins s σ H E I hf st hg
  subst hP hw hK
  obtain⟨hi,u,Tp⟩:=hg
  have ob:eJ X.prog X.w H s.heap p (.dQ o u):=I.aC p _ Tp
  obtain⟨f0,f1,f2,f3,f4,f5⟩:=hf it (by simp)
  have iE:i=es.size:=by lia
  subst iE
  exact vd (I.ok.hd hc) st ⟨o,ob.1,hx,hd⟩ fun h' eb=>⟨rfl,I.turned (t':=s.toks) (fun b o hb e=>eb b o hb e) f0 f1 f3 f4 f5⟩
 self:=fun _ _ _ _ _ st h=>wpAny_pyIter_keyiter st h
theorem wy:∀ {el:List DictEntry} {vs:List (Key × Value)},Pairs (jS prog w) el vs->∀ {kvs:List (Key × V)},KV kvs vs->el.length=kvs.length/\∀ (i:Nat) x,(kvs.map fun kv=>kV kv.1)[i]? = some x->∃ e,el[i]? = some e/\RelV x e.key:=by
 intro el vs h
 induction h with
 |nil =>
  intro kvs r
  cases r
  exact⟨rfl,fun i x hx=>by simp at hx⟩
 |@cons e kv es vs hk hv _ ih =>
  intro kvs r
  cases r with
  |@cons p q l1 l2 r1 rs =>
   obtain⟨a,b⟩:=ih rs
   refine⟨by rw[oy,oy,a],fun i x hx=>?_⟩
   cases i with
   |zero =>
    simp only[fT,Ri,Option.some.injEq] at hx
    subst hx
    refine⟨e,rfl,?_⟩
    rw[r1.1]
    rcases vk hk with⟨i,t,e1,e2⟩|⟨x,t,e1,e2⟩<;>rw[e1,e2]<;>exact⟨t,rfl⟩
   |succ i=>exact b i x (by simpa using hx)
def n6(H:Hp)(u:HO)(ks:List V):Prop:=match u with
 |.dK kvs=>ks=kvs.map fun kv=>kV kv.1
 |.dT kvs=>b7 H ks (kvs.map (·.1))
 |_=>False
def Il(X:Cx)(tl:TE):TI:=fun σ H R=>tl σ H fun x H1=>∃ p u,x=.ref p/\jx u /\
 ((H1 p=some u/\∀ o ks,(∀ o' w,X.kc p≠some (.dQ o' w))->(∀ ps,X.kc p≠some (.qS ps))->n6 H1 u ks->R (Fc p o ks) (upd H1 p (.dQ o u)))\/∃ o,H1 p=some (.dQ o u)/\∀ ks,n6 H1 u ks->R (Fc p o ks) H1)
theorem uv{P:Program}(hu:jx u)(ob:eJ P w H h p u):∃ o es ep ks,h.get? p=some o/\o.ExactDict/\o.data=.dict es ep/\(p == sysModules)=false/\es.size=ks.length/\(∀ (i:Nat) x,ks[i]? = some x->∃ e,es[i]? = some e/\RelV x e.key)/\n6 H u ks:=by
 cases u with
 |dK kvs =>
  obtain⟨z,y,vs,rel,o,es,ep,h1,h2,h3,h4,h5,h6⟩:=ob
  obtain⟨a,b⟩:=wy h5 rel
  refine⟨o,es,ep,_,h1,h2,h3,y,?_,fun i x hx=>?_,rfl⟩
  ·rw[bT,<- a,vi]
  ·obtain⟨e,he,r⟩:=b i x hx
   exact⟨e,by rw[<- mw];exact he,r⟩
 |dT kvs =>
  obtain⟨z,y,ps,rel,o,es,ep,h1,h2,h3,h4,h5⟩:=ob
  obtain⟨ta,va⟩:=wR (prog:=P) (w:=w) rel
  refine⟨o,es,ep,_,h1,h2,h3,y,?_,fun i x hx=>?_,ta⟩
  ·have:=congrArg List.length h4
   rw[vi,bT] at this
   rw[this,bT]
  ·obtain⟨w,hw,kK⟩:=va.get hx
   rw[ox,<- h4,mw] at hw
   obtain⟨e,he,rfl⟩:=ML.mp hw
   exact⟨e,he,kK⟩
 |_=>exact hu.elim
theorem Er{X:Cx}(he:PE X e tl):PI X tg e (Il X tl):=by
 intro pins s σ H R I h
 refine b5 (he pins s σ H _ I h) fun v s1 b6=>L2.fE b6 fun x H1 I1 r1 q1=>?_
 obtain⟨p,u,e,hu,q⟩:=q1
 subst e
 cases r1
 have fin:∀ {H2:Hp} {o:Obj} {es:P5} {ep:Nat} {ks:List V},s1.heap.get? p=some o->o.ExactDict->o.data=.dict es ep->(p == sysModules)=false->es.size=ks.length->(∀ (i:Nat) x,ks[i]? = some x->∃ e,es[i]? = some e/\RelV x e.key)->Inv X pins σ H2 s1->R (Fc p o ks) H2 ->
   wpAny (model X.prog X.w) X.A (pyIter (.ref p)) (RZ X pins σ tg R) X.xe s1:=by
  intro H2 o es ep ks ho hx hd lo hl hk I2 q
  refine ur lo ⟨o,ho,hx,hd⟩ ?_
  refine⟨s1.heap.objs.size,[s1.heap.objs.size],_,_,_,rfl,I2.kept (t':=s1.toks) fun b o e=>eL _ e,xu p _ hx hd hl hk,⟨_,g9 _ rfl,rfl,rfl⟩,fun b hb=>?_,q⟩
  have e:b=s1.heap.objs.size:=by simpa using hb
  subst e
  exact I2.HC (bS _) (I2.aC.fresh (bS _))
 rcases q with⟨hp,q⟩|⟨o,hp,q⟩
 ·obtain⟨o,es,ep,ks,ho,hx,hd,lo,hl,hk,E5⟩:=uv hu (I1.aC p u hp)
  obtain⟨nf,nb⟩:=I1.Gq hp hu
  exact fin ho hx hd lo hl hk (I1.freeze hp hu ho) (q o ks nf nb E5)
 ·have ob:eJ X.prog X.w H1 s1.heap p (.dQ o u):=I1.aC p _ hp
  obtain⟨o',es,ep,ks,ho,hx,hd,lo,hl,hk,E5⟩:=uv hu ob.2
  have e:o'=o:=by have:=ob.1;rw[ho] at this;exact Option.some.inj this
  subst e
  exact fin ho hx hd lo hl hk I1 (q ks E5)
end L2
namespace L2.Q
open PySem PySem.Spec PyProof.Rows
inductive D where
 |non|bl (b:Bool)|int (i:Int)|str (x:Str)
 |list (xs:List D)|tup (xs:List D)|dK (kvs:List (Key × D))|dT (kvs:List (List Key × D))
mutual
/-- nothing in it can be changed -/
def D.flat:D->Bool
 |.list _=>false
 |.dK _=>false
 |.dT _=>false
 |.tup xs=>cy xs
 |_=>true
def cy:List D->Bool
 |[]=>true
 |x :: xs=>x.flat && cy xs
end
theorem fY:∀ {xs:List D},cy xs=true↔∀ x∈xs,x.flat=true
 |[]=>by simp[cy]
 |x :: xs=>by simp[cy,fY (xs:=xs)]
theorem jt:cy (xs++ys)=(cy xs && cy ys):=by
 induction xs with
 |nil=>simp[cy]
 |cons x xs ih=>simp[cy,ih,Bool.and_assoc]
def xo:Key->Bool
 |.inl _=>true
 |.inr x=>decide (x.length<=sizeLine)
def Qc(kvs:List (Key × D)):Prop:=kvs.length<=sizeLine/\∀ p∈kvs,xo p.1=true
def Qe(kvs:List (List Key × D)):Prop:=kvs.length<=sizeLine/\∀ p∈kvs,p.1.length<=sizeLine/\∀ k∈p.1,xo k=true
mutual
inductive Rep(K:PySem.W.Frag)(H:Hp):D->V->Prop
 |non:Rep K H .non .non
 |bl (b:Bool):Rep K H (.bl b) (.bl b)
 |int (i:Int):Rep K H (.int i) (.int i)
 |str {x:Str}:x.length<=sizeLine->Rep K H (.str x) (.str x)
 |list {a:Addr} {vs:List V} {ds:List D}:vs.length<=sizeLine->eM K H a vs->bp K H ds vs->Rep K H (.list ds) (.ref a)
 |tup {a:Addr} {vs:List V} {ds:List D}:vs.length<=sizeLine->H a=some (.tup vs)->bp K H ds vs->Rep K H (.tup ds) (.ref a)
 |dK {a:Addr} {vs:List V} {kvs:List (Key × D)}:Qc kvs->Rd H a (.dK ((kvs.map (·.1)).zip vs))->bp K H (kvs.map (·.2)) vs->Rep K H (.dK kvs) (.ref a)
 |dT {a:Addr} {vs:List V} {kvs:List (List Key × D)}:Qe kvs->Rd H a (.dT ((kvs.map (·.1)).zip vs))->bp K H (kvs.map (·.2)) vs->Rep K H (.dT kvs) (.ref a)
inductive bp(K:PySem.W.Frag)(H:Hp):List D->List V->Prop
 |nil:bp K H [] []
 |cons {d:D} {v:V} {ds:List D} {vs:List V}:Rep K H d v->bp K H ds vs->bp K H (d :: ds) (v :: vs)
end
theorem Rep.ind{K:PySem.W.Frag}{H:Hp}{m1:D->V->Prop}{m2:List D->List V->Prop}(h0:m1 .non .non)(hb:∀ b,m1 (.bl b) (.bl b))(hi:∀ i,m1 (.int i) (.int i))(hs:∀ x,x.length<=sizeLine->m1 (.str x) (.str x))
  (hl:∀ a vs ds,vs.length<=sizeLine->eM K H a vs->bp K H ds vs->m2 ds vs->m1 (.list ds) (.ref a)) (ht:∀ a vs ds,vs.length<=sizeLine->H a=some (.tup vs)->bp K H ds vs->m2 ds vs->m1 (.tup ds) (.ref a))
  (hk:∀ a vs kvs,Qc kvs->Rd H a (.dK ((kvs.map (·.1)).zip vs))->bp K H (kvs.map (·.2)) vs->m2 (kvs.map (·.2)) vs->m1 (.dK kvs) (.ref a)) (hT:∀ a vs kvs,Qe kvs->Rd H a (.dT ((kvs.map (·.1)).zip vs))->bp K H (kvs.map (·.2)) vs->m2 (kvs.map (·.2)) vs->m1 (.dT kvs) (.ref a))
  (hn:m2 [] []) (hc:∀ d v ds vs,Rep K H d v->bp K H ds vs->m1 d v->m2 ds vs->m2 (d :: ds) (v :: vs)):(∀ {d v},Rep K H d v->m1 d v)/\∀ {ds vs},bp K H ds vs->m2 ds vs :=
 ⟨fun r=>Rep.rec (motive_1:=fun d v _=>m1 d v) (motive_2:=fun ds vs _=>m2 ds vs) h0 hb hi (fun h=>hs _ h) (fun z s r ih=>hl _ _ _ z s r ih) (fun z s r ih=>ht _ _ _ z s r ih) (fun z s r ih=>hk _ _ _ z s r ih) (fun z s r ih=>hT _ _ _ z s r ih) hn (fun r s a b=>hc _ _ _ _ r s a b) r,
  fun r=>bp.rec (motive_1:=fun d v _=>m1 d v) (motive_2:=fun ds vs _=>m2 ds vs) h0 hb hi (fun h=>hs _ h) (fun z s r ih=>hl _ _ _ z s r ih) (fun z s r ih=>ht _ _ _ z s r ih) (fun z s r ih=>hk _ _ _ z s r ih) (fun z s r ih=>hT _ _ _ z s r ih) hn (fun r s a b=>hc _ _ _ _ r s a b) r⟩
theorem kL.k'(e:Rd H a (.dK kvs)):kL H a (kV k) (fS kvs k):=.inl ⟨kvs,k,e,rfl,rfl⟩
theorem kL.t'(e:Rd H a (.dT kvs))(eb:H b=some (.tup (k.map kV))):kL H a (.ref b) (fS kvs k):=.inr ⟨kvs,k,b,e,rfl,eb,rfl⟩
theorem ay.rd(s:ay H H')(h:Rd H a u):Rd H' a u:=h.imp (s _ _) fun⟨o,e⟩=>⟨o,s _ _ e⟩
theorem Rep.Ft{K:PySem.W.Frag}(s:ay H H'):(∀ {d:D} {v:V},Rep K H d v->Rep K H' d v)/\∀ {ds:List D} {vs:List V},bp K H ds vs->bp K H' ds vs :=
 Rep.ind .non .bl .int (fun _ h=>.str h) (fun _ _ _ z h _ ih=>.list z (s.lst h) ih) (fun _ _ _ z h _ ih=>.tup z (s _ _ h) ih) (fun _ _ _ kk h _ ih=>.dK kk (ay.rd s h) ih) (fun _ _ _ kk h _ ih=>.dT kk (ay.rd s h) ih) .nil fun _ _ _ _ _ _ a b=>.cons a b
theorem Rep.same{K:PySem.W.Frag}(s:ay H H')(r:Rep K H d v):Rep K H' d v:=(Rep.Ft s).1 r
theorem bp.same{K:PySem.W.Frag}(s:ay H H')(r:bp K H ds vs):bp K H' ds vs:=(Rep.Ft s).2 r
theorem bp.ind{K:PySem.W.Frag}{H:Hp}{m:List D->List V->Prop}(hn:m [] [])(hc:∀ d v ds vs,Rep K H d v->bp K H ds vs->m ds vs->m (d :: ds) (v :: vs)):∀ {ds vs},bp K H ds vs->m ds vs :=
 fun r=>(Rep.ind (m1:=fun _ _=>True) (m2:=m) trivial (fun _=>trivial) (fun _=>trivial) (fun _ _=>trivial) (fun _ _ _ _ _ _ _=>trivial) (fun _ _ _ _ _ _ _=>trivial) (fun _ _ _ _ _ _ _=>trivial) (fun _ _ _ _ _ _ _=>trivial) hn fun d v ds vs r s _ b=>hc d v ds vs r s b).2 r
theorem bp.length{K:PySem.W.Frag}(r:bp K H ds vs):ds.length=vs.length :=
 bp.ind (m:=fun ds vs=>ds.length=vs.length) rfl (fun _ _ _ _ _ _ ih=>by rw[oy,oy,ih]) r
theorem bp.append{K:PySem.W.Frag}(r:bp K H ds vs)(t:bp K H es ws):bp K H (ds++es) (vs++ws) :=
 bp.ind (m:=fun ds vs=>bp K H (ds++es) (vs++ws)) t (fun _ _ _ _ h _ ih=>.cons h ih) r
theorem bp.get{K:PySem.W.Frag}{H:Hp}{ds:List D}{vs:List V}{i:Nat}{d:D}(r:bp K H ds vs)(e:ds[i]? = some d):∃ v,vs[i]? = some v/\Rep K H d v :=
 bp.ind (m:=fun ds vs=>∀ i d,ds[i]? = some d->∃ v,vs[i]? = some v/\Rep K H d v) (fun i d e=>by simp at e) (fun _ _ _ _ h _ ih i d e=>by
  cases i with
  |zero=>simp at e;subst e;exact⟨_,rfl,h⟩
  |succ i =>
   obtain⟨v,e1,r⟩:=ih i d (by simpa using e)
   exact⟨v,by simpa using e1,r⟩) r i d e
theorem bp.Tq{K:PySem.W.Frag}{H:Hp}{ds:List D}{vs:List V}{i:Nat}{v:V}(r:bp K H ds vs)(e:vs[i]? = some v):∃ d,ds[i]? = some d/\Rep K H d v :=
 bp.ind (m:=fun ds vs=>∀ i v,vs[i]? = some v->∃ d,ds[i]? = some d/\Rep K H d v) (fun i d e=>by simp at e) (fun _ _ _ _ h _ ih i d e=>by
  cases i with
  |zero=>simp at e;subst e;exact⟨_,rfl,h⟩
  |succ i =>
   obtain⟨v,e1,r⟩:=ih i d (by simpa using e)
   exact⟨v,by simpa using e1,r⟩) r i v e
theorem bp.drop{K:PySem.W.Frag}(n:Nat)(r:bp K H ds vs):bp K H (ds.drop n) (vs.drop n) :=
 bp.ind (m:=fun ds vs=>∀ n,bp K H (ds.drop n) (vs.drop n)) (fun n=>by rw[List.drop_nil,List.drop_nil];exact .nil) (fun _ _ _ _ h hs ih n=>by
  cases n with
  |zero=>exact .cons h hs
  |succ n=>exact ih n) r n
theorem bp.n0{K:PySem.W.Frag}(h:bp K H [] vs):vs=[]:=by cases h;rfl
theorem bp.c{K:PySem.W.Frag}(h:bp K H (d :: ds) vs):∃ u us,vs=u :: us/\Rep K H d u/\bp K H ds us:=by
 cases h with
 |cons r rs=>exact⟨_,_,rfl,r,rs⟩
theorem bp.take{K:PySem.W.Frag}(n:Nat)(r:bp K H ds vs):bp K H (ds.take n) (vs.take n) :=
 bp.ind (m:=fun ds vs=>∀ n,bp K H (ds.take n) (vs.take n)) (fun n=>by rw[List.take_nil,List.take_nil];exact .nil) (fun _ _ _ _ h hs ih n=>by
  cases n with
  |zero=>exact .nil
  |succ n=>exact .cons h (ih n)) r n
mutual
/-- what is owned: a tree whose lists and it' stand at As,iu' iw';its leaves shared (fl: and flat) -/
inductive bE(K:PySem.W.Frag)(Hs H:Hp)(fl:Bool):D->V->List Addr->Prop
 |sh {d:D} {v:V}:(fl=true->d.flat=true)->Rep K Hs d v->bE K Hs H fl d v []
 |list {a:Addr} {vs:List V} {ds:List D} {As:List Addr}:vs.length<=sizeLine->H a=some (.lst vs)->az K Hs H fl ds vs As->bE K Hs H fl (.list ds) (.ref a) (a :: As)
 |tup {a:Addr} {vs:List V} {ds:List D} {As:List Addr}:vs.length<=sizeLine->Hs a=some (.tup vs)->cy ds=false->az K Hs H fl ds vs As->bE K Hs H fl (.tup ds) (.ref a) As
 |dK {a:Addr} {vs:List V} {kvs:List (Key × D)} {As:List Addr}:Qc kvs->H a=some (.dK ((kvs.map (·.1)).zip vs))->az K Hs H fl (kvs.map (·.2)) vs As->bE K Hs H fl (.dK kvs) (.ref a) (a :: As)
 |dT {a:Addr} {vs:List V} {kvs:List (List Key × D)} {As:List Addr}:Qe kvs->H a=some (.dT ((kvs.map (·.1)).zip vs))->az K Hs H fl (kvs.map (·.2)) vs As->bE K Hs H fl (.dT kvs) (.ref a) (a :: As)
inductive az(K:PySem.W.Frag)(Hs H:Hp)(fl:Bool):List D->List V->List Addr->Prop
 |nil:az K Hs H fl [] [] []
 |cons {d:D} {v:V} {ds:List D} {vs:List V} {As Bs:List Addr}:bE K Hs H fl d v As->az K Hs H fl ds vs Bs->az K Hs H fl (d :: ds) (v :: vs) (As++Bs)
end
def Own(H:Hp)(a:Addr):Prop:=(∃ vs,H a=some (.lst vs))\/(∃ kvs,H a=some (.dK kvs))\/∃ kvs,H a=some (.dT kvs)
section
variable {K:PySem.W.Frag}{Hs ai H H':Hp}{fl:Bool}
theorem Own.ne(h:Own H a):H a≠none:=by
 rcases h with⟨_,e⟩|⟨_,e⟩|⟨_,e⟩<;>rw[e]<;>exact fun z=>nomatch z
theorem Own.Bj(h:Own H a):H a≠some (.tup vs):=by
 rcases h with⟨_,e⟩|⟨_,e⟩|⟨_,e⟩<;>rw[e]<;>exact fun z=>nomatch z
theorem bE.ind{m1:D->V->List Addr->Prop}{m2:List D->List V->List Addr->Prop}(hs:∀ d v,(fl=true->d.flat=true)->Rep K Hs d v->m1 d v [])
  (hl:∀ a vs ds As,vs.length<=sizeLine->H a=some (.lst vs)->az K Hs H fl ds vs As->m2 ds vs As->m1 (.list ds) (.ref a) (a :: As)) (ht:∀ a vs ds As,vs.length<=sizeLine->Hs a=some (.tup vs)->cy ds=false->az K Hs H fl ds vs As->m2 ds vs As->m1 (.tup ds) (.ref a) As)
  (hk:∀ a vs kvs As,Qc kvs->H a=some (.dK ((kvs.map (·.1)).zip vs))->az K Hs H fl (kvs.map (·.2)) vs As->m2 (kvs.map (·.2)) vs As->m1 (.dK kvs) (.ref a) (a :: As)) (hT:∀ a vs kvs As,Qe kvs->H a=some (.dT ((kvs.map (·.1)).zip vs))->az K Hs H fl (kvs.map (·.2)) vs As->m2 (kvs.map (·.2)) vs As->m1 (.dT kvs) (.ref a) (a :: As))
  (hn:m2 [] [] []) (hc:∀ d v ds vs As Bs,bE K Hs H fl d v As->az K Hs H fl ds vs Bs->m1 d v As->m2 ds vs Bs->m2 (d :: ds) (v :: vs) (As++Bs)):(∀ {d v As},bE K Hs H fl d v As->m1 d v As)/\∀ {ds vs As},az K Hs H fl ds vs As->m2 ds vs As :=
 ⟨fun r=>bE.rec (motive_1:=fun d v As _=>m1 d v As) (motive_2:=fun ds vs As _=>m2 ds vs As) (fun f r=>hs _ _ f r) (fun z s r ih=>hl _ _ _ _ z s r ih) (fun z s n r ih=>ht _ _ _ _ z s n r ih) (fun z s r ih=>hk _ _ _ _ z s r ih) (fun z s r ih=>hT _ _ _ _ z s r ih) hn (fun r s a b=>hc _ _ _ _ _ _ r s a b) r,
  fun r=>az.rec (motive_1:=fun d v As _=>m1 d v As) (motive_2:=fun ds vs As _=>m2 ds vs As) (fun f r=>hs _ _ f r) (fun z s r ih=>hl _ _ _ _ z s r ih) (fun z s n r ih=>ht _ _ _ _ z s n r ih) (fun z s r ih=>hk _ _ _ _ z s r ih) (fun z s r ih=>hT _ _ _ _ z s r ih) hn (fun r s a b=>hc _ _ _ _ _ _ r s a b) r⟩
theorem xt{a:Addr}{p:Prop}(h:a∈([]:List Addr)):p:=absurd h wt
theorem bE.XF:(∀ {d:D} {v:V} {As:List Addr},bE K Hs H fl d v As->∀ a∈As,Own H a)/\∀ {ds:List D} {vs:List V} {As:List Addr},az K Hs H fl ds vs As->∀ a∈As,Own H a :=
 bE.ind (m1:=fun _ _ As=>∀ a∈As,Own H a) (m2:=fun _ _ As=>∀ a∈As,Own H a) (fun _ _ _ _ a h=>xt h) (fun _ _ _ _ _ e _ ih a h=>(dA.mp h).elim (fun z=>z ▸ .inl ⟨_,e⟩) (ih a)) (fun _ _ _ _ _ _ _ _ ih=>ih)
  (fun _ _ _ _ _ e _ ih a h=>(dA.mp h).elim (fun z=>z ▸ .inr (.inl ⟨_,e⟩)) (ih a)) (fun _ _ _ _ _ e _ ih a h=>(dA.mp h).elim (fun z=>z ▸ .inr (.inr ⟨_,e⟩)) (ih a)) (fun a h=>xt h) fun _ _ _ _ _ _ _ _ i1 i2 a h=>(dz.mp h).elim (i1 a) (i2 a)
theorem bE.own(r:bE K Hs H fl d v As):∀ a∈As,Own H a:=bE.XF.1 r
theorem az.own(r:az K Hs H fl ds vs As):∀ a∈As,Own H a:=bE.XF.2 r
theorem bE.Hm(s:ay Hs ai):(∀ {d:D} {v:V} {As:List Addr},bE K Hs H fl d v As->(∀ a∈As,H' a=H a)->bE K ai H' fl d v As)/\∀ {ds:List D} {vs:List V} {As:List Addr},az K Hs H fl ds vs As->(∀ a∈As,H' a=H a)->az K ai H' fl ds vs As :=
 bE.ind (m1:=fun d v As=>(∀ a∈As,H' a=H a)->bE K ai H' fl d v As) (m2:=fun ds vs As=>(∀ a∈As,H' a=H a)->az K ai H' fl ds vs As) (fun _ _ f r _=>.sh f (r.same s))
  (fun _ _ _ _ z e _ ih k=>.list z ((k _ df).trans e) (ih fun a h=>k a (de _ h))) (fun _ _ _ _ z e n _ ih k=>.tup z (s _ _ e) n (ih k)) (fun _ _ _ _ z e _ ih k=>.dK z ((k _ df).trans e) (ih fun a h=>k a (de _ h)))
  (fun _ _ _ _ z e _ ih k=>.dT z ((k _ df).trans e) (ih fun a h=>k a (de _ h))) (fun _=>.nil) fun _ _ _ _ _ _ _ _ i1 i2 k=>.cons (i1 fun a h=>k a (iS _ h)) (i2 fun a h=>k a (fw _ h))
theorem bE.fh(s:ay Hs ai)(r:bE K Hs H fl d v As)(k:∀ a∈As,H' a=H a):bE K ai H' fl d v As:=(bE.Hm s).1 r k
theorem az.fh(s:ay Hs ai)(r:az K Hs H fl ds vs As)(k:∀ a∈As,H' a=H a):az K ai H' fl ds vs As:=(bE.Hm s).2 r k
theorem bE.grow(s:ay Hs ai)(t:ay H H')(r:bE K Hs H fl d v As):bE K ai H' fl d v As :=
 r.fh s fun a h=>by
  cases e:H a with
  |none=>exact absurd e (r.own a h).ne
  |some o=>exact t a o e
theorem az.grow(s:ay Hs ai)(t:ay H H')(r:az K Hs H fl ds vs As):az K ai H' fl ds vs As :=
 r.fh s fun a h=>by
  cases e:H a with
  |none=>exact absurd e (r.own a h).ne
  |some o=>exact t a o e
theorem bE.rep2{G:Hp}(s:ay Hs G):(∀ {d:D} {v:V} {As:List Addr},bE K Hs H fl d v As->(∀ a∈As,G a=H a)->Rep K G d v)/\∀ {ds:List D} {vs:List V} {As:List Addr},az K Hs H fl ds vs As->(∀ a∈As,G a=H a)->bp K G ds vs :=
 bE.ind (m1:=fun d v As=>(∀ a∈As,G a=H a)->Rep K G d v) (m2:=fun ds vs As=>(∀ a∈As,G a=H a)->bp K G ds vs) (fun _ _ _ r _=>r.same s)
  (fun _ _ _ _ z e _ ih k=>.list z (.inl (.inl ((k _ df).trans e))) (ih fun a h=>k a (de _ h))) (fun _ _ _ _ z e n _ ih k=>.tup z (s _ _ e) (ih k)) (fun _ _ _ _ z e _ ih k=>.dK z (.inl ((k _ df).trans e)) (ih fun a h=>k a (de _ h)))
  (fun _ _ _ _ z e _ ih k=>.dT z (.inl ((k _ df).trans e)) (ih fun a h=>k a (de _ h))) (fun _=>.nil) fun _ _ _ _ _ _ _ _ i1 i2 k=>.cons (i1 fun a h=>k a (iS _ h)) (i2 fun a h=>k a (fw _ h))
theorem bE.rep(s:ay Hs G)(r:bE K Hs H fl d v As)(k:∀ a∈As,G a=H a):Rep K G d v:=(bE.rep2 s).1 r k
theorem az.reps(s:ay Hs G)(r:az K Hs H fl ds vs As)(k:∀ a∈As,G a=H a):bp K G ds vs:=(bE.rep2 s).2 r k
theorem Rep.wY(t:∀ a vs,H a=some (.tup vs)->G a=some (.tup vs)):(∀ {d:D} {v:V},Rep K H d v->d.flat=true->Rep K G d v)/\∀ {ds:List D} {vs:List V},bp K H ds vs->cy ds=true->bp K G ds vs :=
 Rep.ind (m1:=fun d v=>d.flat=true->Rep K G d v) (m2:=fun ds vs=>cy ds=true->bp K G ds vs) (fun _=>.non) (fun b _=>.bl b) (fun i _=>.int i) (fun _ h _=>.str h) (fun _ _ _ _ _ _ _ f=>by simp[D.flat] at f) (fun _ _ _ z e _ ih f=>.tup z (t _ _ e) (ih (by simpa[D.flat] using f)))
  (fun _ _ _ _ _ _ _ f=>by simp[D.flat] at f) (fun _ _ _ _ _ _ _ f=>by simp[D.flat] at f) (fun _=>.nil) fun _ _ _ _ _ _ i1 i2 f=>by
   simp only[cy,kH] at f
   exact .cons (i1 f.1) (i2 f.2)
theorem Rep.gP(t:∀ a vs,H a=some (.tup vs)->G a=some (.tup vs))(r:Rep K H d v)(f:d.flat=true):Rep K G d v:=(Rep.wY t).1 r f
theorem bp.gP(t:∀ a vs,H a=some (.tup vs)->G a=some (.tup vs))(r:bp K H ds vs)(f:cy ds=true):bp K G ds vs:=(Rep.wY t).2 r f
theorem bp.owned(r:bp K Hs ds vs)(f:cy ds=true):az K Hs H fl ds vs [] :=
 bp.ind (m:=fun ds vs=>cy ds=true->az K Hs H fl ds vs []) (fun _=>.nil) (fun _ _ _ _ h _ ih f=>by
  simp only[cy,kH] at f
  exact .cons (As:=[]) (.sh (fun _=>f.1) h) (ih f.2)) r f
theorem bp.G3(r:bp K Hs ds vs):az K Hs H false ds vs [] :=
 bp.ind (m:=fun ds vs=>az K Hs H false ds vs []) .nil (fun _ _ _ _ h _ ih=>.cons (As:=[]) (.sh (fun z=>Bool.noConfusion z) h) ih) r
theorem bE.XG:(∀ {d:D} {v:V} {As:List Addr},bE K Hs H fl d v As->bE K Hs H false d v As)/\∀ {ds:List D} {vs:List V} {As:List Addr},az K Hs H fl ds vs As->az K Hs H false ds vs As :=
 bE.ind (fun _ _ _ r=>.sh (fun z=>Bool.noConfusion z) r) (fun _ _ _ _ z e _ ih=>.list z e ih) (fun _ _ _ _ z e n _ ih=>.tup z e n ih) (fun _ _ _ _ z e _ ih=>.dK z e ih) (fun _ _ _ _ z e _ ih=>.dT z e ih) .nil fun _ _ _ _ _ _ _ _ a b=>.cons a b
theorem bE.Qf(r:bE K Hs H fl d v As):bE K Hs H false d v As:=bE.XG.1 r
theorem az.Qf(r:az K Hs H fl ds vs As):az K Hs H false ds vs As:=bE.XG.2 r
theorem bE.Ea(t:∀ a vs,Hs a=some (.tup vs)->G a=some (.tup vs)):(∀ {d:D} {v:V} {As:List Addr},bE K Hs H true d v As->bE K G H true d v As)/\∀ {ds:List D} {vs:List V} {As:List Addr},az K Hs H true ds vs As->az K G H true ds vs As :=
 bE.ind (fun _ _ f r=>.sh f (r.gP t (f rfl))) (fun _ _ _ _ z e _ ih=>.list z e ih) (fun _ _ _ _ z e n _ ih=>.tup z (t _ _ e) n ih) (fun _ _ _ _ z e _ ih=>.dK z e ih) (fun _ _ _ _ z e _ ih=>.dT z e ih) .nil fun _ _ _ _ _ _ _ _ a b=>.cons a b
theorem bE.leaves(t:∀ a vs,Hs a=some (.tup vs)->G a=some (.tup vs))(r:bE K Hs H true d v As):bE K G H true d v As:=(bE.Ea t).1 r
theorem az.ind{m:List D->List V->List Addr->Prop}(hn:m [] [] [])(hc:∀ d v ds vs As Bs,bE K Hs H fl d v As->az K Hs H fl ds vs Bs->m ds vs Bs->m (d :: ds) (v :: vs) (As++Bs)):∀ {ds vs As},az K Hs H fl ds vs As->m ds vs As :=
 fun r=>(bE.ind (m1:=fun _ _ _=>True) (m2:=m) (fun _ _ _ _=>trivial) (fun _ _ _ _ _ _ _ _=>trivial) (fun _ _ _ _ _ _ _ _ _=>trivial) (fun _ _ _ _ _ _ _ _=>trivial) (fun _ _ _ _ _ _ _ _=>trivial) hn fun d v ds vs As Bs r s _ b=>hc d v ds vs As Bs r s b).2 r
theorem az.append(r:az K Hs H fl ds vs As)(t:az K Hs H fl es ws Bs):az K Hs H fl (ds++es) (vs++ws) (As++Bs) :=
 az.ind (m:=fun ds vs As=>az K Hs H fl (ds++es) (vs++ws) (As++Bs)) t (fun _ _ _ _ _ _ h _ ih=>by
  rw[wq]
  exact .cons h ih) r
theorem az.n0(h:az K Hs H fl [] vs As):vs=[]/\As=[]:=by cases h;exact⟨rfl,rfl⟩
theorem az.c(h:az K Hs H fl (d :: ds) vs As):∃ u us A B,vs=u :: us/\As=A++B/\bE K Hs H fl d u A/\az K Hs H fl ds us B:=by
 cases h with
 |cons r rs=>exact⟨_,_,_,_,rfl,rfl,r,rs⟩
theorem az.length(r:az K Hs H fl ds vs As):ds.length=vs.length :=
 az.ind (m:=fun ds vs _=>ds.length=vs.length) rfl (fun _ _ _ _ _ _ _ _ ih=>by rw[oy,oy,ih]) r
end
inductive Sl where
 /-- shared;owned;owned and walked by a loop just now (at a) -/
 |sh (d:D)|ow (fl:Bool) (d:D)|lk (a:Addr) (fl:Bool) (d:D)
 /-- an exception,at a -/
 |xc (a:Addr)
abbrev Env:=List (Option Sl)
inductive SR(K:PySem.W.Frag)(Hs H:Hp):Env->St->List Addr->Prop
 |nil:SR K Hs H [] [] []
 |non {ρ:Env} {σ:St} {ae:List Addr} {o:Option V}:SR K Hs H ρ σ ae->SR K Hs H (none :: ρ) (o :: σ) ae
 |sh {ρ:Env} {σ:St} {ae:List Addr} {d:D} {v:V}:Rep K Hs d v->SR K Hs H ρ σ ae->SR K Hs H (some (.sh d) :: ρ) (some v :: σ) ae
 |xc {ρ:Env} {σ:St} {ae:List Addr} {a:Addr}:SR K Hs H ρ σ ae->SR K Hs H (some (.xc a) :: ρ) (some (.ref a) :: σ) ae
 |ow {ρ:Env} {σ:St} {ae As:List Addr} {fl:Bool} {d:D} {v:V}:As≠[]->bE K Hs H fl d v As->SR K Hs H ρ σ ae->SR K Hs H (some (.ow fl d) :: ρ) (some v :: σ) (As++ae)
 |lk {ρ:Env} {σ:St} {ae As:List Addr} {a:Addr} {fl:Bool} {d:D}:As≠[]->bE K Hs H fl d (.ref a) As->SR K Hs H ρ σ ae->SR K Hs H (some (.lk a fl d) :: ρ) (some (.ref a) :: σ) (As++ae)
structure Wf(Hs H:Hp):Prop where
 sub:ay Hs H
 hG:∀ a vs,H a=some (.tup vs)->Hs a=some (.tup vs)
structure cK(K:PySem.W.Frag)(Hs:Hp)(ρ:Env)(σ:St)(H:Hp)(ae:List Addr):Prop where
 sr:SR K Hs H ρ σ ae
 wf:Wf Hs H
 sF:ae.Nodup
 own:∀ a∈ae,Hs a=none
structure dS(Hs H ai H':Hp):Prop where
 all:ay H H'
 sh:ay Hs ai
 wf:Wf ai H'
 new:∀ a,ai a≠none->Hs a≠none\/H a=none
section
variable {K:PySem.W.Frag}{Hs H ai H' XH XI:Hp}
theorem dS.refl(w:Wf Hs H):dS Hs H Hs H:=⟨ay.refl _,ay.refl _,w,fun _ h=>.inl h⟩
theorem dS.trans(a:dS Hs H ai H')(b:dS ai H' XH XI):dS Hs H XH XI :=
 ⟨a.all.trans b.all,a.sh.trans b.sh,b.wf,fun c h=>by
  rcases b.new c h with h|h
  ·exact a.new c h
  ·exact .inr (a.all.free h)⟩
theorem dS.lP(g:dS Hs H ai H')(h:Hs a=none)(h':H a≠none):ai a=none:=by
 cases e:ai a with
 |none=>rfl
 |some o =>
  rcases g.new a (by rw[e];exact fun z=>nomatch z) with z|z
  ·exact absurd h z
  ·exact absurd z h'
theorem SR.own{ρ:Env}{σ:St}{ae:List Addr}(s:SR K Hs H ρ σ ae):∀ a∈ae,Own H a:=by
 induction s with
 |nil=>exact fun a h=>xt h
 |non _ ih=>exact ih
 |sh _ _ ih=>exact ih
 |xc _ ih=>exact ih
 |ow _ r _ ih=>exact fun a h=>(dz.mp h).elim (r.own a) (ih a)
 |lk _ r _ ih=>exact fun a h=>(dz.mp h).elim (r.own a) (ih a)
theorem SR.fh(s:ay Hs ai)(r:SR K Hs H ρ σ ae):(∀ a∈ae,H' a=H a)->SR K ai H' ρ σ ae:=by
 induction r with
 |nil=>exact fun _=>.nil
 |non _ ih=>exact fun k=>.non (ih k)
 |sh h _ ih=>exact fun k=>.sh (h.same s) (ih k)
 |xc _ ih=>exact fun k=>.xc (ih k)
 |ow ne h _ ih=>exact fun k=>.ow ne (h.fh s fun a m=>k a (iS _ m)) (ih fun a m=>k a (fw _ m))
 |lk ne h _ ih=>exact fun k=>.lk ne (h.fh s fun a m=>k a (iS _ m)) (ih fun a m=>k a (fw _ m))
theorem cK.grow(r:cK K Hs ρ σ H ae)(g:dS Hs H ai H'):cK K ai ρ σ H' ae :=
 ⟨r.sr.fh g.sh fun a h=>by
  cases e:H a with
  |none=>exact absurd e (r.sr.own a h).ne
  |some o=>exact g.all a o e,g.wf,r.sF,fun a h=>g.lP (r.own a h) (r.sr.own a h).ne⟩
def Ay(K:PySem.W.Frag)(Hs H:Hp)(ae:List Addr)(sl:Sl)(v:V):Prop:=match sl with
 |.sh d=>Rep K Hs d v
 |.ow fl d=>∃ As,As≠[]/\bE K Hs H fl d v As/\∀ a∈As,a∈ae
 |.lk a fl d=>∃ As,As≠[]/\bE K Hs H fl d v As/\v=.ref a/\∀ a∈As,a∈ae
 |.xc a=>v=.ref a
theorem Ay.mono(h:Ay K Hs H ae sl v)(m:∀ a∈ae,a∈bG):Ay K Hs H bG sl v:=by
 cases sl with
 |sh d=>exact h
 |xc a=>exact h
 |ow fl d =>
  obtain⟨As,ne,r,q⟩:=h
  exact⟨As,ne,r,fun a ha=>m a (q a ha)⟩
 |lk a fl d =>
  obtain⟨As,ne,r,e,q⟩:=h
  exact⟨As,ne,r,e,fun a ha=>m a (q a ha)⟩
theorem SR.get{ρ:Env}{σ:St}{ae:List Addr}{i:Nat}{sl:Sl}(s:SR K Hs H ρ σ ae)(e:ρ[i]? = some (some sl)):∃ v,σ[i]? = some (some v)/\Ay K Hs H ae sl v:=by
 induction s generalizing i with
 |nil=>simp at e
 |non s ih =>
  cases i with
  |zero=>simp at e
  |succ i=>exact ih e
 |sh r s ih =>
  cases i with
  |zero=>simp at e;subst e;exact⟨_,rfl,r⟩
  |succ i=>exact ih e
 |xc s ih =>
  cases i with
  |zero=>simp at e;subst e;exact⟨_,rfl,rfl⟩
  |succ i=>exact ih e
 |ow ne r s ih =>
  cases i with
  |zero=>simp at e;subst e;exact⟨_,rfl,_,ne,r,fun a m=>iS _ m⟩
  |succ i =>
   obtain⟨v,e1,h⟩:=ih e
   exact⟨v,e1,h.mono fun a m=>fw _ m⟩
 |lk ne r s ih =>
  cases i with
  |zero=>simp at e;subst e;exact⟨_,rfl,_,ne,r,rfl,fun a m=>iS _ m⟩
  |succ i =>
   obtain⟨v,e1,h⟩:=ih e
   exact⟨v,e1,h.mono fun a m=>fw _ m⟩
end
inductive Md where
 |sh|ow (fl:Bool)|bo
def RM(K:PySem.W.Frag)(Hs H:Hp):Md->D->V->List Addr->Prop
 |.sh,d,v,As=>As=[]/\Rep K Hs d v
 |.ow fl,d,v,As=>bE K Hs H fl d v As/\As≠[]
 |.bo,d,v,As=>As=[]/\Rep K H d v
inductive xv(K:PySem.W.Frag)(Hs H:Hp):List (Md × D)->List V->List Addr->Prop
 |nil:xv K Hs H [] [] []
 |cons {m:Md} {d:D} {v:V} {ps:List (Md × D)} {vs:List V} {As Bs:List Addr}:RM K Hs H m d v As->xv K Hs H ps vs Bs->xv K Hs H ((m,d) :: ps) (v :: vs) (As++Bs)
section
variable {K:PySem.W.Frag}{Hs H ai H':Hp}
theorem RM.own{m:Md}{d:D}{v:V}{As:List Addr}(r:RM K Hs H m d v As):∀ a∈As,Own H a:=by
 cases m with
 |sh=>obtain⟨rfl,_⟩:=r;exact fun a h=>xt h
 |ow fl=>exact bE.own r.1
 |bo=>obtain⟨rfl,_⟩:=r;exact fun a h=>xt h
theorem RM.grow(r:RM K Hs H m d v As)(g:dS Hs H ai H'):RM K ai H' m d v As:=by
 cases m with
 |sh=>exact⟨r.1,r.2.same g.sh⟩
 |ow fl=>exact⟨bE.grow g.sh g.all r.1,r.2⟩
 |bo=>exact⟨r.1,r.2.same g.all⟩
theorem RM.rep(w:Wf Hs H)(r:RM K Hs H m d v As):Rep K H d v:=by
 cases m with
 |sh=>exact r.2.same w.sub
 |ow fl=>exact bE.rep w.sub r.1 fun _ _=>rfl
 |bo=>exact r.2
theorem RM.flat(w:Wf Hs H)(r:RM K Hs H m d v As)(f:d.flat=true):Rep K Hs d v:=(r.rep w).gP w.hG f
theorem xv.reps(w:Wf Hs H){ps:List (Md × D)}(r:xv K Hs H ps vs As):bp K H (ps.map (·.2)) vs:=by
 induction r with
 |nil=>exact .nil
 |cons r _ ih=>exact .cons (r.rep w) ih
end
abbrev WE:=Env->(Md->D->Prop)->Prop
abbrev WT:=Env->(Bool->Prop)->Prop
abbrev WA:=Env->(List (Md × D)->Prop)->Prop
structure qZ where
 nx:Env->Prop
 rt:Md->D->Prop
 bk:Env->Prop:=fun _=>False
 ct:Env->Prop:=fun _=>False
abbrev WS:=qZ->Env->Prop
def cO(ai H:Hp)(As:List Addr):Prop:=As.Nodup/\∀ a∈As,ai a=none/\H a=none
def lS(K:PySem.W.Frag)(t:WE):TE:=fun σ H Qv=>∃ Hs ρ ae Q,cK K Hs ρ σ H ae/\t ρ Q /\
 ∀ v H' ai m d As,dS Hs H ai H'->RM K ai H' m d v As->cO ai H As->Q m d->Qv v H'
def BG(K:PySem.W.Frag)(t:WT):TT:=fun σ H Qv=>∃ Hs ρ ae Q,cK K Hs ρ σ H ae/\t ρ Q/\∀ b H' ai,dS Hs H ai H'->Q b->Qv b H'
def Tr(K:PySem.W.Frag)(t:WA):TA:=fun σ H Qv=>∃ Hs ρ ae Q,cK K Hs ρ σ H ae/\t ρ Q /\
 ∀ vs H' ai ps As,dS Hs H ai H'->xv K ai H' ps vs As->cO ai H As->Q ps->Qv vs H'
def sL(K:PySem.W.Frag)(L:Str->Hp->Prop)(t:WS):TS:=fun D σ H=>∃ Hs ρ ae E,cK K Hs ρ σ H ae/\t E ρ /\
 (∀ aS H' ai bq bG,ay Hs ai->cK K ai bq aS H' bG->E.nx bq->D.nx aS H') /\
 (∀ aS H' ai bq bG,ay Hs ai->cK K ai bq aS H' bG->E.bk bq->D.bk aS H') /\
 (∀ aS H' ai bq bG,ay Hs ai->cK K ai bq aS H' bG->E.ct bq->D.ct aS H') /\
 (∀ v H' ai m d As,ay Hs ai->Wf ai H'->RM K ai H' m d v As->As.Nodup->(∀ a∈As,ai a=none)->E.rt m d->D.rt v H') /\
 ∀ n H',ay Hs H'->E.rt (.ow false) (.str n)->L n H'
theorem fW{K:PySem.W.Frag}{L:Str->Hp->Prop}{t:WS}{D:Ends}{σ:St}{H:Hp}{G:Prop}(x:sL K L t D σ H)(k:∀ Hs ρ ae E,cK K Hs ρ σ H ae->t E ρ ->
 (∀ aS H' ai bq bG,ay Hs ai->cK K ai bq aS H' bG->E.nx bq->D.nx aS H') ->
 (∀ aS H' ai bq bG,ay Hs ai->cK K ai bq aS H' bG->E.bk bq->D.bk aS H') ->
 (∀ aS H' ai bq bG,ay Hs ai->cK K ai bq aS H' bG->E.ct bq->D.ct aS H') ->
 (∀ v H' ai m d As,ay Hs ai->Wf ai H'->RM K ai H' m d v As->As.Nodup->(∀ a∈As,ai a=none)->E.rt m d->D.rt v H') ->
 (∀ n H',ay Hs H'->E.rt (.ow false) (.str n)->L n H')->G):G :=
 by
 obtain⟨Hs,ρ,ae,E,sr,h,k1,k2,k3,k4,kx⟩:=x
 exact k Hs ρ ae E sr h k1 k2 k3 k4 kx
theorem dD{K:PySem.W.Frag}{L:Str->Hp->Prop}{t:WS}{D:Ends}{σ:St}{H:Hp}{G:Prop}(x:sL K L t D σ H)(k:∀ Hs ρ ae E,cK K Hs ρ σ H ae->t E ρ ->
 (∀ aS H' ai bq bG,ay Hs ai->cK K ai bq aS H' bG->E.nx bq->D.nx aS H') ->
 (∀ aS H' ai bq bG,ay Hs ai->cK K ai bq aS H' bG->E.bk bq->D.bk aS H') ->
 (∀ aS H' ai bq bG,ay Hs ai->cK K ai bq aS H' bG->E.ct bq->D.ct aS H') ->
 (∀ v H' ai m d As,ay Hs ai->Wf ai H'->RM K ai H' m d v As->As.Nodup->(∀ a∈As,ai a=none)->E.rt m d->D.rt v H')->G):G :=
 fW x fun Hs ρ ae E sr h k1 k2 k3 k4 _=>k Hs ρ ae E sr h k1 k2 k3 k4
theorem kr{α β γ δ:Type _}{A B C:α->β->γ->δ->Prop}{G:Prop}(x:∃ a b c d,A a b c d/\B a b c d/\C a b c d)(k:∀ a b c d,A a b c d->B a b c d->C a b c d->G):G :=
 by
 obtain⟨a,b,c,d,p,q,r⟩:=x
 exact k a b c d p q r
abbrev QE(X:Cx)(K:PySem.W.Frag)(e:Expr)(t:WE):Prop:=PE X e (lS K t)
abbrev QT(X:Cx)(K:PySem.W.Frag)(e:Expr)(t:WT):Prop:=PT X e (BG K t)
abbrev QW(X:Cx)(K:PySem.W.Frag)(e:Expr)(t:WT):Prop:=PW X e (BG K t)
abbrev QA(X:Cx)(K:PySem.W.Frag)(es:List Expr)(t:WA):Prop:=PA X es (Tr K t)
abbrev QS(X:Cx)(K:PySem.W.Frag)(L:Str->Hp->Prop)(st:Stmt)(t:WS):Prop:=PS X st (sL K L t)
abbrev qh(X:Cx)(K:PySem.W.Frag)(L:Str->Hp->Prop)(st:List Stmt)(t:WS):Prop:=nv X st (sL K L t)
abbrev L0:Str->Hp->Prop:=fun _ _=>True
end L2.Q
namespace L2.Q
open PySem PySem.Spec PyProof.Rows
structure Kt{α:Type}(f:α->Prop):Type where
def bP{α:Type}(a:α){f:α->Prop}(_:Kt f):Prop:=f a
mutual
def D.py:D->PyData
 |.non=>.none
 |.bl b=>.bool b
 |.int i=>.int i
 |.str x=>.str x
 |.list xs=>.list (sM xs)
 |.tup xs=>.tuple (sM xs)
 |.dK _=>.none
 |.dT _=>.none
def sM:List D->List PyData
 |[]=>[]
 |x :: xs=>x.py :: sM xs
end
def eh:Nat->D->Bool
 |_,.non=>true
 |_,.bl _=>true
 |_,.int _=>true
 |_,.str x=>PyData.strOk x
 |n+1,.list xs=>xs.all (eh n)
 |n+1,.tup xs=>xs.all (eh n)
 |_,_=>false
def kG(x y:D):Bool:=PyData.eqv x.py y.py
def D.ty:D->String
 |.non => "NoneType"
 |.bl _ => "bool"
 |.int _ => "int"
 |.str _ => "str"
 |.list _ => "list"
 |.tup _ => "tuple"
 |.dK _ => "dict"
 |.dT _ => "dict"
def D.key1:D->Option Key
 |.int i=>some (.inl i)
 |.str x=>some (.inr x)
 |_=>none
def eX:List D->Option (List Key)
 |[]=>some []
 |x :: xs=>match x.key1,eX xs with
  |some k,some ks=>some (k :: ks)
  |_,_=>none
section
variable {κ:Type}[DecidableEq κ]{β:Type}
def dE(kvs:List (κ × β))(k:κ):Option β:=(kvs.find? fun kv=>decide (kv.1=k)).map (·.2)
def gS(kvs:List (κ × β))(k:κ)(v:β):List (κ × β) :=
 if (kvs.any fun kv=>decide (kv.1=k))=true then kvs.map (fun kv=>if kv.1=k then (kv.1,v) else kv) else kvs++[(k,v)]
end
theorem Rep.l22{K:PySem.W.Frag}:(∀ {d:D} {v:V},Rep K H d v->∀ n,eh n d=true->L2.Rep K H d.py v)/\∀ {ds:List D} {vs:List V},bp K H ds vs->∀ n,(∀ d∈ds,eh n d=true)->L2.bp K H (sM ds) vs :=
 Rep.ind (m1:=fun d v=>∀ n,eh n d=true->L2.Rep K H d.py v) (m2:=fun ds vs=>∀ n,(∀ d∈ds,eh n d=true)->L2.bp K H (sM ds) vs) (fun _ _=>.none) (fun b _ _=>.bool b) (fun i _ _=>.int i) (fun _ _ _ _=>.str _)
  (fun _ _ _ _ h _ ih n o=>by
   cases n with
   |zero=>simp[eh] at o
   |succ n=>exact .list h (ih n (by simpa[eh] using o)))
  (fun _ _ _ _ h _ ih n o=>by
   cases n with
   |zero=>simp[eh] at o
   |succ n=>exact .tuple (.inl (.inl h)) (ih n (by simpa[eh] using o)))
  (fun _ _ _ _ _ _ _ n o=>by cases n<;>simp[eh] at o) (fun _ _ _ _ _ _ _ n o=>by cases n<;>simp[eh] at o) (fun _ _=>.nil)
  fun _ _ _ _ _ _ i1 i2 n o=>.cons (i1 n (o _ df)) (i2 n fun d m=>o d (de _ m))
theorem Rep.l2{K:PySem.W.Frag}(r:Rep K H d v)(o:eh n d=true):L2.Rep K H d.py v:=Rep.l22.1 r n o
theorem yI(ih:∀ d,eh n d=true->d.py.canLay0=true/\d.py.depth<=n)(xs:List D)(h:∀ x∈xs,eh n x=true):PyData.canLayAll0 (sM xs)=true/\PyData.depthAll (sM xs)<=n:=by
 induction xs with
 |nil=>exact⟨rfl,eP _⟩
 |cons x xs Ts =>
  have h1:=ih x (h x df)
  have h2:=Ts fun y hy=>h y (de _ hy)
  simp only[sM,PyData.canLayAll0,PyData.depthAll,h1.1,h2.1,Bool.and_self,true_and]
  lia
theorem vp(n:Nat):∀ (d:D),eh n d=true->d.py.canLay0=true/\d.py.depth<=n:=by
 have st:∀ (n:Nat) (x:Str),eh n (.str x)=true->(D.str x).py.canLay0=true/\(D.str x).py.depth<=n:=fun n x h=>by
  have h:PyData.strOk x=true:=by cases n<;>simpa[eh] using h
  exact⟨by simpa[D.py,PyData.canLay0] using h,eP _⟩
 induction n with
 |zero =>
  intro d h
  cases d with
  |str x=>exact st _ x h
  |non=>exact⟨rfl,eP _⟩
  |bl _=>exact⟨rfl,eP _⟩
  |int _=>exact⟨rfl,eP _⟩
  |_=>simp[eh] at h
 |succ n ih =>
  intro d h
  cases d with
  |str x=>exact st _ x h
  |non=>exact⟨rfl,eP _⟩
  |bl _=>exact⟨rfl,eP _⟩
  |int _=>exact⟨rfl,eP _⟩
  |list xs =>
   have h:∀ x∈xs,eh n x=true:=by simpa[eh] using h
   have:=yI ih xs h
   simp only[D.py,PyData.canLay0,PyData.depth]
   exact⟨this.1,by lia⟩
  |tup xs =>
   have h:∀ x∈xs,eh n x=true:=by simpa[eh] using h
   have:=yI ih xs h
   simp only[D.py,PyData.canLay0,PyData.depth]
   exact⟨this.1,by lia⟩
  |dK _=>simp[eh] at h
  |dT _=>simp[eh] at h
mutual
def D.nb:D->Bool
 |.bl _=>false
 |.list xs=>xA xs
 |.tup xs=>xA xs
 |.dK _=>false
 |.dT _=>false
 |_=>true
def xA:List D->Bool
 |[]=>true
 |x :: xs=>x.nb && xA xs
end
mutual
theorem pA:∀ (x y:D),x.nb=true->y.nb=true->(kG x y=true↔x=y)
 |.non,y,_,hy=>by cases y<;>simp_all [kG,D.py,PyData.eqv,D.nb]
 |.bl _,y,hx,_=>by simp[D.nb] at hx
 |.int i,y,_,hy=>by cases y<;>simp_all [kG,D.py,PyData.eqv,D.nb]
 |.str i,y,_,hy=>by cases y<;>simp_all [kG,D.py,PyData.eqv,D.nb]
 |.dK _,y,hx,_=>by simp[D.nb] at hx
 |.dT _,y,hx,_=>by simp[D.nb] at hx
 |.list xs,y,hx,hy=>by
  cases y with
  |list ys =>
   have:=pL xs ys (by simpa[D.nb] using hx) (by simpa[D.nb] using hy)
   simp only[kG,D.py,PyData.eqv,D.list.injEq]
   exact this
  |_=>simp_all [kG,D.py,PyData.eqv,D.nb]
 |.tup xs,y,hx,hy=>by
  cases y with
  |tup ys =>
   have:=pL xs ys (by simpa[D.nb] using hx) (by simpa[D.nb] using hy)
   simp only[kG,D.py,PyData.eqv,D.tup.injEq]
   exact this
  |_=>simp_all [kG,D.py,PyData.eqv,D.nb]
theorem pL:∀ (xs ys:List D),xA xs=true->xA ys=true->(PyData.eqvAll (sM xs) (sM ys)=true↔xs=ys)
 |[],[],_,_=>by simp[sM,PyData.eqvAll]
 |[],_ :: _,_,_=>by simp[sM,PyData.eqvAll]
 |_ :: _,[],_,_=>by simp[sM,PyData.eqvAll]
 |x :: xs,y :: ys,hx,hy=>by
  simp only[xA,kH] at hx hy
  have h1:=pA x y hx.1 hy.1
  have h2:=pL xs ys hx.2 hy.2
  simp only[sM,PyData.eqvAll,kH,List.cons.injEq]
  exact and_congr h1 h2
end
section
variable {K:PySem.W.Frag}{H:Hp}
theorem Rep.key(r:Rep K H d v)(h:d.key1=some k):v=kV k:=by
 cases r<;>simp[D.key1] at h<;>subst h<;>rfl
theorem bp.keys(r:bp K H ds vs)(h:eX ds=some ks):vs=ks.map kV:=by
 induction ds generalizing vs ks with
 |nil=>simp[eX] at h;subst h;exact r.n0
 |cons d ds ih =>
  obtain⟨u,us,rfl,r,rs⟩:=r.c
  unfold eX at h
  cases e1:d.key1 with
  |none=>rw[e1] at h;simp at h
  |some k =>
   cases e2:eX ds with
   |none=>rw[e1,e2] at h;simp at h
   |some iN =>
    rw[e1,e2] at h
    simp at h
    subst h
    rw[fT,r.key e1,ih rs e2]
theorem Rep.lT(r:Rep K H (.tup ds) v)(h:eX ds=some ks):∃ b,v=.ref b/\H b=some (.tup (ks.map kV)):=by
 cases r with
 |tup _ e rs=>exact⟨_,rfl,by rw[e,rs.keys h]⟩
end
section
variable {κ:Type}[DecidableEq κ]{K:PySem.W.Frag}{H:Hp}
theorem zip_get{k:κ}{kvs:List (κ × D)}{vs:List V}(h:bp K H (kvs.map (·.2)) vs):match dE kvs k with
  |some d=>∃ v,fS ((kvs.map (·.1)).zip vs) k=some v/\Rep K H d v
  |none=>fS ((kvs.map (·.1)).zip vs) k=none:=by
 induction kvs generalizing vs with
 |nil=>rfl
 |cons p kvs ih =>
  obtain⟨u,us,rfl,r,rs⟩:=bp.c (d:=p.2) h
  by_cases e:p.1=k
  ·have e1:dE (p :: kvs) k=some p.2:=by simp[dE,e]
   rw[e1]
   exact⟨_,by simp only[fT,GB];exact tI e,r⟩
  ·have e1:dE (p :: kvs) k=dE kvs k:=by simp[dE,e]
   rw[e1]
   have:=ih rs
   simp only[fT,GB,tJ (p:=(p.1,_)) e]
   exact this
theorem DK{k:κ}{kvs:List (κ × D)}{vs:List V}(h:kvs.length=vs.length):((kvs.map (·.1)).zip vs).any (fun kv=>decide (kv.1=k))=kvs.any fun kv=>decide (kv.1=k):=by
 induction kvs generalizing vs with
 |nil=>rfl
 |cons p kvs ih =>
  cases vs with
  |nil=>simp at h
  |cons v vs =>
   simp only[fT,GB,B9]
   rw[ih (vs:=vs) (by simpa using h)]
end
section
variable {K:PySem.W.Frag}{Hs H:Hp}
theorem NF(w:Wf Hs H)(hp:H p=none)(ho:∀ vs,o≠.tup vs):dS Hs H Hs (upd H p o) :=
 ⟨(ay.refl H).upd hp,ay.refl _,⟨w.sub.upd hp,fun a vs e=>by
  by_cases h:a=p
  ·subst h;rw[eR] at e;exact absurd (Option.some.inj e) (ho vs)
  ·rw[cc h] at e;exact w.hG a vs e⟩,fun _ h=>.inl h⟩
theorem Qg(w:Wf Hs H)(hp:H p=none):dS Hs H (upd Hs p (.tup vs)) (upd H p (.tup vs)) :=
 ⟨(ay.refl H).upd hp,(ay.refl Hs).upd (w.sub.free hp),⟨fun a o e=>by
  by_cases h:a=p
  ·subst h;rw[eR] at e ⊢;exact e
  ·rw[cc h] at e ⊢;exact w.sub a o e,fun a vs e=>by
  by_cases h:a=p
  ·subst h;rw[eR] at e ⊢;exact e
  ·rw[cc h] at e ⊢;exact w.hG a vs e⟩,fun a h=>by
  by_cases e:a=p
  ·subst e;exact .inr hp
  ·rw[cc e] at h;exact .inl h⟩
theorem cO.nil:cO Hs H []:=⟨ng,fun a h=>nomatch h⟩
theorem cO.of(s:ay H H')(f:cO Hs H' As):cO Hs H As:=⟨f.1,fun a h=>⟨(f.2 a h).1,s.free (f.2 a h).2⟩⟩
abbrev Fin(K:PySem.W.Frag)(Hs H:Hp)(Qd:Md->D->Prop)(Qv:VK):Prop:=∀ v H' ai m d As,dS Hs H ai H'->RM K ai H' m d v As->cO ai H As->Qd m d->Qv v H'
theorem Fin.after(f:Fin K Hs H Qd Qv)(g:dS Hs H ai H'):Fin K ai H' Qd Qv:=fun v H2 ax m d As g2 r fr q=>f v H2 ax m d As (g.trans g2) r (fr.of g.all) q
theorem Fin.sh(f:Fin K Hs H Qd Qv)(w:Wf Hs H)(r:Rep K Hs d v)(q:Qd .sh d):Qv v H:=f v H Hs .sh d [] (dS.refl w) ⟨rfl,r⟩ cO.nil q
theorem Fin.flat(f:Fin K Hs H Qd Qv)(w:Wf Hs H)(r:Rep K H d v)(hf:d.flat=true)(q:Qd .sh d):Qv v H:=f.sh w (r.gP w.hG hf) q
theorem Fin.bo(f:Fin K Hs H Qd Qv)(w:Wf Hs H)(r:Rep K H d v)(q:Qd .bo d):Qv v H:=f v H Hs .bo d [] (dS.refl w) ⟨rfl,r⟩ cO.nil q
def md(m:Md)(d:D):Md:=match m with
 |.sh=>.sh
 |_=>bif d.flat then .sh else .bo
theorem Fin.md(f:Fin K Hs H Qd Qv)(w:Wf Hs H)(r:Rep K H d v)(rs:m=.sh->Rep K Hs d v)(q:Qd (md m d) d):Qv v H:=by
 cases m with
 |sh=>exact f.sh w (rs rfl) q
 |ow fl =>
  cases hf:d.flat with
  |true=>exact f.flat w r hf (by simpa[Q.md,hf] using q)
  |false=>exact f.bo w r (by simpa[Q.md,hf] using q)
 |bo =>
  cases hf:d.flat with
  |true=>exact f.flat w r hf (by simpa[Q.md,hf] using q)
  |false=>exact f.bo w r (by simpa[Q.md,hf] using q)
theorem Fin.lst(f:Fin K Hs H Qd Qv)(w:Wf Hs H)(hz:ds.length<=sizeLine)(r:bp K H ds vs)(hf:cy ds=true)(q:Qd (.ow true) (.list ds)):∀ p,H p=none->Qv (.ref p) (upd H p (.lst vs)):=fun p hp =>
 f _ _ Hs (.ow true) (.list ds) [p] (NF w hp fun _ z=>nomatch z) ⟨.list (by rw[<- r.length];exact hz) eR ((r.gP w.hG hf).owned hf),by simp⟩ ⟨by simp,fun a h=>by
  obtain rfl:a=p:=by simpa using h
  exact⟨w.sub.free hp,hp⟩⟩ q
theorem Fin.Qh(f:Fin K Hs H Qd Qv)(w:Wf Hs H)(hz:ds.length<=sizeLine)(r:bp K Hs ds vs)(q:Qd (.ow false) (.list ds)):∀ p,H p=none->Qv (.ref p) (upd H p (.lst vs)):=fun p hp =>
 f _ _ Hs (.ow false) (.list ds) [p] (NF w hp fun _ z=>nomatch z) ⟨.list (by rw[<- r.length];exact hz) eR r.G3,by simp⟩ ⟨by simp,fun a h=>by
  obtain rfl:a=p:=by simpa using h
  exact⟨w.sub.free hp,hp⟩⟩ q
theorem Fin.tup(f:Fin K Hs H Qd Qv)(w:Wf Hs H)(hz:ds.length<=sizeLine)(r:bp K H ds vs)(hf:cy ds=true)(q:Qd .sh (.tup ds)):∀ p,H p=none->Qv (.ref p) (upd H p (.tup vs)):=fun p hp =>
 f _ _ (upd Hs p (.tup vs)) .sh (.tup ds) [] (Qg w hp) ⟨rfl,.tup (by rw[<- r.length];exact hz) eR ((r.gP w.hG hf).same ((ay.refl Hs).upd (w.sub.free hp)))⟩ cO.nil q
end
section
variable {X:Cx}{K:PySem.W.Frag}
theorem PE.imp(h:PE X e te)(i:∀ σ H Q,ua σ H Q->te σ H Q):PE X e ua:=fun pins s σ H Q I q=>h pins s σ H Q I (i σ H Q q)
theorem PT.imp(h:PT X e te)(i:∀ σ H Q,ua σ H Q->te σ H Q):PT X e ua:=fun pins s σ H Q I q=>h pins s σ H Q I (i σ H Q q)
theorem PW.imp(h:PW X e te)(i:∀ σ H Q,ua σ H Q->te σ H Q):PW X e ua:=fun wh pins s σ H Q I q=>h wh pins s σ H Q I (i σ H Q q)
theorem PA.imp(h:PA X e te)(i:∀ σ H Q,ua σ H Q->te σ H Q):PA X e ua:=fun p pins s σ H Q I q=>h p pins s σ H Q I (i σ H Q q)
def NH:Option (Option Sl)->(Md->D->Prop)->Prop
 |some (some (.sh d)),Q=>Q .sh d
 |some (some (.ow _ d)),Q=>Q .bo d
 |some (some (.lk _ _ d)),Q=>Q .bo d
 |_,_=>False
def av(i:Nat):WE:=fun ρ Q=>NH ρ[i]? Q
theorem Jq(h:PE X e (CF i)):QE X K e (av i):=by
 refine PE.imp h fun σ H Qv hx=>kr hx fun Hs ρ ae Q sr h f=>?_
 unfold av at h
 cases e:ρ[i]? with
 |none=>rw[e] at h;exact h.elim
 |some o =>
  cases o with
  |none=>rw[e] at h;exact h.elim
  |some sl =>
   obtain⟨v,e1,r⟩:=sr.sr.get e
   rw[e] at h
   cases sl with
   |sh d=>exact⟨v,e1,Fin.sh f sr.wf r h⟩
   |xc a=>exact h.elim
   |ow fl d =>
    obtain⟨As,_,r,_⟩:=r
    exact⟨v,e1,Fin.bo f sr.wf (r.rep sr.wf.sub fun _ _=>rfl) h⟩
   |lk a fl d =>
    obtain⟨As,_,r,_⟩:=r
    exact⟨v,e1,Fin.bo f sr.wf (r.rep sr.wf.sub fun _ _=>rfl) h⟩
theorem qv (i:Nat) (hN:X.N[i]? = some x:=by rfl) (hv:O7 X.env.scope x:=by first|exact Or.inl rfl|exact Or.inr (Or.inl rfl)|exact Or.inr (Or.inr rfl)) (hd:(x == ("__debug__" : Str))=false:=by decide)
  (oz:(x == ("__classdict__" : Str))=false:=by decide):QE X K (.Name x pos) (av i):=Jq (VN hN hv hd oz)
def wC(d:D):WE:=fun _ Q=>Q .sh d
theorem zA(h:PE X e (tC v))(r:∀ H,Rep K H d v):QE X K e (wC d) :=
 PE.imp h fun σ H Qv hx=>kr hx fun Hs ρ ae Q sr h f=>Fin.sh f sr.wf (r _) h
theorem au{i j pos}:QE X K (.Constant (.int i) j pos) (wC (.int i)):=zA ZE fun _=>.int i
theorem il{i j pos}(h:i.length<=sizeLine:=by decide):QE X K (.Constant (.str i) j pos) (wC (.str i)):=zA ZG fun _=>.str h
theorem ub{i j pos}:QE X K (.Constant (.bool i) j pos) (wC (.bl i)):=zA ZF fun _=>.bl i
theorem Qi (h:S6 X.mg x z) (hg:Gl X x:=by rfl) (hd:(x == ("__debug__" : Str))=false:=by decide) (hz:z.length<=sizeLine:=by decide):QE X K (.Name x pos) (wC (.str z)):=zA (Iz h hg hd) fun _=>.str hz
abbrev W2:=Md->D->Md->D->(Md->D->Prop)->Prop
abbrev W1:=Md->D->(Md->D->Prop)->Prop
def mh(K:PySem.W.Frag)(r:R2)(f:W2):Prop:=∀ Hs H m x v As n y u Bs Qd Qv,Wf Hs H->RM K Hs H m x v As->RM K Hs H n y u Bs->f m x n y Qd->Fin K Hs H Qd Qv->r v u H Qv
def Qj(K:PySem.W.Frag)(r:V->Hp->VK->Prop)(f:W1):Prop:=∀ Hs H m x v As Qd Qv,Wf Hs H->RM K Hs H m x v As->f m x Qd->Fin K Hs H Qd Qv->r v H Qv
def aw(f:W2)(ta tb:WE):WE:=fun ρ Q=>ta ρ fun m x=>tb ρ fun n y=>f m x n y Q
def i6(f:W1)(ta:WE):WE:=fun ρ Q=>ta ρ fun m x=>f m x Q
variable {a b:Expr}{ta tb tc:WE}{pos:Pos}
theorem oG(br:mh K r f)(σ:St)(H:Hp)(Qv:VK)(h:lS K (aw f ta tb) σ H Qv):M0 r (lS K ta) (lS K tb) σ H Qv:=by
 obtain⟨Hs,ρ,ae,Q,sr,h,fin⟩:=h
 refine⟨Hs,ρ,ae,_,sr,h,fun v H1 aE m x As g1 r1 f1 q1=>⟨aE,ρ,ae,_,sr.grow g1,q1,fun u H2 ax n y Bs g2 r2 f2 q2=>?_⟩⟩
 exact br ax H2 m x v As n y u Bs Q Qv g2.wf (r1.grow g2) r2 q2 (Fin.after fin (g1.trans g2))
theorem Fh(ho:dn X (binaryOp op) r)(br:mh K r f)(ha:QE X K a ta)(hb:QE X K b tb):QE X K (.BinOp a op b pos) (aw f ta tb):=PE.imp (ak' ho ha hb) (oG br)
theorem dG'(ho:Pp X (unaryOp op) r)(br:Qj K r f)(ha:QE X K a ta):QE X K (.UnaryOp op a pos) (i6 f ta):=by
 refine PE.imp (al' ho ha) fun σ H Qv hx=>kr hx fun Hs ρ ae Q sr h fin=>?_
 exact⟨Hs,ρ,ae,_,sr,h,fun v H1 aE m x As g1 r1 f1 q1=>br aE H1 m x v As Q Qv g1.wf r1 q1 (Fin.after fin g1)⟩
theorem Dy(ho:dn X (compareOp op) r)(br:mh K r f)(ha:QE X K a ta)(hb:QE X K b tb)(hm:behindInMarks op b=false):QE X K (.Compare a [op] [b] pos) (aw f ta tb):=PE.imp (aG' ho ha hb hm) (oG br)
def wB(t:WE):WT:=fun ρ Q=>t ρ fun _ x=>match x with
 |.bl b=>Q b
 |_=>False
theorem Ab(σ:St)(H:Hp)(Qv:Bool->Hp->Prop)(h:BG K (wB t) σ H Qv):R5 (lS K t) σ H Qv:=by
 obtain⟨Hs,ρ,ae,Q,sr,h,fin⟩:=h
 refine⟨Hs,ρ,ae,_,sr,h,fun v H1 aE m x As g1 r1 f1 q1=>?_⟩
 have r:=r1.rep g1.wf
 cases r with
 |bl b=>exact⟨b,rfl,fin b H1 aE g1 q1⟩
 |_=>exact q1.elim
theorem bh(ho:dn X (compareOp op) r)(br:mh K r f)(ha:QE X K a ta)(hb:QE X K b tb)(hm:behindInMarks op b=false):QT X K (.Compare a [op] [b] pos) (wB (aw f ta tb)):=by
 refine PT.imp (aH' ho ha hb hm) fun σ H Qv h=>?_
 obtain⟨Hs,ρ,ae,Q,sr,h,fin⟩:=h
 refine oG br σ H _ ⟨Hs,ρ,ae,_,sr,h,fun v H1 aE m x As g1 r1 f1 q1=>?_⟩
 have r:=r1.rep g1.wf
 cases r with
 |bl b=>exact⟨b,rfl,fin b H1 aE g1 q1⟩
 |_=>exact q1.elim
theorem uQ(h:QE X K a t)(he:∀ whole,isTrue a X.env whole=(do let v <- whole;standAt a.pos;holding [v] (truthy v)):=by intro _;rfl):QT X K a (wB t):=PT.imp (ZI h he) Ab
def qp(f g:W2)(ta tb tc:WE):WE:=fun ρ Q=>ta ρ fun m x=>tb ρ fun n y=>f m x n y fun _ z=>match z with
 |.bl k=>if k=true then tc ρ fun l w=>g n y l w Q else Q .sh (.bl false)
 |_=>False
end
end L2.Q
namespace L2.Q
open PySem PySem.Spec PyProof.Rows
section
variable {X:Cx}{K:PySem.W.Frag}{a b c:Expr}{ta tb tc:WE}{pos:Pos}
theorem vU(br:mh K r f)(Tt:mh K r' g)(σ:St)(H:Hp)(Qv:VK)(h:lS K (qp f g ta tb tc) σ H Qv):V7 r r' (lS K ta) (lS K tb) (lS K tc) σ H Qv:=by
 obtain⟨Hs,ρ,ae,Q,sr,h,fin⟩:=h
 refine⟨Hs,ρ,ae,_,sr,h,fun v H1 aE m x As g1 r1 f1 q1=>⟨aE,ρ,ae,_,sr.grow g1,q1,fun u H2 ax n y Bs g2 r2 f2 q2=>?_⟩⟩
 refine br ax H2 m x v As n y u Bs _ _ g2.wf (r1.grow g2) r2 q2 fun z H3 dP m3 d3 IQ g3 r3 f3 q3=>?_
 have rr:=r3.rep g3.wf
 cases rr with
 |bl k =>
  refine⟨k,rfl,?_⟩
  have P9:Fin K dP H3 Q Qv:=Fin.after fin ((g1.trans g2).trans g3)
  cases k with
  |false=>exact P9.sh g3.wf (.bl false) q3
  |true =>
   refine⟨dP,ρ,ae,_,((sr.grow g1).grow g2).grow g3,q3,fun w H4 IU l z IX g4 r4 f4 q4=>?_⟩
   exact Tt IU H4 n y u Bs l z w IX Q Qv g4.wf ((r2.grow g3).grow g4) r4 q4 (Fin.after P9 g4)
 |_=>exact q3.elim
theorem zm(ho:dn X (compareOp op) r)(mz:dn X (compareOp op') r')(br:mh K r f)(Tt:mh K r' g)(ha:QE X K a ta)(hb:QE X K b tb)(hc:QE X K c tc)
  (hm:lastMarks [op,op'] [b,c]=false:=by with_unfolding_all rfl):QT X K (.Compare a [op,op'] [b,c] pos) (wB (qp f g ta tb tc)):=by
 refine PT.imp (aI' ho mz ha hb hc hm) fun σ H Qv h=>?_
 obtain⟨Hs,ρ,ae,Q,sr,h,fin⟩:=h
 refine vU br Tt σ H _ ⟨Hs,ρ,ae,_,sr,h,fun v H1 aE m x As g1 r1 f1 q1=>?_⟩
 have r:=r1.rep g1.wf
 cases r with
 |bl b=>exact⟨b,rfl,fin b H1 aE g1 q1⟩
 |_=>exact q1.elim
def Fm(t u:WT):WT:=fun ρ Q=>t ρ fun c=>if c=true then u ρ Q else Q false
def Fn(t u:WT):WT:=fun ρ Q=>t ρ fun c=>if c=true then Q true else u ρ Q
def IY(t:WT):WT:=fun ρ Q=>t ρ fun c=>Q (!c)
variable {tA tB:WT}{rest:List Expr}
theorem pF{t u:WT}{f:Bool->TT}{σ:St}{H:Hp}{Qv:Bool->Hp->Prop}{G:Bool->(Bool->Prop)->Env->Prop}
  (h:BG K (fun ρ Q=>t ρ fun c=>G c Q ρ) σ H Qv)
  (i:∀ c H1 aE ρ ae Q,cK K aE ρ σ H1 ae->G c Q ρ->(∀ b H' ai,dS aE H1 ai H'->Q b->Qv b H')->f c σ H1 Qv):BG K t σ H fun c H1=>f c σ H1 Qv:=by
 obtain⟨Hs,ρ,ae,Q,sr,h,fin⟩:=h
 exact⟨Hs,ρ,ae,_,sr,h,fun c H1 aE g1 q1=>i c H1 aE ρ ae Q (sr.grow g1) q1 fun b H' ai g2=>fin b H' ai (g1.trans g2)⟩
theorem lX(ha:QT X K a tA):QW X K (.BoolOp .And [a] pos) tA:=pw_and1 ha
theorem BK(ha:QT X K a tA):QW X K (.BoolOp .Or [a] pos) tA:=pw_or1 ha
theorem rJ(ha:QT X K a tA)(hb:QW X K (.BoolOp .And (b :: rest) pos) tB):QW X K (.BoolOp .And (a :: b :: rest) pos) (Fm tA tB):=by
 refine PW.imp (pw_and ha hb) fun σ H Qv h=>?_
 refine pF (u:=tB) (f:=fun c σ H1 Q=>if c=true then BG K tB σ H1 Q else Q false H1) h fun c H1 aE ρ ae Q sr q fin=>?_
 cases c with
 |true=>exact⟨aE,ρ,ae,Q,sr,q,fin⟩
 |false=>exact fin false H1 aE (dS.refl sr.wf) q
theorem xx(ha:QT X K a tA)(hb:QW X K (.BoolOp .Or (b :: rest) pos) tB):QW X K (.BoolOp .Or (a :: b :: rest) pos) (Fn tA tB):=by
 refine PW.imp (pw_or ha hb) fun σ H Qv h=>?_
 refine pF (u:=tB) (f:=fun c σ H1 Q=>if c=true then Q true H1 else BG K tB σ H1 Q) h fun c H1 aE ρ ae Q sr q fin=>?_
 cases c with
 |true=>exact fin true H1 aE (dS.refl sr.wf) q
 |false=>exact⟨aE,ρ,ae,Q,sr,q,fin⟩
theorem Fs(h:QW X K a tA):QT X K a tA:=h _
theorem vy(ha:QT X K a tA):QT X K (.UnaryOp .Not a pos) (IY tA):=by
 refine PT.imp (ZM ha) fun σ H Qv h=>?_
 exact pF (u:=tA) (f:=fun c σ H1 Q=>Q (!c) H1) h fun c H1 aE ρ ae Q sr q fin=>fin _ H1 aE (dS.refl sr.wf) q
def zx(ta tb:WE):WE:=fun ρ Q=>ta ρ fun _ x=>match x with
 |.bl c=>if c=true then tb ρ Q else Q .sh (.bl false)
 |_=>False
theorem Jm{op}(h:QE X K a ta):QE X K (.BoolOp op [a] pos) ta:=ZO h
theorem Js(ha:QE X K a ta)(hb:QE X K (.BoolOp .And (b :: rest) pos) tb):QE X K (.BoolOp .And (a :: b :: rest) pos) (zx ta tb):=by
 refine PE.imp (ZP ha hb) fun σ H Qv hx=>kr hx fun Hs ρ ae Q sr h fin=>?_
 refine⟨Hs,ρ,ae,_,sr,h,fun v H1 aE m x As g1 r1 f1 q1=>?_⟩
 have r:=r1.rep g1.wf
 cases r with
 |bl c =>
  refine⟨c,rfl,?_⟩
  cases c with
  |true=>exact⟨aE,ρ,ae,Q,sr.grow g1,q1,Fin.after fin g1⟩
  |false=>exact Fin.sh (Fin.after fin g1) g1.wf (.bl false) q1
 |_=>exact q1.elim
def Qk:D->Option Bool
 |.non=>some false
 |.bl b=>some b
 |.int i=>some (i != 0)
 |.str x=>some ((x.length:Int) != 0)
 |.list xs=>some !xs.isEmpty
 |.tup xs=>some !xs.isEmpty
 |.dK kvs=>none
 |.dT kvs=>none
def Tv(t:WE):WT:=fun ρ Q=>t ρ fun _ x=>∃ b,Qk x=some b/\Q b
end
def gV:W2:=fun m x n y Q=>match x,y with
 |.int i,.int j=>Q .sh (.int (i+j))
 |.str i,.str j=>i.length+j.length<=sizeLine/\Q .sh (.str (i++j))
 |.list xs,.list ys=>xs.length+ys.length<=sizeLine/\((cy xs=true/\cy ys=true/\Q (.ow true) (.list (xs++ys)))\/(m=.sh/\n=.sh/\Q (.ow false) (.list (xs++ys))))
 |.tup xs,.tup ys=>xs≠[]/\xs.length+ys.length<=sizeLine/\cy xs=true/\cy ys=true/\Q .sh (.tup (xs++ys))
 |_,_=>False
def IZ(P:Int->Int->(Md->D->Prop)->Prop):W2:=fun _ x _ y Q=>match x,y with
 |.int i,.int j=>P i j Q
 |_,_=>False
def Tw(P:Int->Int->(Md->D->Prop)->Prop)(S:Str->Str->(Md->D->Prop)->Prop):W2:=fun _ x _ y Q=>match x,y with
 |.int i,.int j=>P i j Q
 |.str i,.str j=>S i j Q
 |_,_=>False
def I0:W2:=IZ fun i j Q=>Q .sh (.int (i-j))
def Ql:W2:=IZ fun i j Q=>EJ i j/\Q .sh (.int (i*j))
def i7:W2:=IZ fun i j Q=>(0<j/\j<1073741824)/\Q .sh (.int (i / j))
def gX:W2:=IZ fun i j Q=>0<j/\Q .sh (.int (i % j))
def NJ:W2:=IZ fun i j Q=>HL i j/\Q .sh (.int (i ^ j.toNat))
def Fu:W2:=Tw (fun i j Q=>Q .sh (.bl (decide (i<j)))) fun i j Q=>Q .sh (.bl (pE i j))
def Tx:W2:=Tw (fun i j Q=>Q .sh (.bl (decide (i<=j)))) fun i j Q=>Q .sh (.bl (!pE j i))
def nL:W2:=fun _ x _ y Q=>match x,y with
 |.int i,.int j=>Q .sh (.bl (decide (i=j)))
 |.str i,.str j=>Q .sh (.bl (decide (i=j)))
 |.bl i,.bl j=>Q .sh (.bl (decide (i=j)))
 |_,_=>eh 12 x=true/\eh 12 y=true/\Q .sh (.bl (kG x y))
def ui:W2:=fun _ x _ y Q=>match x,y with
 |.int i,.int j=>Q .sh (.bl (!decide (i=j)))
 |.str i,.str j=>Q .sh (.bl (!decide (i=j)))
 |.bl i,.bl j=>Q .sh (.bl (!decide (i=j)))
 |_,_=>eh 12 x=true/\eh 12 y=true/\Q .sh (.bl (!kG x y))
def iz:D->Bool
 |.non=>true
 |.bl _=>true
 |.int _=>true
 |.str _=>true
 |_=>false
def inD(x:D)(ys:List D):Bool:=ys.any fun y=>kG y x
def DH(neg:Bool):W2:=fun _ x _ y Q=>match y with
 |.str j=>match x with
  |.str i=>Q .sh (.bl (if neg then !P4 i j else P4 i j))
  |_=>False
 |.list ys=>iz x=true/\ys.all iz=true/\Q .sh (.bl (if neg then !inD x ys else inD x ys))
 |.tup ys=>iz x=true/\ys.all iz=true/\Q .sh (.bl (if neg then !inD x ys else inD x ys))
 |.dK kvs=>∃ k,x.key1=some k/\Q .sh (.bl (if neg then !(dE kvs k).isSome else (dE kvs k).isSome))
 |.dT kvs=>match x with
  |.tup xs=>∃ ks,eX xs=some ks/\Q .sh (.bl (if neg then !(dE kvs ks).isSome else (dE kvs ks).isSome))
  |_=>False
 |_=>False
section
variable {K:PySem.W.Frag}
theorem Ed(f:Fin K Hs H Qd Qv)(w:Wf Hs H)(h:x.length<=sizeLine)(q:Qd .sh (.str x)):Qv (.str x) H:=f.sh w (.str h) q
theorem cC(i j:Str):(i++j).length=i.length+j.length:=by
 show((i++j).cps.size)=_
 show(i.cps++j.cps).size=_
 simp[Str.length]
theorem Gv:mh K (fun x y H Q=>zO K x y H Q\/Sg K x y H Q) gV:=by
 intro Hs H m x v As n y u Bs Qd Qv w rx ry h f
 have r1:=rx.rep w
 have r2:=ry.rep w
 unfold gV at h
 cases r1 with
 |int i=>cases r2 with
  |int j=>exact .inl (f.sh w (.int _) h)
  |_=>exact h.elim
 |str hi=>cases r2 with
  |str hj=>exact .inl ⟨h.1,Ed f w (by rw[cC];exact h.1) h.2⟩
  |_=>exact h.elim
 |list z1 s1 q1=>cases r2 with
  |list z2 s2 q2 =>
   have l1:=q1.length
   have l2:=q2.length
   have hz:=h.1
   rcases h.2 with⟨f1,f2,q⟩|⟨rfl,rfl,q⟩
   ·refine .inl ⟨_,_,s1,s2,by lia,?_⟩
    exact f.lst w (by rw[kz];exact hz) (q1.append q2) (by rw[jt,f1,f2];rfl) q
   ·obtain⟨_,rx⟩:=rx
    obtain⟨_,ry⟩:=ry
    cases rx with
    |list z1' s1' Jn=>cases ry with
     |list z2' s2' XJ =>
      have l1:=Jn.length
      have l2:=XJ.length
      refine .inl ⟨_,_,ay.seq w.sub s1',ay.seq w.sub s2',by lia,?_⟩
      exact f.Qh w (by rw[kz];exact hz) (Jn.append XJ) q
  |_=>exact h.elim
 |tup t1 s1 q1=>cases r2 with
  |tup t2 s2 q2 =>
   have l1:=q1.length
   have l2:=q2.length
   obtain⟨fI,hz,f1,f2,q⟩:=h
   refine .inr ⟨_,_,_,_,rfl,rfl,.inl (.inl s1),.inl (.inl s2),?_,by lia,?_⟩
   ·intro e
    subst e
    exact fI (Ou.mp l1)
   ·refine⟨fun e=>?_,fun _=>f.tup w (by rw[kz];exact hz) (q1.append q2) (by rw[jt,f1,f2];rfl) q⟩
    subst e
    cases q2
    rw[mr] at q
    exact f.flat w (.tup t1 s1 q1) (by simpa[D.flat] using f1) q
  |_=>exact h.elim
 |_=>exact h.elim
theorem BL{H:Hp}{x y:D}{v u:V}{m n:Md}{P:Int->Int->(Md->D->Prop)->Prop}{S:Str->Str->(Md->D->Prop)->Prop}{Q:Md->D->Prop}{G:Prop}(r1:Rep K H x v)(r2:Rep K H y u)(h:Tw P S m x n y Q)(k:∀ i j,v=.int i->u=.int j->P i j Q->G)(ks:∀ i j,v=.str i->u=.str j->S i j Q->G):G:=by
 cases r1 with
 |int i=>cases r2 with
  |int j=>exact k i j rfl rfl h
  |_=>exact h.elim
 |str hi=>cases r2 with
  |str hj=>exact ks _ _ rfl rfl h
  |_=>exact h.elim
 |_=>exact h.elim
theorem mj{H:Hp}{x y:D}{v u:V}{m n:Md}{P:Int->Int->(Md->D->Prop)->Prop}{Q:Md->D->Prop}{G:Prop}(r1:Rep K H x v)(r2:Rep K H y u)(h:IZ P m x n y Q)(k:∀ i j,v=.int i->u=.int j->P i j Q->G):G:=by
 cases r1 with
 |int i=>cases r2 with
  |int j=>exact k i j rfl rfl h
  |_=>exact h.elim
 |_=>exact h.elim
theorem GD:mh K Cq I0:=by
 intro Hs H m x v As n y u Bs Qd Qv w rx ry h f
 exact mj (rx.rep w) (ry.rep w) h fun i j e1 e2 q=>by
  subst e1 e2
  exact f.sh w (.int _) q
theorem Ff:mh K D_ Ql:=by
 intro Hs H m x v As n y u Bs Qd Qv w rx ry h f
 exact mj (rx.rep w) (ry.rep w) h fun i j e1 e2 q=>by
  subst e1 e2
  exact⟨q.1,f.sh w (.int _) q.2⟩
theorem E_:mh K CV i7:=by
 intro Hs H m x v As n y u Bs Qd Qv w rx ry h f
 exact mj (rx.rep w) (ry.rep w) h fun i j e1 e2 q=>by
  subst e1 e2
  exact⟨q.1,f.sh w (.int _) q.2⟩
theorem Hn:mh K Dn gX:=by
 intro Hs H m x v As n y u Bs Qd Qv w rx ry h f
 exact mj (rx.rep w) (ry.rep w) h fun i j e1 e2 q=>by
  subst e1 e2
  exact⟨q.1,f.sh w (.int _) q.2⟩
theorem GR:mh K Dg NJ:=by
 intro Hs H m x v As n y u Bs Qd Qv w rx ry h f
 exact mj (rx.rep w) (ry.rep w) h fun i j e1 e2 q=>by
  subst e1 e2
  exact⟨q.1,f.sh w (.int _) q.2⟩
theorem Bd:mh K SQ Fu:=by
 intro Hs H m x v As n y u Bs Qd Qv w rx ry h f
 exact BL (rx.rep w) (ry.rep w) h (fun i j e1 e2 q=>by
  subst e1 e2
  exact f.sh w (.bl _) q) fun i j e1 e2 q=>by
  subst e1 e2
  exact f.sh w (.bl _) q
theorem Ib:mh K SV Tx:=by
 intro Hs H m x v As n y u Bs Qd Qv w rx ry h f
 exact BL (rx.rep w) (ry.rep w) h (fun i j e1 e2 q=>by
  subst e1 e2
  exact f.sh w (.bl _) q) fun i j e1 e2 q=>by
  subst e1 e2
  exact f.sh w (.bl _) q
theorem eq_data(w:Wf Hs H)(rx:Rep K H x v)(ry:Rep K H y u)(f:Fin K Hs H Qd Qv)(h:eh 12 x=true/\eh 12 y=true/\Qd .sh (.bl (kG x y))):SY K v u H Qv:=by
 obtain⟨h1,h2,q⟩:=h
 have l1:=vp 12 x h1
 have l2:=vp 12 y h2
 exact⟨x.py,y.py,rx.l2 h1,ry.l2 h2,l1.1,l2.1,by lia,f.sh w (.bl _) q⟩
theorem ne_data(w:Wf Hs H)(rx:Rep K H x v)(ry:Rep K H y u)(f:Fin K Hs H Qd Qv)(h:eh 12 x=true/\eh 12 y=true/\Qd .sh (.bl (!kG x y))):S0 K v u H Qv:=by
 obtain⟨h1,h2,q⟩:=h
 have l1:=vp 12 x h1
 have l2:=vp 12 y h2
 exact⟨x.py,y.py,rx.l2 h1,ry.l2 h2,l1.1,l2.1,by lia,f.sh w (.bl _) q⟩
theorem iD:mh K (P0 K) nL:=by
 intro Hs H m x v As n y u Bs Qd Qv w rx ry h f
 have r1:=rx.rep w
 have r2:=ry.rep w
 have d:=fun h=>eq_data (Qd:=Qd) (Qv:=Qv) w r1 r2 f h
 cases r1 with
 |int i=>cases r2 with
  |int j=>exact f.sh w (.bl _) h
  |_=>exact d h
 |str i=>cases r2 with
  |str j=>exact f.sh w (.bl _) h
  |_=>exact d h
 |bl i=>cases r2 with
  |bl j=>exact f.sh w (.bl _) h
  |_=>exact d h
 |_=>exact d h
theorem rQ:mh K (P1 K) ui:=by
 intro Hs H m x v As n y u Bs Qd Qv w rx ry h f
 have r1:=rx.rep w
 have r2:=ry.rep w
 have d:=fun h=>ne_data (Qd:=Qd) (Qv:=Qv) w r1 r2 f h
 cases r1 with
 |int i=>cases r2 with
  |int j=>exact f.sh w (.bl _) h
  |_=>exact d h
 |str i=>cases r2 with
  |str j=>exact f.sh w (.bl _) h
  |_=>exact d h
 |bl i=>cases r2 with
  |bl j=>exact f.sh w (.bl _) h
  |_=>exact d h
 |_=>exact d h
theorem lB(r:Rep K H x v)(h:iz x=true):zt v=true:=by
 cases r<;>first|rfl|(simp[iz] at h)
theorem Dz(r:Rep K H x v)(s:Rep K H y u)(h:iz x=true)(g:iz y=true):A4 v u=kG x y:=by
 cases r<;>simp[iz] at h<;>cases s<;>simp[iz] at g<;>rfl
theorem Fi(r:Rep K H x v)(h:iz x=true)(rs:bp K H ys us)(g:ys.all iz=true):us.all zt=true/\PB v us=inD x ys:=by
 induction ys generalizing us with
 |nil=>rw[rs.n0];exact⟨rfl,rfl⟩
 |cons y ys ih =>
  obtain⟨u,us,rfl,s,ss⟩:=rs.c
  simp only[B8,kH] at g
  obtain⟨e1,e2⟩:=ih ss g.2
  refine⟨by simp only[B8,lB s g.1,e1,Bool.and_self],?_⟩
  unfold PB inD at *
  rw[B9,B9,e2,Dz s r g.1 h]
theorem qI{κ:Type}[DecidableEq κ]{H:Hp}{k:κ}{kvs:List (κ × D)}{vs:List V}(r:bp K H (kvs.map (·.2)) vs):(fS ((kvs.map (·.1)).zip vs) k).isSome=(dE kvs k).isSome:=by
 have:=zip_get (k:=k) r
 split at this
 ·rename_i e
  obtain⟨v,e1,_⟩:=this
  rw[e1,e];rfl
 ·rename_i e
  rw[this,e];rfl
theorem zE{neg:Bool}:mh K (EZ K neg) (DH neg):=by
 intro Hs H m x v As n y u Bs Qd Qv w rx ry h f
 have r1:=rx.rep w
 have r2:=ry.rep w
 cases r2 with
 |str j=>cases r1 with
  |str i=>exact f.sh w (.bl _) h
  |_=>exact h.elim
 |list z s q =>
  obtain⟨h1,h2,h3⟩:=h
  obtain⟨e1,e2⟩:=Fi r1 h1 q h2
  have h4:=lB r1 h1
  have g:Nh K neg v (.ref _) H Qv:=⟨_,_,rfl,.inl s,h4,e1,by rw[e2];exact f.sh w (.bl _) h3⟩
  cases r1<;>exact .inr g
 |tup _ s q =>
  obtain⟨h1,h2,h3⟩:=h
  obtain⟨e1,e2⟩:=Fi r1 h1 q h2
  have h4:=lB r1 h1
  have g:Nh K neg v (.ref _) H Qv:=⟨_,_,rfl,.inr (.inl (.inl s)),h4,e1,by rw[e2];exact f.sh w (.bl _) h3⟩
  cases r1<;>exact .inr g
 |dK kk e q =>
  obtain⟨k,hk,h3⟩:=h
  have ev:=r1.key hk
  subst ev
  have eg:=qI (k:=k) q
  cases k<;>exact .inl ⟨_,kL.k' e,by rw[eg];exact f.sh w (.bl _) h3⟩
 |dT kk e q =>
  cases r1 with
  |tup t1 e1 q1 =>
   obtain⟨ks,hk,h3⟩:=h
   obtain⟨b,eb,e2⟩:=Rep.lT (.tup t1 e1 q1) hk
   cases eb
   have eg:=qI (k:=ks) q
   exact .inl ⟨_,kL.t' e e2,by rw[eg];exact f.sh w (.bl _) h3⟩
  |_=>exact h.elim
 |_=>exact h.elim
end
section
variable {X:Cx}{K:PySem.W.Frag}{a b:Expr}{ta tb:WE}{pos:Pos}
theorem Jr(hK:X.K=K:=by rfl):dn X (binaryOp .Add) (fun x y H Q=>zO K x y H Q\/Sg K x y H Q):=by subst hK;exact Et.or bo'
theorem cR(ha:QE X K a ta)(hb:QE X K b tb)(hK:X.K=K:=by rfl):QE X K (.BinOp a .Add b pos) (aw gV ta tb):=Fh (Jr hK) Gv ha hb
theorem B_(ha:QE X K a ta)(hb:QE X K b tb):QE X K (.BinOp a .Sub b pos) (aw I0 ta tb):=Fh Cr GD ha hb
theorem Ii(ha:QE X K a ta)(hb:QE X K b tb):QE X K (.BinOp a .Mult b pos) (aw Ql ta tb):=Fh Cg Ff ha hb
theorem cT(ha:QE X K a ta)(hb:QE X K b tb):QE X K (.BinOp a .FloorDiv b pos) (aw i7 ta tb):=Fh Eo E_ ha hb
theorem cj(ha:QE X K a ta)(hb:QE X K b tb):QE X K (.BinOp a .Mod b pos) (aw gX ta tb):=Fh Cu Hn ha hb
theorem Fe(ha:QE X K a ta)(hb:QE X K b tb):QE X K (.BinOp a .Pow b pos) (aw NJ ta tb):=Fh Ep GR ha hb
def NK:W1:=fun _ x Q=>match x with
 |.int i=>Q .sh (.int (-i))
 |_=>False
theorem G_:Qj K (rU fun i=>.int (-i)) NK:=by
 intro Hs H m x v As Qd Qv w rx h f
 have r1:=rx.rep w
 cases r1 with
 |int i=>exact⟨i,rfl,f.sh w (.int _) h⟩
 |_=>exact h.elim
theorem Gz(ha:QE X K a ta):QE X K (.UnaryOp .USub a pos) (i6 NK ta):=dG' aw' G_ ha
end
def b9:WA:=fun _ Q=>Q []
def ak(te:WE)(t:WA):WA:=fun ρ Q=>te ρ fun m x=>t ρ fun ps=>Q ((m,x) :: ps)
def xB:Md × D->Bool
 | (.sh,_)=>true
 | (_,d)=>d.flat
def FC:Md × D->Bool
 | (.bo,d)=>d.flat
 |_=>true
def DI:Md × D->Bool
 | (.ow true,_)=>true
 | (_,d)=>d.flat
def sZ(ps:List (Md × D)):Md:=bif ps.all xB then .sh else bif ps.all FC then .ow (ps.all DI) else .bo
def BZ(ps:List (Md × D)):Md:=bif ps.all FC then .ow (ps.all DI) else .bo
def g7(t:WA):WE:=fun ρ Q=>t ρ fun ps=>ps.length<=sizeLine/\Q (sZ ps) (.tup (ps.map (·.2)))
def nS(t:WA):WE:=fun ρ Q=>t ρ fun ps=>ps.length<=sizeLine/\Q (BZ ps) (.list (ps.map (·.2)))
section
variable {X:Cx}{K:PySem.W.Frag}{e:Expr}{es:List Expr}{te:WE}{t:WA}{pos:Pos}{Hs H:Hp}
theorem aq:QA X K [] b9:=PA.imp tq fun σ H Qv hx=>kr hx fun Hs ρ ae Q sr h f=>f [] H Hs [] [] (dS.refl sr.wf) .nil cO.nil h
theorem cO.app(f1:cO aE H As)(o:∀ a∈As,H1 a≠none)(f2:cO ax H1 Bs)(s:ay H H1)(k:∀ a,aE a=none->H1 a≠none->ax a=none):cO ax H (As++Bs) :=
 ⟨iA.mpr ⟨f1.1,f2.1,fun a ha b hb e=>by subst e;exact o a ha (f2.2 a hb).2⟩,fun a h=>by
  rcases dz.mp h with h|h
  ·exact⟨k a (f1.2 a h).1 (o a h),(f1.2 a h).2⟩
  ·exact⟨(f2.2 a h).1,s.free (f2.2 a h).2⟩⟩
theorem aa(ha:QE X K e te)(hr:QA X K es t)(hs:starEach (e :: es) X.env=(false,eval e X.env) :: starEach es X.env:=by rfl):QA X K (e :: es) (ak te t):=by
 refine PA.imp (pz ha hr hs) fun σ H Qv hx=>kr hx fun Hs ρ ae Q sr h f=>?_
 refine⟨Hs,ρ,ae,_,sr,h,fun v H1 aE m x As g1 r1 f1 q1=>⟨aE,ρ,ae,_,sr.grow g1,q1,fun vs H2 ax ps Bs g2 r2 f2 q2=>?_⟩⟩
 exact f (v :: vs) H2 ax _ _ (g1.trans g2) (.cons (r1.grow g2) r2) (f1.app (fun a h=>(r1.own a h).ne) f2 g1.all fun a h1 h2=>g2.lP h1 h2) q2
theorem xv.sh(w:Wf Hs H){ps:List (Md × D)}(r:xv K Hs H ps vs As):ps.all xB=true->bp K Hs (ps.map (·.2)) vs:=by
 induction r with
 |nil=>exact fun _=>.nil
 |@cons m d v ps vs As Bs r rs ih =>
  intro h
  simp only[B8,kH] at h
  refine .cons ?_ (ih h.2)
  cases m with
  |sh=>exact r.2
  |ow fl=>exact r.flat w h.1
  |bo=>exact r.flat w h.1
theorem xv.ow(w:Wf Hs H){ps:List (Md × D)}(r:xv K Hs H ps vs As):ps.all FC=true->(fl=true->ps.all DI=true)->∃ Bs,Bs.Sublist As/\(ps.all xB=false->Bs≠[])/\az K Hs H fl (ps.map (·.2)) vs Bs:=by
 induction r with
 |nil=>exact fun _ _=>⟨[],B7 _,(fun z=>Bool.noConfusion z),.nil⟩
 |@cons m d v ps vs A1 Cs r rs ih =>
  intro h hf
  simp only[B8,kH] at h hf
  obtain⟨Bs,sb,ne,q⟩:=ih h.2 fun z=>(hf z).2
  have sk:([]++Bs).Sublist (A1++Cs):=by simpa using sb.trans (sv _ _)
  have AQ:d.flat=true->xB (m,d)=true->∃ Bs,Bs.Sublist (A1++Cs)/\(((m,d) :: ps).all xB=false->Bs≠[])/\az K Hs H fl (((m,d) :: ps).map (·.2)) (v :: vs) Bs:=fun hd ho =>
   ⟨[]++Bs,sk,fun z=>ne (by rw[B8,ho] at z;simpa using z),.cons (.sh (fun _=>hd) (r.flat w hd)) q⟩
  cases m with
  |sh=>exact⟨[]++Bs,sk,fun z=>ne (by simpa[xB] using z),.cons (.sh (fun z=>(hf z).1) r.2) q⟩
  |bo=>exact AQ h.1 h.1
  |ow b =>
   cases hd:d.flat with
   |true=>exact AQ hd hd
   |false =>
    refine⟨A1++Bs,sb.append_left _,fun _ z=>r.2 (LN.mp z).1,.cons ?_ q⟩
    cases fl with
    |false=>exact bE.Qf r.1
    |true =>
     have:=(hf rfl).1
     cases b with
     |true=>exact r.1
     |false=>simp[DI,hd] at this
theorem pU:∀ {ps:List (Md × D)},cy (ps.map (·.2))=true->ps.all xB=true
 |[],_=>rfl
 | (m,d) :: ps,h=>by
  simp only[fT,cy,kH] at h
  simp only[B8,kH]
  exact⟨by cases m<;>simp[xB,h.1],pU h.2⟩
theorem cg{x1}(h:QA X K es t):QE X K (.Tuple es x1 pos) (g7 t):=by
 refine PE.imp (V_ h) fun σ H Qv hx=>kr hx fun Hs ρ ae Q sr h f=>?_
 refine⟨Hs,ρ,ae,_,sr,h,fun vs H1 aE ps As g1 r1 f1 q1=>?_⟩
 obtain⟨hz,q⟩:=q1
 have rl:=(r1.reps g1.wf)
 have hl:=rl.length
 rw[bT] at hl
 refine⟨by lia,fun p hp=>?_⟩
 have g2:=Qg (vs:=vs) g1.wf hp
 have fin:=Fin.after f g1
 unfold sZ at q
 cases h1:ps.all xB with
 |true =>
  rw[h1] at q
  exact fin _ _ _ .sh _ [] g2 ⟨rfl,.tup (by lia) eR ((r1.sh g1.wf h1).same g2.sh)⟩ cO.nil q
 |false =>
  rw[h1] at q
  cases h2:ps.all FC with
  |false =>
   rw[h2] at q
   exact fin _ _ _ .bo _ [] g2 ⟨rfl,.tup (by lia) eR (rl.same g2.all)⟩ cO.nil q
  |true =>
   rw[h2] at q
   obtain⟨Bs,sb,nz,ro⟩:=r1.ow (fl:=ps.all DI) g1.wf h2 fun z=>z
   have fI:cy (ps.map (·.2))=false:=by
    cases hf:cy (ps.map (·.2)) with
    |false=>rfl
    |true=>rw[pU hf] at h1;cases h1
   have own:=ro.own
   refine f _ _ _ (.ow _) _ Bs (g1.trans g2) ⟨.tup (by lia) eR fI (ro.grow g2.sh g2.all),nz h1⟩ ⟨sb.nodup f1.1,fun a ha=>⟨?_,(f1.2 a (sb.subset ha)).2⟩⟩ q
   exact g2.lP (f1.2 a (sb.subset ha)).1 (own a ha).ne
theorem fK(h:QA X K es t):QE X K (.List es pos) (nS t):=by
 refine PE.imp (aR' h) fun σ H Qv hx=>kr hx fun Hs ρ ae Q sr h f=>?_
 refine⟨Hs,ρ,ae,_,sr,h,fun vs H1 aE ps As g1 r1 f1 q1=>?_⟩
 obtain⟨hz,q⟩:=q1
 have rl:=(r1.reps g1.wf)
 have hl:=rl.length
 rw[bT] at hl
 refine⟨by lia,fun p hp=>?_⟩
 have g2:=NF (o:=.lst vs) g1.wf hp fun _ z=>nomatch z
 have fin:=Fin.after f g1
 unfold BZ at q
 cases h2:ps.all FC with
 |false =>
  rw[h2] at q
  exact fin _ _ _ .bo _ [] g2 ⟨rfl,.list (by lia) (.inl (.inl eR)) (rl.same g2.all)⟩ cO.nil q
 |true =>
  rw[h2] at q
  obtain⟨Bs,sb,nz,ro⟩:=r1.ow (fl:=ps.all DI) g1.wf h2 fun z=>z
  have own:=ro.own
  refine f _ _ _ (.ow _) _ (p :: Bs) (g1.trans g2) ⟨.list (by lia) eR (ro.grow g2.sh g2.all),by simp⟩ ⟨kC.mpr ⟨fun m=>(own p m).ne hp,sb.nodup f1.1⟩,fun a ha=>?_⟩ q
  rcases dA.mp ha with rfl|ha
  ·exact⟨g1.wf.sub.free hp,g1.all.free hp⟩
  ·exact⟨g2.lP (f1.2 a (sb.subset ha)).1 (own a ha).ne,(f1.2 a (sb.subset ha)).2⟩
end
theorem bp.fR{K:PySem.W.Frag}(r:bp K H ds vs)(h:fR ds i=some d):∃ v,L2.fR vs i=some v/\Rep K H d v:=by
 unfold L2.fR at *
 rw[<- r.length]
 cases e:rh ds.length i with
 |none=>rw[e] at h;cases h
 |some j =>
  rw[e] at h
  exact r.get h
def eW:W2:=fun m x _ y Q=>match x with
 |.list xs=>match y with
  |.int i=>∃ d,fR xs i=some d/\bP d (f:=fun d=>Q (md m d) d) ⟨⟩
  |_=>False
 |.tup xs=>match y with
  |.int i=>∃ d,fR xs i=some d/\bP d (f:=fun d=>Q (md m d) d) ⟨⟩
  |_=>False
 |.str z=>match y with
  |.int i=>∃ c,fR z.cps.toList i=some c/\Q .sh (.str ⟨#[c]⟩)
  |_=>False
 |.dK kvs=>∃ k d,y.key1=some k/\dE kvs k=some d/\bP d (f:=fun d=>Q (md m d) d) ⟨⟩
 |.dT kvs=>match y with
  |.tup ys=>∃ ks d,eX ys=some ks/\dE kvs ks=some d/\bP d (f:=fun d=>Q (md m d) d) ⟨⟩
  |_=>False
 |_=>False
def Tz(K:PySem.W.Frag):R2:=fun x y H Q=>SW K x y H Q\/∃ a v,x=.ref a/\kL H a y (some v)/\Q v H
theorem Ca(c:Nat):(⟨#[c]⟩:Str).length<=sizeLine:=by show 1<=sizeLine;decide
theorem RM.here{K:PySem.W.Frag}(w:Wf Hs H)(r:RM K Hs H m d v As):(m=.sh/\Rep K Hs d v)\/(m≠.sh/\Rep K H d v):=by
 cases m with
 |sh=>exact .inl ⟨rfl,r.2⟩
 |ow fl=>exact .inr ⟨(fun z=>nomatch z),r.rep w⟩
 |bo=>exact .inr ⟨(fun z=>nomatch z),r.2⟩
section
variable {X:Cx}{K:PySem.W.Frag}
theorem HH:mh K (Tz K) eW:=by
 intro Hs H m x v As n y u Bs Qd Qv w rx ry h f
 have r2:=ry.rep w
 have core:∀ G:Hp,ay G H->(∀ d v,Rep K G d v->Rep K H d v/\(m=.sh->Rep K Hs d v))->Rep K G x v->Tz K v u H Qv:=by
  intro G sg up r1
  cases r1 with
  |list z s q =>
   cases r2 with
   |int i =>
    obtain⟨d,e,h⟩:=h
    obtain⟨v',e',r'⟩:=q.fR e
    obtain⟨u1,u2⟩:=up _ _ r'
    exact .inl (.inl ⟨_,v',ay.seq sg s,e',f.md w u1 u2 h⟩)
   |_=>exact h.elim
  |tup _ s q =>
   cases r2 with
   |int i =>
    obtain⟨d,e,h⟩:=h
    obtain⟨v',e',r'⟩:=q.fR e
    obtain⟨u1,u2⟩:=up _ _ r'
    exact .inl (.inr ⟨_,v',.inl (.inl (sg _ _ s)),e',f.md w u1 u2 h⟩)
   |_=>exact h.elim
  |str hz =>
   cases r2 with
   |int i =>
    obtain⟨c,e,h⟩:=h
    exact .inl ⟨hz,c,e,f.sh w (.str (Ca c)) h⟩
   |_=>exact h.elim
  |dK kk s q =>
   obtain⟨k,d,hk,hg,h⟩:=h
   have ev:=r2.key hk
   subst ev
   have z:=zip_get (k:=k) q
   rw[hg] at z
   obtain⟨v',e',r'⟩:=z
   obtain⟨u1,u2⟩:=up _ _ r'
   exact .inr ⟨_,v',rfl,by rw[<- e'];exact kL.k' (ay.rd sg s),f.md w u1 u2 h⟩
  |dT kk s q =>
   cases r2 with
   |tup t2 e2 q2 =>
    obtain⟨ks,d,hk,hg,h⟩:=h
    obtain⟨b,eb,e3⟩:=Rep.lT (.tup t2 e2 q2) hk
    cases eb
    have z:=zip_get (k:=ks) q
    rw[hg] at z
    obtain⟨v',e',r'⟩:=z
    obtain⟨u1,u2⟩:=up _ _ r'
    exact .inr ⟨_,v',rfl,by rw[<- e'];exact kL.t' (ay.rd sg s) e3,f.md w u1 u2 h⟩
   |_=>exact h.elim
  |_=>exact h.elim
 rcases rx.here w with⟨hm,r⟩|⟨hm,r⟩
 ·exact core Hs w.sub (fun d v q=>And.intro (q.same w.sub) fun _=>q) r
 ·exact core H (ay.refl H) (fun d v q=>And.intro q fun z=>absurd z hm) r
theorem XM(hu:X.A.units+64<cLine)(hK:X.K=K:=by rfl):vF X (Tz K):=by
 subst hK
 refine vF.or Hj ?_
 intro value slice pins s σ H x y v u Q I rx ry h hs
 obtain⟨a,w,rfl,g,q⟩:=h
 cases rx
 exact tail_any (bZ' I g) F.slot_dict_getitem.lookup (bT' (by lia) I g ry fun w' s3 I3 kK=>⟨w,H,I3,kK,q⟩) hs
variable {a b:Expr}{ta tb:WE}{pos:Pos}
theorem fz(hu:X.A.units+64<cLine)(ha:QE X K a ta)(hb:QE X K b tb)(hs:Sj b:=by exact fun _ _=>rfl)(hK:X.K=K:=by rfl):QE X K (.Subscript a b pos) (aw eW ta tb):=PE.imp (Wr (XM hu hK) ha hb hs) (oG HH)
end
def gp(xs:List α)(lo hi:Option Int):List α:=(xs.drop (HT.bI xs.length 0 lo)).take (HT.bI xs.length xs.length hi-HT.bI xs.length 0 lo)
abbrev WO:=Env->(Option Int->Prop)->Prop
def ig:WO:=fun _ Q=>Q none
def jE(t:WE):WO:=fun ρ Q=>t ρ fun _ x=>match x with
 |.int i=>Q (some i)
 |_=>False
def Qm(m:Md)(x:D)(lo hi:Option Int)(Q:Md->D->Prop):Prop:=match x with
 |.str z=>Q .sh (.str (rq z lo hi))
 |.list xs=>(cy xs=true/\Q (.ow true) (.list (gp xs lo hi)))\/(m=.sh/\Q (.ow false) (.list (gp xs lo hi)))
 |.tup xs=>cy xs=true/\¬ (HT.bI xs.length 0 lo=0/\HT.bI xs.length xs.length hi=xs.length)/\Q .sh (.tup (gp xs lo hi))
 |_=>False
def BH(te:WE)(tl th:WO):WE:=fun ρ Q=>te ρ fun m x=>tl ρ fun lo=>th ρ fun hi=>Qm m x lo hi Q
def tpO(K:PySem.W.Frag)(t:WO):TO:=fun σ H Qv=>∃ Hs ρ ae Q,cK K Hs ρ σ H ae/\t ρ Q/\∀ o H' ai,dS Hs H ai H'->Q o->Qv o H'
abbrev QO(X:Cx)(K:PySem.W.Frag)(e:Option Expr)(t:WO):Prop:=PO X e (tpO K t)
theorem uT(z:Str)(lo hi:Option Int):(rq z lo hi).length<=z.length:=by
 unfold rq Str.length
 simp only[gy,mS,B6,vi]
 lia
theorem fC(xs:List α)(lo hi:Option Int):(gp xs lo hi).length<=xs.length:=by
 unfold gp
 rw[mS,B6]
 lia
theorem q_{lo hi:Option Int}(h:cy xs=true):cy (gp xs lo hi)=true:=by
 rw[fY] at *
 intro x hx
 exact h x (Ox (Oy hx))
section
variable {X:Cx}{K:PySem.W.Frag}{e:Expr}{lo hi:Option Expr}{te:WE}{tl th:WO}{pos p2:Pos}
theorem jW:QO X K none ig:=fun pins s σ H Q I h=>bj' pins s σ H Q I (by
 obtain⟨Hs,ρ,ae,Qd,sr,h,f⟩:=h
 exact f none H Hs (dS.refl sr.wf) h)
theorem eU(h:QE X K e te):QO X K (some e) (jE te):=fun pins s σ H Q I hh=>bk' h pins s σ H Q I (by
 obtain⟨Hs,ρ,ae,Qd,sr,h,f⟩:=hh
 refine⟨Hs,ρ,ae,_,sr,h,fun v H1 aE m x As g1 r1 f1 q1=>?_⟩
 have r:=r1.rep g1.wf
 cases r with
 |int i=>exact⟨i,rfl,f _ H1 aE g1 q1⟩
 |_=>exact q1.elim)
theorem kh{lo hi:Option Int}(r:bp K H ds vs):bp K H (gp ds lo hi) (A2 vs lo hi):=by
 unfold gp A2
 rw[r.length]
 exact(r.drop _).take _
theorem dK'(hK:X.K=K:=by rfl):HP X (fun x lo hi H Q=>SX K x lo hi H Q\/Wo K x lo hi H Q):=by
 subst hK
 intro pins s σ H x v vl vu lo hi sl Q I rx hs pl pu h
 rcases h with h|h
 ·exact Gk pins s σ H x v vl vu lo hi sl Q I rx hs pl pu h
 ·exact bn' pins s σ H x v vl vu lo hi sl Q I rx hs pl pu h
theorem gZ(he:QE X K e te)(hl:QO X K lo tl)(hh:QO X K hi th)(hK:X.K=K:=by rfl):QE X K (.Subscript e (.Slice lo hi none p2) pos) (BH te tl th):=by
 refine PE.imp (bm' (dK' hK) he hl hh) fun σ H Qv hx=>kr hx fun Hs ρ ae Q sr h f=>?_
 refine⟨Hs,ρ,ae,_,sr,h,fun v H1 aE m x As g1 r1 f1 q1=>⟨aE,ρ,ae,_,sr.grow g1,q1,fun l H2 ax g2 q2=>⟨ax,ρ,ae,_,(sr.grow g1).grow g2,q2,fun u H3 dP g3 q3=>?_⟩⟩⟩
 have r3:=(r1.grow g2).grow g3
 have fin:Fin K dP H3 Q Qv:=Fin.after f ((g1.trans g2).trans g3)
 have rr:=r3.rep g3.wf
 cases rr with
 |str hz=>exact .inl ⟨hz,fin.sh g3.wf (.str (jI (uT _ _ _) hz)) q3⟩
 |list z s q =>
  have hz:=q.length
  rcases q3 with⟨hf,q3⟩|⟨rfl,q3⟩
  ·exact .inl ⟨_,s,fin.lst g3.wf (jI (fC _ _ _) (by lia)) (kh q) (q_ hf) q3⟩
  ·obtain⟨_,r3⟩:=r3
   cases r3 with
   |list z' s' q' =>
    have hz:=q'.length
    exact .inl ⟨_,ay.seq g3.wf.sub s',fin.Qh g3.wf (jI (fC _ _ _) (by lia)) (kh q') q3⟩
 |tup z s q =>
  have hz:=q.length
  obtain⟨hf,hn,q3⟩:=q3
  exact .inr ⟨_,_,rfl,.inl (.inl s),by rw[<- hz];exact hn,fin.tup g3.wf (jI (fC _ _ _) (by lia)) (kh q) (q_ hf) q3⟩
 |_=>exact q3.elim
end
def z5:W1:=fun _ x Q=>match x with
 |.str z=>Q .sh (.int z.length)
 |.list xs=>Q .sh (.int xs.length)
 |.tup xs=>Q .sh (.int xs.length)
 |.dK kvs=>Q .sh (.int kvs.length)
 |.dT kvs=>Q .sh (.int kvs.length)
 |_=>False
def TB(T:String):W1:=fun _ x Q=>Q .sh (.bl (IA x.ty T))
def DJ(K:PySem.W.Frag)(r:List V->Hp->VK->Prop)(f:W1):Prop:=∀ Hs H m x v As Qd Qv,Wf Hs H->RM K Hs H m x v As->f m x Qd->Fin K Hs H Qd Qv->r [v] H Qv
section
variable {X:Cx}{K:PySem.W.Frag}{e:Expr}{te:WE}{pos p:Pos}{x:Str}{id T:String}
theorem nH(br:DJ K r f)(σ:St)(H:Hp)(Qv:VK)(h:lS K (i6 f te) σ H Qv):Se r (Sb (lS K te) R_) σ H Qv:=by
 obtain⟨Hs,ρ,ae,Q,sr,h,fin⟩:=h
 exact⟨Hs,ρ,ae,_,sr,h,fun v H1 aE m x As g1 r1 f1 q1=>br aE H1 m x v As Q Qv g1.wf r1 q1 (Fin.after fin g1)⟩
theorem e_(hc:kS X (.builtin id) r)(br:DJ K r f)(hg:Gl X x)(hm:X.mg x=none)(hv:bootBuiltins x=some (.builtin id))(he:QE X K e te)
  (hs:starEach [e] X.env=(false,eval e X.env) :: starEach [] X.env:=by rfl) (hn:x ≠ "__name__" := by decide) (i5:(x == ("__debug__" : Str))=false:=by decide):QE X K (.Call (.Name x p) [e] [] pos) (i6 f te) :=
 PE.imp (Sf hc hg hm hv (pz he tq hs) hn i5 hs) (nH br)
theorem iZ(hc:kS X (.type T) r)(br:DJ K r f)(hg:Gl X x)(hm:X.mg x=none)(hv:bootBuiltins x=some (.type T))(he:QE X K e te)
  (hs:starEach [e] X.env=(false,eval e X.env) :: starEach [] X.env:=by rfl) (hn:x ≠ "__name__" := by decide) (i5:(x == ("__debug__" : Str))=false:=by decide):QE X K (.Call (.Name x p) [e] [] pos) (i6 f te) :=
 PE.imp (aX' hc hg hm hv (pz he tq hs) hn i5 hs) (nH br)
theorem Dm(hd:(d == sysModules)=false)(x:sC s.heap d es ep)(XO:(es.size:Int)<2 ^ 63)
  (h:∀ t t',Q (.int es.size t) { s with toks:=t' }):wpAny (model prog w) A (call (.builtin "len") [.ref d]) Q E s:=by
 refine Calls.call_function_entry kind_len plain_len entry_len (args_len1 _) ?_
 have mt:MeetsIn prog w (Builtin.«dict.__len__» ⟨[.ref d],[]⟩) (fun _ R s=>sC s.heap d es ep/\R (.ok (.ret (.int es.size s.toks))) { s with toks:=s.toks+1 }):=.of_wp fun A R s cE=>by
  obtain⟨hm,h⟩:=cE
  obtain⟨o,ho,hc,P6⟩:=hm
  show wpAny _ _ (dictSize d >>= _) _ _ s
  unfold dictSize
  refine ah (ah (wpAny_dictEntries ho P6 (aI ?_)))
  show wpAny _ _ (Builtin.Dict.pendingCount d >>= _) _ _ s
  refine ah (wpAny_pendingCount_other hd ?_)
  refine wpAny_ret_mkInt ?_
  rw[Mk];exact h
 unfold Builtin.«len»
 refine ah (m:=oneArg "len" _) (aI ?_)
 refine ah (m:=callSpecial? (.ref d) (Str.ofString "__len__")) (wpAny_callSpecial?_slot (name:=Str.ofString "__len__") x.typ F.slot_dict_len
  (call_meetsIn F.slot_dict_len x.typ F.entry_dict_len (F.args_dict_len_1 _) mt ⟨x,?_⟩))
 show wpAny _ _ _ _ _ { s with toks:=s.toks+1 }
 refine ah (wpAny_holding (aI ?_))
 refine ah (wpAny_letGo ?_)
 show wpAny _ _ (if ((es.size:Nat):Int)<0 then _ else _) _ _ _
 rw[if_neg (by lia)]
 show wpAny _ _ (if ((es.size:Nat):Int) >= 2 ^ 63 then _ else _) _ _ _
 rw[if_neg (by lia)]
 exact ah (wpAny_mkInt (aI ⟨_,rfl,h _ _⟩))
theorem dY (hK:X.K=K:=by rfl):kS X (.builtin "len") (fun xs H Q=>PY K xs H Q\/∃ a kvs,xs=[.ref a]/\Rd H a (.dT kvs)/\Q (.int kvs.length) H):=by
 subst hK
 intro pins s σ H xs us Q I r h
 rcases h with h|⟨a,kvs,rfl,ha,q⟩
 ·exact yO pins s σ H xs us Q I r h
 ·obtain⟨u,rfl,ru⟩:=Vals.one r
  cases ru
  obtain⟨z,hd,ys,rel,o,es,ep,h1,h2,h3,h4,h5⟩:=(show eJ X.prog X.w H s.heap a (.dT kvs) from I.rd ha)
  have hl:es.size=kvs.length:=by
   have:=congrArg List.length h4
   rw[vi,bT] at this
   rw[this];exact rel.length.symm
  exact Dm hd ⟨o,h1,h2,h3⟩ (by rw[sizeLine_eq] at z;lia) fun t t'=>⟨.int kvs.length,H,I.tok _,⟨t,by rw[hl]⟩,q⟩
theorem qL:DJ K (fun xs H Q=>PY K xs H Q\/∃ a kvs,xs=[.ref a]/\Rd H a (.dT kvs)/\Q (.int kvs.length) H) z5:=by
 intro Hs H m x v As Qd Qv w rx h f
 have r1:=rx.rep w
 cases r1 with
 |str hz=>exact .inl ⟨hz,f.sh w (.int _) h⟩
 |list z s q=>exact .inl (.inl ⟨_,s,by rw[<- q.length];exact f.sh w (.int _) h⟩)
 |tup _ s q=>exact .inl (.inr (.inl ⟨_,.inl (.inl s),by rw[<- q.length];exact f.sh w (.int _) h⟩))
 |dK kk s q=>exact .inl (.inr (.inr ⟨_,s,by
   have:=q.length
   rw[bT] at this
   rw[GN,bT,<- this,GV]
   exact f.sh w (.int _) h⟩))
 |dT kk s q=>exact .inr ⟨_,_,rfl,s,by
   have:=q.length
   rw[bT] at this
   rw[GN,bT,<- this,GV]
   exact f.sh w (.int _) h⟩
 |_=>exact h.elim
end
section
variable {X:Cx}{K:PySem.W.Frag}{e e2:Expr}{te:WE}{pos p:Pos}{T:String}
theorem yG (hK:X.K=K:=by rfl):kS X (.builtin "isinstance") (fun xs H Q=>∃ x d T,xs=[x,.ty T]/\Rep K H d x/\SK T=true/\Q (.bl (IA d.ty T)) H):=by
 subst hK
 intro pins s σ H xs us Q I r h
 obtain⟨x,d,T,rfl,rd,hT,q⟩:=h
 obtain⟨u,v,rfl,ru,rv⟩:=Vals.two r
 obtain rfl:v=Value.type T:=rv
 have hb:T∈["str", "int", "bool", "list", "tuple", "dict"]:=by simpa[SK] using hT
 have fin:∀ tk,EP X pins σ Q (.bool (IA d.ty T)) { s with toks:=tk }:=fun tk=>⟨.bl (IA d.ty T),H,I.tok tk,rfl,q⟩
 cases rd with
 |non=>exact M9 I ru .non (jw X.K _ T (by simp) hb) fin
 |bl b=>exact M9 I ru (.bl b) (jw X.K _ T (by simp) hb) fin
 |int i=>exact M9 I ru (.int i) (jw X.K _ T (by simp) hb) fin
 |str y=>exact M9 I ru (.str _) (jw X.K _ T (by simp) hb) fin
 |list z s' q' =>
  cases ru
  obtain⟨its,_,pl,_⟩:=I.list s'
  obtain⟨o,h1,h2,_⟩:=pl.isList
  exact PySem.W.kia_one PySem.W.kitx_list I.kf ⟨o,h1,h2⟩ (jw X.K "list" T (by simp) hb) (fun z=>nomatch z) fin
 |tup _ s' q'=>exact M9 I ru (.tup s') (jw X.K _ T (by simp) hb) fin
 |dK _ s' q' =>
  cases ru
  obtain⟨_,_,vs,_,p⟩:=I.rd s'
  obtain⟨o,es,ep,h1,h2,_⟩:=p
  exact PySem.W.kia_one PySem.W.kitx_dict I.kf ⟨o,h1,h2.1⟩ (jw X.K "dict" T (by simp) hb) (fun z=>nomatch z) fin
 |dT _ s' q' =>
  cases ru
  obtain⟨_,_,xs,_,o,es,ep,h1,h2,_⟩:=I.rd s'
  exact PySem.W.kia_one PySem.W.kitx_dict I.kf ⟨o,h1,h2.1⟩ (jw X.K "dict" T (by simp) hb) (fun z=>nomatch z) fin
theorem Jl (hm:X.mg "isinstance" = none) (he:QE X K e te) (ht:PE X e2 (tC (.ty T))) (hT:SK T=true:=by rfl) (hg:Gl X "isinstance" := by rfl) (hK:X.K=K:=by rfl)
  (hs:starEach (e :: [e2]) X.env=(false,eval e X.env) :: starEach [e2] X.env:=by rfl) (oC:starEach (e2 :: []) X.env=(false,eval e2 X.env) :: starEach [] X.env:=by rfl) (fi:(backTo pos (starEach [e2] X.env)).any (·.1)=false:=by rfl) :
  QE X K (.Call (.Name "isinstance" p) [e,e2] [] pos) (i6 (TB T) te):=by
 refine PE.imp (Sf (yG hK) hg hm iW (pz he (pz ht tq oC) hs) (by decide) (by decide) hs fi) fun σ H Qv hx=>kr hx fun Hs ρ ae Q sr h f=>?_
 refine⟨Hs,ρ,ae,_,sr,h,fun v H1 aE m x As g1 r1 f1 q1=>⟨v,x,T,rfl,r1.rep g1.wf,hT,Fin.sh (Fin.after f g1) g1.wf (.bl _) q1⟩⟩
theorem C_(r:Rep K H d v)(h:Qk d=some b):R6 K v H b:=by
 cases r with
 |non=>cases h;rfl
 |bl b=>cases h;rfl
 |int i=>cases h;rfl
 |str hz =>
  cases h
  exact⟨hz,rfl⟩
 |list z s q =>
  cases h
  refine .inl ⟨_,s,?_⟩
  cases q<;>rfl
 |tup _ s q =>
  cases h
  refine .inr (.inl ⟨_,.inl (.inl s),?_⟩)
  cases q<;>rfl
 |dK _ s q=>cases h
 |dT _ s q=>cases h
theorem Dk(ha:QE X K e te)(he:∀ whole,isTrue e X.env whole=(do let v <- whole;standAt e.pos;holding [v] (truthy v)):=by intro _;rfl)(hK:X.K=K:=by rfl):QT X K e (Tv te):=by
 subst hK
 refine PT.imp (aL' ha he) fun σ H Qv hx=>kr hx fun Hs ρ ae Q sr h f=>?_
 refine⟨Hs,ρ,ae,_,sr,h,fun v H1 aE m x As g1 r1 f1 q1=>?_⟩
 obtain⟨b,hb,q⟩:=q1
 exact⟨b,C_ (r1.rep g1.wf) hb,f b H1 aE g1 q⟩
end
def mI:Key->D
 |.inl i=>.int i
 |.inr x=>.str x
def rG:W1:=fun m x Q=>match x with
 |.list xs=>(cy xs=true/\Q (.ow true) (.list xs))\/(m=.sh/\Q (.ow false) (.list xs))
 |.tup xs=>(cy xs=true/\Q (.ow true) (.list xs))\/(m=.sh/\Q (.ow false) (.list xs))
 |.dT kvs=>Q (.ow true) (.list (kvs.map fun kv=>.tup (kv.1.map mI)))
 |_=>False
section
variable {X:Cx}{K:PySem.W.Frag}
theorem i_:∀ {ks:List Key},(∀ k∈ks,xo k=true)->bp K H (ks.map mI) (ks.map kV)
 |[],_=>.nil
 |k :: ks,h=>by
  refine .cons ?_ (i_ fun j m=>h j (de _ m))
  have:=h k df
  cases k with
  |inl i=>exact .int i
  |inr x=>exact .str (by simpa[xo] using this)
theorem iR:∀ (ks:List Key),cy (ks.map mI)=true
 |[]=>rfl
 |k :: ks=>by simp only[fT,cy,iR ks,Bool.and_true];cases k<;>rfl
theorem jQ(t:b7 H ys ks)(h:∀ l∈ks,l.length<=sizeLine/\∀ k∈l,xo k=true):bp K H (ks.map fun l=>.tup (l.map mI)) ys:=by
 induction ys generalizing ks with
 |nil=>rw[show ks=[] from Paired.n0 t];exact .nil
 |cons y ys ih =>
  obtain⟨k,ks,rfl,⟨b,rfl,e⟩,t2⟩:=Paired.c t
  exact .cons (.tup (by rw[bT];exact(h _ df).1) e (i_ (h _ df).2)) (ih t2 fun l m=>h l (de _ m))
theorem gf:∀ (ks:List (List Key)),cy (ks.map fun l=>.tup (l.map mI))=true
 |[]=>rfl
 |l :: ks=>by simp only[fT,cy,gf ks,Bool.and_true,D.flat,iR]
theorem d_ (hc:X.calm=true:=by rfl) (hK:X.K=K:=by rfl):kS X (.type "list") (fun xs H Q=>(∃ p ys,xs=[.ref p]/\(eM K H p ys\/kg K H p ys)/\∀ l,H l=none->Q (.ref l) (upd H l (.lst ys)))\/uq xs H Q):=by
 subst hK;exact bD'.or (vC hc)
theorem lL:DJ K (fun xs H Q=>(∃ p ys,xs=[.ref p]/\(eM K H p ys\/kg K H p ys)/\∀ l,H l=none->Q (.ref l) (upd H l (.lst ys)))\/uq xs H Q) rG:=by
 intro Hs H m x v As Qd Qv w rx h f
 have r1:=rx.rep w
 cases r1 with
 |list z s q =>
  have hl:=q.length
  rcases h with⟨hf,h⟩|⟨rfl,h⟩
  ·exact .inl ⟨_,_,rfl,.inl s,f.lst w (by lia) q hf h⟩
  ·obtain⟨_,rx⟩:=rx
   cases rx with
   |list z' s' q' =>
    have hl:=q'.length
    exact .inl ⟨_,_,rfl,.inl (ay.seq w.sub s'),f.Qh w (by lia) q' h⟩
 |tup z s q =>
  have hl:=q.length
  rcases h with⟨hf,h⟩|⟨rfl,h⟩
  ·exact .inl ⟨_,_,rfl,.inr (.inl (.inl s)),f.lst w (by lia) q hf h⟩
  ·obtain⟨_,rx⟩:=rx
   cases rx with
   |tup z' s' q' =>
    have hl:=q'.length
    exact .inl ⟨_,_,rfl,.inr (.inl (.inl (w.sub _ _ s'))),f.Qh w (by lia) q' h⟩
 |@dT _ vs kvs kk s q =>
  refine .inr ⟨_,s,fun ys l ht hl=>?_⟩
  have hlen:=q.length
  rw[bT] at hlen
  have e:((kvs.map (·.1)).zip vs).map (·.1)=kvs.map (·.1):=L4 (by rw[bT];exact L9 hlen)
  rw[e] at ht
  have rr:=jQ (K:=K) ht (fun l m=>by
   obtain⟨p,hp,rfl⟩:=dk.mp m
   exact kk.2 p hp)
  have ff:=gf (kvs.map (·.1))
  rw[i9] at rr ff
  exact f.lst w (by rw[bT];exact kk.1) rr ff h l hl
 |_=>exact h.elim
end
section
variable {K:PySem.W.Frag}{Hs H:Hp}
theorem SR.Bg(r:Rep K Hs d v)(i:Nat)(s:SR K Hs H ρ σ ae):∃ bG,bG.Sublist ae/\SR K Hs H (ρ.set i (some (.sh d))) (σ.set i (some v)) bG:=by
 induction s generalizing i with
 |nil=>exact⟨[],B7 _,.nil⟩
 |non s ih =>
  cases i with
  |zero=>exact⟨_,List.Sublist.refl _,.sh r s⟩
  |succ i=>obtain⟨t,a,b⟩:=ih i;exact⟨t,a,.non b⟩
 |sh q s ih =>
  cases i with
  |zero=>exact⟨_,List.Sublist.refl _,.sh r s⟩
  |succ i=>obtain⟨t,a,b⟩:=ih i;exact⟨t,a,.sh q b⟩
 |xc s ih =>
  cases i with
  |zero=>exact⟨_,List.Sublist.refl _,.sh r s⟩
  |succ i=>obtain⟨t,a,b⟩:=ih i;exact⟨t,a,.xc b⟩
 |ow ne q s ih =>
  cases i with
  |zero=>exact⟨_,sv _ _,.sh r s⟩
  |succ i=>obtain⟨t,a,b⟩:=ih i;exact⟨_,a.append_left _,.ow ne q b⟩
 |lk ne q s ih =>
  cases i with
  |zero=>exact⟨_,sv _ _,.sh r s⟩
  |succ i=>obtain⟨t,a,b⟩:=ih i;exact⟨_,a.append_left _,.lk ne q b⟩
theorem rB{As ae:List Addr}(nd:As.Nodup)(n:ae.Nodup)(dj:∀ a∈As,a∉ae):(As++ae).Nodup:=iA.mpr ⟨nd,n,fun a ha b hb e=>dj a ha (e ▸ hb)⟩
theorem gC{As ae B t:List Addr}(n:(B++ae).Nodup)(dj:∀ a∈As,a∉B++ae)(a:t.Nodup)(b:∀ x∈t,x∈ae\/x∈As):(B++t).Nodup/\∀ x∈B++t,x∈B++ae\/x∈As:=by
 obtain⟨n1,n2,n3⟩:=iA.mp n
 refine⟨iA.mpr ⟨n1,a,fun x hx y hy e=>?_⟩,fun x hx=>?_⟩
 ·subst e
  rcases b x hy with z|z
  ·exact n3 x hx x z rfl
  ·exact dj x z (iS _ hx)
 ·rcases dz.mp hx with z|z
  ·exact .inl (iS _ z)
  ·exact(b x z).imp (fun z=>fw _ z) fun z=>z
theorem SR.Gj{d:D}{v:V}{fl:Bool}{As:List Addr}(ne:As≠[])(r:bE K Hs H fl d v As)(nd:As.Nodup){ρ:Env}{σ:St}{ae:List Addr}(i:Nat)(s:SR K Hs H ρ σ ae):ae.Nodup->(∀ a∈As,a∉ae) ->
  ∃ bG,bG.Nodup/\(∀ a∈bG,a∈ae\/a∈As)/\SR K Hs H (ρ.set i (some (.ow fl d))) (σ.set i (some v)) bG:=by
 induction s generalizing i with
 |nil=>exact fun n _=>⟨[],ng,(fun a h=>xt h),.nil⟩
 |non s ih =>
  intro n dj
  cases i with
  |zero=>exact⟨_,rB nd n dj,fun a h=>(dz.mp h).symm,.ow ne r s⟩
  |succ i=>obtain⟨t,a,b,c⟩:=ih i n dj;exact⟨t,a,b,.non c⟩
 |sh q s ih =>
  intro n dj
  cases i with
  |zero=>exact⟨_,rB nd n dj,fun a h=>(dz.mp h).symm,.ow ne r s⟩
  |succ i=>obtain⟨t,a,b,c⟩:=ih i n dj;exact⟨t,a,b,.sh q c⟩
 |xc s ih =>
  intro n dj
  cases i with
  |zero=>exact⟨_,rB nd n dj,fun a h=>(dz.mp h).symm,.ow ne r s⟩
  |succ i=>obtain⟨t,a,b,c⟩:=ih i n dj;exact⟨t,a,b,.xc c⟩
 |ow ne' q s ih =>
  intro n dj
  obtain⟨n1,n2,n3⟩:=iA.mp n
  have NM:=fun a ha m=>dj a ha (fw _ m)
  cases i with
  |zero=>exact⟨_,rB nd n2 NM,fun a h=>(dz.mp h).symm.imp (fun z=>fw _ z) fun z=>z,.ow ne r s⟩
  |succ i=>obtain⟨t,a,b,c⟩:=ih i n2 NM;exact⟨_,(gC n dj a b).1,(gC n dj a b).2,.ow ne' q c⟩
 |lk ne' q s ih =>
  intro n dj
  obtain⟨n1,n2,n3⟩:=iA.mp n
  have NM:=fun a ha m=>dj a ha (fw _ m)
  cases i with
  |zero=>exact⟨_,rB nd n2 NM,fun a h=>(dz.mp h).symm.imp (fun z=>fw _ z) fun z=>z,.ow ne r s⟩
  |succ i=>obtain⟨t,a,b,c⟩:=ih i n2 NM;exact⟨_,(gC n dj a b).1,(gC n dj a b).2,.lk ne' q c⟩
def asg:Md->D->Option Sl
 |.sh,d=>some (.sh d)
 |.ow fl,d=>some (.ow fl d)
 |.bo,d=>bif d.flat then some (.sh d) else none
theorem cK.set(i:Nat)(s:cK K Hs ρ σ H ae)(r:RM K Hs H m d v As)(nd:As.Nodup)(dj:∀ a∈As,Hs a=none/\a∉ae)(e:asg m d=some sl) :
  ∃ bG,cK K Hs (ρ.set i (some sl)) (σ.set i (some v)) H bG:=by
 have XQ:Rep K Hs d v->∃ bG,cK K Hs (ρ.set i (some (.sh d))) (σ.set i (some v)) H bG:=fun r=>by
  obtain⟨t,a,b⟩:=s.sr.Bg r i
  exact⟨t,b,s.wf,a.nodup s.sF,fun x hx=>s.own x (a.subset hx)⟩
 cases m with
 |sh=>cases e;exact XQ r.2
 |ow fl =>
  cases e
  obtain⟨t,a,b,c⟩:=SR.Gj r.2 r.1 nd i s.sr s.sF fun a ha=>(dj a ha).2
  exact⟨t,c,s.wf,a,fun x hx=>(b x hx).elim (s.own x) fun z=>(dj x z).1⟩
 |bo =>
  cases hf:d.flat with
  |true =>
   simp only[asg,hf,cond_true,Option.some.injEq] at e
   subst e
   exact XQ (r.flat s.wf hf)
  |false=>simp[asg,hf] at e
end
section
variable {X:Cx}{K:PySem.W.Frag}{e c:Expr}{te:WE}{tc:WT}{pos:Pos}{st:Stmt}{a b rest:List Stmt}{t u:WS}
theorem PS.imp{te ua:TS}(h:PS X st te)(i:∀ D σ H,ua D σ H->te D σ H):PS X st ua:=fun pins s σ H D I q=>h pins s σ H D I (i D σ H q)
theorem nv.imp{te ua:TS}(h:nv X a te)(i:∀ D σ H,ua D σ H->te D σ H):nv X a ua:=fun pins s σ H D I q=>h pins s σ H D I (i D σ H q)
def dG:WS:=fun E ρ=>E.nx ρ
def cf(t u:WS):WS:=fun E ρ=>t { E with nx:=u E } ρ
def oD(te:WE):WS:=fun E ρ=>te ρ E.rt
def eB(i:Nat)(te:WE):WS:=fun E ρ=>te ρ fun m d=>match asg m d with
 |some sl=>E.nx (ρ.set i (some sl))
 |none=>False
def mn(c:WT)(t u:WS):WS:=fun E ρ=>c ρ fun b=>if b=true then t E ρ else u E ρ
theorem bw:qh X K L [] dG:=nv.imp VS fun D σ H hx=>dD hx fun Hs ρ ae E sr h k1 _ _ _=>k1 σ H Hs ρ ae (ay.refl _) sr h
theorem zj{D:Ends}(h:sL K L (cf t u) D σ H):VR (sL K L t) (sL K L u) D σ H:=by
 obtain⟨Hs,ρ,ae,E,sr,h,k1,k2,k3,k4,kx⟩:=h
 refine⟨Hs,ρ,ae,{ E with nx:=u E },sr,h,fun aS H' ai bq bG s DL q=>?_,k2,k3,k4,kx⟩
 exact⟨ai,bq,bG,E,DL,q,fun i3 H2 ax fN dv s2=>k1 i3 H2 ax fN dv (s.trans s2),fun i3 H2 ax fN dv s2=>k2 i3 H2 ax fN dv (s.trans s2),fun i3 H2 ax fN dv s2=>k3 i3 H2 ax fN dv (s.trans s2),
  fun v H2 ax m d As s2=>k4 v H2 ax m d As (s.trans s2),fun n H2 s2=>kx n H2 (s.trans s2)⟩
theorem aj(h1:QS X K L st t)(h2:qh X K L rest u):qh X K L (st :: rest) (cf t u):=nv.imp (ZT h1 h2) fun D σ H h=>zj h
theorem ao(h1:QS X K L st t):qh X K L [st] t:=ZU h1
theorem di(he:QE X K e te):QS X K L (.Return (some e) pos) (oD te):=PS.imp (RV he) fun D σ H hx=>dD hx fun Hs ρ ae E sr h k1 k2 k3 k4 =>
 ⟨Hs,ρ,ae,_,sr,h,fun v H1 aE m d As g1 r1 f1 q1=>k4 v H1 aE m d As g1.sh g1.wf r1 f1.1 (fun a ha=>(f1.2 a ha).1) q1⟩
def tH(i:Nat):WS:=fun E ρ=>match ρ[i]? with
 |some (some (.sh d))=>E.rt .sh d
 |some (some (.ow fl d))=>E.rt (.ow fl) d
 |_=>False
theorem SR.at{ρ:Env}{σ:St}{ae:List Addr}{i:Nat}{fl:Bool}{d:D}{Hs H:Hp}(s:SR K Hs H ρ σ ae)(e:ρ[i]? = some (some (.ow fl d))):∃ v As,σ[i]? = some (some v)/\As≠[]/\bE K Hs H fl d v As/\As.Sublist ae:=by
 induction s generalizing i with
 |nil=>simp at e
 |non s ih =>
  cases i with
  |zero=>simp at e
  |succ i=>exact ih e
 |sh r s ih =>
  cases i with
  |zero=>simp at e
  |succ i=>exact ih e
 |xc s ih =>
  cases i with
  |zero=>simp at e
  |succ i=>exact ih e
 |ow ne r s ih =>
  cases i with
  |zero=>simp at e;obtain⟨rfl,rfl⟩:=e;exact⟨_,_,rfl,ne,r,LM _ _⟩
  |succ i =>
   obtain⟨v,As,a,b,c,d⟩:=ih e
   exact⟨v,As,a,b,c,d.trans (sv _ _)⟩
 |lk ne r s ih =>
  cases i with
  |zero=>simp at e
  |succ i =>
   obtain⟨v,As,a,b,c,d⟩:=ih e
   exact⟨v,As,a,b,c,d.trans (sv _ _)⟩
theorem pB{i:Nat}(he:PE X e (CF i)):QS X K L (.Return (some e) pos) (tH i):=PS.imp (RV he) fun D σ H hx=>dD hx fun Hs ρ ae E sr h k1 k2 k3 k4=>by
 unfold tH at h
 split at h
 ·rename_i d e1
  obtain⟨v,e2,r⟩:=sr.sr.get e1
  exact⟨v,e2,k4 v H Hs .sh d [] (ay.refl _) sr.wf ⟨rfl,r⟩ ng (fun a ha=>nomatch ha) h⟩
 ·rename_i fl d e1
  obtain⟨v,As,e2,ne,r,sb⟩:=sr.sr.at e1
  exact⟨v,e2,k4 v H Hs (.ow fl) d As (ay.refl _) sr.wf ⟨r,ne⟩ (sb.nodup sr.sF) (fun a ha=>sr.own a (sb.subset ha)) h⟩
 ·exact h.elim
theorem aF{i:Nat}{x:Str}{pos':Pos}(hN:X.N.Nodup)(hi:X.N[i]? = some x)(hx:Loc X.env.scope x)(he:QE X K e te)(hs:swapsWith e (some (.Name x pos')) pos.line X.env=pure false:=by rfl)
  (hf:X.fn x=true\/X.env.scope.names.lookup x=some .local:=by first|exact .inl rfl|exact .inr rfl|assumption):QS X K L (.Assign [.Name x pos'] e pos) (eB i te):=PS.imp (RX hN hi hx he hs hf) fun D σ H hx=>dD hx fun Hs ρ ae E sr h k1 k2 k3 k4=>by
 refine⟨Hs,ρ,ae,_,sr,h,fun v H1 aE m d As g1 r1 f1 q1=>?_⟩
 have q1:match asg m d with
  |some sl=>E.nx (ρ.set i (some sl))
  |none=>False:=q1
 cases e:asg m d with
 |none=>rw[e] at q1;exact q1.elim
 |some sl =>
  rw[e] at q1
  obtain⟨bG,s'⟩:=(sr.grow g1).set i r1 f1.1 (fun a ha=>⟨(f1.2 a ha).1,fun m=>(sr.sr.own a m).ne (f1.2 a ha).2⟩) e
  exact k1 _ H1 aE _ bG g1.sh s' q1
theorem eV(hc:QT X K c tc)(ha:qh X K L a t)(hb:qh X K L b u):QS X K L (.If c a b pos) (mn tc t u):=PS.imp (ZY hc ha hb) fun D σ H hx=>fW hx fun Hs ρ ae E sr h k1 k2 k3 k4 kx=>by
 refine⟨Hs,ρ,ae,_,sr,h,fun k H1 aE g1 q1=>?_⟩
 have XR:∀ aS H' ai bq bG,ay aE ai->cK K ai bq aS H' bG->E.nx bq->D.nx aS H':=fun i3 H2 ax fN dv s2=>k1 i3 H2 ax fN dv (g1.sh.trans s2)
 have XS:∀ aS H' ai bq bG,ay aE ai->cK K ai bq aS H' bG->E.bk bq->D.bk aS H':=fun i3 H2 ax fN dv s2=>k2 i3 H2 ax fN dv (g1.sh.trans s2)
 have XT:∀ aS H' ai bq bG,ay aE ai->cK K ai bq aS H' bG->E.ct bq->D.ct aS H':=fun i3 H2 ax fN dv s2=>k3 i3 H2 ax fN dv (g1.sh.trans s2)
 cases k with
 |true=>exact⟨aE,ρ,ae,E,sr.grow g1,q1,XR,XS,XT,(fun v H2 ax m d As s2=>k4 v H2 ax m d As (g1.sh.trans s2)),fun n H2 s2=>kx n H2 (g1.sh.trans s2)⟩
 |false=>exact⟨aE,ρ,ae,E,sr.grow g1,q1,XR,XS,XT,(fun v H2 ax m d As s2=>k4 v H2 ax m d As (g1.sh.trans s2)),fun n H2 s2=>kx n H2 (g1.sh.trans s2)⟩
def sN(Hs H:Hp)(As:List Addr):Hp:=fun a=>if a∈As then H a else Hs a
theorem iU(n:∀ a∈As,Hs a=none):ay Hs (sN Hs H As):=fun a o e=>by
 unfold sN
 rw[if_neg fun m=>by rw[n a m] at e;cases e]
 exact e
theorem wX(w:Wf Hs H)(o:∀ a∈As,Own H a):Wf (sN Hs H As) H:=⟨fun a u e=>by
  unfold sN at e
  by_cases m:a∈As
  ·rw[if_pos m] at e;exact e
  ·rw[if_neg m] at e;exact w.sub a u e,fun a vs e=>by
  unfold sN
  rw[if_neg fun m=>(o a m).Bj e]
  exact w.hG a vs e⟩
def NP:Sl->Sl
 |.sh d=>.sh d
 |.ow _ d=>.sh d
 |.lk a fl d=>.lk a fl d
 |.xc a=>.xc a
def TC:Sl->Sl
 |.sh d=>.sh d
 |.ow _ d=>.sh d
 |.lk _ _ d=>.sh d
 |.xc a=>.xc a
def NQ(i:Nat)(ρ:Env):Env:=match ρ[i]? with
 |some (some sl)=>ρ.set i (some (NP sl))
 |_=>ρ
theorem wF{As ae B t:List Addr}(n:(B++ae).Nodup)(a:As.Sublist ae)(c:∀ x∈As,x∉t):∀ x∈As,x∉B++t:=fun x hx m=>by
 obtain⟨n1,n2,n3⟩:=iA.mp n
 rcases dz.mp m with z|z
 ·exact n3 x z x (a.subset hx) rfl
 ·exact c x hx z
theorem SR.dQ(i:Nat)(s:SR K Hs H ρ σ ae):ρ[i]? = some (some (.ow fl d))->ae.Nodup ->
  ∃ (As bG:List Addr),As.Sublist ae/\bG.Sublist ae/\(∀ a∈As,a∉bG)/\∀ ai,ay Hs ai->(∀ a∈As,ai a=H a)->SR K ai H (ρ.set i (some (.sh d))) σ bG:=by
 induction s generalizing i with
 |nil=>intro e;simp at e
 |non q ih =>
  intro e n
  cases i with
  |zero=>simp at e
  |succ i =>
   obtain⟨As,t,a,b,c,d⟩:=ih i e n
   exact⟨As,t,a,b,c,fun ai s k=>.non (d ai s k)⟩
 |sh r q ih =>
  intro e n
  cases i with
  |zero=>simp at e
  |succ i =>
   obtain⟨As,t,a,b,c,d⟩:=ih i e n
   exact⟨As,t,a,b,c,fun ai s k=>.sh (r.same s) (d ai s k)⟩
 |xc q ih =>
  intro e n
  cases i with
  |zero=>simp at e
  |succ i =>
   obtain⟨As,t,a,b,c,d⟩:=ih i e n
   exact⟨As,t,a,b,c,fun ai s k=>.xc (d ai s k)⟩
 |ow ne r q ih =>
  intro e n
  obtain⟨n1,n2,n3⟩:=iA.mp n
  cases i with
  |zero =>
   simp at e
   obtain⟨rfl,rfl⟩:=e
   exact⟨_,_,LM _ _,sv _ _,fun a h m=>n3 a h a m rfl,fun ai s k=>.sh (r.rep s k) (q.fh s fun _ _=>rfl)⟩
  |succ i =>
   obtain⟨As,t,a,b,c,d⟩:=ih i e n2
   exact⟨As,_,a.trans (sv _ _),b.append_left _,wF n a c,fun ai s k=>.ow ne (r.fh s fun _ _=>rfl) (d ai s k)⟩
 |lk ne r q ih =>
  intro e n
  obtain⟨n1,n2,n3⟩:=iA.mp n
  cases i with
  |zero=>simp at e
  |succ i =>
   obtain⟨As,t,a,b,c,d⟩:=ih i e n2
   exact⟨As,_,a.trans (sv _ _),b.append_left _,wF n a c,fun ai s k=>.lk ne (r.fh s fun _ _=>rfl) (d ai s k)⟩
theorem cK.dQ(i:Nat)(s:cK K Hs ρ σ H ae):∃ ai bG,ay Hs ai/\cK K ai (NQ i ρ) σ H bG:=by
 unfold NQ
 split
 ·rename_i sl e
  have keep:NP sl=sl->∃ ai bG,ay Hs ai/\cK K ai (ρ.set i (some (NP sl))) σ H bG:=fun hs=>by
   have e2:ρ.set i (some (NP sl))=ρ:=by
    apply D8
    intro j
    rw[List.getElem?_set]
    by_cases h:i=j
    ·subst h
     rw[if_pos rfl,e]
     have:i<ρ.length:=(lh.mp e).1
     simp[this,hs]
    ·rw[if_neg h]
   rw[e2]
   exact⟨Hs,ae,ay.refl _,s⟩
  cases sl with
  |sh d=>exact keep rfl
  |xc a=>exact keep rfl
  |lk a fl d=>exact keep rfl
  |ow fl d =>
   obtain⟨As,t,a,b,c,g⟩:=SR.dQ i s.sr e s.sF
   have hn:∀ a∈As,Hs a=none:=fun x hx=>s.own x (a.subset hx)
   have ho:∀ a∈As,Own H a:=fun x hx=>s.sr.own x (a.subset hx)
   refine⟨sN Hs H As,t,iU hn,g _ (iU hn) fun x hx=>by unfold sN;rw[if_pos hx],wX s.wf ho,b.nodup s.sF,fun x hx=>?_⟩
   unfold sN
   rw[if_neg fun m=>c x m hx]
   exact s.own x (b.subset hx)
 ·exact⟨Hs,ae,ay.refl _,s⟩
def fq(i:Nat)(t:WS):WS:=fun E ρ=>t E (NQ i ρ)
theorem zB{D:Ends}(h:sL K L (fq i t) D σ H):sL K L t D σ H:=by
 obtain⟨Hs,ρ,ae,E,sr,h,k1,k2,k3,k4,kx⟩:=h
 obtain⟨ai,bG,s,DL⟩:=sr.dQ i
 exact⟨ai,_,bG,E,DL,h,fun i3 H2 ax fN dv s2=>k1 i3 H2 ax fN dv (s.trans s2),fun i3 H2 ax fN dv s2=>k2 i3 H2 ax fN dv (s.trans s2),fun i3 H2 ax fN dv s2=>k3 i3 H2 ax fN dv (s.trans s2),
  fun v H2 ax m d As s2=>k4 v H2 ax m d As (s.trans s2),fun n H2 s2=>kx n H2 (s.trans s2)⟩
theorem aG(i:Nat)(h:QS X K L st t):QS X K L st (fq i t):=PS.imp h fun D σ H h=>zB h
def kY(aE H1 ai H':Hp):Hp:=fun a=>match H' a with
 |some (.tup vs)=>some (.tup vs)
 |_=>match H1 a with
  |none=>ai a
  |some _=>aE a
theorem iB(w:Wf aE H1)(s:ay H1 ai)(w':Wf ai H'):dS aE H1 (kY aE H1 ai H') H':=by
 have sa:ay H1 H':=s.trans w'.sub
 have tp:∀ a vs,H' a=some (.tup vs)->kY aE H1 ai H' a=some (.tup vs):=fun a vs e=>by unfold kY;rw[e]
 have nt:∀ a,(∀ vs,H' a≠some (.tup vs))->kY aE H1 ai H' a=match H1 a with
  |none=>ai a
  |some _=>aE a:=fun a h=>by
  unfold kY
  split
  ·rename_i vs e;exact absurd e (h vs)
  ·rfl
 refine⟨sa,fun a o e=>?_,⟨fun a o e=>?_,tp⟩,fun a h=>?_⟩
 ·have e1:=w.sub a o e
  have e2:=sa a o e1
  by_cases ht:∃ vs,o=.tup vs
  ·obtain⟨vs,rfl⟩:=ht
   exact tp a vs e2
  ·rw[nt a fun vs z=>ht ⟨vs,by rw[e2] at z;exact Option.some.inj z⟩,e1]
   exact e
 ·by_cases ht:∃ vs,H' a=some (.tup vs)
  ·obtain⟨vs,z⟩:=ht
   rw[tp a vs z] at e
   rw[z];exact e
  ·rw[nt a fun vs z=>ht ⟨vs,z⟩] at e
   cases q:H1 a with
   |none=>rw[q] at e;exact w'.sub a o e
   |some u =>
    rw[q] at e
    have:=w.sub a o e
    exact sa a o this
 ·cases q:H1 a with
  |none=>exact .inr rfl
  |some u =>
   refine .inl ?_
   by_cases ht:∃ vs,H' a=some (.tup vs)
   ·obtain⟨vs,z⟩:=ht
    have:=sa a u q
    rw[z] at this
    cases this
    rw[w.hG a vs q]
    exact fun z=>nomatch z
   ·rw[nt a fun vs z=>ht ⟨vs,z⟩,q] at h
    exact h
theorem yz{aE H1 ai H':Hp}{a:Addr}(s:ay H1 ai)(h:ai a=none)(o:Own H' a):kY aE H1 ai H' a=none/\H1 a=none:=by
 have h1:=s.free h
 refine⟨?_,h1⟩
 unfold kY
 split
 ·rename_i vs e;exact absurd e o.Bj
 ·rw[h1];exact h
def An:Md->D->Md
 |.ow true,_=>.ow true
 |_,d=>bif d.flat then .sh else .bo
theorem sV(w:Wf aE H1)(s:ay H1 ai)(w':Wf ai H')(r:RM K ai H' m d v As)(nd:As.Nodup)(own:∀ a∈As,ai a=none) :
  ∃ fA,RM K (kY aE H1 ai H') H' (An m d) d v fA/\cO (kY aE H1 ai H') H1 fA:=by
 have g:=iB w s w'
 have other:∃ fA,RM K (kY aE H1 ai H') H' (bif d.flat then .sh else .bo) d v fA/\cO (kY aE H1 ai H') H1 fA:=by
  cases hf:d.flat with
  |true=>exact⟨[],⟨rfl,(r.rep w').gP g.wf.hG hf⟩,cO.nil⟩
  |false=>exact⟨[],⟨rfl,r.rep w'⟩,cO.nil⟩
 cases m with
 |sh=>exact other
 |bo=>exact other
 |ow fl =>
  cases fl with
  |false=>exact other
  |true=>exact⟨As,⟨bE.leaves (fun a vs e=>g.wf.hG a vs (w'.sub _ _ e)) r.1,r.2⟩,nd,fun a h=>yz s (own a h) (r.own a h)⟩
abbrev iO:=List D->(Md->D->Prop)->Prop
def aA(K:PySem.W.Frag)(sp:iO):Sp:=fun vs H Qv _=>∃ ds Qd,bp K H ds vs/\sp ds Qd /\
 ∀ v H' ai m d As,ay H ai->Wf ai H'->RM K ai H' m d v As->As.Nodup->(∀ a∈As,ai a=none)->Qd m d->Qv v H'
def a_(n:Nat)(ds:List D):Env:=ds.map (fun d=>some (.sh d))++List.replicate (n-ds.length) none
theorem SR.start(r:bp K H ds vs):SR K H H (ds.map (fun d=>some (.sh d))++List.replicate n none) (vs.map some++List.replicate n none) []:=by
 induction ds generalizing vs with
 |nil =>
  rw[r.n0]
  induction n with
  |zero=>exact .nil
  |succ n ih=>exact .non ih
 |cons d ds ih =>
  obtain⟨u,us,rfl,r,rs⟩:=r.c
  exact .sh r (ih rs)
theorem xG(h:aA K sp vs H Qv E)(hp:∀ ds Q,sp ds Q->t { nx:=fun _=>Q .sh .non,rt:=Q } (a_ N.length ds)) :
  sL K L0 t { nx:=fun _ H'=>Qv .non H',rt:=Qv } (start N vs) H:=by
 obtain⟨ds,Qd,rs,hs,fin⟩:=h
 have hl:=rs.length
 refine⟨H,a_ N.length ds,[],{ nx:=fun _=>Qd .sh .non,rt:=Qd },⟨?_,⟨ay.refl _,fun _ _ e=>e⟩,ng,fun a h=>nomatch h⟩,hp ds Qd hs,?_,?_,?_,?_,fun _ _ _ _=>trivial⟩
 ·unfold a_ start
  rw[hl]
  exact SR.start rs
 ·exact fun aS H' ai bq bG s sr q=>fin .non H' ai .sh .non [] s sr.wf ⟨rfl,.non⟩ ng (fun a h=>nomatch h) q
 ·exact fun aS H' ai bq bG s sr q=>q.elim
 ·exact fun aS H' ai bq bG s sr q=>q.elim
 ·exact fun v H' ai m d As s w r nd own q=>fin v H' ai m d As s w r nd own q
theorem sP.ok{P:Program}{st:Stmt}{N ps:List Str}(F:hV K x qual st f fd)(S:kU N ps (cv st))(len:∀ ds Q,sp ds Q->ds.length=ps.length)
  (AZ:∀ (cS:Value) (A:Around) (outer:List PySem.Env) (s:Shared) (H:Hp) (E:XK),ki k (A.deeper (envOfC qual (cv st) s.heap.objs.size f cS))->qh (rg kE P w K mg base N qual (cv st) f cS A outer s H E).MX K L0 (ic st) t)
  (hp:∀ ds Q,sp ds Q->t { nx:=fun _=>Q .sh .non,rt:=Q } (a_ N.length ds)):hJ P w K mg base kE (k+1) f fd ps (aA K sp) :=
 F.ok S (fun vs H Q E ⟨ds,Qd,rs,hs,_⟩=>by rw[<- rs.length];exact len ds Qd hs) fun cS A outer s H vs Q E hr hs=>⟨_,AZ cS A outer s H E hr,xG hs hp⟩
def cG(sp:iO)(t:WA):WE:=fun ρ Q=>t ρ fun ps=>sp (ps.map (·.2)) fun m d=>bP (m,d) (f:=fun p=>Q (An p.1 p.2) p.2) ⟨⟩
theorem xn{sp:iO}{t:WA}{σ:St}{H:Hp}{Qv:VK}{E:XK}(h:lS K (cG sp t) σ H Qv):M_ (aA K sp) [] E (Tr K t) σ H Qv:=by
 obtain⟨Hs,ρ,ae,Q,sr,h,f⟩:=h
 refine⟨Hs,ρ,ae,_,sr,h,fun vs H1 aE ps As g1 r1 f1 q1=>?_⟩
 refine⟨_,_,by rw[mr];exact r1.reps g1.wf,q1,fun v H' ai m d As s w r nd own q=>?_⟩
 obtain⟨fA,r',fr⟩:=sV g1.wf s w r nd own
 exact Fin.after f g1 v H' _ (An m d) d fA (iB g1.wf s w) r' fr q
theorem cZ {k:Nat} {x:Str} {ps:List Str} {sp:iO} {p:Pos} {es:List Expr} {t:WA} (C:gE X.prog X.w X.K X.mg X.base k x ps (aA K sp)) (hr:ki k X.A) (ha:QA X K (e :: es) t) (hg:Gl X x:=by rfl) (i5:(x == ("__debug__" : Str))=false:=by decide) (he:starEach (e :: es) X.env=(false,eval e X.env) :: starEach es X.env:=by rfl)
  (fi:(backTo pos (starEach es X.env)).any (·.1)=false:=by rfl):QE X K (.Call (.Name x p) (e :: es) [] pos) (cG sp t):=PE.imp (Fb C hr ha hg i5 he fi) fun σ H Qv h=>xn h
end
abbrev WG:=D->Env->(Env->Prop)->Prop
def NR(K:PySem.W.Frag)(g:WG):TG:=fun v σ H Qv=>∃ Hs ρ ae d Q,cK K Hs ρ σ H ae/\Rep K Hs d v/\g d ρ Q/\∀ aS bq bG,cK K Hs bq aS H bG->(∀ a∈bG,a∈ae)->Q bq->Qv aS H
abbrev QG(X:Cx)(K:PySem.W.Frag)(e:Expr)(g:WG):Prop:=PG X e (NR K g)
def gN(i:Nat):WG:=fun d ρ Q=>Q (ρ.set i (some (.sh d)))
abbrev FD:=List D->Env->(Env->Prop)->Prop
def dL'(K:PySem.W.Frag)(g:FD):He:=fun vs σ H Qv=>∃ Hs ρ ae ds Q,cK K Hs ρ σ H ae/\bp K Hs ds vs/\g ds ρ Q/\∀ aS bq bG,cK K Hs bq aS H bG->(∀ a∈bG,a∈ae)->Q bq->Qv aS H
abbrev Qn(X:Cx)(K:PySem.W.Frag)(es:List Expr)(g:FD):Prop:=zi X es (dL' K g)
def mX:FD:=fun ds ρ Q=>ds=[]/\Q ρ
def cB(g:WG)(gs:FD):FD:=fun ds ρ Q=>match ds with
 |d :: ds=>g d ρ fun bq=>gs ds bq Q
 |[]=>False
def gT(n:Nat)(gs:FD):WG:=fun d ρ Q=>match d with
 |.tup ds=>ds.length=n/\gs ds ρ Q
 |_=>False
section
variable {X:Cx}{K:PySem.W.Frag}{e:Expr}{es:List Expr}{g:WG}{gs:FD}{pos:Pos}
theorem PG.imp(h:PG X e t)(i:∀ v σ H Q,t' v σ H Q->t v σ H Q):PG X e t':=fun pins s σ H v u Q I r q=>h pins s σ H v u Q I r (i v σ H Q q)
theorem zi.imp(h:zi X es t)(i:∀ v σ H Q,t' v σ H Q->t v σ H Q):zi X es t':=fun pins s σ H v u Q I r q=>h pins s σ H v u Q I r (i v σ H Q q)
theorem cK.Hc(i:Nat)(s:cK K Hs ρ σ H ae)(r:Rep K Hs d v):∃ bG,(∀ a∈bG,a∈ae)/\cK K Hs (ρ.set i (some (.sh d))) (σ.set i (some v)) H bG:=by
 obtain⟨t,a,b⟩:=s.sr.Bg r i
 exact⟨t,fun x hx=>a.subset hx,b,s.wf,a.nodup s.sF,fun x hx=>s.own x (a.subset hx)⟩
theorem aB(hN:X.N.Nodup)(hi:X.N[i]? = some x)(hx:Loc X.env.scope x)(hf:X.fn x=true\/X.env.scope.names.lookup x=some .local:=by first|exact .inl rfl|exact .inr rfl|assumption):QG X K (.Name x pos) (gN i) :=
 PG.imp (ZZ hN hi hx hf) fun v σ H Qv cE=>by
  obtain⟨Hs,ρ,ae,d,Q,sr,r,h,k⟩:=cE
  obtain⟨t,m,s⟩:=sr.Hc i r
  exact k _ _ t s m h
theorem g_:Qn X K [] mX:=zi.imp Z2 fun v σ H Qv cE=>by
 obtain⟨Hs,ρ,ae,ds,Q,sr,r,h,k⟩:=cE
 obtain⟨rfl,h⟩:=h
 cases r
 exact⟨rfl,k σ ρ ae sr (fun _ z=>z) h⟩
theorem aY(h1:QG X K e g)(h2:Qn X K es gs)(hs:(assignEach (e :: es) X.env).map (·.2)=assign e X.env :: (assignEach es X.env).map (·.2):=by rfl):Qn X K (e :: es) (cB g gs) :=
 zi.imp (Z3 h1 h2 hs) fun v σ H Qv cE=>by
  obtain⟨Hs,ρ,ae,ds,Q,sr,r,h,k⟩:=cE
  cases r with
  |nil=>exact h.elim
  |cons r rs=>exact⟨_,_,rfl,Hs,ρ,ae,_,_,sr,r,h,fun i3 fN dv gu m2 q2=>⟨Hs,fN,dv,_,Q,gu,rs,q2,fun ny JA TF TH m3=>k ny JA TF TH fun a h=>m2 a (m3 a h)⟩⟩
theorem lD(hc:X.calm=true)(h:Qn X K es gs)(hn:(assignEach es X.env).length=n:=by rfl)(iX:(assignEach es X.env).findIdx? (·.1)=none:=by rfl):QG X K (.Tuple es k pos) (gT n gs) :=
 PG.imp (Z5 hc h hn iX) fun v σ H Qv cE=>by
  obtain⟨Hs,ρ,ae,d,Q,sr,r,h,k⟩:=cE
  cases r with
  |tup z e rs=>exact⟨_,_,rfl,.inl (.inl (sr.wf.sub _ _ e)),by rw[<- rs.length];exact h.1,Hs,ρ,ae,_,Q,sr,rs,h.2,k⟩
  |_=>exact h.elim
end
abbrev WI:=Env->(List D->Prop)->Prop
structure jA(K:PySem.W.Frag)(J:It)(ds:List D)(C:Hp->Hp->Prop):Prop where
 go:∀ i Hs H,C Hs H->Wf Hs H->i<ds.length->J.go i H
 kR:∀ i Hs H x H' d,C Hs H->Wf Hs H->ds[i]? = some d->J.kR i H x H'->∃ ai,dS Hs H ai H'/\Rep K ai d x
 stop:∀ Hs H,C Hs H->Wf Hs H->J.stop ds.length H
abbrev wH(K:PySem.W.Frag)(Hs:Hp)(J:It)(ds:List D):Prop:=jA K J ds fun G _=>ay Hs G
def mY(xs:List D):List D:=xs.mapIdx fun i x=>.tup [.int i,x]
section
variable {K:PySem.W.Frag}{Hs:Hp}{J:It}{ds:List D}{C C':Hp->Hp->Prop}{a:Addr}
theorem jA.imp(S:jA K J ds C)(h:∀ Hs H,C' Hs H->C Hs H):jA K J ds C':=⟨fun i Hs H c=>S.go i Hs H (h _ _ c),fun i Hs H x H' d c=>S.kR i Hs H x H' d (h _ _ c),fun Hs H c=>S.stop Hs H (h _ _ c)⟩
theorem jA.seq(rs:bp K Hs ds vs)(S:mK J vs fun H=>ay Hs H):wH K Hs J ds where
 go:=fun i G H s w h=>S.go i H (s.trans w.sub) (by rw[<- rs.length];exact h)
 kR:=fun i G H x H' d s w h y=>by
  have hi:i<ds.length:=by
   rcases Nat.lt_or_ge i ds.length with q|q
   ·exact q
   ·rw[wo q] at h;cases h
  obtain⟨e,z⟩:=S.kR i H x H' (s.trans w.sub) (by rw[<- rs.length];exact hi) y
  subst e
  obtain⟨d',ed,rd⟩:=rs.Tq z
  rw[h] at ed;cases ed
  exact⟨G,dS.refl w,rd.same s⟩
 stop:=fun G H s w=>by rw[rs.length];exact S.stop H (s.trans w.sub)
abbrev yN(K:PySem.W.Frag)(a:Addr)(ds:List D)(C:Hp->Hp->Prop):Prop:=∀ Hs H,C Hs H->Wf Hs H->∃ vs,eM K H a vs/\bp K Hs ds vs
theorem jA.list(h:yN K a ds C):jA K (Pk K a) ds C where
 go:=fun i G H c w hi=>by
  obtain⟨vs,q,rs⟩:=h G H c w
  exact⟨vs,vs[i]'(by rw[<- rs.length];exact hi),q,by simp⟩
 kR:=fun i G H x H' d c w hd y=>by
  obtain⟨vs,q,rs⟩:=h G H c w
  obtain⟨rfl,y⟩:=y
  obtain⟨d',ed,rd⟩:=rs.Tq (y vs q)
  rw[hd] at ed;cases ed
  exact⟨G,dS.refl w,rd⟩
 stop:=fun G H c w=>by
  obtain⟨vs,q,rs⟩:=h G H c w
  exact⟨vs,q,by rw[rs.length];exact bS _⟩
theorem jA.enum(h:yN K a ds C):jA K (S4 K a) (mY ds) C where
 go:=fun i G H c w hi=>by
  obtain⟨vs,q,rs⟩:=h G H c w
  have hi:i<ds.length:=by simpa[mY] using hi
  exact⟨vs,vs[i]'(by rw[<- rs.length];exact hi),q,by simp⟩
 kR:=fun i G H x H' d c w hd y=>by
  obtain⟨vs,q,rs⟩:=h G H c w
  obtain⟨p,v,rfl,hp,rfl,y⟩:=y
  obtain⟨d',ed,rd⟩:=rs.Tq (y vs q)
  have:d=.tup [.int i,d']:=by
   simp only[mY,List.getElem?_mapIdx,ed,MQ] at hd
   cases hd;rfl
  subst this
  have g:=Qg (vs:=[.int i,v]) w hp
  exact⟨_,g,.tup (vs:=[.int i,v]) Bx eR (.cons (.int _) (.cons (rd.same g.sh) .nil))⟩
 stop:=fun G H c w=>by
  obtain⟨vs,q,rs⟩:=h G H c w
  exact⟨vs,q,by rw[mY,List.length_mapIdx,rs.length];exact bS _⟩
theorem qG(s:eM K Hs a vs)(rs:bp K Hs ds vs):yN K a ds fun G _=>ay Hs G:=fun G H c w=>⟨vs,ay.seq (c.trans w.sub) s,rs.same c⟩
end
def tpI(K:PySem.W.Frag)(wi:WI):TI:=fun σ H R=>∃ Hs ρ ae Q,cK K Hs ρ σ H ae/\wi ρ Q/\∀ J H' ai ds,dS Hs H ai H'->wH K ai J ds->ds.length<=sizeLine->Q ds->R J H'
abbrev QI(X:Cx)(K:PySem.W.Frag)(tg iter:Expr)(wi:WI):Prop:=PI X tg iter (tpI K wi)
def jC:Md->Prop
 |.bo=>False
 |_=>True
def cU(te:WE):WI:=fun ρ Q=>te ρ fun m d=>jC m/\match d with
 |.list xs=>Q xs
 |_=>False
def yh(te:WE):WI:=fun ρ Q=>te ρ fun m d=>jC m/\match d with
 |.tup xs=>Q xs
 |_=>False
def jY(lo:Int)(n:Nat):List D:=(List.range n).map fun i=>.int (lo+(i:Nat))
def fL(te:WE):WI:=fun ρ Q=>te ρ fun _ d=>match d with
 |.int j=>j<=16777216/\-(2 ^ 62)<=j/\Q (jY 0 j.toNat)
 |_=>False
section
variable {X:Cx}{K:PySem.W.Frag}{e e2 tg:Expr}{te TJ:WE}{pos p:Pos}
theorem PI.imp(h:PI X tg iter t)(i:∀ σ H R,t' σ H R->t σ H R):PI X tg iter t':=fun pins s σ H R I q=>h pins s σ H R I (i σ H R q)
theorem mK.imp{J:It}(s:mK J vs c)(h:∀ H,c' H->c H):mK J vs c':=⟨fun i H q=>s.go i H (h H q),fun i H x H' q=>s.kR i H x H' (h H q),fun H q=>s.stop H (h H q)⟩
theorem RM.tL(g:dS Hs H aE H1)(r:RM K aE H1 m d v As)(f:cO aE H As)(h:jC m):∃ ax,dS Hs H ax H1/\Rep K ax d v:=by
 cases m with
 |sh=>exact⟨aE,g,r.2⟩
 |bo=>exact h.elim
 |ow fl =>
  have n:∀ a∈As,aE a=none:=fun a ha=>(f.2 a ha).1
  have o:=r.own
  refine⟨sN aE H1 As,⟨g.all,g.sh.trans (iU n),wX g.wf o,fun a h=>?_⟩,bE.rep (iU n) r.1 fun a ha=>by unfold sN;rw[if_pos ha]⟩
  unfold sN at h
  by_cases m:a∈As
  ·exact .inr (f.2 a m).2
  ·rw[if_neg m] at h;exact g.new a h
theorem cD(he:QE X K e te)(hK:X.K=K:=by rfl):QI X K tg e (cU te):=by
 subst hK
 refine PI.imp (VW he) fun σ H R hx=>kr hx fun Hs ρ ae Q sr h k=>⟨Hs,ρ,ae,_,sr,h,fun v H1 aE m d As g1 r1 f1 q1=>?_⟩
 obtain⟨nb,q1⟩:=q1
 obtain⟨ax,g2,r2⟩:=r1.tL g1 f1 nb
 cases r2 with
 |list z s rs=>exact⟨_,rfl,⟨_,ay.seq g2.wf.sub s⟩,k _ H1 ax _ g2 (.seq rs (mK.imp (Af X.K _ _) fun H' s'=>ay.seq s' s)) (by rw[rs.length];exact z) q1⟩
 |_=>exact q1.elim
theorem BV(he:QE X K e te)(hK:X.K=K:=by rfl):QI X K tg e (yh te):=by
 subst hK
 refine PI.imp (ac' he) fun σ H R hx=>kr hx fun Hs ρ ae Q sr h k=>⟨Hs,ρ,ae,_,sr,h,fun v H1 aE m d As g1 r1 f1 q1=>?_⟩
 obtain⟨nb,q1⟩:=q1
 obtain⟨ax,g2,r2⟩:=r1.tL g1 f1 nb
 cases r2 with
 |tup z s rs=>exact⟨_,rfl,⟨_,.inl (.inl (g2.wf.sub _ _ s))⟩,k _ H1 ax _ g2 (.seq rs (mK.imp (Ew X.K _ _) fun H' s'=>.inl (.inl (s' _ _ s)))) (by rw[rs.length];exact z) q1⟩
 |_=>exact q1.elim
theorem qd(lo:Int):∀ (l:List Nat),bp K H (l.map fun i=>.int (lo+(i:Nat))) (l.map fun i=>V.int (lo+(i:Nat)))
 |[]=>.nil
 |c :: l=>.cons (.int _) (qd lo l)
theorem fV (hm:X.mg "range" = none) (he:QE X K e te) (hg:Gl X "range" := by rfl) (hs:starEach [e] X.env=(false,eval e X.env) :: starEach [] X.env:=by rfl) (hX:starEach [e] X.env=[(false,eval e X.env)]:=by rfl):QI X K tg (.Call (.Name "range" p) [e] [] pos) (fL te):=by
 refine PI.imp (af' hg hm (pz he tq hs) hX) fun σ H R hx=>kr hx fun Hs ρ ae Q sr h k=>⟨Hs,ρ,ae,_,sr,h,fun v H1 aE m d As g1 r1 f1 q1=>?_⟩
 have r:=r1.rep g1.wf
 cases r with
 |int j =>
  obtain⟨h1,h2,q1⟩:=q1
  exact⟨j,rfl,h2,by lia,k _ H1 aE _ g1 (.seq (qd 0 _) (mK.imp (Cp _ _) fun _ _=>trivial)) (by rw[bT,Rq,sizeLine_eq];lia) q1⟩
 |_=>exact q1.elim
section
variable {X:Cx}{K:PySem.W.Frag}{e tg:Expr}{te:WE}{pos p:Pos}
def uK(te:WE):WI:=fun ρ Q=>te ρ fun m d=>jC m/\match d with
 |.list xs=>Q (mY xs)
 |_=>False
theorem En (hm:X.mg "enumerate" = none) (he:QE X K e te) (hK:X.K=K:=by rfl) (hg:Gl X "enumerate" := by rfl) (hs:starEach [e] X.env=(false,eval e X.env) :: starEach [] X.env:=by rfl) (hX:starEach [e] X.env=[(false,eval e X.env)]:=by rfl) :
  QI X K (.Tuple elts kk tp) (.Call (.Name "enumerate" p) [e] [] pos) (uK te):=by
 subst hK
 refine PI.imp (CT hg hm (pz he tq hs) hX) fun σ H R hx=>kr hx fun Hs ρ ae Q sr h k=>⟨Hs,ρ,ae,_,sr,h,fun v H1 aE m d As g1 r1 f1 q1=>?_⟩
 obtain⟨nb,q1⟩:=q1
 obtain⟨ax,g2,r2⟩:=r1.tL g1 f1 nb
 cases r2 with
 |list z s rs=>exact⟨_,rfl,⟨_,ay.seq g2.wf.sub s⟩,k _ H1 ax _ g2 (.enum (qG s rs)) (by rw[mY,List.length_mapIdx,rs.length];exact z) q1⟩
 |_=>exact q1.elim
def XU(K:PySem.W.Frag)(wi:WI):TI:=fun σ H R=>∃ Hs ρ ae Q,cK K Hs ρ σ H ae/\wi ρ Q/\∀ J H' ai ds,dS Hs H ai H'->wH K H' J ds->ds.length<=sizeLine->Q ds->R J H'
abbrev NS(X:Cx)(K:PySem.W.Frag)(tg iter:Expr)(wi:WI):Prop:=PI X tg iter (XU K wi)
theorem lM(h:QI X K tg iter wi):NS X K tg iter wi:=PI.imp h fun σ H R hx=>kr hx fun Hs ρ ae Q sr h k=>⟨Hs,ρ,ae,Q,sr,h,fun J H' ai ds g w z q=>k J H' ai ds g (w.imp fun G H s=>g.wf.sub.trans s) z q⟩
def jr(te:WE):WI:=fun ρ Q=>te ρ fun _ d=>match d with
 |.list xs=>Q xs
 |_=>False
theorem lO(he:QE X K e te)(hK:X.K=K:=by rfl):NS X K tg e (jr te):=by
 subst hK
 refine PI.imp (VW he) fun σ H R hx=>kr hx fun Hs ρ ae Q sr h k=>⟨Hs,ρ,ae,_,sr,h,fun v H1 aE m d As g1 r1 f1 q1=>?_⟩
 have r:=r1.rep g1.wf
 cases r with
 |list z s rs=>exact⟨_,rfl,⟨_,s⟩,k _ H1 aE _ g1 (.list (qG s rs)) (by rw[rs.length];exact z) q1⟩
 |_=>exact q1.elim
end
def jk(g:WG)(b:WS)(E:qZ):List D->Env->Prop
 |[],ρ=>E.nx ρ
 |x :: xs,ρ=>g x ρ fun oj=>b { E with nx:=jk g b E xs,ct:=jk g b E xs,bk:=E.nx } oj
def nV(wi:WI)(g:WG)(b:WS):WS:=fun E ρ=>wi ρ fun ds=>jk g b E ds ρ
variable {wi:WI}{g:WG}{b:WS}{body:List Stmt}
theorem cP(hp:PassesOwn (model X.prog X.w) X.A X.env X.xe)(hc:X.calm=true)(hi:QI X K tg iter wi)(hg:QG X K tg g)(hb:qh X K L body b)(hs:∀ x,foldedSetIterable iter X.env x=pure x:=by intro _;rfl) :
  QS X K L (.For tg iter body [] pos) (nV wi g b):=by
 refine PS.imp (VY hp hc hi hg hb hs) fun D σ H hx=>fW hx fun Hs ρ ae E sr h k1 k2 k3 k4 kx=>?_
 rw[zb]
 refine⟨Hs,ρ,ae,_,sr,h,fun J H1 aE ds g1 S hz q1=>?_⟩
 refine⟨fun i m σ H=>m=ds.length-i/\i<=ds.length/\∃ ai bq bG,ay aE ai/\cK K ai bq σ H bG/\jk g b E (ds.drop i) bq,⟨ds.length,by simp,eP _,aE,ρ,ae,ay.refl _,sr.grow g1,by simpa using q1⟩,?_⟩
 rintro i m i3 H2 ⟨rfl,hi,ax,fN,dv,s2,gu,q2⟩
 by_cases dr:i<ds.length
 ·refine .inr ⟨S.go i ax H2 s2 gu.wf dr,fun ny H3=>∃ ai bq bG,ay aE ai/\cK K ai bq ny H3 bG/\jk g b E (ds.drop (i+1)) bq,fun ny H3 h3=>⟨ds.length-(i+1),by lia,rfl,dr,h3⟩,fun x H3 y=>?_⟩
  obtain⟨dP,g3,rd⟩:=S.kR i ax H2 x H3 ds[i] s2 gu.wf (by simp[dr]) y
  rw[D7 dr] at q2
  have s3:=s2.trans g3.sh
  refine⟨dP,fN,dv,ds[i],_,gu.grow g3,rd,q2,fun σ4 rS NT JJ _ q4=>?_⟩
  refine⟨dP,rS,NT,_,JJ,q4,?_,?_,?_,?_,fun n H5 s5=>kx n H5 ((g1.sh.trans s3).trans s5)⟩
  ·exact fun xC H5 ku oI oP s5 oQ q5=>⟨ku,oI,oP,s3.trans s5,oQ,q5⟩
  ·exact fun xC H5 ku oI oP s5 oQ q5=>k1 xC H5 ku oI oP ((g1.sh.trans s3).trans s5) oQ q5
  ·exact fun xC H5 ku oI oP s5 oQ q5=>⟨ku,oI,oP,s3.trans s5,oQ,q5⟩
  ·exact fun v H5 ku m d As s5=>k4 v H5 ku m d As ((g1.sh.trans s3).trans s5)
 ·have e:i=ds.length:=by lia
  subst e
  refine .inl ⟨S.stop ax H2 s2 gu.wf,?_⟩
  rw[OJ] at q2
  exact k1 i3 H2 ax fN dv (g1.sh.trans s2) gu q2
theorem bF(xs:List D)(Pv:Nat->Env->Prop)(h0:Pv 0 ρ)
  (hs:∀ i x ρ,xs[i]? = some x->Pv i ρ->∀ N:Env->Prop,(∀ bq,Pv (i+1) bq->N bq)->g x ρ fun oj=>b { E with nx:=N,ct:=N,bk:=E.nx } oj)
  (hd:∀ ρ,Pv xs.length ρ->E.nx ρ):jk g b E xs ρ:=by
 have go:∀ (k i:Nat) (ρ:Env),i+k=xs.length->Pv i ρ->jk g b E (xs.drop i) ρ:=by
  intro k
  induction k with
  |zero =>
   intro i ρ e p
   have:i=xs.length:=by lia
   subst this
   rw[OJ]
   exact hd ρ p
  |succ k ih =>
   intro i ρ e p
   have hi:i<xs.length:=by lia
   rw[D7 hi]
   exact hs i xs[i] ρ (by simp[hi]) p _ fun fN h2=>ih (i+1) fN (by lia) h2
 have:=go xs.length 0 ρ (by lia) h0
 simpa using this
def Bo(c:WT)(b:WS):WS:=fun E ρ=>∃ (Pv:Env->Prop) (μ:Env->Nat),Pv ρ/\∀ ρ,Pv ρ->c ρ fun k=>if k=true then b { E with nx:=fun bq=>Pv bq/\μ bq<μ ρ,ct:=fun bq=>Pv bq/\μ bq<μ ρ,bk:=E.nx } ρ else E.nx ρ
theorem Bb(hp:PassesOwn (model X.prog X.w) X.A X.env X.xe)(hc:QT X K c tc)(hb:qh X K L body b):QS X K L (.While c body [] pos) (Bo tc b):=by
 refine PS.imp (Z7 hp hc hb) fun D σ H hx=>fW hx fun Hs ρ ae E sr h k1 k2 k3 k4 kx=>?_
 obtain⟨Pv,μ,p0,turn⟩:=h
 refine⟨fun m σ H=>∃ ai bq bG,ay Hs ai/\cK K ai bq σ H bG/\Pv bq/\μ bq=m,⟨_,Hs,ρ,ae,ay.refl _,sr,p0,rfl⟩,?_⟩
 rintro m i3 H2 ⟨ax,fN,dv,s2,gu,p2,rfl⟩
 refine⟨ax,fN,dv,_,gu,turn fN p2,fun k H3 dP g3 q3=>?_⟩
 cases k with
 |false=>exact k1 i3 H3 dP fN dv (s2.trans g3.sh) (gu.grow g3) q3
 |true =>
  refine⟨fun aS H'=>∃ ai bq bG,ay Hs ai/\cK K ai bq aS H' bG/\Pv bq/\μ bq<μ fN,fun aS H' ⟨ai,bq,bG,a,b,c,d⟩=>⟨μ bq,d,ai,bq,bG,a,b,c,rfl⟩,?_⟩
  have s3:ay Hs dP:=s2.trans g3.sh
  refine⟨dP,fN,dv,_,gu.grow g3,q3,?_,?_,?_,?_,fun n H5 s5=>kx n H5 (s3.trans s5)⟩
  ·exact fun xC H5 ku oI oP s5 oQ q5=>⟨ku,oI,oP,s3.trans s5,oQ,q5.1,q5.2⟩
  ·exact fun xC H5 ku oI oP s5 oQ q5=>k1 xC H5 ku oI oP (s3.trans s5) oQ q5
  ·exact fun xC H5 ku oI oP s5 oQ q5=>⟨ku,oI,oP,s3.trans s5,oQ,q5.1,q5.2⟩
  ·exact fun v H5 ku m d As s5=>k4 v H5 ku m d As (s3.trans s5)
end
def uj:WT:=fun _ Q=>Q true
def NV(m:Md)(d:D):Prop:=d.flat=true\/m=.ow true
def gG(g:WG)(tc:WT)(te:WE):List D->Env->(List D->Prop)->Prop
 |[],_,k=>k []
 |x :: xs,ρ,k=>g x ρ fun oj=>tc oj fun b=>if b=true then te oj fun m d=>NV m d/\gG g tc te xs oj (fun out=>k (d :: out)) else gG g tc te xs oj k
def Di(tn:Nat)(ix:List Nat)(ρ:Env):Env:=List.replicate tn none++ix.map fun j=>(ρ[j]?).join.map TC
def gm(wi:WI)(g:WG)(tc:WT)(te:WE)(tn:Nat)(ix:List Nat):WE:=fun ρ Q=>wi ρ fun ds=>gG g tc te ds (Di tn ix ρ) fun out=>Q (.ow true) (.list out)
section
variable {X:Cx}{K:PySem.W.Frag}
theorem n8{Hs H G:Hp}(sr:cK K Hs ρ σ H ae)(G':Hp):∀ (ix:List Nat),SR K H G' (ix.map fun j=>(ρ[j]?).join.map TC) (ix.map fun j=>(σ[j]?).join) []
 |[]=>.nil
 |j :: ix=>by
  have ih:=n8 sr G' ix (G:=G)
  simp only[fT]
  cases e:ρ[j]? with
  |none=>exact .non ih
  |some o =>
   cases o with
   |none=>exact .non ih
   |some sl =>
    obtain⟨v,e1,r⟩:=sr.sr.get e
    rw[e1]
    cases sl with
    |sh d=>exact .sh (Rep.same sr.wf.sub r) ih
    |xc a=>subst r;exact .xc ih
    |ow fl d =>
     obtain⟨As,_,r,_⟩:=r
     exact .sh (r.rep sr.wf.sub fun _ _=>rfl) ih
    |lk a fl d =>
     obtain⟨As,_,r,_⟩:=r
     exact .sh (r.rep sr.wf.sub fun _ _=>rfl) ih
theorem rF(s:SR K H G ρ σ []):∀ (n:Nat),SR K H G (List.replicate n none++ρ) (List.replicate n none++σ) []
 |0=>s
 |n+1=>.non (rF s n)
theorem SR.heap(s:SR K Hs H ρ σ []):SR K Hs H' ρ σ []:=s.fh (ay.refl _) fun a h=>nomatch h
theorem ug(w:Wf Hs H)(n:Hs p=none)(ho:∀ vs,o≠.tup vs):Wf Hs (upd H p o):=⟨fun b u q=>by
  rw[cc (fun z=>by subst z;rw[n] at q;cases q)];exact w.sub b u q,fun b us q=>by
  by_cases hb:b=p
  ·subst hb;rw[eR] at q;exact absurd (Option.some.inj q) (ho us)
  ·rw[cc hb] at q;exact w.hG b us q⟩
structure CompI(K:PySem.W.Frag)(H1:Hp)(b:Addr)(acc:List D)(ys:List V)(As:List Addr)(Hs:Hp)(ρ:Env)(τ:St)(H:Hp):Prop where
 sm:ay H1 Hs
 sr:cK K Hs ρ τ H []
 eD:H b=some (.lst ys)
 nD:Hs b=none
 ra:az K Hs H true acc ys As
 nd:(b :: As).Nodup
 own:∀ a∈As,Hs a=none
theorem CompI.grow(c:CompI K H1 b acc ys As Hs ρ τ H)(g:dS Hs H ai H'):CompI K H1 b acc ys As ai ρ τ H' :=
 ⟨c.sm.trans g.sh,c.sr.grow g,g.all _ _ c.eD,g.lP c.nD (by rw[c.eD];exact fun z=>nomatch z),c.ra.grow g.sh g.all,c.nd,fun a ha=>g.lP (c.own a ha) (c.ra.own a ha).ne⟩
theorem CompI.push(c:CompI K H1 b acc ys As Hs ρ τ H)(r:RM K Hs H m d v Bs)(ok:NV m d)(nb:Bs.Nodup)(fb:∀ a∈Bs,Hs a=none/\a∉b :: As):∃ fA,CompI K H1 b (acc++[d]) (ys++[v]) fA Hs ρ τ (upd H b (.lst (ys++[v]))):=by
 obtain⟨B,sb,rb⟩:∃ B,B.Sublist Bs/\bE K Hs H true d v B:=by
  rcases ok with hf|rfl
  ·exact⟨[],B7 _,.sh (fun _=>hf) (r.flat c.sr.wf hf)⟩
  ·exact⟨Bs,List.Sublist.refl _,r.1⟩
 obtain⟨na,nA⟩:=kC.mp c.nd
 have Qo:=fun a ha=>fb a (sb.subset ha)
 refine⟨As++(B++[]),c.sm,⟨c.sr.sr.heap,ug c.sr.wf c.nD (fun _ z=>nomatch z),ng,fun a h=>nomatch h⟩,eR,c.nD,(c.ra.fh (H':=upd H b (.lst (ys++[v]))) (ay.refl _) fun a ha=>cc fun z=>na (by subst z;exact ha)).append (.cons (rb.fh (ay.refl _) fun a ha=>cc fun z=>(Qo a ha).2 (by subst z;exact df)) .nil),?_,?_⟩
 ·rw[mr]
  refine kC.mpr ⟨fun m=>(dz.mp m).elim na fun m=>(Qo b m).2 df,iA.mpr ⟨nA,sb.nodup nb,fun x hx y hy e=>(Qo y hy).2 (e ▸ de _ hx)⟩⟩
 ·rw[mr]
  exact fun a ha=>(dz.mp ha).elim (c.own a) fun m=>(Qo a m).1
theorem lJ(h:lS K (gm wi g tc te tn ix) σ H Qv):rN (XU K wi) (NR K g) (BG K tc) (lS K te) tn ix σ H Qv:=by
 obtain⟨Hs,ρ,ae,Q,sr,h,f⟩:=h
 rw[zL]
 refine⟨Hs,ρ,ae,_,sr,h,fun J H1 aE ds g1 S hz q1 b hb=>?_⟩
 have st:CompI K H1 b [] [] [] H1 (Di tn ix ρ) (pR tn ix σ) (upd H1 b (.lst [])):=by
  refine⟨ay.refl _,⟨rF (n8 (G:=H1) (sr.grow g1) _ ix) tn,⟨(ay.refl H1).upd hb,fun a xs e=>?_⟩,ng,fun a h=>nomatch h⟩,eR,hb,.nil,by simp,fun a h=>nomatch h⟩
  by_cases ha:a=b
  ·subst ha;rw[eR] at e;cases e
  ·rw[cc ha] at e;exact e
 refine⟨fun i m τ H2=>m=ds.length-i/\i<=ds.length/\∃ ax fN acc ys As,CompI K H1 b acc ys As ax fN τ H2/\acc.length<=i/\gG g tc te (ds.drop i) fN (fun out=>Q (.ow true) (.list (acc++out))),
  ⟨ds.length,by simp,eP _,H1,_,[],[],[],st,bS _,by simpa using q1⟩,?_⟩
 rintro i m τ H2 ⟨rfl,hi,ax,fN,acc,ys,As,c,la,q2⟩
 by_cases dr:i<ds.length
 ·refine .inr ⟨S.go i ax H2 c.sm c.sr.wf dr,
   fun JY v H4=>∃ IU rS d,CompI K H1 b acc ys As IU rS JY H4/\(∃ fA,CompI K H1 b (acc++[d]) (ys++[v]) fA IU rS JY (upd H4 b (.lst (ys++[v]))))/\gG g tc te (ds.drop (i+1)) rS (fun out=>Q (.ow true) (.list (acc++d :: out))),
   fun JY H3=>∃ dP JA,CompI K H1 b acc ys As dP JA JY H3/\gG g tc te (ds.drop (i+1)) JA (fun out=>Q (.ow true) (.list (acc++out))),?_,?_,?_⟩
  ·rintro JY v H4 ⟨IU,rS,d,c4,⟨fA,c5⟩,q4⟩
   have lya:=c4.ra.length
   exact⟨ys,ds.length-(i+1),c4.eD,by lia,by lia,rfl,dr,IU,rS,acc++[d],ys++[v],fA,c5,by rw[kz];simpa using la,by simpa using q4⟩
  ·rintro JY H3 ⟨dP,JA,c3,q3⟩
   exact⟨ds.length-(i+1),by lia,rfl,dr,dP,JA,acc,ys,As,c3,by lia,q3⟩
  ·intro x H3 y
   obtain⟨dP,g3,rd⟩:=S.kR i ax H2 x H3 ds[i] c.sm c.sr.wf (by simp[dr]) y
   rw[D7 dr] at q2
   have c3:=c.grow g3
   refine⟨dP,fN,[],ds[i],_,c3.sr,rd,q2,fun τ4 rS NT JJ m4 q4=>?_⟩
   have t4:NT=[]:=List.eq_nil_iff_forall_not_mem.mpr fun a ha=>nomatch m4 a ha
   subst t4
   have c4:CompI K H1 b acc ys As dP rS τ4 H3:=⟨c3.sm,JJ,c3.eD,c3.nD,c3.ra,c3.nd,c3.own⟩
   refine⟨dP,rS,[],_,JJ,q4,fun k H5 ku g5 q5=>?_⟩
   have c5:=c4.grow g5
   cases k with
   |false=>exact⟨ku,rS,c5,q5⟩
   |true =>
    refine⟨ku,rS,[],_,c5.sr,q5,fun v H6 Hs6 m6 d6 As6 g6 r6 f6 q6=>?_⟩
    have c6:=c5.grow g6
    refine⟨Hs6,rS,d6,c6,c6.push r6 q6.1 f6.1 fun a ha=>⟨(f6.2 a ha).1,fun m=>?_⟩,q6.2⟩
    rcases dA.mp m with rfl|m
    ·have:=(f6.2 _ ha).2
     rw[c5.eD] at this;cases this
    ·exact(c5.ra.own a m).ne (f6.2 a ha).2
 ·have e:i=ds.length:=by lia
  subst e
  refine .inl ⟨S.stop ax H2 c.sm c.sr.wf,?_⟩
  rw[OJ] at q2
  have q2:Q (.ow true) (.list (acc++[])):=q2
  rw[mr] at q2
  have lya:=c.ra.length
  have rm:RM K ax H2 (.ow true) (.list acc) (.ref b) (b :: As):=⟨.list (by lia) c.eD c.ra,by simp⟩
  obtain⟨fA,r',fr⟩:=sV g1.wf c.sm c.sr.wf rm c.nd fun a ha=>(dA.mp ha).elim (fun z=>z ▸ c.nD) (c.own a)
  exact Fin.after f g1 (.ref b) H2 _ (.ow true) (.list acc) fA (iB g1.wf c.sm c.sr.wf) r' fr q2
theorem tN.imp(h:tN X ifs t)(i:∀ σ H Q,t' σ H Q->t σ H Q):tN X ifs t':=fun pins s σ H Q I q=>h pins s σ H Q I (i σ H Q q)
abbrev NW(X:Cx)(K:PySem.W.Frag)(ifs:List Expr)(t:WT):Prop:=tN X ifs (BG K t)
theorem dR:NW X K [] uj:=tN.imp Cz fun σ H Qv hx=>kr hx fun Hs ρ ae Q sr h k=>k true H Hs (dS.refl sr.wf) h
theorem xK(h:QT X K c t):NW X K [c] t:=Eg h
theorem nU(hc:X.calm=true)(hi:NS X K tg iter wi)(O:bH X scope tn cn ix)
  (hg:∀ C fp cq cx,QG (cQ X scope C (tn++cn) fp cq cx) K tg g) (mB:∀ C fp cq cx,NW (cQ X scope C (tn++cn) fp cq cx) K ifs tc) (he:∀ C fp cq cx,QE (cQ X scope C (tn++cn) fp cq cx) K elt te)
  (hs:∀ x,foldedSetIterable iter X.env x=pure x:=by intro _;rfl):QE X K (.ListComp elt [⟨tg,iter,ifs,0⟩] scope pos) (gm wi g tc te tn.length ix) :=
 PE.imp (DR hc hi O hg mB he hs) fun σ H Qv h=>lJ h
end
theorem cY(p:D->Bool)(f:D->D)(Iv:Env->Prop):∀ (xs:List D) (ρ:Env) (k:List D->Prop),Iv ρ ->
  (∀ x∈xs,∀ ρ,Iv ρ->∀ N1:Env->Prop,∀ N2:Env->D->Prop,(∀ bq,Iv bq->p x=false->N1 bq)->(∀ bq,Iv bq->p x=true->N2 bq (f x))->g x ρ fun oj=>tc oj fun b=>if b=true then te oj fun m d=>NV m d/\N2 oj d else N1 oj) ->
  k ((xs.filter p).map f)->gG g tc te xs ρ k
 |[],_,k,_,_,h=>h
 |x :: xs,ρ,k,iv,hs,h=>by
  refine hs x df ρ iv _ _ (fun bq NX hp=>?_) (fun bq NX hp=>?_)
  ·exact cY p f Iv xs bq k NX (fun y hy=>hs y (de _ hy)) (by simpa[hp] using h)
  ·exact cY p f Iv xs bq _ NX (fun y hy=>hs y (de _ hy)) (by simpa[hp] using h)
def Upd(K:PySem.W.Frag)(Hs H:Hp)(σ:St)(fl:Bool)(v:V)(up:Bool->D->Env)(fA:List Addr):Prop:=∀ ax H2 fl2 d2 fP,ay Hs ax->Wf ax H2->(∀ a,Hs a=none->H a≠none->ax a=none)->(fl2=true->fl=true) ->
  bE K ax H2 fl2 d2 v fP->fP≠[]->fP.Nodup->(∀ a∈fP,ax a=none/\(a∈fA\/H a=none))->(∀ a,H a≠none->a∉fA->H2 a=H a)->∃ dv,cK K ax (up fl2 d2) σ H2 dv
structure Place(K:PySem.W.Frag)(Hs H:Hp)(σ:St)(fl:Bool)(d:D)(v:V)(up:Bool->D->Env):Prop where
 ex:∃ fA,bE K Hs H fl d v fA/\fA≠[]/\fA.Nodup/\(∀ a∈fA,Hs a=none)/\Upd K Hs H σ fl v up fA
theorem Upd.node{K:PySem.W.Frag}(k:Upd K Hs H σ fl (.ref a) up (a :: A))(g:dS Hs H ax H2)(own:∀ x∈a :: A,Hs x=none/\H x≠none)(ho:∀ vs,o≠.tup vs)(hf:fl2=true->fl=true)
  (r:bE K ax (upd H2 a o) fl2 d2 (.ref a) (a :: C)) (nC:C.Nodup) (Qp:a∉C) (hC:∀ x∈C,x∈A\/(ax x=none/\H x=none)):∃ dv,cK K ax (up fl2 d2) σ (upd H2 a o) dv:=by
 have hn:∀ x∈a :: A,ax x=none:=fun x hx=>g.lP (own x hx).1 (own x hx).2
 refine k ax _ fl2 d2 (a :: C) g.sh (ug g.wf (hn a df) ho) (fun b h1 h2=>g.lP h1 h2) hf r (OL _ _) (kC.mpr ⟨Qp,nC⟩) (fun b hb=>?_) fun b h1 h2=>?_
 ·rcases dA.mp hb with rfl|hb
  ·exact⟨hn _ df,.inl df⟩
  ·exact(hC b hb).elim (fun q=>⟨hn b (de _ q),.inl (de _ q)⟩) fun q=>⟨q.1,.inr q.2⟩
 ·rw[cc fun z=>h2 (by subst z;exact df)]
  cases q:H b with
  |none=>exact absurd q h1
  |some o=>exact g.all b o q
abbrev WP:=Env->(Bool->D->(Bool->D->Env)->Prop)->Prop
def tpP(K:PySem.W.Frag)(t:WP):TE:=fun σ H Qv=>∃ Hs ρ ae Q,cK K Hs ρ σ H ae/\t ρ Q/\∀ v H' ai fl d up,dS Hs H ai H'->Place K ai H' σ fl d v up->Q fl d up->Qv v H'
abbrev QP(X:Cx)(K:PySem.W.Frag)(e:Expr)(t:WP):Prop:=PE X e (tpP K t)
section
variable {K:PySem.W.Frag}{Hs H ai H':Hp}{σ:St}{fl:Bool}{d:D}{v:V}{up:Bool->D->Env}
theorem Place.grow(p:Place K Hs H σ fl d v up)(g:dS Hs H ai H'):Place K ai H' σ fl d v up:=by
 obtain⟨fA,r,ne,nd,own,k⟩:=p.ex
 refine⟨fA,r.grow g.sh g.all,ne,nd,fun a h=>g.lP (own a h) (r.own a h).ne,fun ax H2 fl2 d2 fP s2 w2 n2 hf r2 ne2 kB o2 st=>?_⟩
 refine k ax H2 fl2 d2 fP (g.sh.trans s2) w2 (fun a h1 h2=>n2 a (g.lP h1 h2) ?_) hf r2 ne2 kB (fun a h=>⟨(o2 a h).1,(o2 a h).2.imp id g.all.free⟩) fun a h1 h2=>?_
 ·cases e:H a with
  |none=>exact absurd e h2
  |some o=>rw[g.all a o e];exact fun z=>nomatch z
 ·cases e:H a with
  |none=>exact absurd e h1
  |some o =>
   have:=g.all a o e
   rw[<- this]
   exact st a (by rw[this];exact fun z=>nomatch z) h2
theorem bE.ne2:(∀ {d:D} {v:V} {As:List Addr},bE K Hs H true d v As->d.flat=false->As≠[])/\∀ {ds:List D} {vs:List V} {As:List Addr},az K Hs H true ds vs As->cy ds=false->As≠[] :=
 bE.ind (m1:=fun d _ As=>d.flat=false->As≠[]) (m2:=fun ds _ As=>cy ds=false->As≠[]) (fun _ _ f _ h=>by rw[f rfl] at h;cases h) (fun _ _ _ _ _ _ _ _ _=>OL _ _) (fun _ _ _ _ _ _ n _ ih _=>ih n) (fun _ _ _ _ _ _ _ _ _=>OL _ _) (fun _ _ _ _ _ _ _ _ _=>OL _ _)
  (fun h=>by simp[cy] at h) fun d _ _ _ _ _ _ _ i1 i2 h=>by
   cases e:d.flat with
   |false=>exact fun z=>i1 e (LN.mp z).1
   |true =>
    simp only[cy,e,Bool.true_and] at h
    exact fun z=>i2 h (LN.mp z).2
theorem bE.ne(r:bE K Hs H true d v As)(h:d.flat=false):As≠[]:=bE.ne2.1 r h
theorem bE.nil_of(r:bE K Hs H fl d v As)(h:d.flat=true):As=[]:=by
 cases r with
 |sh _ _=>rfl
 |tup _ _ n _=>simp[D.flat,n] at h
 |_=>simp[D.flat] at h
def om(i:Nat):WP:=fun ρ Q=>match ρ[i]? with
 |some (some (.ow fl d))=>Q fl d fun fl2 d2=>ρ.set i (some (.ow fl2 d2))
 |_=>False
theorem SR.put(i:Nat)(s:SR K Hs H ρ σ ae):ρ[i]? = some (some (.ow fl d))->ae.Nodup ->
  ∃ (v:V) (As bG:List Addr),σ[i]? = some (some v)/\As≠[]/\bE K Hs H fl d v As/\As.Sublist ae/\∀ ax H2 fl2 d2 fP,ay Hs ax->bE K ax H2 fl2 d2 v fP->fP≠[]->fP.Nodup->(∀ a∈fP,a∈ae->a∈As)->(∀ a∈ae,a∉As->H2 a=H a) ->
   ∃ dv,dv.Nodup/\(∀ a∈dv,a∈ae\/a∈fP)/\SR K ax H2 (ρ.set i (some (.ow fl2 d2))) σ dv:=by
 induction s generalizing i with
 |nil=>intro e;simp at e
 |@non ρ σ ae o q ih =>
  intro e n
  cases i with
  |zero=>simp at e
  |succ i =>
   obtain⟨v,As,t,a,b,c,d,g⟩:=ih i (by simpa using e) n
   refine⟨v,As,t,by simpa using a,b,c,d,fun ax H2 fl2 d2 fP s2 r2 ne2 kB dj st=>?_⟩
   obtain⟨t2,x,y,z⟩:=g ax H2 fl2 d2 fP s2 r2 ne2 kB dj st
   exact⟨t2,x,y,.non z⟩
 |sh r q ih =>
  intro e n
  cases i with
  |zero=>simp at e
  |succ i =>
   obtain⟨v,As,t,a,b,c,d,g⟩:=ih i (by simpa using e) n
   refine⟨v,As,t,by simpa using a,b,c,d,fun ax H2 fl2 d2 fP s2 r2 ne2 kB dj st=>?_⟩
   obtain⟨t2,x,y,z⟩:=g ax H2 fl2 d2 fP s2 r2 ne2 kB dj st
   exact⟨t2,x,y,.sh (r.same s2) z⟩
 |xc q ih =>
  intro e n
  cases i with
  |zero=>simp at e
  |succ i =>
   obtain⟨v,As,t,a,b,c,d,g⟩:=ih i (by simpa using e) n
   refine⟨v,As,t,by simpa using a,b,c,d,fun ax H2 fl2 d2 fP s2 r2 ne2 kB dj st=>?_⟩
   obtain⟨t2,x,y,z⟩:=g ax H2 fl2 d2 fP s2 r2 ne2 kB dj st
   exact⟨t2,x,y,.xc z⟩
 |@ow ρ σ t2 B fl0 d0 v ne r q ih =>
  intro e n
  obtain⟨n1,n2,n3⟩:=iA.mp n
  cases i with
  |zero =>
   simp at e
   obtain⟨rfl,rfl⟩:=e
   refine⟨v,B,t2,rfl,ne,r,LM _ _,fun ax H2 fl2 d2 fP s2 r2 ne2 kB dj st=>⟨fP++t2,iA.mpr ⟨kB,n2,fun a ha b hb e=>?_⟩,fun a h=>?_,.ow ne2 r2 (q.fh s2 fun a h=>st a (fw _ h) fun z=>n3 a z a h rfl)⟩⟩
   ·subst e
    exact n3 a (dj a ha (fw _ hb)) a hb rfl
   ·exact(dz.mp h).symm.imp (fun z=>fw _ z) id
  |succ i =>
   obtain⟨v,As,t,a,b,c,d,g⟩:=ih i (by simpa using e) n2
   have hB:∀ x∈B,x∉As:=fun x hx m=>n3 x hx x (d.subset m) rfl
   refine⟨v,As,B++t,by simpa using a,b,c,d.trans (sv _ _),fun ax H2 fl2 d2 fP s2 r2 ne2 kB dj st=>?_⟩
   obtain⟨t2,x,y,z⟩:=g ax H2 fl2 d2 fP s2 r2 ne2 kB (fun a ha m=>dj a ha (fw _ m)) fun a ha m=>st a (fw _ ha) m
   refine⟨B++t2,iA.mpr ⟨n1,x,fun a ha b hb e=>?_⟩,fun a h=>?_,.ow ne (r.fh s2 fun a h=>st a (iS _ h) (hB a h)) z⟩
   ·subst e
    rcases y a hb with w|w
    ·exact n3 a ha a w rfl
    ·exact hB a ha (dj a w (iS _ ha))
   ·rcases dz.mp h with w|w
    ·exact .inl (iS _ w)
    ·exact(y a w).imp (fun w=>fw _ w) id
 |@lk ρ σ t2 B a0 fl0 d0 ne r q ih =>
  intro e n
  obtain⟨n1,n2,n3⟩:=iA.mp n
  cases i with
  |zero=>simp at e
  |succ i =>
   obtain⟨v,As,t,a,b,c,d,g⟩:=ih i (by simpa using e) n2
   have hB:∀ x∈B,x∉As:=fun x hx m=>n3 x hx x (d.subset m) rfl
   refine⟨v,As,B++t,by simpa using a,b,c,d.trans (sv _ _),fun ax H2 fl2 d2 fP s2 r2 ne2 kB dj st=>?_⟩
   obtain⟨t2,x,y,z⟩:=g ax H2 fl2 d2 fP s2 r2 ne2 kB (fun a ha m=>dj a ha (fw _ m)) fun a ha m=>st a (fw _ ha) m
   refine⟨B++t2,iA.mpr ⟨n1,x,fun a ha b hb e=>?_⟩,fun a h=>?_,.lk ne (r.fh s2 fun a h=>st a (iS _ h) (hB a h)) z⟩
   ·subst e
    rcases y a hb with w|w
    ·exact n3 a ha a w rfl
    ·exact hB a ha (dj a w (iS _ ha))
   ·rcases dz.mp h with w|w
    ·exact .inl (iS _ w)
    ·exact(y a w).imp (fun w=>fw _ w) id
theorem bW{X:Cx}(h:PE X e (CF i)):QP X K e (om i):=PE.imp h fun σ H Qv hx=>kr hx fun Hs ρ ae Q sr h f=>by
 unfold om at h
 split at h
 ·rename_i fl d e1
  obtain⟨v,As,t,e2,ne,r,sb,g⟩:=SR.put i sr.sr e1 sr.sF
  refine⟨v,e2,f v H Hs fl d _ (dS.refl sr.wf) ⟨As,r,ne,sb.nodup sr.sF,fun a h=>sr.own a (sb.subset h),fun ax H2 fl2 d2 fP s2 w2 n2 _ r2 ne2 kB o2 st=>?_⟩ h⟩
  obtain⟨t2,x,y,z⟩:=g ax H2 fl2 d2 fP s2 r2 ne2 kB (fun a ha m=>(o2 a ha).2.elim id fun q=>absurd q (sr.sr.own a m).ne) fun a ha m=>st a (sr.sr.own a ha).ne m
  exact⟨t2,z,w2,x,fun a h=>(y a h).elim (fun q=>n2 a (sr.own a q) (sr.sr.own a q).ne) fun q=>(o2 a q).1⟩
 ·exact h.elim
theorem bE.wk(h:fl2=true->fl=true)(r:bE K Hs H fl d v As):bE K Hs H fl2 d v As:=by
 cases fl2 with
 |false=>exact r.Qf
 |true=>rw[h rfl] at r;exact r
theorem az.wk{fl fl2:Bool}{d:List D}{v:List V}{As:List Addr}(h:fl2=true->fl=true)(r:az K Hs H fl d v As):az K Hs H fl2 d v As:=by
 cases fl2 with
 |false=>exact r.Qf
 |true=>rw[h rfl] at r;exact r
theorem az.at(r:az K Hs H fl ds vs As)(e:ds[j]? = some d)(n:As.Nodup) :
  ∃ (v:V) (B:List Addr),vs[j]? = some v/\bE K Hs H fl d v B/\B.Sublist As/\∀ ax H2 fl2 d2 B2,ay Hs ax->(fl2=true->fl=true)->bE K ax H2 fl2 d2 v B2->B2.Nodup->(∀ a∈B2,a∈As->a∈B)->(∀ a∈As,a∉B->H2 a=H a) ->
   ∃ fP,fP.Nodup/\(∀ a∈fP,(a∈As/\a∉B)\/a∈B2)/\(B2≠[]->fP≠[])/\az K ax H2 fl2 (ds.set j d2) vs fP:=by
 induction ds generalizing vs As j with
 |nil=>simp at e
 |cons x ds ih =>
  obtain⟨v,us,A,B,rfl,rfl,r,rs⟩:=r.c
  obtain⟨n1,n2,n3⟩:=iA.mp n
  cases j with
  |zero =>
   simp at e
   subst e
   refine⟨v,A,rfl,r,LM _ _,fun ax H2 fl2 d2 B2 s2 hf r2 kB dj st=>⟨B2++B,iA.mpr ⟨kB,n2,fun a ha b hb e=>?_⟩,fun a h=>?_,fun ne z=>ne (LN.mp z).1,.cons r2 ((rs.wk hf).fh s2 fun a h=>st a (fw _ h) fun z=>n3 a z a h rfl)⟩⟩
   ·subst e
    exact n3 a (dj a ha (fw _ hb)) a hb rfl
   ·rcases dz.mp h with w|w
    ·exact .inr w
    ·exact .inl ⟨fw _ w,fun z=>n3 a z a w rfl⟩
  |succ j =>
   obtain⟨v,C,a,b,c,g⟩:=ih (j:=j) rs (by simpa using e) n2
   have hA:∀ x∈A,x∉C:=fun x hx m=>n3 x hx x (c.subset m) rfl
   refine⟨v,C,by simpa using a,b,c.trans (sv _ _),fun ax H2 fl2 d2 B2 s2 hf r2 kB dj st=>?_⟩
   obtain⟨fP,x,y,w,z⟩:=g ax H2 fl2 d2 B2 s2 hf r2 kB (fun a ha m=>dj a ha (fw _ m)) fun a ha m=>st a (fw _ ha) m
   refine⟨A++fP,iA.mpr ⟨n1,x,fun a ha b hb e=>?_⟩,fun a h=>?_,fun ne q=>w ne (LN.mp q).2,.cons ((r.wk hf).fh s2 fun a h=>st a (iS _ h) (hA a h)) z⟩
   ·subst e
    rcases y a hb with q|q
    ·exact n3 a ha a q.1 rfl
    ·exact hA a ha (dj a q (iS _ ha))
   ·rcases dz.mp h with q|q
    ·exact .inl ⟨iS _ q,hA a q⟩
    ·exact(y a q).imp (fun q=>⟨fw _ q.1,q.2⟩) id
def Qq(p:WP)(t:WE):WP:=fun ρ Q=>p ρ fun fl d up=>t ρ fun _ y=>fl=true/\match y with
 |.int i=>match d with
  |.list ds=>∃ j d',rh ds.length i=some j/\ds[j]? = some d'/\d'.flat=false/\Q true d' fun fl2 d2=>up fl2 (.list (ds.set j d2))
  |.tup ds=>∃ j d',rh ds.length i=some j/\ds[j]? = some d'/\d'.flat=false/\Q true d' fun fl2 d2=>up fl2 (.tup (ds.set j d2))
  |_=>False
 |_=>False
theorem wJ{α:Type}{xs:List α}{i:Int}{j:Nat}{x:α}(h:rh xs.length i=some j)(e:xs[j]? = some x):fR xs i=some x:=by unfold L2.fR;rw[h];exact e
theorem zU{ds:List D}{j:Nat}{d:D}(e:ds[j]? = some d)(h:d.flat=false):cy ds=false:=by
 cases q:cy ds with
 |false=>rfl
 |true=>rw[fY.mp q d (pd e)] at h;cases h
theorem wU{ds:List D}{j:Nat}{d d2:D}(e:ds[j]? = some d)(h:d2.flat=false):cy (ds.set j d2)=false:=by
 have hj:j<ds.length:=(lh.mp e).1
 exact zU (j:=j) (d:=d2) (by simp[hj]) h
theorem HQ{X:Cx}{a b:Expr}{p:WP}{t:WE}{pos:Pos}(hu:X.A.units+64<cLine)(ha:QP X K a p)(hb:QE X K b t)(hs:Sj b:=by exact fun _ _=>rfl)(hK:X.K=K:=by rfl):QP X K (.Subscript a b pos) (Qq p t):=by
 refine PE.imp (Wr (XM hu hK) ha hb hs) fun σ H Qv hx=>kr hx fun Hs ρ ae Q sr h f=>?_
 refine⟨Hs,ρ,ae,_,sr,h,fun v H1 aE fl d up g1 p1 q1=>⟨aE,ρ,ae,_,sr.grow g1,q1,fun u H2 ax m y As g2 r2 f2 q2=>?_⟩⟩
 have p2:=p1.grow g2
 have gg:=g1.trans g2
 obtain⟨rfl,q2⟩:=q2
 have ry:=r2.rep g2.wf
 cases ry with
 |int i =>
  obtain⟨fA,r,ne,nd,own,k⟩:=p2.ex
  cases r with
  |sh hf _=>exact absurd rfl ne
  |@list a0 vs0 ds0 A0 hz e rs =>
   obtain⟨j,d',e1,e2,hd,q⟩:=q2
   obtain⟨na,nb⟩:=kC.mp nd
   obtain⟨w,B,e3,r3,sb,g⟩:=rs.at e2 nb
   refine .inl (.inl ⟨_,w,.inl (.inl e),wJ (by rw[<- rs.length];exact e1) e3,f w H2 ax true d' _ gg ⟨B,r3,r3.ne hd,sb.nodup nb,fun a h=>own a (de _ (sb.subset h)),fun dP H3 NZ d3 IQ s3 w3 n3 hf r4 ne3 TK o3 st=>?_⟩ q⟩)
   have ag:∀ x∈A0,x∉B->H3 x=H2 x:=fun x hx m=>st x (rs.own x hx).ne m
   obtain⟨IX,x4,y4,z4,r5⟩:=g dP H3 NZ d3 IQ s3 hf r4 TK (fun a ha m=>(o3 a ha).2.elim id fun q=>absurd q (rs.own a m).ne) ag
   have eA:H3 a0=H2 a0:=st a0 (by rw[e];exact fun z=>nomatch z) fun m=>na (sb.subset m)
   have cl:∀ a∈IX,dP a=none/\(a∈a0 :: A0\/H2 a=none):=fun a h=>by
    rcases y4 a h with⟨m,_⟩|m
    ·exact⟨n3 a (own a (de _ m)) (rs.own a m).ne,.inl (de _ m)⟩
    ·exact⟨(o3 a m).1,(o3 a m).2.imp (fun q=>de _ (sb.subset q)) id⟩
   refine k dP H3 NZ (.list _) (_ :: IX) s3 w3 n3 hf (.list hz (eA.trans e) r5) (by simp) (kC.mpr ⟨fun m=>?_,x4⟩) (fun a h=>?_) fun a h1 h2=>st a h1 fun m=>h2 (de _ (sb.subset m))
   ·rcases y4 _ m with⟨q,_⟩|q
    ·exact na q
    ·rcases (o3 _ q).2 with q|q
     ·exact na (sb.subset q)
     ·rw[e] at q;cases q
   ·rcases dA.mp h with rfl|h
    ·exact⟨n3 _ (own _ df) (by rw[e];exact fun z=>nomatch z),.inl df⟩
    ·exact cl a h
  |tup hz e hn rs =>
   obtain⟨j,d',e1,e2,hd,q⟩:=q2
   obtain⟨w,B,e3,r3,sb,g⟩:=rs.at e2 nd
   refine .inl (.inr ⟨_,w,.inl (.inl (g2.wf.sub _ _ e)),wJ (by rw[<- rs.length];exact e1) e3,f w H2 ax true d' _ gg ⟨B,r3,r3.ne hd,sb.nodup nd,fun a h=>own a (sb.subset h),fun dP H3 NZ d3 IQ s3 w3 n3 hf r4 ne3 TK o3 st=>?_⟩ q⟩)
   obtain⟨IX,x4,y4,z4,r5⟩:=g dP H3 NZ d3 IQ s3 hf r4 TK (fun a ha m=>(o3 a ha).2.elim id fun q=>absurd q (rs.own a m).ne) (fun x hx m=>st x (rs.own x hx).ne m)
   have HZ:cy (List.set _ j d3)=false:=wU e2 (by
    cases hh:d3.flat with
    |false=>rfl
    |true=>exact absurd (r4.nil_of hh) ne3)
   refine k dP H3 NZ (.tup _) IX s3 w3 n3 hf (.tup hz (s3 _ _ e) HZ r5) (z4 ne3) x4 (fun a h=>?_) fun a h1 h2=>st a h1 fun m=>h2 (sb.subset m)
   rcases y4 a h with⟨m,_⟩|m
   ·exact⟨n3 a (own a m) (rs.own a m).ne,.inl m⟩
   ·exact⟨(o3 a m).1,(o3 a m).2.imp (fun q=>sb.subset q) id⟩
  |_=>exact q2.elim
 |_=>exact q2.elim
end
section
variable {X:Cx}{K:PySem.W.Frag}{e:Expr}{p:WP}{te:WE}{apos dy pos:Pos}
def nR(fl:Bool)(m:Md)(d:D):Option Bool:=match m with
 |.sh=>some (fl && d.flat)
 |.ow b=>some (fl && b)
 |.bo=>bif d.flat then some fl else none
def DM(p:WP)(te:WE):WS:=fun E ρ=>p ρ fun fl d up=>match d with
 |.list xs=>te ρ fun m x=>xs.length<sizeLine/\match nR fl m x with
  |some fl2=>E.nx (up fl2 (.list (xs++[x])))
  |none=>False
 |_=>False
theorem Aw(w:Wf Hs H)(r:RM K Hs H m d v As)(h:nR fl m d=some fl2):(fl2=true->fl=true)/\∃ B,B.Sublist As/\bE K Hs H fl2 d v B:=by
 cases m with
 |sh =>
  cases h
  exact⟨fun z=>by cases fl<;>simp_all,[],B7 _,.sh (fun z=>by cases fl<;>simp_all) r.2⟩
 |ow b =>
  cases h
  refine⟨fun z=>by cases fl<;>simp_all,As,List.Sublist.refl _,r.1.wk fun z=>by cases fl<;>simp_all⟩
 |bo =>
  cases hf:d.flat with
  |true =>
   simp only[nR,hf,cond_true,Option.some.injEq] at h
   subst h
   exact⟨id,[],B7 _,.sh (fun _=>hf) (r.flat w hf)⟩
  |false=>simp[nR,hf] at h
theorem Place.put(pl:Place K aE H1 σ fl (.list xs) v up)(g:dS aE H1 ax H2) :
  ∃ a vs A,v=.ref a/\H2 a=some (.lst vs)/\H1 a=some (.lst vs)/\az K ax H2 fl xs vs A/\(a :: A).Nodup/\(∀ x∈a :: A,ax x=none/\H1 x≠none) /\
   ∀ fl2 ys ws C,(fl2=true->fl=true)->az K ax H2 fl2 ys ws C->ws.length<=sizeLine->C.Nodup->a∉C->(∀ x∈C,x∈A\/(ax x=none/\H1 x=none))->∃ dv,cK K ax (up fl2 (.list ys)) σ (upd H2 a (.lst ws)) dv:=by
 obtain⟨fA,r,ne,nd,own,k⟩:=pl.ex
 cases r with
 |sh hf _=>exact absurd rfl ne
 |@list a vs _ A hz e rs =>
  have e2:=g.all _ _ e
  have Qr:=rs.grow g.sh g.all
  have hw:∀ x∈a :: A,aE x=none/\H1 x≠none:=fun x hx=>⟨own x hx,by
   rcases dA.mp hx with rfl|hx
   ·rw[e];exact fun z=>nomatch z
   ·exact(rs.own x hx).ne⟩
  exact⟨a,vs,A,rfl,e2,e,Qr,nd,fun x hx=>⟨g.lP (hw x hx).1 (hw x hx).2,(hw x hx).2⟩,fun fl2 ys ws C hf kK hz ndC Qp hC=>k.node g hw (fun _ z=>by cases z) hf (.list hz eR (kK.fh (ay.refl _) fun b hb=>cc fun z=>Qp (by subst z;exact hb))) ndC Qp hC⟩
theorem Place.TL(w:Wf aE H1)(pl:Place K aE H1 σ fl (.list xs) v up):∃ a vs,v=.ref a/\eM K H1 a vs:=by
 obtain⟨fA,r,ne,nd,own,k⟩:=pl.ex
 cases r with
 |sh hf _=>exact absurd rfl ne
 |list hz e rs=>exact⟨_,_,rfl,.inl (.inl e)⟩
theorem qD (ho:QP X K e p) (he:QE X K e2 te) (hK:X.K=K:=by rfl) (hs:swapsWith (.Call (.Attribute e "append" apos) [e2] [] dy) none pos.line X.env=pure false:=by rfl)
  (tF:attributeBase e "append" X.env (eval e X.env)=eval e X.env:=by rfl)
  (xh:((backTo dy (starEach [e2] X.env)).all (fun x=>!x.1) && (backToKw dy (keywordEach [] X.env)).all (fun x=>x.1.isSome)
   && decide ([e2].length+([]:List Keyword).length+(if ([]:List Keyword).isEmpty then 0 else 1)<30))=true:=by rfl)
  (hline:(apos.endLine == dy.line)=true:=by rfl) (xD:starEach (e2 :: []) X.env=(false,eval e2 X.env) :: starEach [] X.env:=by rfl) (A5:(backTo dy (starEach [] X.env)).any (·.1)=false:=by rfl) :
  QS X K L (.Expr (.Call (.Attribute e "append" apos) [e2] [] dy) pos) (DM p te):=by
 subst hK
 refine PS.imp (MY (PD PySem.F.plainAttrs_list PySem.F.slot_list_append PySem.F.type_list_append Sq ho (pz he tq xD) tF xh hline xD A5) hs) fun D σ H hx=>dD hx fun Hs ρ ae E sr h k1 k2 k3 k4=>?_
 refine⟨Hs,ρ,ae,_,sr,h,fun v H1 aE fl d up g1 p1 q1=>?_⟩
 cases d with
 |list xs =>
  obtain⟨a1,XW,e1,s1⟩:=p1.TL g1.wf
  subst e1
  refine⟨.inl ⟨rfl,_,s1⟩,aE,ρ,ae,_,sr.grow g1,q1,fun y H2 ax m x As g2 r2 f2 q2=>?_⟩
  obtain⟨hz,q2⟩:=q2
  obtain⟨a,vs,A,ea,e2,_,rs,nd,hn,k⟩:=p1.put g2
  cases ea
  have hl:=rs.length
  refine⟨a1,vs,y,rfl,rfl,e2,by lia,?_⟩
  cases hp:nR fl m x with
  |none=>rw[hp] at q2;exact q2.elim
  |some fl2 =>
   rw[hp] at q2
   obtain⟨hf,B,sb,rb⟩:=Aw g2.wf r2 hp
   obtain⟨na,nA⟩:=kC.mp nd
   have fB:∀ x∈B,ax x=none/\H1 x=none:=fun x hx=>f2.2 x (sb.subset hx)
   have c1:(A++(B++[])).Nodup:=by
    rw[mr]
    exact iA.mpr ⟨nA,sb.nodup f2.1,fun x hx z hz e=>by subst e;exact(hn x (de _ hx)).2 (fB x hz).2⟩
   have c2:a1∉A++(B++[]):=by
    rw[mr]
    intro m
    rcases dz.mp m with m|m
    ·exact na m
    ·exact(hn _ df).2 (fB _ m).2
   have c3:∀ x∈A++(B++[]),x∈A\/(ax x=none/\H1 x=none):=by
    rw[mr]
    intro x hx
    exact(dz.mp hx).imp id fun z=>fB x z
   obtain⟨dv,gu⟩:=k fl2 (xs++[x]) (vs++[y]) (A++(B++[])) hf ((rs.wk hf).append (.cons rb .nil)) (by rw[kz];simp;lia) c1 c2 c3
   exact k1 σ _ ax _ dv (g1.sh.trans g2.sh) gu q2
 |_=>exact q1.elim
def lH:WE:=fun _ Q=>Q (.ow true) (.dT [])
theorem lW:QE X K (.Dict [] [] pos) lH:=PE.imp ce' fun σ H Qv hx=>kr hx fun Hs ρ ae Q sr h f=>fun a ha =>
 f _ _ Hs (.ow true) (.dT []) [a] (NF sr.wf ha fun _ z=>nomatch z) ⟨.dT (vs:=[]) ⟨eP _,fun p hp=>nomatch hp⟩ eR .nil,by simp⟩ ⟨by simp,fun b hb=>by
  obtain rfl:b=a:=by simpa using hb
  exact⟨sr.wf.sub.free ha,ha⟩⟩ h
section
variable {κ:Type}[DecidableEq κ]
theorem xO{Hs H:Hp}{fl:Bool}{k:κ}{d:D}{v:V}(r:bE K Hs H fl d v []){kvs:List (κ × D)}{vs:List V}{As:List Addr}(qs:az K Hs H fl (kvs.map (·.2)) vs As):∃ ws Bs,Bs.Sublist As /\
  az K Hs H fl ((kvs.map fun kv=>if kv.1=k then (kv.1,d) else kv).map (·.2)) ws Bs/\((kvs.map (·.1)).zip vs).map (fun kv=>if kv.1=k then (kv.1,v) else kv)=(((kvs.map fun kv=>if kv.1=k then (kv.1,d) else kv)).map (·.1)).zip ws:=by
 induction kvs generalizing vs As with
 |nil=>exact⟨[],[],B7 _,.nil,rfl⟩
 |cons p kvs ih =>
  obtain⟨u,vs,A,B,rfl,rfl,q,qs⟩:=az.c (d:=p.2) qs
  obtain⟨ws,Bs,sb,rs,e⟩:=ih qs
  by_cases h:p.1=k
  ·refine⟨v :: ws,[]++Bs,by simpa using sb.trans (sv _ _),?_,?_⟩
   ·simp only[fT,h,if_true]
    exact .cons r rs
   ·simp only[fT,GB,h,if_true,e]
  ·refine⟨u :: ws,A++Bs,sb.append_left _,?_,?_⟩
   ·simp only[fT,h,if_false]
    exact .cons q rs
   ·simp only[fT,GB,h,if_false,e]
theorem uM{Hs H:Hp}{fl:Bool}{k:κ}{d:D}{v:V}(r:bE K Hs H fl d v []){kvs:List (κ × D)}{vs:List V}{As:List Addr}(q:az K Hs H fl (kvs.map (·.2)) vs As) :
  ∃ ws Bs,Bs.Sublist As/\az K Hs H fl ((gS kvs k d).map (·.2)) ws Bs/\putK ((kvs.map (·.1)).zip vs) k v=((gS kvs k d).map (·.1)).zip ws:=by
 have hl:=q.length
 rw[bT] at hl
 unfold putK gS
 rw[DK hl]
 cases h:kvs.any fun kv=>decide (kv.1=k) with
 |true =>
  simp only[if_true]
  exact xO r q
 |false =>
  simp only[gL,if_false]
  refine⟨vs++[v],As++([]++[]),by simp,?_,?_⟩
  ·rw[ll]
   exact q.append (.cons r .nil)
  ·rw[ll,List.zip_append (by rw[bT];exact hl)]
   rfl
theorem yL{Hs H:Hp}{fl:Bool}{k:κ}{d:D}{v:V}(r:Rep K Hs d v)(hd:d.flat=true){kvs:List (κ × D)}{vs:List V}{As:List Addr}(q:az K Hs H fl (kvs.map (·.2)) vs As) :
  ∃ ws Bs,Bs.Sublist As/\az K Hs H fl ((gS kvs k d).map (·.2)) ws Bs/\putK ((kvs.map (·.1)).zip vs) k v=((gS kvs k d).map (·.1)).zip ws:=uM (.sh (fun _=>hd) r) q
theorem gD{β:Type}(kvs:List (κ × β))(k:κ)(v:β):(gS kvs k v).length<=kvs.length+1:=by
 unfold gS
 split
 ·rw[bT];exact Rx _ _
 ·simp
theorem jN{β:Type}{kvs:List (κ × β)}{k:κ}{v:β}{p:κ × β}(h:p∈gS kvs k v):p.1=k\/p.1∈kvs.map (·.1):=by
 unfold gS at h
 split at h
 ·obtain⟨q,hq,e⟩:=dk.mp h
  by_cases hk:q.1=k
  ·rw[if_pos hk] at e;subst e;exact .inl hk
  ·rw[if_neg hk] at e;subst e;exact .inr (dk.mpr ⟨q,hq,rfl⟩)
 ·rcases dz.mp h with h|h
  ·exact .inr (dk.mpr ⟨p,h,rfl⟩)
  ·have:p=(k,v):=by simpa using h
   subst this;exact .inl rfl
end
def qO(p:WP)(tk tv:WE):WS:=fun E ρ=>tv ρ fun _ x=>p ρ fun fl d up=>tk ρ fun _ y=>x.flat=true/\match d with
 |.dK kvs=>∃ k,y.key1=some k/\kvs.length<sizeLine/\E.nx (up fl (.dK (gS kvs k x)))
 |.dT kvs=>match y with
  |.tup ys=>∃ ks,eX ys=some ks/\kvs.length<sizeLine/\E.nx (up fl (.dT (gS kvs ks x)))
  |_=>False
 |_=>False
theorem pD(r:Rep K H d v)(h:d.key1=some k):xo k=true:=by
 cases r<;>simp[D.key1] at h<;>subst h
 ·rfl
 ·rename_i hz;simp[xo,hz]
theorem uI(r:bp K H ds vs)(h:eX ds=some ks):ks.length=ds.length/\∀ k∈ks,xo k=true:=by
 induction ds generalizing vs ks with
 |nil=>simp[eX] at h;subst h;exact⟨rfl,fun k hk=>nomatch hk⟩
 |cons d ds ih =>
  obtain⟨u,us,rfl,r,rs⟩:=r.c
  unfold eX at h
  cases e1:d.key1 with
  |none=>rw[e1] at h;simp at h
  |some k =>
   cases e2:eX ds with
   |none=>rw[e1,e2] at h;simp at h
   |some iN =>
    rw[e1,e2] at h
    simp at h
    subst h
    obtain⟨a,b⟩:=ih rs e2
    refine⟨by simp[a],fun j hj=>?_⟩
    rcases dA.mp hj with rfl|hj
    ·exact pD r e1
    ·exact b j hj
theorem lK{a b c:Expr}{tk tv:WE}{pos':Pos}(hu:X.A.units+64<cLine)(ho:QP X K a p)(hi:QE X K b tk)(hv:QE X K c tv)(hs:swapsWith c (some (.Subscript a b pos')) pos.line X.env=pure false:=by rfl) :
  QS X K L (.Assign [.Subscript a b pos'] c pos) (qO p tk tv):=by
 refine PS.imp (WM (by lia) ho hi hv hs) fun D σ H hx=>dD hx fun Hs ρ ae E sr h k1 k2 k3 k4=>?_
 refine⟨Hs,ρ,ae,_,sr,h,fun v H1 aE m1 x As1 g1 r1 f1 q1=>⟨aE,ρ,ae,_,sr.grow g1,q1,fun u H2 ax fl d up g2 p2 q2=>⟨ax,ρ,ae,_,(sr.grow g1).grow g2,q2,fun y H3 dP m3 yd IQ g3 r3 f3 q3=>?_⟩⟩⟩
 obtain⟨hx,q3⟩:=q3
 have rx:Rep K dP x v:=((r1.grow g2).grow g3).flat g3.wf hx
 have ry:=r3.rep g3.wf
 obtain⟨fA,r,ne,nd,own,k⟩:=p2.ex
 have sm:ay Hs dP:=(g1.sh.trans g2.sh).trans g3.sh
 have lv:∀ x∈fA,ax x=none/\H2 x≠none:=fun x hx=>⟨own x hx,(r.own x hx).ne⟩
 cases r with
 |sh hf _=>exact absurd rfl ne
 |@dK a0 vs kvs A kk e rs =>
  obtain⟨key,hk,hz,q⟩:=q3
  have ey:=ry.key hk
  subst ey
  obtain⟨na,nA⟩:=kC.mp nd
  obtain⟨ws,Bs,sb,kK,ew⟩:=yL (k:=key) rx hx (rs.grow g3.sh g3.all)
  have hl:kvs.length=vs.length:=by have:=rs.length;rwa[bT] at this
  refine⟨a0,_,rfl,A6.k (g3.all _ _ e) (by rw[GN,bT,<- hl,GV];exact hz),?_⟩
  rw[ew]
  have nB:a0∉Bs:=fun z=>na (sb.subset z)
  obtain⟨dv,gu⟩:=k.node (fl2:=fl) (d2:=.dK (gS kvs key x)) g3 lv (fun _ z=>by cases z) id (.dK ⟨jI (gD _ _ _) hz,fun p hp=>(jN hp).elim (fun z=>by rw[z];exact pD ry hk) fun z=>by obtain⟨p',fo,e'⟩:=dk.mp z;rw[<- e'];exact kk.2 p' fo⟩ eR (kK.fh (ay.refl _) fun b hb=>cc fun z=>nB (by subst z;exact hb)))
   (sb.nodup nA) nB fun b hb=>.inl (sb.subset hb)
  exact k1 σ _ dP _ dv sm gu q
 |@dT a0 vs kvs A kk e rs =>
  cases ry with
  |tup t1 e1 Jn =>
   obtain⟨key,hk,hz,q⟩:=q3
   obtain⟨b,eb,e5⟩:=Rep.lT (.tup t1 e1 Jn) hk
   cases eb
   obtain⟨kl,ko⟩:=uI Jn hk
   obtain⟨na,nA⟩:=kC.mp nd
   obtain⟨ws,Bs,sb,kK,ew⟩:=yL (k:=key) rx hx (rs.grow g3.sh g3.all)
   have hl:kvs.length=vs.length:=by have:=rs.length;rwa[bT] at this
   refine⟨a0,_,rfl,A6.t (g3.all _ _ e) e5 (by rw[GN,bT,<- hl,GV];exact hz),?_⟩
   rw[ew]
   have nB:a0∉Bs:=fun z=>na (sb.subset z)
   have l1:=Jn.length
   obtain⟨dv,gu⟩:=k.node (fl2:=fl) (d2:=.dT (gS kvs key x)) g3 lv (fun _ z=>by cases z) id (.dT ⟨jI (gD _ _ _) hz,fun p hp=>(jN hp).elim (fun z=>by rw[z];exact⟨by lia,ko⟩) fun z=>by obtain⟨p',fo,e'⟩:=dk.mp z;rw[<- e'];exact kk.2 p' fo⟩ eR (kK.fh (ay.refl _) fun b hb=>cc fun z=>nB (by subst z;exact hb)))
    (sb.nodup nA) nB fun b hb=>.inl (sb.subset hb)
   exact k1 σ _ dP _ dv sm gu q
  |_=>exact q3.elim
 |_=>exact q3.elim
end
abbrev WJ:=Env->Str->(Str->Prop)->Prop
section
variable {X:Cx}{K:PySem.W.Frag}{e:Expr}{j:WJ}
def Jy:List D->Option (List Str)
 |[]=>some []
 |.str x :: xs=>(Jy xs).map (x :: ·)
 |_ :: _=>none
def lT(k:List Key):D:=.tup (k.map mI)
def nY:W1:=fun _ x Q=>match x with
 |.list xs=>∃ ks sh,xs=ks.map lT/\(∀ k∈ks,iq k=true :: sh)/\∀ ms:List (List Key),ms.Perm ks->(ms.Pairwise fun a b=>gi b a=false)->Q (.ow true) (.list (ms.map lT))
 |_=>False
theorem xR{H:Hp}{ks:List Key}{vs:List V}(r:bp K H (ks.map mI) vs):vs=ks.map kV/\∀ k∈ks,xo k=true:=by
 induction ks generalizing vs with
 |nil=>exact⟨r.n0,fun k h=>nomatch h⟩
 |cons k ks ih =>
  obtain⟨u,us,rfl,r1,rs⟩:=bp.c (d:=mI k) r
  obtain⟨e,o⟩:=ih rs
  subst e
  cases k with
  |inl i=>cases r1;exact⟨rfl,fun j hj=>by rcases dA.mp hj with rfl|hj;rfl;exact o j hj⟩
  |inr x =>
   cases r1 with
   |str hz=>exact⟨rfl,fun j hj=>by rcases dA.mp hj with rfl|hj;simp[xo,hz];exact o j hj⟩
theorem yo{H:Hp}{ks:List (List Key)}{vs:List V}(r:bp K H (ks.map lT) vs):b7 H vs ks/\∀ k∈ks,k.length<=sizeLine/\∀ j∈k,xo j=true:=by
 induction ks generalizing vs with
 |nil=>rw[r.n0];exact⟨.nil,fun k h=>nomatch h⟩
 |cons k ks ih =>
  obtain⟨u,us,rfl,r1,rs⟩:=bp.c (d:=lT k) r
  obtain⟨t,o⟩:=ih rs
  cases r1 with
  |tup hz e q =>
   obtain⟨e2,o2⟩:=xR q
   subst e2
   exact⟨.cons ⟨_,rfl,e⟩ t,fun j hj=>by
    rcases dA.mp hj with rfl|hj
    ·exact⟨by simpa using hz,o2⟩
    ·exact o j hj⟩
theorem uW:DJ K (uD K) nY:=by
 intro Hs H m x v As Qd Qv w rx h f
 have r1:=rx.rep w
 cases r1 with
 |list z s q =>
  obtain⟨ks,sh,rfl,hs,h⟩:=h
  obtain⟨ta,ok⟩:=yo q
  have hl:=q.length
  rw[bT] at hl
  refine⟨_,ks,sh,s,ta,hs,fun zs ms l tz pm pw TN=>?_⟩
  have rr:=jQ (K:=K) tz fun k hk=>ok k (pm.mem_iff.mp hk)
  exact f.lst w (by rw[bT,pm.length_eq];lia) rr (gf ms) (h ms pm pw) l TN
 |_=>exact h.elim
theorem Bp (hK:X.K=K:=by rfl):kS X (.builtin "sorted") (uD K):=by subst hK;exact vI
theorem iG:bootBuiltins "sorted" = some (.builtin "sorted"):=by decide +kernel
end
def XX(A:List Addr)(F:Nat->List Addr):Nat->List Addr
 |0=>A
 |i+1=>F i
def FE(K:PySem.W.Frag)(Hs H:Hp)(ρ:Env)(σ:St)(ae:List Addr)(F:Nat->List Addr):Prop:=(∀ i fl d,ρ[i]? = some (some (.ow fl d))->∃ v,σ[i]? = some (some v)/\F i≠[]/\bE K Hs H fl d v (F i)) /\
  (∀ i,(F i).Sublist ae)/\∀ i j,i≠j->∀ a∈F i,a∉F j
theorem FE.skip{K:PySem.W.Frag}{F:Nat->List Addr}(h:FE K Hs H ρ σ ae F)(no:∀ fl d,o≠some (.ow fl d)):FE K Hs H (o :: ρ) (u :: σ) ae (XX [] F):=by
 obtain⟨a,b,c⟩:=h
 refine⟨fun i fl d e=>?_,fun i=>?_,fun i j ne x hx=>?_⟩
 ·cases i with
  |zero=>simp at e;exact absurd e (no fl d)
  |succ i=>exact a i fl d (by simpa using e)
 ·cases i with
  |zero=>exact B7 _
  |succ i=>exact b i
 ·cases i with
  |zero=>exact xt hx
  |succ i =>
   cases j with
   |zero=>exact fun z=>xt z
   |succ j=>exact c i j (fun z=>ne (by rw[z])) x hx
theorem FE.own{K:PySem.W.Frag}{ae B:List Addr}{F:Nat->List Addr}(h:FE K Hs H ρ σ ae F)(n:(B++ae).Nodup)(hs:∀ fl d,sl=.ow fl d->B≠[]/\bE K Hs H fl d v B):FE K Hs H (some sl :: ρ) (some v :: σ) (B++ae) (XX B F):=by
 obtain⟨a,b,c⟩:=h
 obtain⟨n1,n2,n3⟩:=iA.mp n
 refine⟨fun i fl d e=>?_,fun i=>?_,fun i j ne x hx=>?_⟩
 ·cases i with
  |zero=>simp at e;exact⟨v,rfl,hs fl d e⟩
  |succ i=>exact a i fl d (by simpa using e)
 ·cases i with
  |zero=>exact LM _ _
  |succ i=>exact(b i).trans (sv _ _)
 ·cases i with
  |zero =>
   cases j with
   |zero=>exact absurd rfl ne
   |succ j=>exact fun z=>n3 x hx x ((b j).subset z) rfl
  |succ i =>
   cases j with
   |zero=>exact fun z=>n3 x z x ((b i).subset hx) rfl
   |succ j=>exact c i j (fun z=>ne (by rw[z])) x hx
theorem SR.addrs{K:PySem.W.Frag}(s:SR K Hs H ρ σ ae):ae.Nodup->∃ F:Nat->List Addr,FE K Hs H ρ σ ae F:=by
 induction s with
 |nil=>exact fun _=>⟨fun _=>[],fun i fl d e=>by simp at e,fun i=>B7 _,fun i j _ a h=>xt h⟩
 |non s ih =>
  intro n
  obtain⟨F,h⟩:=ih n
  exact⟨_,h.skip fun fl d z=>by cases z⟩
 |sh r s ih =>
  intro n
  obtain⟨F,h⟩:=ih n
  exact⟨_,h.skip fun fl d z=>by cases z⟩
 |xc s ih =>
  intro n
  obtain⟨F,h⟩:=ih n
  exact⟨_,h.skip fun fl d z=>by cases z⟩
 |ow ne r s ih =>
  intro n
  obtain⟨F,h⟩:=ih (iA.mp n).2.1
  exact⟨_,h.own n fun fl d e=>by cases e;exact⟨ne,r⟩⟩
 |lk ne r s ih =>
  intro n
  obtain⟨F,h⟩:=ih (iA.mp n).2.1
  exact⟨_,h.own n fun fl d e=>by cases e⟩
abbrev Plan:=List (WE ⊕ Nat)
def Qs:Plan->List Nat
 |[]=>[]
 |.inl _ :: r=>Qs r
 |.inr i :: r=>i :: Qs r
def Qt:Option (Option Sl)->Option (Md × D)
 |some (some (.sh d))=>some (.sh,d)
 |some (some (.ow fl d))=>some (.ow fl,d)
 |_=>none
def k_:Plan->Env->(List (Md × D)->Prop)->Prop
 |[],_,Q=>Q []
 |.inl t :: r,ρ,Q=>t ρ fun m x=>k_ r ρ fun ps=>Q ((m,x) :: ps)
 |.inr i :: r,ρ,Q=>match Qt ρ[i]? with
  |some p=>k_ r ρ fun ps=>Q (p :: ps)
  |none=>False
def tpM(K:PySem.W.Frag)(pl:Plan):TA:=fun σ H Qv=>∃ (Hs:Hp) (ρ:Env) (ae:List Addr) (F:Nat->List Addr) (Q:List (Md × D)->Prop),cK K Hs ρ σ H ae/\(∀ i fl d,ρ[i]? = some (some (.ow fl d))->∃ v,σ[i]? = some (some v)/\F i≠[]/\bE K Hs H fl d v (F i))/\(∀ i,(F i).Sublist ae)/\(∀ i j,i≠j->∀ a∈F i,a∉F j) /\
 k_ pl ρ Q/\∀ vs H' ai ps As,dS Hs H ai H'->xv K ai H' ps vs As->As.Nodup->(∀ a∈As,ai a=none/\(H a=none\/∃ i∈Qs pl,a∈F i))->Q ps->Qv vs H'
abbrev QM(X:Cx)(K:PySem.W.Frag)(es:List Expr)(pl:Plan):Prop:=PA X es (tpM K pl)
section
variable {X:Cx}{K:PySem.W.Frag}{e:Expr}{es:List Expr}{te:WE}{pl:Plan}{pos:Pos}
theorem za:QM X K [] []:=PA.imp tq fun σ H Qv hx=>by
 obtain⟨Hs,ρ,ae,F,Q,sr,h1,h2,h3,h,f⟩:=hx
 exact f [] H Hs [] [] (dS.refl sr.wf) .nil ng (fun a h=>xt h) h
theorem TQ(ha:QE X K e te)(hr:QM X K es pl)(hs:starEach (e :: es) X.env=(false,eval e X.env) :: starEach es X.env:=by rfl):QM X K (e :: es) (.inl te :: pl):=by
 refine PA.imp (pz ha hr hs) fun σ H Qv cE=>?_
 obtain⟨Hs,ρ,ae,F,Q,sr,h1,h2,h3,h,f⟩:=cE
 refine⟨Hs,ρ,ae,_,sr,h,fun v H1 aE m x As g1 r1 f1 q1=>⟨aE,ρ,ae,F,_,sr.grow g1,(fun i fl d e=>?_),h2,h3,q1,fun vs H2 ax ps Bs g2 r2 kB o2 q2=>?_⟩⟩
 ·obtain⟨v,a,b,c⟩:=h1 i fl d e
  exact⟨v,a,b,c.grow g1.sh g1.all⟩
 ·refine f (v :: vs) H2 ax _ _ (g1.trans g2) (.cons (r1.grow g2) r2) (iA.mpr ⟨f1.1,kB,fun a ha b hb e=>?_⟩) (fun a ha=>?_) q2
  ·subst e
   rcases (o2 a hb).2 with z|⟨i,_,z⟩
   ·exact(r1.own a ha).ne z
   ·exact(sr.sr.own a ((h2 i).subset z)).ne (f1.2 a ha).2
  ·rcases dz.mp ha with z|z
   ·exact⟨g2.lP (f1.2 a z).1 (r1.own a z).ne,.inl (f1.2 a z).2⟩
   ·exact⟨(o2 a z).1,(o2 a z).2.imp g1.all.free id⟩
theorem TR(ha:PE X e (CF i))(hr:QM X K es pl)(hi:i∉Qs pl:=by decide)(hs:starEach (e :: es) X.env=(false,eval e X.env) :: starEach es X.env:=by rfl):QM X K (e :: es) (.inr i :: pl):=by
 refine PA.imp (pz ha hr hs) fun σ H Qv cE=>?_
 obtain⟨Hs,ρ,ae,F,Q,sr,h1,h2,h3,h,f⟩:=cE
 unfold k_ at h
 cases hm:Qt ρ[i]? with
 |none=>rw[hm] at h;exact h.elim
 |some p =>
  rw[hm] at h
  have key:∃ v A,σ[i]? = some (some v)/\RM K Hs H p.1 p.2 v A/\A.Nodup/\∀ a∈A,a∈F i:=by
   cases e1:ρ[i]? with
   |none=>rw[e1] at hm;cases hm
   |some o =>
    cases o with
    |none=>rw[e1] at hm;cases hm
    |some sl =>
     cases sl with
     |sh d =>
      rw[e1] at hm;cases hm
      obtain⟨v,a,b⟩:=sr.sr.get e1
      exact⟨v,[],a,⟨rfl,b⟩,ng,fun a h=>nomatch h⟩
     |lk a fl d=>rw[e1] at hm;cases hm
     |xc a=>rw[e1] at hm;cases hm
     |ow fl d =>
      rw[e1] at hm;cases hm
      obtain⟨v,a,b,c⟩:=h1 i fl d e1
      exact⟨v,F i,a,⟨c,b⟩,(h2 i).nodup sr.sF,fun a h=>h⟩
  obtain⟨v,A,ev,rm,FG,hA⟩:=key
  refine⟨v,ev,Hs,ρ,ae,F,_,sr,h1,h2,h3,h,fun vs H2 ax ps Bs g2 r2 kB o2 q2=>?_⟩
  refine f (v :: vs) H2 ax _ _ g2 (.cons (rm.grow g2) r2) (iA.mpr ⟨FG,kB,fun a ha b hb e=>?_⟩) (fun a ha=>?_) q2
  ·subst e
   rcases (o2 a hb).2 with z|⟨j,hj,z⟩
   ·exact(rm.own a ha).ne z
   ·exact h3 i j (fun z=>hi (by rw[z];exact hj)) a (hA a ha) z
  ·rcases dz.mp ha with z|z
   ·have:a∈ae:=(h2 i).subset (hA a z)
    exact⟨g2.lP (sr.own a this) (sr.sr.own a this).ne,.inr ⟨i,df,hA a z⟩⟩
   ·exact⟨(o2 a z).1,(o2 a z).2.imp id fun⟨j,hj,q⟩=>⟨j,de _ hj,q⟩⟩
def yr(pl:Plan):WS:=fun E ρ=>k_ pl ρ fun ps=>ps.length<=sizeLine/\E.rt (sZ ps) (.tup (ps.map (·.2)))
theorem tG{x1}(h:QM X K es pl):QS X K L (.Return (some (.Tuple es x1 iB')) pos) (yr pl):=by
 refine PS.imp (RV (V_ h)) fun D σ H hx=>dD hx fun Hs ρ ae E sr h k1 k2 k3 k4=>?_
 obtain⟨F,h1,h2,h3⟩:=sr.sr.addrs sr.sF
 refine⟨Hs,ρ,ae,F,_,sr,h1,h2,h3,h,fun vs H1 aE ps As g1 r1 nd1 o1 q1=>?_⟩
 obtain⟨hz,q⟩:=q1
 have rl:=r1.reps g1.wf
 have hl:=rl.length
 rw[bT] at hl
 refine⟨by lia,fun p hp=>?_⟩
 have g2:=Qg (vs:=vs) g1.wf hp
 have sm:ay Hs (upd aE p (.tup vs)):=g1.sh.trans g2.sh
 unfold sZ at q
 cases e1:ps.all xB with
 |true =>
  rw[e1] at q
  exact k4 _ _ _ .sh _ [] sm g2.wf ⟨rfl,.tup (by lia) eR ((r1.sh g1.wf e1).same g2.sh)⟩ ng (fun a h=>nomatch h) q
 |false =>
  rw[e1] at q
  cases e2:ps.all FC with
  |false =>
   rw[e2] at q
   exact k4 _ _ _ .bo _ [] sm g2.wf ⟨rfl,.tup (by lia) eR (rl.same g2.all)⟩ ng (fun a h=>nomatch h) q
  |true =>
   rw[e2] at q
   obtain⟨Bs,sb,nz,ro⟩:=r1.ow (fl:=ps.all DI) g1.wf e2 fun z=>z
   have fI:cy (ps.map (·.2))=false:=by
    cases hf:cy (ps.map (·.2)) with
    |false=>rfl
    |true=>rw[pU hf] at e1;cases e1
   exact k4 _ _ _ (.ow _) _ Bs sm g2.wf ⟨.tup (by lia) eR fI (ro.grow g2.sh g2.all),nz e1⟩ (sb.nodup nd1) (fun a ha=>g2.lP (o1 a (sb.subset ha)).1 (ro.own a ha).ne) q
end
def XY:iO:=fun ds Q=>∃ ns:List Int,ds=[.list (ns.map .int)]/\ns.length<=63/\∀ m,Q m (.bl true)
theorem ints_rep{K:PySem.W.Frag}:∀ (ns:List Int),bp K H (ns.map .int) (ns.map V.int)
 |[]=>.nil
 |n :: ns=>.cons (.int n) (ints_rep ns)
theorem Ba{K:PySem.W.Frag}{H:Hp}{a:Addr}{ns:List Int}{E:XK}(hl:ns.length<=63)(hS:eM K H a (ns.map V.int)):aA K XY [.ref a] H (fun v _=>v=.bl true) E:=by
 refine⟨[.list (ns.map .int)],fun _ d=>d=.bl true,.cons (.list (by rw[bT];exact jI hl (by decide)) hS (ints_rep ns)) .nil,⟨ns,rfl,hl,fun _=>rfl⟩,?_⟩
 intro v H' ai m d As s w r nd own q
 subst q
 have:=r.rep w
 cases this
 rfl
abbrev sg(x:Str):List Nat:=x.cps.toList
theorem By(x y:Str):sg (x++y)=sg x++sg y:=by
 show(x.cps++y.cps).toList=_
 simp[sg]
theorem empty_app(x:Str):Str.empty++x=x:=yH (by rw[<- sg,By];rfl)
def XZ(x:Str):Prop:=∀ c∈sg x,c<0x110000
theorem Cy(x:Str):PyData.strOk x=true↔XZ x:=by
 unfold PyData.strOk XZ sg
 rw[Array.all_eq_true']
 simp
theorem dX'(x:α)(l:List α):fR (x :: l) 0=some x:=by simp[L2.fR,rh]
theorem dY'(x y:α)(l:List α):fR (x :: y :: l) 1=some y:=by
 have:=HV (xs:=x :: y :: l) (j:=1) (v:=y) rfl
 exact this
theorem dZ'(x y z:α)(l:List α):fR (x :: y :: z :: l) 2=some z:=by
 have:=HV (xs:=x :: y :: z :: l) (j:=2) (v:=z) rfl
 exact this
theorem Hf:Str.empty.length=0:=by decide
end L2.Q
namespace L2.Q.R
open PySem PySem.Spec PyProof.Rows L2.Q
section
variable {f:D->Prop}{k:Kt f}
theorem Kd:bP .non k=f .non:=rfl
theorem K9:bP (.bl b) k=f (.bl b):=rfl
theorem Kq:bP (.int i) k=f (.int i):=rfl
theorem J2:bP (.str x) k=f (.str x):=rfl
theorem JB:bP (.list xs) k=f (.list xs):=rfl
theorem J9:bP (.tup xs) k=f (.tup xs):=rfl
theorem Lj:bP (.dK xs) k=f (.dK xs):=rfl
theorem LK:bP (.dT xs) k=f (.dT xs):=rfl
end
theorem Jw{f:Bool->Prop}{k:Kt f}:bP true k=f true:=rfl
theorem Hy{f:Bool->Prop}{k:Kt f}:bP false k=f false:=rfl
theorem JN{d:D}{f:Md × D->Prop}{k:Kt f}:bP (Md.sh,d) k=f (.sh,d):=rfl
theorem JK{b:Bool}{d:D}{f:Md × D->Prop}{k:Kt f}:bP (Md.ow b,d) k=f (.ow b,d):=rfl
theorem Ku{d:D}{f:Md × D->Prop}{k:Kt f}:bP (Md.bo,d) k=f (.bo,d):=rfl
theorem J4{d:D}{f:Option Sl->Prop}{k:Kt f}:bP (some (.sh d)) k=f (some (.sh d)):=rfl
theorem Km{b:Bool}{d:D}{f:Option Sl->Prop}{k:Kt f}:bP (some (.ow b d)) k=f (some (.ow b d)):=rfl
theorem J0{p:Md × D}{f:Option (Md × D)->Prop}{k:Kt f}:bP (some p) k=f (some p):=rfl
theorem Mm{p:Bool}{f:Option Bool->Prop}{k:Kt f}:bP (some p) k=f (some p):=rfl
theorem JF{d:D}{f:Option (Option Sl)->Prop}{k:Kt f}:bP (some (some (.sh d))) k=f (some (some (.sh d))):=rfl
theorem KD{b:Bool}{d:D}{f:Option (Option Sl)->Prop}{k:Kt f}:bP (some (some (.ow b d))) k=f (some (some (.ow b d))):=rfl
section
variable {E:qZ}{ρ:Env}{Q:Md->D->Prop}{B:Bool->Prop}{t u:WS}{te ta tb tc:WE}{tt tu:WT}{tar:WA}{i j n:Nat}{m m':Md}{d d':D}{sp:iO}{p:WP}{R:List (Md × D)->Prop}
theorem JV:dG E ρ=E.nx ρ:=rfl
theorem Ln:cf t u E ρ=t { E with nx:=u E } ρ:=rfl
theorem Ml:oD te E ρ=te ρ E.rt:=rfl
def put(sl:Option Sl)(k:Sl->Prop):Prop:=match sl with
 |some s=>k s
 |none=>False
theorem J1:put (some (.sh d)) k=k (.sh d):=rfl
theorem K1:put (some (.ow b d)) k=k (.ow b d):=rfl
theorem MK:eB i te E ρ=te ρ fun m d=>bP (asg m d) (f:=fun o=>put o fun sl=>E.nx (ρ.set i (some sl))) ⟨⟩:=rfl
theorem Lf:mn tt t u E ρ=tt ρ fun b=>bP b (f:=fun b=>if b=true then t E ρ else u E ρ) ⟨⟩:=rfl
theorem KQ:tH i E ρ=bP ρ[i]? (f:=fun o=>match o with
 |some (some (.sh d))=>E.rt .sh d
 |some (some (.ow fl d))=>E.rt (.ow fl) d
 |_=>False) ⟨⟩:=rfl
theorem KJ:yr pl E ρ=k_ pl ρ fun ps=>ps.length<=sizeLine/\E.rt (sZ ps) (.tup (ps.map (·.2))):=rfl
theorem Gi:k_ [] ρ R=R []:=rfl
theorem Ik:k_ (.inl te :: r) ρ R=te ρ fun m x=>k_ r ρ fun ps=>R ((m,x) :: ps):=rfl
def X1(o:Option (Md × D))(k:Md × D->Prop):Prop:=match o with
 |some p=>k p
 |none=>False
theorem HB{p:Md × D}{k:Md × D->Prop}:X1 (some p) k=k p:=rfl
theorem IK:k_ (.inr i :: r) ρ R=bP (Qt ρ[i]?) (f:=fun o=>X1 o fun p=>k_ r ρ fun ps=>R (p :: ps)) ⟨⟩:=rfl
theorem Ls:fq i t E ρ=t E (NQ i ρ):=rfl
-- tests
def bol(d:D)(B:Bool->Prop):Prop:=match d with
 |.bl b=>B b
 |_=>False
theorem Ky:bol (.bl b) B=B b:=rfl
theorem wB_:wB te ρ B=te ρ fun _ x=>bP x (f:=fun x=>bol x B) ⟨⟩:=rfl
theorem K7:Tv te ρ B=te ρ fun _ x=>bP x (f:=fun x=>∃ b,Qk x=some b/\B b) ⟨⟩:=rfl
theorem Mf:IY tt ρ B=tt ρ fun c=>B (!c):=rfl
theorem Ld:Fm tt tu ρ B=tt ρ fun c=>bP c (f:=fun c=>if c=true then tu ρ B else B false) ⟨⟩:=rfl
theorem eb':Fn tt tu ρ B=tt ρ fun c=>bP c (f:=fun c=>if c=true then B true else tu ρ B) ⟨⟩:=rfl
theorem Ms:uj ρ B=B true:=rfl
-- expressions
theorem M7:av i ρ Q=bP ρ[i]? (f:=fun o=>NH o Q) ⟨⟩:=rfl
theorem Je:NH (some (some (.sh d))) Q=Q .sh d:=rfl
theorem Jz:NH (some (some (.ow b d))) Q=Q .bo d:=rfl
theorem wC_:wC d ρ Q=Q .sh d:=rfl
theorem ed':aw f ta tb ρ Q=ta ρ fun m x=>tb ρ fun n y=>f m x n y Q:=rfl
theorem ee':i6 f ta ρ Q=ta ρ fun m x=>f m x Q:=rfl
theorem HN:qp f g ta tb tc ρ Q=ta ρ fun m x=>tb ρ fun n y=>f m x n y fun _ z=>bP z (f:=fun z=>bol z fun k=>bP k (f:=fun k=>if k=true then tc ρ fun l w=>g n y l w Q else Q .sh (.bl false)) ⟨⟩) ⟨⟩:=by
 unfold qp bP bol
 rfl
theorem JR:zx ta tb ρ Q=ta ρ fun _ x=>bP x (f:=fun x=>bol x fun c=>bP c (f:=fun c=>if c=true then tb ρ Q else Q .sh (.bl false)) ⟨⟩) ⟨⟩:=by unfold zx bP bol;rfl
theorem Kp:ak te tar ρ R=te ρ fun m x=>tar ρ fun ps=>R ((m,x) :: ps):=rfl
theorem Lq:b9 ρ R=R []:=rfl
theorem LC:g7 tar ρ Q=tar ρ fun ps=>ps.length<=sizeLine/\Q (sZ ps) (.tup (ps.map (·.2))):=rfl
theorem K5:nS tar ρ Q=tar ρ fun ps=>ps.length<=sizeLine/\Q (BZ ps) (.list (ps.map (·.2))):=rfl
theorem J7:cG sp tar ρ Q=tar ρ fun ps=>sp (ps.map (·.2)) fun m d=>bP (m,d) (f:=fun p=>Q (An p.1 p.2) p.2) ⟨⟩:=rfl
-- operators
section
variable {x y:Str}{a b:Int}{xs ys:List D}{kvs:List (Key × D)}{FH:List (List Key × D)}
theorem H_:gV m (.int a) m' (.int b) Q=Q .sh (.int (a+b)):=rfl
theorem Ja:gV m (.str x) m' (.str y) Q=(x.length+y.length<=sizeLine/\Q .sh (.str (x++y))):=rfl
theorem Ia:gV m (.list xs) m' (.list ys) Q=(xs.length+ys.length<=sizeLine/\((cy xs=true/\cy ys=true/\Q (.ow true) (.list (xs++ys)))\/(m=.sh/\m'=.sh/\Q (.ow false) (.list (xs++ys))))):=rfl
theorem Jk:I0 m (.int a) m' (.int b) Q=Q .sh (.int (a-b)):=rfl
theorem Jt:Ql m (.int a) m' (.int b) Q=(EJ a b/\Q .sh (.int (a*b))):=rfl
theorem HW:i7 m (.int a) m' (.int b) Q=((0<b/\b<1073741824)/\Q .sh (.int (a / b))):=rfl
theorem Ji:gX m (.int a) m' (.int b) Q=(0<b/\Q .sh (.int (a % b))):=rfl
theorem I_:NJ m (.int a) m' (.int b) Q=(HL a b/\Q .sh (.int (a ^ b.toNat))):=rfl
theorem Kw:Fu m (.int a) m' (.int b) Q=Q .sh (.bl (decide (a<b))):=rfl
theorem JP:Fu m (.str x) m' (.str y) Q=Q .sh (.bl (pE x y)):=rfl
theorem Ke:Tx m (.int a) m' (.int b) Q=Q .sh (.bl (decide (a<=b))):=rfl
theorem KY:nL m (.int a) m' (.int b) Q=Q .sh (.bl (decide (a=b))):=rfl
theorem JS:nL m (.str x) m' (.str y) Q=Q .sh (.bl (decide (x=y))):=rfl
theorem M6:nL m (.list xs) m' d Q=(eh 12 (.list xs)=true/\eh 12 d=true/\Q .sh (.bl (kG (.list xs) d))):=by cases d<;>rfl
theorem Lz:nL m (.tup xs) m' d Q=(eh 12 (.tup xs)=true/\eh 12 d=true/\Q .sh (.bl (kG (.tup xs) d))):=by cases d<;>rfl
theorem J5:ui m (.int a) m' (.int b) Q=Q .sh (.bl (!decide (a=b))):=rfl
theorem Ka:ui m (.str x) m' (.str y) Q=Q .sh (.bl (!decide (x=y))):=rfl
theorem Lr:ui m (.list xs) m' d Q=(eh 12 (.list xs)=true/\eh 12 d=true/\Q .sh (.bl (!kG (.list xs) d))):=by cases d<;>rfl
theorem Lp:ui m (.tup xs) m' d Q=(eh 12 (.tup xs)=true/\eh 12 d=true/\Q .sh (.bl (!kG (.tup xs) d))):=by cases d<;>rfl
theorem Mq:DH neg m d m' (.list ys) Q=(iz d=true/\ys.all iz=true/\Q .sh (.bl (if neg then !inD d ys else inD d ys))):=rfl
theorem Mj:DH neg m d m' (.dK kvs) Q = ∃ k,d.key1=some k/\Q .sh (.bl (if neg then !(dE kvs k).isSome else (dE kvs k).isSome)):=rfl
theorem Ma:DH neg m (.tup xs) m' (.dT FH) Q = ∃ ks,eX xs=some ks/\Q .sh (.bl (if neg then !(dE FH ks).isSome else (dE FH ks).isSome)):=rfl
theorem Mr:NK m (.int a) Q=Q .sh (.int (-a)):=rfl
theorem K8:eW m (.list xs) m' (.int a) Q = ∃ d,fR xs a=some d/\bP d (f:=fun d=>Q (md m d) d) ⟨⟩:=rfl
theorem Mu:eW m (.tup xs) m' (.int a) Q = ∃ d,fR xs a=some d/\bP d (f:=fun d=>Q (md m d) d) ⟨⟩:=rfl
theorem Li:eW m (.str x) m' (.int a) Q = ∃ c,fR x.cps.toList a=some c/\Q .sh (.str ⟨#[c]⟩):=rfl
theorem Lw:eW m (.dK kvs) m' d Q = ∃ k d',d.key1=some k/\dE kvs k=some d'/\bP d' (f:=fun d'=>Q (md m d') d') ⟨⟩:=rfl
theorem KN:z5 m (.list xs) Q=Q .sh (.int xs.length):=rfl
theorem J3:z5 m (.tup xs) Q=Q .sh (.int xs.length):=rfl
theorem Kr:z5 m (.dK kvs) Q=Q .sh (.int kvs.length):=rfl
theorem JT:z5 m (.dT FH) Q=Q .sh (.int FH.length):=rfl
theorem Ly{T:String}:TB T m d Q=Q .sh (.bl (IA d.ty T)):=rfl
theorem Jp:rG m (.list xs) Q=((cy xs=true/\Q (.ow true) (.list xs))\/(m=.sh/\Q (.ow false) (.list xs))):=rfl
theorem IW:rG m (.dT FH) Q=Q (.ow true) (.list (FH.map fun kv=>.tup (kv.1.map mI))):=rfl
theorem ef':BH te tl th ρ Q=te ρ fun m x=>tl ρ fun lo=>th ρ fun hi=>Qm m x lo hi Q:=rfl
theorem Hx:ig ρ O=O none:=rfl
def int'(d:D)(k:Int->Prop):Prop:=match d with
 |.int i=>k i
 |_=>False
theorem Kf:int' (.int a) k=k a:=rfl
theorem JZ:jE te ρ O=te ρ fun _ x=>bP x (f:=fun x=>int' x fun i=>O (some i)) ⟨⟩:=by unfold jE bP int';rfl
theorem Mi{lo hi:Option Int}:Qm m (.str x) lo hi Q=Q .sh (.str (rq x lo hi)):=rfl
theorem La{lo hi:Option Int}:Qm m (.list xs) lo hi Q=((cy xs=true/\Q (.ow true) (.list (gp xs lo hi)))\/(m=.sh/\Q (.ow false) (.list (gp xs lo hi)))):=rfl
end
-- texts
def eg'(d:D)(k:Str->Prop):Prop:=match d with
 |.str x=>k x
 |_=>False
theorem Kh:eg' (.str x) k=k x:=rfl
def xE(d:D)(k:List D->Prop):Prop:=match d with
 |.list x=>k x
 |_=>False
theorem Io:xE (.list x) k=k x:=rfl
-- places
theorem eh'{P:Bool->D->(Bool->D->Env)->Prop}:om i ρ P=bP ρ[i]? (f:=fun o=>match o with
 |some (some (.ow fl d))=>P fl d fun fl2 d2=>ρ.set i (some (.ow fl2 d2))
 |_=>False) ⟨⟩:=rfl
def TV(o:Option Bool)(k:Bool->Prop):Prop:=match o with
 |some b=>k b
 |none=>False
theorem Hz:TV (some b) k=k b:=rfl
theorem Lb:DM p te E ρ=p ρ fun fl d up=>bP d (f:=fun d=>xE d fun xs=>te ρ fun m x=>xs.length<sizeLine/\bP (nR fl m x) (f:=fun o=>TV o fun fl2=>E.nx (up fl2 (.list (xs++[x])))) ⟨⟩) ⟨⟩:=by unfold DM bP xE TV;rfl
theorem HF:lH ρ Q=Q (.ow true) (.dT []):=rfl
def dct(d y:D)(k1:List (Key × D)->Prop)(k2:List (List Key × D)->List D->Prop):Prop:=match d with
 |.dK kvs=>k1 kvs
 |.dT kvs=>match y with
  |.tup ys=>k2 kvs ys
  |_=>False
 |_=>False
theorem MT:dct (.dK kvs) y k1 k2=k1 kvs:=rfl
theorem MP:dct (.dT kvs) (.tup ys) k1 k2=k2 kvs ys:=rfl
theorem Kz:qO p tk tv E ρ=tv ρ fun _ x=>p ρ fun fl d up=>tk ρ fun _ y=>x.flat=true/\bP d (f:=fun d=>dct d y (fun kvs=>∃ k,y.key1=some k/\kvs.length<sizeLine/\E.nx (up fl (.dK (gS kvs k x)))) (fun kvs ys=>∃ ks,eX ys=some ks/\kvs.length<sizeLine/\E.nx (up fl (.dT (gS kvs ks x))))) ⟨⟩:=by
 unfold qO bP dct
 rfl
-- loops
variable {LQ:List D->Prop}
theorem Mx:nV wi g b E ρ=wi ρ fun ds=>jk g b E ds ρ:=rfl
theorem JD:cU te ρ LQ=te ρ fun m d=>jC m/\bP d (f:=fun d=>xE d LQ) ⟨⟩:=by unfold cU bP xE;rfl
def N0(d:D)(k:List D->Prop):Prop:=match d with
 |.tup x=>k x
 |_=>False
theorem KC:N0 (.tup x) k=k x:=rfl
theorem Kv:yh te ρ LQ=te ρ fun m d=>jC m/\bP d (f:=fun d=>N0 d LQ) ⟨⟩:=by unfold yh bP N0;rfl
theorem Jv:fL te ρ LQ=te ρ fun _ d=>bP d (f:=fun d=>int' d fun j=>j<=16777216/\-(2 ^ 62)<=j/\LQ (jY 0 j.toNat)) ⟨⟩:=by unfold fL bP int';rfl
theorem Hw:jC .sh=True:=rfl
theorem Hv:jC (.ow b)=True:=rfl
theorem Hu:jC .bo=False:=rfl
theorem gN_:gN i d ρ N=N (ρ.set i (some (.sh d))):=rfl
theorem gT_:gT n gs d ρ N=bP d (f:=fun d=>N0 d fun ds=>ds.length=n/\gs ds ρ N) ⟨⟩:=by unfold gT bP N0;rfl
theorem J8:cB g gs (d :: ds) ρ N=g d ρ fun bq=>gs ds bq N:=rfl
theorem K6:mX [] ρ N=N ρ:=by simp[mX]
theorem Kc:gm wi g tt te tn ix ρ Q=wi ρ fun ds=>gG g tt te ds (Di tn ix ρ) fun out=>Q (.ow true) (.list out):=rfl
end
theorem B{c:Bool}{f:Bool->Prop}{k:Kt f}(h1:c=true->f true)(h2:c=false->f false):bP c k:=by
 cases c with
 |true=>exact h1 rfl
 |false=>exact h2 rfl
theorem D{p:Prop}[Decidable p]{f:Bool->Prop}{k:Kt f}(h1:p->f true)(h2:¬ p->f false):bP (decide p) k :=
 B (fun h=>h1 (of_decide_eq_true h)) fun h=>h2 (of_decide_eq_false h)
theorem T{c:Bool}{f:Bool->Prop}{k:Kt f}(h:c=true)(h1:f true):bP c k:=by subst h;exact h1
theorem F{c:Bool}{f:Bool->Prop}{k:Kt f}(h:c=false)(h1:f false):bP c k:=by subst h;exact h1
end L2.Q.R
namespace L2
open PySem PySem.Spec PyProof.Rows
end L2
namespace L2.Q
open PySem PySem.Spec PyProof.Rows
section
variable {X:Cx}{K:PySem.W.Frag}{e e2:Expr}{pos p dy apos:Pos}
def yM:W1:=fun _ x Q=>match x with
 |.list xs=>∃ ks b,xs=ks.map mI/\(∀ k∈ks,qf k=b)/\∀ ms:List Key,ms.Perm ks->(ms.Pairwise fun a b=>qc b a=false)->Q (.ow true) (.list (ms.map mI))
 |.dK kvs=>∃ b,(∀ p∈kvs,qf p.1=b)/\∀ ms:List Key,ms.Perm (kvs.map (·.1))->(ms.Pairwise fun a b=>qc b a=false)->Q (.ow true) (.list (ms.map mI))
 |_=>False
theorem Ah:DJ K (uA K) yM:=by
 intro Hs H m x v As Qd Qv w rx h f
 have r1:=rx.rep w
 cases r1 with
 |list z s q =>
  obtain⟨ks,b,rfl,hb,h⟩:=h
  obtain⟨e,ok⟩:=xR q
  subst e
  refine⟨ks,b,.inl s,hb,fun ms l pm pw hl=>?_⟩
  exact f.lst w (by rw[bT,pm.length_eq];simpa using z) (i_ fun k hk=>ok k (pm.mem_iff.mp hk)) (iR ms) (h ms pm pw) l hl
 |@dK a vs kvs kk e q =>
  obtain⟨b,hb,h⟩:=h
  have hlen:=q.length
  rw[bT] at hlen
  have ez:(((kvs.map (·.1)).zip vs).map (·.1))=kvs.map (·.1):=by rw[L4 (by rw[bT];lia)]
  refine⟨kvs.map (·.1),b,.inr ⟨_,e,ez.symm⟩,fun k hk=>?_,fun ms l pm pw hl=>?_⟩
  ·obtain⟨p,hp,rfl⟩:=dk.mp hk
   exact hb p hp
  ·refine f.lst w (by rw[bT,pm.length_eq,bT];exact kk.1) (i_ fun k hk=>?_) (iR ms) (h ms pm pw) l hl
   obtain⟨p,hp,rfl⟩:=dk.mp (pm.mem_iff.mp hk)
   exact kk.2 p hp
 |_=>exact h.elim
theorem Hg (hc:X.calm=true:=by rfl) (hK:X.K=K:=by rfl):kS X (.builtin "sorted") (uA K):=by subst hK;exact vN hc
section
variable {Hs H:Hp}{fl:Bool}
theorem az.erase(k:Nat)(r:az K Hs H fl ds vs As):∃ Bs,Bs.Sublist As/\az K Hs H fl (ds.eraseIdx k) (vs.eraseIdx k) Bs:=by
 induction ds generalizing vs As k with
 |nil =>
  obtain⟨rfl,rfl⟩:=r.n0
  exact⟨[],List.Sublist.refl _,.nil⟩
 |cons d ds ih =>
  obtain⟨u,us,A,B,rfl,rfl,r,rs⟩:=r.c
  cases k with
  |zero=>exact⟨B,sv _ _,rs⟩
  |succ k =>
   obtain⟨C,sb,q⟩:=ih k rs
   exact⟨A++C,sb.append_left _,.cons r q⟩
theorem az.X2{ds:List D}{vs:List V}{As:List Addr}{k:Nat}{d:D}(r:az K Hs H fl ds vs As)(e:ds[k]? = some d)(hf:d.flat=true)(w:Wf Hs H):∃ v,vs[k]? = some v/\Rep K Hs d v:=by
 induction ds generalizing vs As k with
 |nil=>simp at e
 |cons x ds ih =>
  obtain⟨u,us,A,B,rfl,rfl,r,rs⟩:=r.c
  cases k with
  |zero =>
   simp at e
   subst e
   exact⟨_,rfl,(r.rep w.sub fun _ _=>rfl).gP w.hG hf⟩
  |succ k=>exact ih (k:=k) rs (by simpa using e)
end
def Qu(i:Nat)(p:WP):WS:=fun E ρ=>p ρ fun fl d up=>match d with
 |.list xs=>∃ y,xs[xs.length-1]? = some y/\y.flat=true/\E.nx ((up fl (.list xs.dropLast)).set i (some (.sh y)))
 |_=>False
theorem qy(xs:List α):xs.eraseIdx (xs.length-1)=xs.dropLast:=by
 rw[List.dropLast_eq_take,List.eraseIdx_eq_take_drop_succ]
 rw[List.drop_eq_nil_of_le (by lia),mr]
theorem Gr{wp:WP}{i:Nat}{x:Str}{pos':Pos}(hN:X.N.Nodup)(hi:X.N[i]? = some x)(hx:Loc X.env.scope x)(ho:QP X K e wp)(hK:X.K=K:=by rfl)
  (tF:attributeBase e "pop" X.env (eval e X.env)=eval e X.env:=by rfl) (hline:(apos.endLine == dy.line)=true:=by rfl)
  (hs:swapsWith (.Call (.Attribute e "pop" apos) [] [] dy) (some (.Name x pos')) pos.line X.env=pure false:=by rfl) (hf:X.fn x=true\/X.env.scope.names.lookup x=some .local:=by first|exact .inl rfl|exact .inr rfl|assumption) :
  QS X K L (.Assign [.Name x pos'] (.Call (.Attribute e "pop" apos) [] [] dy) pos) (Qu i wp):=by
 subst hK
 refine PS.imp (RX hN hi hx (bG' PySem.F.plainAttrs_list PySem.F.slot_list_pop PySem.F.type_list_pop bN' ho tF hline) hs hf) fun D σ H hx=>dD hx fun Hs ρ ae E sr h k1 k2 k3 k4=>?_
 refine⟨Hs,ρ,ae,_,sr,h,fun v H1 aE fl d up g1 p1 q1=>?_⟩
 cases d with
 |list xs =>
  obtain⟨y,ey,fy,q1⟩:=q1
  obtain⟨a,vs,A,ea,e2,_,rs,nd,hn,k⟩:=p1.put (dS.refl g1.wf)
  subst ea
  obtain⟨nA,FG⟩:=kC.mp nd
  obtain⟨u,eu,ru⟩:=rs.X2 ey fy g1.wf
  obtain⟨B,sb,rb⟩:=rs.erase (xs.length-1)
  have hl:=rs.length
  rw[qy] at rb
  rw[hl,qy] at rb
  rw[hl] at eu
  refine⟨.inl ⟨rfl,_,.inl (.inl e2)⟩,a,vs,u,rfl,rfl,e2,eu,?_⟩
  have hz:vs.dropLast.length<=sizeLine:=by
   rcases p1.ex with⟨fA,r,ne,_⟩
   cases r with
   |sh _ _=>exact absurd rfl ne
   |list hz e3 _=>rw[e2] at e3;cases e3;rw[List.length_dropLast];lia
  obtain⟨dv,gu⟩:=k fl _ _ B id rb hz (sb.nodup FG) (fun z=>nA (sb.subset z)) (fun x hx=>.inl (sb.subset hx))
  obtain⟨TF,_,TH⟩:=gu.Hc i ru
  exact k1 _ _ aE _ TF g1.sh TH q1
 |_=>exact q1.elim
end
abbrev WIL:=Env->(List D->Prop)->Prop
section
variable {X:Cx}{K:PySem.W.Frag}
theorem dZ(hN:X.N.Nodup)(rp:X.N[i]? = some x)(hx:Loc X.env.scope x)(hc:X.calm=true)
  (hi:NS X K tg iter wi) (O:bH X scope tn cn ix)
  (hg:∀ C fp cq cx,QG (cQ X scope C (tn++cn) fp cq cx) K tg g) (mB:∀ C fp cq cx,NW (cQ X scope C (tn++cn) fp cq cx) K ifs tc) (he:∀ C fp cq cx,QE (cQ X scope C (tn++cn) fp cq cx) K elt te)
  (EX:swapsWith (.ListComp elt [⟨tg,iter,ifs,0⟩] scope pos) (some (.Name x pos')) A9.line X.env=pure true:=by rfl)
  (hs:∀ x,foldedSetIterable iter X.env x=pure x:=by intro _;rfl) (hf:X.fn x=true\/X.env.scope.names.lookup x=some .local:=by first|exact .inl rfl|exact .inr rfl|assumption) :
  QS X K L (.Assign [.Name x pos'] (.ListComp elt [⟨tg,iter,ifs,0⟩] scope pos) A9) (eB i (gm wi g tc te tn.length ix)) :=
 PS.imp (wz hN rp hx hc hi O hg mB he EX hs hf) fun D σ H hx=>dD hx fun Hs ρ ae E sr h k1 k2 k3 k4=>by
  refine lJ ⟨Hs,ρ,ae,_,sr,h,fun v H1 aE m d As g1 r1 f1 q1=>?_⟩
  have q1:match asg m d with
   |some sl=>E.nx (ρ.set i (some sl))
   |none=>False:=q1
  cases e:asg m d with
  |none=>rw[e] at q1;exact q1.elim
  |some sl =>
   rw[e] at q1
   obtain⟨bG,s'⟩:=(sr.grow g1).set i r1 f1.1 (fun a ha=>⟨(f1.2 a ha).1,fun m=>(sr.sr.own a m).ne (f1.2 a ha).2⟩) e
   exact k1 _ H1 aE _ bG g1.sh s' q1
end
end L2.Q
namespace L2.Q.R
open PySem PySem.Spec PyProof.Rows L2.Q
section
variable {E:qZ}{ρ:Env}{Q:Md->L2.Q.D->Prop}{te:WE}{i:Nat}{d:L2.Q.D}{p:WP}{a:Addr}{b:Bool}{LQ:List L2.Q.D->Prop}
theorem Ko{f:Option Sl->Prop}{k:Kt f}:bP (some (.lk a b d)) k=f (some (.lk a b d)):=rfl
theorem JW{f:Option (Option Sl)->Prop}{k:Kt f}:bP (some (some (.lk a b d))) k=f (some (some (.lk a b d))):=rfl
theorem JC:NH (some (some (.lk a b d))) Q=Q .bo d:=rfl
theorem MJ:Qu i p E ρ=p ρ fun fl d up=>bP d (f:=fun d=>xE d fun xs=>∃ y,xs[xs.length-1]? = some y/\y.flat=true/\bP y (f:=fun y=>E.nx ((up fl (.list xs.dropLast)).set i (some (.sh y)))) ⟨⟩) ⟨⟩:=by unfold Qu bP xE;rfl
def ek'(o:Option (Option Sl))(k:Bool->L2.Q.D->Prop):Prop:=match o with
 |some (some (.ow fl d))=>k fl d
 |_=>False
theorem Ig:ek' (some (some (.ow b d))) k=k b d:=rfl
theorem Jb:uK te ρ LQ=te ρ fun m d=>jC m/\bP d (f:=fun d=>xE d fun xs=>LQ (mY xs)) ⟨⟩:=by unfold uK bP xE;rfl
theorem Jh:jr te ρ LQ=te ρ fun _ d=>bP d (f:=fun d=>xE d LQ) ⟨⟩:=by unfold jr bP xE;rfl
def wpAt(d:L2.Q.D)(i:Int)(P:Bool->L2.Q.D->(Bool->L2.Q.D->Env)->Prop)(up:Bool->L2.Q.D->Env):Prop:=match d with
 |.list ds=>∃ j d',rh ds.length i=some j/\ds[j]? = some d'/\d'.flat=false/\bP d' (f:=fun d'=>P true d' fun fl2 d2=>up fl2 (.list (ds.set j d2))) ⟨⟩
 |.tup ds=>∃ j d',rh ds.length i=some j/\ds[j]? = some d'/\d'.flat=false/\bP d' (f:=fun d'=>P true d' fun fl2 d2=>up fl2 (.tup (ds.set j d2))) ⟨⟩
 |_=>False
section
variable {P:Bool->L2.Q.D->(Bool->L2.Q.D->Env)->Prop}{up:Bool->L2.Q.D->Env}
theorem Mv:Qq p te ρ P=p ρ fun fl d up=>te ρ fun _ y=>fl=true/\bP y (f:=fun y=>int' y fun i=>bP d (f:=fun d=>wpAt d i P up) ⟨⟩) ⟨⟩:=by
 unfold Qq bP int' wpAt
 rfl
end
end
end L2.Q.R
namespace L2
open PySem PySem.Spec PyProof.Rows Builtin Builtin.Str Builtin.Int
def oo(n:Int)(z:Str):Str:=⟨(List.replicate n.toNat z.cps.toList).flatten.toArray⟩
theorem nJ(xs:Array Nat):∀ (k:Nat) (acc:Array Nat),(List.replicate k xs).foldl (· ++ ·) acc=acc++(List.replicate k xs.toList).flatten.toArray
 |0,acc=>by simp
 |k+1,acc=>by
  rw[LV,List.foldl_cons,nJ xs k,LV,LZ]
  apply Array.ext'
  simp
theorem DY(h:1<=n):Txt.mul z n=oo n z:=by
 unfold Txt.mul oo
 rw[if_neg (by lia)]
 by_cases h1:n=1
 ·subst h1
  simp
 ·by_cases h0:z.length=0
  ·have hz:z.cps = #[]:=MA h0
   rw[if_pos (by simp[h0])]
   obtain⟨c⟩:=z
   cases hz
   simp
  ·rw[if_neg (by simp[h1,h0]),nJ]
   simp
def Fl:R2:=fun x y H Q=>match x,y with
 |.int n,.str z=>(1<=n/\n<=100/\z.length<=100)/\Q (.str (oo n z)) H
 |_,_=>False
end L2
namespace L2
open PySem PySem.Spec PyProof.Rows
end L2
namespace L2.Q
open PySem PySem.Spec PyProof.Rows
section
variable {K:PySem.W.Frag}{b:Expr}
theorem Gp{H:Hp}{bs:List Bool}{vs:List V}(r:bp K H (bs.map D.bl) vs):vs=bs.map V.bl:=by
 induction bs generalizing vs with
 |nil=>exact r.n0
 |cons b bs ih =>
  obtain⟨u,us,rfl,r1,rs⟩:=bp.c (d:=D.bl b) r
  cases r1
  rw[ih rs];rfl
theorem p_(n:Int)(z:Str):(oo n z).length=n.toNat*z.length:=by
 unfold oo Str.length
 rw[gy,len_rep,vi]
end
end L2.Q
namespace L2.Q.R
open PySem PySem.Spec PyProof.Rows L2.Q
end L2.Q.R
namespace L2.Q
open PySem PySem.Spec PyProof.Rows
theorem gw(O:Nat->List D->Prop)(Iv:Env->Prop):∀ (xs:List D) (i:Nat) (pre:List D) (ρ:Env) (k:List D->Prop),Iv ρ->O i pre ->
  (∀ j x,xs[j]? = some x->∀ ρ,Iv ρ->∀ out,O (i+j) out->∀ N1:Env->Prop,∀ N2:Env->D->Prop,(∀ bq d,Iv bq->O (i+j+1) (out++[d])->N2 bq d)->g x ρ fun oj=>tc oj fun b=>if b=true then te oj fun m d=>NV m d/\N2 oj d else N1 oj) ->
  (∀ out,O (i+xs.length) (pre++out)->k out)->gG g tc te xs ρ k
 |[],i,pre,_,k,_,h0,_,h=>h [] (by simpa using h0)
 |x :: xs,i,pre,ρ,k,iv,h0,hs,h=>by
  refine hs 0 x rfl ρ iv pre h0 _ _ (fun bq d NX o'=>?_)
  refine gw O Iv xs (i+1) (pre++[d]) bq _ NX o' (fun j y hy ρ iv out ho=>?_) fun out ho=>?_
  ·have:=hs (j+1) y (by simpa using hy) ρ iv out (by rwa[show i+(j+1)=i+1+j by lia])
   rwa[show i+(j+1)+1=i+1+j+1 by lia] at this
  ·refine h (d :: out) ?_
   rw[wq] at ho
   rwa[oy,show i+(xs.length+1)=i+1+xs.length by lia]
end L2.Q
namespace TS
open PySem PySem.SetTable
def fk:Nat->Nat->Nat
 |0,s=>s
 |k+1,s=>5*fk k s+1
theorem Fx(a b s:Nat):fk (a+b) s=fk b (fk a s):=by
 induction b with
 |zero=>rfl
 |succ b ih=>show 5*fk (a+b) s+1=5*fk b (fk a s)+1;rw[ih]
theorem yc(n s:Nat):4*fk n s+1=5 ^ n*(4*s+1):=by
 induction n with
 |zero=>simp[fk]
 |succ n ih =>
  show 4*(5*fk n s+1)+1=5 ^ (n+1)*(4*s+1)
  rw[yB,OW (5 ^ n) 5,GU,<- ih];lia
theorem Ac(m:Nat):∃ q,5 ^ 2 ^ m=1+2 ^ (m+2)*q/\q % 2=1:=by
 induction m with
 |zero=>exact⟨1,by decide,by decide⟩
 |succ m ih =>
  obtain⟨q,e,o⟩:=ih
  refine⟨q+2 ^ (m+1)*(q*q),?_,?_⟩
  ·have hp:5 ^ 2 ^ (m+1)=(5 ^ 2 ^ m) ^ 2:=by rw[yB 2 m,Nat.pow_mul]
   rw[hp,e]
   clear e hp
   have e1:2 ^ (m+1+2)=2*2 ^ (m+2):=by rw[show m+1+2=(m+2)+1 by exact Nat.add_assoc ..,yB];lia
   have e2:2 ^ (m+2)=2*2 ^ (m+1):=by rw[show m+2=(m+1)+1 by rfl,yB];lia
   rw[e1,e2]
   generalize 2 ^ (m+1)=y
   rw[Nat.pow_two]
   simp only[Nat.mul_add,Nat.add_mul,My,Nat.mul_one]
   have a1:2*y*q*(2*y*q)=2*(2*y)*(y*(q*q)):=by
    simp only[GU,Nat.mul_left_comm,OW]
   have a2:2*(2*y)*q=2*y*q+2*y*q:=by
    rw[GU 2 (2*y) q];lia
   rw[a1,a2];lia
  ·have:2 ^ (m+1)*(q*q) % 2=0:=by
    rw[yB,OW (2 ^ m) 2,GU,Nat.mul_mod_right]
   lia
theorem CG(m x:Nat):∃ r,fk (2 ^ m) x=x+2 ^ m*r/\r % 2=1:=by
 obtain⟨q,e,o⟩:=Ac m
 have c:=yc (2 ^ m) x
 rw[e] at c
 refine⟨q*(4*x+1),?_,?_⟩
 ·have e2:2 ^ (m+2)=4*2 ^ m:=by rw[Nat.pow_add];lia
  rw[e2,Nat.add_mul,My,GU,GU] at c
  lia
 ·rw[Nat.mul_mod,o,My];lia
theorem Fy(m s e:Nat):∃ k,k+1<=2 ^ m/\fk k s % 2 ^ m=e % 2 ^ m:=by
 induction m with
 |zero=>exact⟨0,by decide,by simp[Nat.mod_one]⟩
 |succ m ih =>
  obtain⟨k,hk,h⟩:=ih
  have hp:2 ^ (m+1)=2 ^ m*2:=yB ..
  have X3:0<2 ^ m:=Nat.pow_pos (by decide)
  have key:∀ a:Nat,a % (2 ^ m*2)=a % 2 ^ m+2 ^ m*(a / 2 ^ m % 2):=fun a=>Nat.mod_mul
  by_cases c:fk k s / 2 ^ m % 2=e / 2 ^ m % 2
  ·exact⟨k,by walk_at "s4",by rw[hp,key,key,h,c]⟩
  ·refine⟨k+2 ^ m,by lia,?_⟩
   obtain⟨r,er,ro⟩:=CG m (fk k s)
   rw[Fx,er,hp,key,key,Nat.add_mul_mod_self_left,h,Nat.add_mul_div_left _ _ X3]
   have:(fk k s / 2 ^ m+r) % 2=e / 2 ^ m % 2:=by lia
   rw[this]
def qk(M:Nat)(p:Probe):Probe :=
 if p.more>0 then { p with j:=p.j+1,more:=p.more-1 } else
 { p with j:=(leap M p.i p.perturb).1,more:=runEnd M (leap M p.i p.perturb).1-(leap M p.i p.perturb).1,i:=(leap M p.i p.perturb).1,perturb:=(leap M p.i p.perturb).2 }
def ps(M:Nat)(h:Int):Nat->Probe
 |0=>{ j:=bits h % (M+1),more:=runEnd M (bits h % (M+1))-bits h % (M+1),i:=bits h % (M+1),perturb:=bits h,dummy:=none }
 |n+1=>qk M (ps M h n)
def J(M:Nat)(h:Int)(n:Nat):Nat:=(ps M h n).j
theorem uV(h:i<=M):i<=runEnd M i/\runEnd M i<=M/\runEnd M i<=i+9:=by
 unfold runEnd;split<;>lia
theorem De(M:Nat)(h:Int):∀ n,(ps M h n).i<=M/\(ps M h n).j+(ps M h n).more<=M/\(ps M h n).dummy=none/\(ps M h n).more<=9
 |0=>by
  have h0:bits h % (M+1)<=M:=OV (GW _ (OX _))
  have:=uV h0
  exact⟨h0,by show bits h % (M+1)+(runEnd M (bits h % (M+1))-bits h % (M+1))<=M;lia,rfl,by show runEnd M (bits h % (M+1))-bits h % (M+1)<=9;lia⟩
 |n+1=>by
  obtain⟨a,b,c,d⟩:=De M h n
  show(qk M (ps M h n)).i<=M/\_/\(qk M (ps M h n)).dummy=none/\_
  unfold qk
  by_cases hm:(ps M h n).more>0
  ·simp only[hm,if_true]
   show _/\(qk M (ps M h n)).j+(qk M (ps M h n)).more<=M/\_/\(qk M (ps M h n)).more<=9
   simp only[qk,hm,if_true]
   exact⟨a,by lia,c,by walk_at "s4"⟩
  ·simp only[hm,if_false]
   show _/\(qk M (ps M h n)).j+(qk M (ps M h n)).more<=M/\_/\(qk M (ps M h n)).more<=9
   simp only[qk,hm,if_false]
   have h0:(leap M (ps M h n).i (ps M h n).perturb).1<=M:=OV (GW _ (OX _))
   have:=uV h0
   exact⟨h0,by lia,c,by lia⟩
theorem TX(M:Nat)(h:Int)(n:Nat):J M h n<=M:=by
 have:=De M h n
 unfold J;lia
theorem yF(M:Nat)(h:Int)(n:Nat):∀ r,r<=(ps M h n).more->ps M h (n+r)={ ps M h n with j:=(ps M h n).j+r,more:=(ps M h n).more-r }
 |0,_=>rfl
 |r+1,hr=>by
  show qk M (ps M h (n+r))=_
  rw[yF M h n r (by exact kQ ‹_›)]
  unfold qk
  rw[if_pos (show(ps M h n).more-r>0 by lia)]
  simp only[Probe.mk.injEq,true_and,and_true]
  walk_at "s1"
def lp(M:Nat)(h:Int):Nat->Nat × Nat
 |0=>(bits h % (M+1),bits h)
 |k+1=>leap M (lp M h k).1 (lp M h k).2
def js(M:Nat)(h:Int):Nat->Nat
 |0=>0
 |k+1=>js M h k+(runEnd M (lp M h k).1-(lp M h k).1)+1
theorem CZ(M:Nat)(h:Int):∀ k,(lp M h k).1<=M
 |0=>OV (GW _ (OX _))
 |k+1=>OV (GW _ (OX _))
theorem wA(M:Nat)(h:Int):∀ k,js M h k<=10*k
 |0=>bS _
 |k+1=>by
  have:=wA M h k
  have:=uV (CZ M h k)
  show js M h k+_+1<=_;lia
theorem vm(M:Nat)(h:Int):∀ k,ps M h (js M h k)={ j:=(lp M h k).1,more:=runEnd M (lp M h k).1-(lp M h k).1,i:=(lp M h k).1,perturb:=(lp M h k).2,dummy:=none }
 |0=>rfl
 |k+1=>by
  have ih:=vm M h k
  have e:=yF M h (js M h k) (runEnd M (lp M h k).1-(lp M h k).1) (by rw[ih];exact bS _)
  show qk M (ps M h (js M h k+(runEnd M (lp M h k).1-(lp M h k).1)))=_
  rw[e,ih]
  unfold qk
  rw[if_neg (by simp)]
  rfl
theorem Bv(M:Nat)(h:Int):∀ k,(lp M h k).2=bits h / 32 ^ k
 |0=>by simp[lp]
 |k+1=>by
  show(lp M h k).2 / 32=_
  rw[Bv M h k,Nat.div_div_eq_div_mul,yB]
theorem BW(h:Int):bits h<2 ^ 64:=by
 unfold bits
 have h1:=MG h (show(2 ^ 64:Int)≠0 by decide)
 have h2:=O3 h (show(0:Int)<2 ^ 64 by decide)
 lia
theorem yP(M:Nat)(h:Int):∀ k,(lp M h (13+k)).1 % (M+1)=fk k (lp M h 13).1 % (M+1)
 |0=>rfl
 |k+1=>by
  have e:(lp M h (13+k)).2=0:=by
   rw[Bv]
   refine Nat.div_eq_of_lt (kP (BW h) ?_)
   exact jI (by decide:2 ^ 64<=32 ^ 13) (Nat.pow_le_pow_right (by decide) (by exact Rx _ _))
  show(leap M (lp M h (13+k)).1 (lp M h (13+k)).2).1 % (M+1)=_
  unfold leap
  rw[e]
  show((lp M h (13+k)).1*5+1+0 / 32) % (M+1) % (M+1)=(5*fk k (lp M h 13).1+1) % (M+1)
  rw[Nat.mod_mod,Nat.zero_div,Mk,Nat.add_mod,Nat.mul_mod,yP M h k,<- Nat.mul_mod,<- Nat.add_mod,OW]
theorem cover(hM:M+1=2 ^ m)(h:Int)(he:e<=M):∃ k,k<=M+13/\(lp M h k).1=e:=by
 obtain⟨k,hk,q⟩:=Fy m (lp M h 13).1 e
 rw[<- hM] at hk q
 refine⟨13+k,by lia,?_⟩
 have:=yP M h k
 rw[q] at this
 rwa[Nat.mod_eq_of_lt (GP (CZ M h _)),Nat.mod_eq_of_lt (GP he)] at this
theorem Gd(M:Nat)(h:Int)(k:Nat):J M h (js M h k)=(lp M h k).1:=by unfold J;rw[vm]
theorem vM(hM:M+1=2 ^ m)(h:Int)(iP:Nat->Bool)(he:e<=M)(hf:iP e=false):∃ n,n<=10*(M+13)/\iP (J M h n)=false/\∀ k<n,iP (J M h k)=true:=by
 obtain⟨k,hk,q⟩:=cover hM h he
 have hb:=wA M h k
 have hB:iP (J M h (js M h k))=false:=by rw[Gd,q];exact hf
 generalize js M h k=b at hb hB
 have go:∀ b,iP (J M h b)=false->∃ n,n<=b/\iP (J M h n)=false/\∀ k<n,iP (J M h k)=true:=by
  intro b
  induction b using Nat.strongRecOn with
  |ind b ih =>
   intro hB
   by_cases c:∃ k,k<b/\iP (J M h k)=false
   ·obtain⟨k,h1,h2⟩:=c
    obtain⟨n,a1,a2,a3⟩:=ih k h1 h2
    exact⟨n,by lia,a2,a3⟩
   ·refine⟨b,bS _,hB,fun k hk=>?_⟩
    cases z:iP (J M h k) with
    |true=>rfl
    |false=>exact absurd ⟨k,hk,z⟩ c
 obtain⟨n,a1,a2,a3⟩:=go b hB
 exact⟨n,by lia,a2,a3⟩
def Up(xs:Array Nat):Prop:=∀ i j:Nat,i<j->j<xs.size->xs.getD i 0<xs.getD j 0
theorem ud{xs:Array Nat}{i d d':Nat}(h:i<xs.size):xs.getD i d=xs.getD i d':=by simp[Array.getD,h]
theorem pQ{xs:Array Nat}(U:Up xs)(j:Nat):∀ (fuel lo hi:Nat),hi-lo<=fuel->lo<=hi->hi<=xs.size->(∀ i<lo,xs.getD i 0<j)->(∀ i,hi<=i->i<xs.size->j<=xs.getD i 0) ->
  below.go xs j fuel lo hi<=xs.size/\(∀ i<below.go xs j fuel lo hi,xs.getD i 0<j)/\(∀ i,below.go xs j fuel lo hi<=i->i<xs.size->j<=xs.getD i 0)
 |0,lo,hi,hf,h1,h2,h3,h4=>by
  obtain rfl:lo=hi:=by lia
  exact⟨h2,h3,h4⟩
 |fuel+1,lo,hi,hf,h1,h2,h3,h4=>by
  unfold below.go
  by_cases c:lo<hi
  ·rw[if_pos c]
   dsimp only
   have hm:(lo+hi) / 2<xs.size:=by lia
   by_cases d:xs.getD ((lo+hi) / 2) j<j
   ·rw[if_pos d]
    rw[ud (d':=0) hm] at d
    refine pQ U j fuel _ _ (by lia) (by lia) h2 (fun i iE=>?_) h4
    by_cases e:i=(lo+hi) / 2
    ·rw[e];exact d
    ·exact Ry (U i _ (by lia) hm) d
   ·rw[if_neg d]
    rw[ud (d':=0) hm] at d
    refine pQ U j fuel _ _ (by lia) (by lia) (by exact kQ ‹_›) h3 fun i iE hs=>?_
    by_cases e:i=(lo+hi) / 2
    ·rw[e];exact L5 ‹_›
    ·have:=U ((lo+hi) / 2) i (by lia) hs;lia
  ·rw[if_neg c]
   obtain rfl:lo=hi:=by lia
   exact⟨h2,h3,h4⟩
theorem bx(U:Up xs)(j:Nat):below xs j<=xs.size/\(∀ i<below xs j,xs.getD i 0<j)/\(∀ i,below xs j<=i->i<xs.size->j<=xs.getD i 0) :=
 pQ U j xs.size 0 xs.size (by lia) (by lia) (bS _) (fun i h=>absurd h (EA i)) fun i h1 h2=>by lia
theorem below_at(U:Up xs)(h:i<xs.size):below xs (xs.getD i 0)=i:=by
 obtain⟨a,b,c⟩:=bx U (xs.getD i 0)
 by_cases h1:below xs (xs.getD i 0)<i
 ·have:=c _ (bS _) (by lia)
  have:=U _ i h1 h
  lia
 ·by_cases h2:i<below xs (xs.getD i 0)
  ·have:=b i h2;lia
  ·lia
theorem wg(U:Up xs)(h:i<xs.size):below xs (xs.getD i 0+1)=i+1:=by
 obtain⟨a,b,c⟩:=bx U (xs.getD i 0+1)
 by_cases h1:below xs (xs.getD i 0+1)<i+1
 ·have:=c i (by lia) h;lia
 ·by_cases h2:i+1<below xs (xs.getD i 0+1)
  ·have:=b (i+1) h2
   have:=U i (i+1) (by lia) (by lia);lia
  ·lia
def taken(xs:Array Nat)(j:Nat):Bool:=xs[below xs j]? == some j
theorem yx{xs:Array Nat}{i j:Nat}(h:xs[i]? = some j):i<xs.size/\xs.getD i 0=j:=by
 obtain⟨h1,h2⟩:=GY.mp h
 exact⟨h1,by simp[Array.getD,h1,h2]⟩
theorem y_{xs:Array Nat}{i:Nat}(h:i<xs.size):xs[i]? = some (xs.getD i 0):=by simp[Array.getD,h]
theorem gk{xs:Array Nat}(U:Up xs){j:Nat}:taken xs j=true↔∃ i,i<xs.size/\xs.getD i 0=j:=by
 unfold taken
 rw[beq_iff_eq]
 constructor
 ·intro h;exact⟨_,yx h⟩
 ·rintro⟨i,h,rfl⟩
  rw[below_at U h]
  exact y_ h
theorem jJ{xs:Array Nat}(U:Up xs){j:Nat}(h:taken xs j=true):below xs j<xs.size/\xs.getD (below xs j) 0=j:=by
 unfold taken at h
 rw[beq_iff_eq] at h
 exact yx h
theorem cX(xs:Array α)(x:α)(h:p<=xs.size):(insertAt xs p x).size=xs.size+1:=by
 unfold insertAt
 simp
 lia
theorem Pt(xs:Array α)(x:α)(h:p<=xs.size)(i:Nat):(insertAt xs p x)[i]? = if i<p then xs[i]? else if i=p then some x else xs[i-1]? := by
 unfold insertAt
 have hs:((xs.extract 0 p).push x).size=p+1:=by simp;lia
 by_cases h1:i<p
 ·rw[if_pos h1,Array.getElem?_append_left (by lia),Array.getElem?_push,if_neg (by simp;lia),OZ]
  rw[if_pos (by lia)];simp
 ·rw[if_neg h1]
  by_cases h2:i=p
  ·rw[if_pos h2,Array.getElem?_append_left (by lia),Array.getElem?_push,if_pos (by simp;lia)]
  ·rw[if_neg h2,Array.getElem?_append_right (by lia),hs,OZ]
   by_cases h3:i-(p+1)<min xs.size xs.size-p
   ·rw[if_pos h3]
    congr 1;lia
   ·rw[if_neg h3,CB (by lia)]
theorem dC(h:p<=xs.size)(i:Nat):(insertAt xs p x).getD i 0=if i<p then xs.getD i 0 else if i=p then x else xs.getD (i-1) 0:=by
 have e:∀ (ys:Array Nat) (k:Nat),ys.getD k 0=ys[k]?.getD 0:=fun ys k=>by
  simp[Ct]
 rw[e,Pt xs x h]
 split
 ·rw[e]
 ·split
  ·rfl
  ·rw[e]
theorem BP(U:Up xs)(hj:taken xs j=false):Up (insertAt xs (below xs j) j):=by
 obtain⟨a,b,c⟩:=bx U j
 have ne:∀ i,i<xs.size->xs.getD i 0≠j:=fun i hi e=>by
  have:=(gk U (j:=j)).mpr ⟨i,hi,e⟩
  rw[hj] at this;cases this
 intro i k hik hk
 rw[cX xs j a] at hk
 rw[dC a,dC a]
 by_cases h1:k<below xs j
 ·rw[if_pos (by lia),if_pos h1];exact U i k hik (by lia)
 ·rw[if_neg h1]
  by_cases h2:k=below xs j
  ·rw[if_pos h2,if_pos (by lia)];exact b i (by lia)
  ·rw[if_neg h2]
   by_cases h3:i<below xs j
   ·rw[if_pos h3];exact U i (k-1) (by lia) (by lia)
   ·rw[if_neg h3]
    by_cases h4:i=below xs j
    ·rw[if_pos h4]
     have:=c (k-1) (by lia) (by lia)
     have:=ne (k-1) (by lia)
     lia
    ·rw[if_neg h4];exact U (i-1) (k-1) (by lia) (by lia)
theorem xF(U:Up xs)(hj:taken xs j=false):taken (insertAt xs (below xs j) j) k=(decide (k=j) || taken xs k):=by
 have a:=(bx U j).1
 have U':=BP U hj
 apply wx.mpr
 rw[gk U',Bool.or_eq_true,decide_eq_true_eq,gk U]
 rw[cX xs j a]
 constructor
 ·rintro⟨i,hi,e⟩
  rw[dC a] at e
  by_cases h1:i<below xs j
  ·rw[if_pos h1] at e;exact .inr ⟨i,by lia,e⟩
  ·rw[if_neg h1] at e
   by_cases h2:i=below xs j
   ·rw[if_pos h2] at e;exact .inl e.symm
   ·rw[if_neg h2] at e;exact .inr ⟨i-1,by lia,e⟩
 ·rintro(rfl|⟨i,hi,e⟩)
  ·exact⟨below xs k,by lia,by rw[dC a,if_neg (by lia),if_pos rfl]⟩
  ·by_cases h1:i<below xs j
   ·exact⟨i,by lia,by rw[dC a,if_pos h1];exact e⟩
   ·exact⟨i+1,by lia,by rw[dC a,if_neg (by lia),if_neg (by lia)];exact e⟩
def Reach(M:Nat)(place:Array Nat)(h:Int)(j:Nat):Prop:=∃ n,n<=10*(M+13)/\J M h n=j/\∀ k<n,taken place (J M h k)=true
structure TI{α:Type}(t:SetTable)(es:Array (Int × α)):Prop where
 pw:∃ m,t.mask+1=2 ^ m/\3<=m
 sz:t.place.size=es.size
 up:Up t.place
 le:∀ i,i<t.place.size->t.place.getD i 0<=t.mask
 dm:t.dummies = #[]
 few:es.size*5<t.mask*3
 path:∀ i h x,es[i]? = some (h,x)->Reach t.mask t.place h (t.place.getD i 0)
section
variable {α:Type}{t:SetTable}{es:Array (Int × α)}
theorem TI.slot(T:TI t es)(j:Nat):t.slot j=if taken t.place j then .live (below t.place j) else .empty:=by
 unfold SetTable.slot taken
 dsimp only
 split
 ·rfl
 ·have:has t.dummies j=false:=by rw[T.dm];rfl
  rw[this];rfl
theorem TI.fits(T:TI t es):t.fits es.size=true:=by
 have:=T.few
 simp only[SetTable.fits,fill,T.dm,T.sz,kH,beq_iff_eq,decide_eq_true_eq,true_and]
 simp;lia
theorem TI.odd(T:TI t es):t.gaveWay=false:=by
 obtain⟨m,h,h3⟩:=T.pw
 unfold SetTable.gaveWay
 rw[beq_eq_false_iff_ne]
 have:2 ^ m=2*2 ^ (m-1):=by
  rw[show m=(m-1)+1 by lia,yB];simp;lia
 lia
theorem TI.free(T:TI t es):∃ e,e<=t.mask/\taken t.place e=false:=by
 have hf:=T.few
 have hs:=T.sz
 by_cases c:∃ e,e<=t.mask/\taken t.place e=false
 ·exact c
 ·exfalso
  have all:∀ e,e<=t.mask->taken t.place e=true:=fun e he=>by
   cases z:taken t.place e with
   |true=>rfl
   |false=>exact absurd ⟨e,he,z⟩ c
  -- slot e stands at place at most e
  have go:∀ e,e<=t.mask->e<=below t.place e:=by
   intro e
   induction e with
   |zero=>intro _;exact eP _
   |succ e ih =>
    intro he
    have h1:=jJ T.up (all e (by exact kQ ‹_›))
    have h2:=jJ T.up (all (e+1) he)
    have:=ih (by exact kQ ‹_›)
    obtain⟨_,b,c⟩:=bx T.up (e+1)
    by_cases z:below t.place e<below t.place (e+1)
    ·walk_at "s1"
    ·have:=c (below t.place e) (by exact L5 ‹_›) h1.1
     lia
  have:=go t.mask (bS _)
  have:=(jJ T.up (all t.mask (bS _))).1
  lia
theorem TI.put(T:TI t es)(hj:j<=t.mask)(hn:taken t.place j=false)(hr:Reach t.mask t.place h j)(ht:t'.mask=t.mask)(hp:t'.place=insertAt t.place (below t.place j) j)(hd:t'.dummies = #[])
  (hf:(es.size+1)*5<t.mask*3):TI t' (insertAt es (below t.place j) (h,x)):=by
 have a:=(bx T.up j).1
 have a':below t.place j<=es.size:=by rw[<- T.sz];exact a
 refine⟨by rw[ht];exact T.pw,by rw[hp,cX _ _ a,cX _ _ a',T.sz],by rw[hp];exact BP T.up hn,fun i hi=>?_,hd,by rw[cX _ _ a',ht];exact hf,fun i g y e=>?_⟩
 ·rw[hp,cX _ _ a] at hi
  rw[hp,dC a,ht]
  split
  ·exact T.le i (by lia)
  ·split
   ·exact hj
   ·exact T.le (i-1) (by lia)
 ·have mono:∀ {g:Int} {k:Nat},Reach t.mask t.place g k->Reach t'.mask t'.place g k:=fun {g k} ⟨n,h1,h2,h3⟩=>⟨n,by rw[ht];exact h1,by rw[ht];exact h2,fun q hq=>by
   rw[hp,ht,xF T.up hn,h3 q hq,Bool.or_true]⟩
  rw[Pt es _ a'] at e
  rw[hp,dC a,<- hp]
  by_cases h1:i<below t.place j
  ·rw[if_pos h1] at e ⊢
   exact mono (T.path i g y e)
  ·rw[if_neg h1] at e ⊢
   by_cases h2:i=below t.place j
   ·rw[if_pos h2] at e ⊢
    cases e
    exact mono hr
   ·rw[if_neg h2] at e ⊢
    exact mono (T.path (i-1) g y e)
end
theorem fX[DecidableEq α]:∀ {l m:List α},l.Nodup->(∀ x∈l,x∈m)->l.length<=m.length
 |[],_,_,_=>eP _
 |x :: l,m,nd,h=>by
  rw[kC] at nd
  have hx:=h x df
  have:=fX (l:=l) (m:=m.erase x) nd.2 fun y hy=>(List.mem_erase_of_ne (fun e=>nd.1 (by rw[<- e];exact hy))).mpr (h y (de _ hy))
  rw[List.length_erase_of_mem hx] at this
  have:0<m.length:=List.length_pos_of_mem hx
  simp only[oy];lia
def iP(owner:Array (Option Nat))(j:Nat):Bool:=(owner.getD j (some 0)).isSome
theorem rM(h:Int)(owner:Array (Option Nat)):∀ (fuel k:Nat),(∀ q<js M h k,iP owner (J M h q)=true)->(∃ K,k<=K/\K<k+fuel/\K<=M+13/\iP owner (lp M h K).1=false) ->
  ∃ j n,layClean.free M owner fuel (lp M h k).1 (lp M h k).2=some j/\J M h n=j/\n<=10*(M+13)/\iP owner j=false/\∀ q<n,iP owner (J M h q)=true
 |0,k,_,⟨K,h1,h2,_⟩=>by lia
 |fuel+1,k,hq,⟨K,h1,h2,h3,h4⟩=>by
  have TY:∀ r,r<=runEnd M (lp M h k).1-(lp M h k).1->J M h (js M h k+r)=(lp M h k).1+r:=fun r hr=>by
   unfold J
   rw[yF M h (js M h k) r (by rw[vm];exact hr),vm]
  have hle:=uV (CZ M h k)
  have e:∀ r,(owner.getD ((lp M h k).1+r) (some 0)).isNone = !iP owner ((lp M h k).1+r):=fun r=>by
   unfold iP;cases owner.getD ((lp M h k).1+r) (some 0)<;>rfl
  unfold layClean.free
  cases hf:(List.range (runEnd M (lp M h k).1+1-(lp M h k).1)).find? fun r=>(owner.getD ((lp M h k).1+r) (some 0)).isNone with
  |some r =>
   obtain⟨a1,a2,a3⟩:=List.find?_range_eq_some.mp hf
   have a2:r<runEnd M (lp M h k).1+1-(lp M h k).1:=by simpa using a2
   rw[e] at a1
   have a1:iP owner ((lp M h k).1+r)=false:=by simpa using a1
   have occs:∀ q<js M h k+r,iP owner (J M h q)=true:=fun q Qw=>by
    by_cases z:q<js M h k
    ·exact hq q z
    ·have:=a3 (q-js M h k) (by lia)
     rw[e] at this
     have hj:=TY (q-js M h k) (by lia)
     rw[show js M h k+(q-js M h k)=q by lia] at hj
     rw[hj]
     simpa using this
   refine⟨_,js M h k+r,rfl,TY r (by lia),?_,a1,occs⟩
   have hb:=wA M h K
   by_cases z:js M h k+r<=js M h K
   ·lia
   ·have:=occs (js M h K) (by lia)
    rw[Gd,h4] at this;cases this
  |none =>
   have hn:=List.find?_eq_none.mp hf
   have X4:∀ r,r<=runEnd M (lp M h k).1-(lp M h k).1->iP owner ((lp M h k).1+r)=true:=fun r hr=>by
    have:=hn r (by simp;lia)
    rw[e] at this
    simpa using this
   dsimp only
   have hK:K≠k:=fun z=>by
    subst z
    have:=X4 0 (eP _)
    rw[Mk,h4] at this;cases this
   refine rM h owner fuel (k+1) (fun q Qw=>?_) ⟨K,by lia,by lia,h3,h4⟩
   by_cases z:q<js M h k
   ·exact hq q z
   ·have Qw:q<js M h k+(runEnd M (lp M h k).1-(lp M h k).1)+1:=Qw
    have hj:=TY (q-js M h k) (by lia)
    rw[show js M h k+(q-js M h k)=q by lia] at hj
    rw[hj]
    exact X4 _ (by lia)
structure OI(M:Nat)(hs:List Int)(owner:Array (Option Nat)):Prop where
 sz:owner.size=M+1
 lt:∀ j v:Nat,owner[j]? = some (some v)->v<hs.length
 inj:∀ j j' v:Nat,owner[j]? = some (some v)->owner[j']? = some (some v)->j=j'
 all:∀ v:Nat,v<hs.length->∃ j:Nat,owner[j]? = some (some v)
 path:∀ j v:Nat,owner[j]? = some (some v)->∃ n,n<=10*(M+13)/\J M (hs.getD v 0) n=j/\∀ q<n,iP owner (J M (hs.getD v 0) q)=true
theorem tU(h:j<owner.size):iP owner j=true↔∃ v,owner[j]? = some (some v):=by
 unfold iP
 rw[sT h]
 simp only[Array.getD,h,dite_true,Option.some.injEq]
 cases hh:owner[j] with
 |none =>
  have:owner.getInternal j h=none:=hh
  rw[this];simp
 |some v =>
  have:owner.getInternal j h=some v:=hh
  rw[this];simp
theorem OI.free(O:OI M hs owner)(hl:hs.length<=M):∃ e,e<=M/\iP owner e=false:=by
 by_cases c:∃ e,e<=M/\iP owner e=false
 ·exact c
 ·exfalso
  have all:∀ e,e<=M->∃ v,owner[e]? = some (some v):=fun e he=>by
   refine(tU (by rw[O.sz];lia)).mp ?_
   cases z:iP owner e with
   |true=>rfl
   |false=>exact absurd ⟨e,he,z⟩ c
  have nd:((List.range (M+1)).map fun j=>(owner.getD j none).getD 0).Nodup:=by
   rw[Rc,qq]
   refine List.Pairwise.imp_of_mem ?_ (Rc.mp List.nodup_range)
   intro a b ha hb fI z
   obtain⟨va,ea⟩:=all a (by have:=pe.mp ha;lia)
   obtain⟨vb,eb⟩:=all b (by have:=pe.mp hb;lia)
   rw[Ct,Ct,ea,eb] at z
   have z:va=vb:=z
   subst z
   exact fI (O.inj _ _ _ ea eb)
  have:=fX (m:=List.range hs.length) nd fun x hx=>by
   obtain⟨j,hj,rfl⟩:=dk.mp hx
   obtain⟨v,e⟩:=all j (by have:=pe.mp hj;lia)
   rw[Ct,e]
   exact pe.mpr (O.lt _ _ e)
  simp at this
  lia
theorem OI.lay(hM:M+1=2 ^ m)(O:OI M hs owner)(hl:hs.length<=M)(h:Int) :
  ∃ j,layClean.free M owner (turns M) (bits h % (M+1)) (bits h)=some j/\OI M (hs++[h]) (owner.setIfInBounds j (some hs.length)):=by
 obtain⟨e,he,hf⟩:=O.free hl
 obtain⟨K,hK,hKe⟩:=cover hM h he
 obtain⟨j,n,e1,e2,e3,e4,e5⟩:=rM h owner (turns M) 0 (fun q hq=>absurd hq (EA q)) ⟨K,eP _,by unfold turns;lia,hK,by rw[hKe];exact hf⟩
 refine⟨j,e1,?_⟩
 have hj:j<owner.size:=by rw[O.sz,<- e2];exact GP (TX M h n)
 have get:∀ i,(owner.setIfInBounds j (some hs.length))[i]? = if j=i then some (some hs.length) else owner[i]? := fun i=>by
  rw[Array.getElem?_setIfInBounds]
  by_cases z:j=i
  ·subst z;simp[hj]
  ·simp[z]
 have oc:∀ i,iP owner i=true->iP (owner.setIfInBounds j (some hs.length)) i=true:=fun i hi=>by
  unfold iP at hi ⊢
  rw[Ct] at hi ⊢
  rw[get]
  split
  ·rfl
  ·exact hi
 have fI:∀ v,owner[j]?≠some (some v):=fun v z=>by
  have:=(tU hj).mpr ⟨v,z⟩
  rw[e4] at this;cases this
 refine⟨by rw[Array.size_setIfInBounds];exact O.sz,fun i v z=>?_,fun i i' v z z'=>?_,fun v hv=>?_,fun i v z=>?_⟩
 ·rw[get] at z
  split at z
  ·cases z;simp
  ·have:=O.lt i v z;simp;lia
 ·rw[get] at z z'
  split at z
  ·cases z
   split at z'
   ·lia
   ·exact absurd (O.lt _ _ z') (pf _)
  ·split at z'
   ·cases z'
    exact absurd (O.lt _ _ z) (pf _)
   ·exact O.inj i i' v z z'
 ·simp at hv
  by_cases c:v=hs.length
  ·exact⟨j,by rw[get,if_pos rfl,c]⟩
  ·obtain⟨i,hi⟩:=O.all v (by lia)
   refine⟨i,?_⟩
   rw[get,if_neg (fun z=>fI v (by rw[z];exact hi))]
   exact hi
 ·rw[get] at z
  split at z
  ·rename_i hji
   cases z
   refine⟨n,e3,?_,fun q hq=>oc _ ?_⟩
   ·rw[LJ,AI (bS _)]
    simp[e2,hji]
   ·have:=e5 q hq
    rw[LJ,AI (bS _)]
    simpa using this
  ·have hv:=O.lt i v z
   obtain⟨n',a1,a2,a3⟩:=O.path i v z
   have eg:(hs++[h]).getD v 0=hs.getD v 0:=by
    rw[LJ,LJ,FY hv]
   rw[eg]
   exact⟨n',a1,a2,fun q hq=>oc _ (a3 q hq)⟩
theorem OI.nil(M:Nat):OI M [] (Array.replicate (M+1) none):=by
 have no:∀ (j v:Nat),¬ (Array.replicate (M+1) (none:Option Nat))[j]? = some (some v):=fun j v z=>by
  rw[Array.getElem?_replicate] at z
  split at z<;>cases z
 exact⟨by simp,fun j v z=>absurd z (no j v),fun j j' v z _=>absurd z (no j v),fun v hv=>absurd hv (EA v),fun j v z=>absurd z (no j v)⟩
theorem Dc(hM:M+1=2 ^ m)(hs:Array Int)(hl:hs.size<=M):∃ owner,layClean M hs=some owner/\OI M hs.toList owner:=by
 have go:∀ (l pre:List Int) (owner:Array (Option Nat)),OI M pre owner->pre.length+l.length<=M->∃ X5,l.foldl (fun acc h=>do
   let (owner,k) ← acc
   let j ← layClean.free M owner (turns M) (bits h % (M+1)) (bits h)
   pure (owner.setIfInBounds j (some k),k+1)) (some (owner,pre.length))=some (X5,pre.length+l.length)/\OI M (pre++l) X5:=by
  intro l
  induction l with
  |nil=>intro pre owner O _;exact⟨owner,rfl,by rw[mr];exact O⟩
  |cons h l ih =>
   intro pre owner O hz
   rw[oy] at hz
   obtain⟨j,e,O'⟩:=O.lay hM (by lia) h
   obtain⟨o2,e2,O2⟩:=ih (pre++[h]) _ O' (by simp;lia)
   refine⟨o2,?_,by rw[wq] at O2;exact O2⟩
   rw[List.foldl_cons]
   have:(do
    let (owner,k) ← (some (owner,pre.length):Option (Array (Option Nat) × Nat))
    let j ← layClean.free M owner (turns M) (bits h % (M+1)) (bits h)
    pure (owner.setIfInBounds j (some k),k+1))=some (owner.setIfInBounds j (some pre.length),(pre++[h]).length):=by
    simp[e]
   rw[this,e2]
   simp;lia
 obtain⟨o,e,O⟩:=go hs.toList [] _ (OI.nil M) (by simpa using hl)
 refine⟨o,?_,by simpa using O⟩
 unfold layClean
 rw[<- Array.foldl_toList]
 have e':=e
 simp only[OO] at e'
 rw[e']
 rfl
theorem jq:∀ (fuel a:Nat),3<=a->n<2 ^ (a+fuel)->∃ b,3<=b/\sizeAbove.go n fuel (2 ^ a)=2 ^ b/\n<2 ^ b/\(2 ^ b<=2*n\/b=a)
 |0,a,ha,h=>⟨a,ha,rfl,by simpa using h,.inr rfl⟩
 |fuel+1,a,ha,h=>by
  unfold sizeAbove.go
  by_cases c:2 ^ a<=n
  ·rw[if_pos c]
   obtain⟨b,h1,h2,h3,h4⟩:=jq fuel (a+1) (by lia) (by rw[show a+1+fuel=a+(fuel+1) by lia];exact h)
   refine⟨b,h1,by rw[yB] at h2;exact h2,h3,?_⟩
   rcases h4 with h4|h4
   ·exact .inl h4
   ·left
    rw[h4,yB];lia
  ·rw[if_neg c]
   exact⟨a,ha,rfl,by lia,.inr rfl⟩
theorem mF(h:n<2 ^ 60):∃ b,3<=b/\sizeAbove n=2 ^ b/\n<2 ^ b/\(2 ^ b<=2*n\/b=3) :=
 jq 64 3 (bS _) (Ry h (by decide))
section
variable {α:Type}
def bK(M:Nat)(owner:Array (Option Nat)):List (Nat × Nat):=(List.range (M+1)).filterMap fun j=>(owner.getD j none).map (j,·)
theorem eN:p∈bK M owner↔p.1<M+1/\owner[p.1]? = some (some p.2):=by
 unfold bK
 rw[Rn]
 constructor
 ·rintro⟨j,hj,e⟩
  rw[Ct] at e
  cases h:owner[j]? with
  |none=>rw[h] at e;cases e
  |some o =>
   rw[h] at e
   cases o with
   |none=>cases e
   |some v =>
    cases e
    exact⟨pe.mp hj,h⟩
 ·rintro⟨h1,h2⟩
  exact⟨p.1,pe.mpr h1,by rw[Ct,h2];rfl⟩
theorem sO(M:Nat)(owner:Array (Option Nat)):((bK M owner).map (·.1)).Pairwise (· < ·):=by
 unfold bK
 rw[qq,List.pairwise_filterMap]
 refine List.Pairwise.imp ?_ List.pairwise_lt_range
 intro a b uk p hp q hq
 cases h1:owner.getD a none with
 |none=>rw[h1] at hp;cases hp
 |some x =>
  cases h2:owner.getD b none with
  |none=>rw[h2] at hq;cases hq
  |some y =>
   rw[h1] at hp;rw[h2] at hq
   cases hp;cases hq
   exact uk
theorem uE{l:List Nat}(h:l.Pairwise (· < ·)):Up l.toArray:=fun i j kM hj=>by
 have hj:j<l.length:=by simpa using hj
 have:=Rg.mp h i j (by walk_at "s1") hj kM
 have e:∀ k (hk:k<l.length),l.toArray.getD k 0=l[k]:=fun k hk=>by simp[Array.getD,hk]
 rw[e i (by walk_at "s1"),e j hj]
 exact this
theorem uR{β:Type}{f:α->Option β}:∀ {l:List α},(∀ x∈l,(f x).isSome=true)->(l.filterMap f).length=l.length/\∀ i:Nat,(l.filterMap f)[i]? = (l[i]?).bind f
 |[],_=>⟨rfl,fun i=>by simp⟩
 |x :: l,h=>by
  obtain⟨a,b⟩:=uR (f:=f) (l:=l) fun y hy=>h y (de _ hy)
  have hx:=h x df
  cases e:f x with
  |none=>rw[e] at hx;cases hx
  |some y =>
   rw[yn,e]
   refine⟨by simp[a],fun i=>?_⟩
   cases i with
   |zero=>simp[e]
   |succ i=>simpa using b i
theorem vq(es:Array (Int × α)):(List.range es.size).filterMap (fun i=>es[i]?)=es.toList:=by
 apply D8
 intro i
 rw[(uR (l:=List.range es.size) fun x hx=>by
  have:=pe.mp hx
  simp[this]).2 i]
 by_cases h:i<es.size
 ·rw[List.getElem?_range h,mw];rfl
 ·rw[wo (by simpa using h),wo (by simpa using h)];rfl
theorem CP{M m finger moves:Nat}{led plain:Bool}(hM:M+1=2 ^ m)(hm:3<=m){es:Array (Int × α)}(hf:es.size*5<M*3) :
  ∃ t order,laid M finger moves led plain (es.map (·.1))=some (t,order)/\t.plain=plain/\t.led=led/\t.mask=M/\TI t (order.filterMap fun i=>es[i]?)/\(order.filterMap fun i=>es[i]?).size=es.size/\(order.filterMap fun i=>es[i]?).toList.Perm es.toList/\order.toList.Perm (List.range es.size):=by
 obtain⟨owner,e,O⟩:=Dc hM (es.map (·.1)) (by rw[Array.size_map];lia)
 have hn:(es.map (·.1)).toList.length=es.size:=by simp
 refine⟨{ mask:=M,place:=((bK M owner).map (·.1)).toArray,dummies:=#[],finger,led,moves,plain },((bK M owner).map (·.2)).toArray,?_,rfl,rfl,rfl,?_⟩
 ·unfold laid
  rw[e];rfl
 have X6:∀ p∈bK M owner,p.2<es.size:=fun p hp=>by
  have:=O.lt _ _ (eN.mp hp).2
  lia
 have nd:((bK M owner).map (·.2)).Nodup:=by
  rw[Rc,qq]
  have:=sO M owner
  rw[qq] at this
  refine List.Pairwise.imp_of_mem ?_ this
  intro p q hp hq dr z
  have:=O.inj _ _ _ (eN.mp hp).2 (by rw[z];exact(eN.mp hq).2)
  lia
 have pm:((bK M owner).map (·.2)).Perm (List.range es.size):=by
  refine(List.perm_ext_iff_of_nodup nd List.nodup_range).mpr fun v=>⟨fun hv=>?_,fun hv=>?_⟩
  ·obtain⟨p,hp,rfl⟩:=dk.mp hv
   exact pe.mpr (X6 p hp)
  ·obtain⟨j,hj⟩:=O.all v (by rw[hn];exact pe.mp hv)
   have X7:=(GY.mp hj).1
   rw[O.sz] at X7
   exact dk.mpr ⟨(j,v),eN.mpr ⟨X7,hj⟩,rfl⟩
 have hlen:(bK M owner).length=es.size:=by
  have:=pm.length_eq
  simpa using this
 have Kb:(((bK M owner).map (·.2)).toArray.filterMap fun i=>es[i]?).toList=(bK M owner).filterMap fun p=>es[p.2]? := by
  rw[Array.toList_filterMap,Ro];rfl
 obtain⟨f1,f2⟩:=uR (l:=bK M owner) (f:=fun p=>es[p.2]?) fun p hp=>by simp[X6 p hp]
 have eo':∀ i:Nat,(((bK M owner).map (·.2)).toArray.filterMap fun i=>es[i]?)[i]? = ((bK M owner)[i]?).bind fun p=>es[p.2]? := fun i=>by
  rw[<- mw,Kb];exact f2 i
 have hsz:(((bK M owner).map (·.2)).toArray.filterMap fun i=>es[i]?).size=es.size:=by
  rw[<- vi,Kb,f1,hlen]
 have fi:∀ i:Nat,∀ p,(bK M owner)[i]? = some p->((bK M owner).map (·.1)).toArray.getD i 0=p.1:=fun i p hp=>by
  rw[Ct]
  simp[hp]
 have tk:∀ j,iP owner j=true->j<=M->taken ((bK M owner).map (·.1)).toArray j=true:=fun j hj hM'=>by
  obtain⟨v,hv⟩:=(tU (by rw[O.sz];exact GP ‹_›)).mp hj
  obtain⟨i,hi⟩:=List.mem_iff_getElem?.mp (eN.mpr (show((j,v):Nat × Nat).1<M+1/\owner[((j,v):Nat × Nat).1]? = some (some ((j,v):Nat × Nat).2) from⟨by show j<M+1;exact GP ‹_›,hv⟩))
  exact(gk (uE (sO M owner))).mpr ⟨i,by
   have:=(lh.mp hi).1
   simpa using this,fi i _ hi⟩
 refine⟨?_,hsz,?_,by simpa using pm⟩
 ·refine⟨⟨m,hM,hm⟩,?_,uE (sO M owner),fun i hi=>?_,rfl,by rw[hsz];exact hf,fun i h x hx=>?_⟩
  ·rw[hsz];simp[hlen]
  ·have hi:i<(bK M owner).length:=by simpa using hi
   have e1:=ve hi
   show((bK M owner).map (·.1)).toArray.getD i 0<=M
   rw[fi i _ e1]
   have:=(eN.mp (pd e1)).1
   lia
  ·rw[eo'] at hx
   cases hp:(bK M owner)[i]? with
   |none=>rw[hp] at hx;cases hx
   |some p =>
    rw[hp] at hx
    have hx:es[p.2]? = some (h,x):=hx
    have T1:=eN.mp (pd hp)
    obtain⟨n,a1,a2,a3⟩:=O.path _ _ T1.2
    have hh:(es.map (·.1)).toList.getD p.2 0=h:=by
     rw[LJ,mw,Array.getElem?_map,hx];rfl
    rw[hh] at a2 a3
    refine⟨n,a1,?_,fun q hq=>tk _ (a3 q hq) (TX M h q)⟩
    show J M h n=((bK M owner).map (·.1)).toArray.getD i 0
    rw[fi i _ hp];exact a2
 ·rw[Kb]
  have:=pm.filterMap fun i=>es[i]?
  rw[vq,Ro] at this
  exact this
theorem yE{t:SetTable}{es:Array (Int × α)}(hn:es.size<=10000) :
  ∃ t' order,t.relaid (es.map (·.1)) (grown es.size)=some (t',order)/\t'.plain=t.plain/\t'.led=t.led/\sizeAbove (grown es.size)<=16777216/\(es.size<=1000->t'.mask<=8191)/\TI t' (order.filterMap fun i=>es[i]?)/\(order.filterMap fun i=>es[i]?).size=es.size/\(order.filterMap fun i=>es[i]?).toList.Perm es.toList/\order.toList.Perm (List.range es.size):=by
 have hg:grown es.size=es.size*4:=by unfold grown;rw[if_neg (by lia)]
 obtain⟨b,h3,e,dr,hle⟩:=mF (n:=es.size*4) (by lia)
 have h8:8<=2 ^ b:=Nat.pow_le_pow_right (n:=2) (by decide) h3
 unfold relaid
 rw[hg,e]
 obtain⟨t',order,q1,q2,q3,qm,q4⟩:=CP (M:=2 ^ b-1) (m:=b) (finger:=t.finger) (moves:=t.movedTo (2 ^ b-1)) (led:=t.led) (plain:=t.plain) (by lia) h3 (es:=es) (by lia)
 refine⟨t',order,q1,q2,q3,?_,fun hz=>?_,q4⟩
 ·rcases hle with hle|rfl
  ·lia
  ·decide
 ·rw[qm]
  rcases hle with hle|rfl
  ·lia
  ·decide
end
section
variable {α:Type}{t:SetTable}{es:Array (Int × α)}
theorem uY(T:TI t es)(hashAt:Nat->Int)(h:Int):∀ (fuel n:Nat),(∃ N,n<=N/\N<n+fuel/\taken t.place (J t.mask h N)=false) ->
  ∃ n',n<=n'/\n'<n+fuel/\(∀ q,n<=q->q<n'->taken t.place (J t.mask h q)=true/\hashAt (below t.place (J t.mask h q))≠h) /\
   ((taken t.place (J t.mask h n')=false/\probe.go t hashAt h fuel (ps t.mask h n)=some (.empty (J t.mask h n') none)) \/
    (taken t.place (J t.mask h n')=true/\hashAt (below t.place (J t.mask h n'))=h/\probe.go t hashAt h fuel (ps t.mask h n)=some (.candidate (J t.mask h n') (below t.place (J t.mask h n')) (ps t.mask h (n'+1)))))
 |0,n,⟨N,h1,h2,_⟩=>by lia
 |fuel+1,n,⟨N,h1,h2,h3⟩=>by
  unfold probe.go
  have hs:=T.slot (J t.mask h n)
  have hd:=(De t.mask h n).2.2.1
  by_cases c:taken t.place (J t.mask h n)=true
  ·rw[if_pos c] at hs
   have hs:t.slot (ps t.mask h n).j=.live (below t.place (J t.mask h n)):=hs
   rw[hs]
   dsimp only
   by_cases e:hashAt (below t.place (J t.mask h n))=h
   ·rw[if_pos (by simpa using e)]
    exact⟨n,bS _,by lia,fun q a b=>by lia,.inr ⟨c,e,rfl⟩⟩
   ·rw[if_neg (by simpa using e)]
    have hN:N≠n:=fun z=>by rw[z,c] at h3;cases h3
    obtain⟨n',a1,a2,a3,a4⟩:=uY T hashAt h fuel (n+1) ⟨N,by lia,by lia,h3⟩
    refine⟨n',by exact kQ ‹_›,by lia,fun q b1 b2=>?_,a4⟩
    by_cases z:q=n
    ·subst z;exact⟨c,e⟩
    ·exact a3 q (by lia) b2
  ·have c:taken t.place (J t.mask h n)=false:=by simpa using c
   rw[if_neg (by rw[c];exact ja)] at hs
   have hs:t.slot (ps t.mask h n).j=.empty:=hs
   rw[hs]
   dsimp only
   rw[hd]
   exact⟨n,bS _,by lia,fun q a b=>by lia,.inl ⟨c,rfl⟩⟩
end
section
variable {prog:Program}{w:World}{K:Type}[DecidableEq K]{knd:KeyKind prog w K}
abbrev aQ(knd:KeyKind prog w K)(k:List K):Int:=tupleKeyHash knd k
def zf(knd:KeyKind prog w K)(p:List K × Addr):Int × Value:=(aQ knd p.1,.ref p.2)
structure FI(knd:KeyKind prog w K)(h:Heap)(a:Addr)(ks:List (List K × Addr)):Prop where
 ob:∃ o es ep t,h.get? a=some o/\o.ExactSet/\o.data=.set es ep t/\TI t es/\t.mask<=8191/\t.led=(!w.params.followText "set-order")/\es.toList=ks.map (zf knd)
 nd:(ks.map (·.1)).Nodup
 is:∀ p∈ks,IsTupleKey knd h p.1 p.2
variable {A:Around}{E:Value->Shared->Prop}{s:Shared}
theorem lG(hk:IsTupleKey knd s.heap k a)(h:Q false s):wpAny (model prog w) A (ofAClassStatement 8 (.ref a)) Q E s:=by
 have hT:=hk.typeIs
 obtain⟨o,items,n,ho,_,hd,hi⟩:=hk
 unfold ofAClassStatement
 refine ah (wpAny_typeOf hT ?_)
 dsimp only
 refine ah ?_
 refine aI ?_
 simp only[OY,gL,if_false]
 refine ah (wpAny_seqItems ho hd ?_)
 dsimp only
 refine ah ?_
 rw[<- Array.forIn_toList]
 refine wpAny_forIn_list _ (fun rest r s'=>r.1=none/\s'=s/\∀ v∈rest,carriedByValue v=true) _ ?_ ?_ _ _ ⟨rfl,rfl,hi.byValue⟩
 ·rintro v rest r s' ⟨hr,rfl,nE⟩
  have hv:=nE v df
  have e:ofAClassStatement 7 v=pure false:=by
   cases v with
   |ref a=>cases hv
   |_=>rfl
  rw[e]
  refine ah (aI ?_)
  simp only[gL,if_false]
  exact aI ⟨rfl,rfl,fun u BI=>nE u (de _ BI)⟩
 ·rintro⟨r1,r2⟩ s' ⟨hr,rfl,_⟩
  simp only at hr
  subst hr
  exact aI h
theorem jn(hk:IsTupleKey knd s.heap k a)(rL:∀ k v,knd.is k v=true->v.scannable=true)(h:∀ b,Q b s):wpAny (model prog w) A (hashByValue 8 (.ref a)) Q E s:=by
 have hT:=hk.typeIs
 obtain⟨o,items,n,ho,_,hd,hi⟩:=hk
 have eq':∀ v∈items.toList,v.scannable=true:=by
  clear ho hd
  generalize items.toList=l at hi
  induction hi with
  |nil=>intro v hv;cases hv
  |cons h1 _ ih =>
   intro v hv
   rcases dA.mp hv with rfl|hv
   ·exact rL _ _ h1
   ·exact ih v hv
 unfold hashByValue
 refine ah (wpAny_specialOf hT F.slot_tuple_hash.lookup ?_)
 dsimp only
 refine ah (wpAny_seqItems ho hd ?_)
 dsimp only[Option.getD]
 refine ah ?_
 rw[<- Array.forIn_toList]
 refine wpAny_forIn_list _ (fun rest r s'=>s'=s/\∀ v∈rest,v.scannable=true) _ ?_ ?_ _ _ ⟨rfl,eq'⟩
 ·rintro v rest r s' ⟨rfl,nE⟩
  rw[hashByValue_scannable 7 (nE v df)]
  refine ah (aI ?_)
  split
  ·exact aI (aI (h _))
  ·exact aI ⟨rfl,fun u BI=>nE u (de _ BI)⟩
 ·rintro⟨r1,r2⟩ s' ⟨rfl,_⟩
  cases r1 with
  |none=>exact aI (h true)
  |some b=>exact aI (h b)
end
local macro_rules | `(tactic| walk_at $s:str) => do
 let x:=s.getString
 if x.startsWith "PV" then `(tactic| exact $(Lean.mkIdent (.str (.str (.num (.str (.str (.str .anonymous "_private") "PySem") "SetOps") 0) "PySem") (x.drop 2).toString)))
 else Lean.Macro.throwUnsupported
abbrev yf:Array (Int × Value)->Nat->Int:=by walk_at "PVstoredHashAt"
abbrev Cj:Array (Int × Value)->Option (SetTable × Array Nat)->Sem (Array (Int × Value) × SetTable):=by walk_at "PVreordered"
abbrev pX:Array (Int × Value)->SetTable->Bool:=by walk_at "PVdrawn"
abbrev Ih:Array (Int × Value)->SetTable->Sem Unit:=by walk_at "PVmustBeLedForItsPlaces"
def tK:Array (Int × Value)->Nat->Int:=yf
theorem rH(es:Array (Int × Value))(i:Nat):tK es i=(es[i]?.map (·.1)).getD 0:=rfl
section
variable {prog:Program}{w:World}{K:Type}[DecidableEq K]{knd:KeyKind prog w K}{A:Around}{E:Value->Shared->Prop}{s:Shared}
theorem vY(hk:IsTupleKey knd s.heap k a)(hy:∀ y∈ys,∃ k' b,y=.ref b/\IsTupleKey knd s.heap k' b)(h:Q false s):wpAny (model prog w) A (searchCouldBeSeen (.ref a) ys) Q E s:=by
 unfold searchCouldBeSeen
 refine ah ?_
 refine wpAny_forIn_list _ (fun rest r s'=>r.1=none/\s'=s/\∀ y∈rest,∃ k' b,y=.ref b/\IsTupleKey knd s.heap k' b) _ ?_ ?_ _ _ ⟨rfl,rfl,hy⟩
 ·rintro y rest r s' ⟨hr,rfl,nE⟩
  obtain⟨k',b,rfl,hb⟩:=nE y df
  have go:∀ (P:Prop),P->P:=fun _ p=>p
  dsimp only
  split
  ·exact aI ⟨rfl,rfl,fun u BI=>nE u (de _ BI)⟩
  ·refine ah (wpAny_eqIsQuiet_tuple hk ?_)
   simp only[OY,gL,if_false]
   refine ah (wpAny_eqIsQuiet_tuple hb ?_)
   simp only[OY,gL,if_false]
   refine ah (lG hk ?_)
   simp only[gL,if_false]
   refine ah (lG hb ?_)
   simp only[gL,if_false]
   exact aI ⟨rfl,rfl,fun u BI=>nE u (de _ BI)⟩
 ·rintro⟨r1,r2⟩ s' ⟨hr,rfl,_⟩
  simp only at hr
  subst hr
  exact aI h
theorem Ju{K G:Prop}(pk:K)(h:K->G):G:=h pk
theorem qe{a x:Addr}{k:List K}{ks:List (List K × Addr)}{o:Obj}{es:Array (Int × Value)}{ep:Nat}{t:SetTable}(hu:A.units<cLine)(ho:s.heap.get? a=some o)(hd:o.data=.set es ep t)(T:TI t es)(he:es.toList=ks.map (zf knd))
  (xI:∀ p∈ks,IsTupleKey knd s.heap p.1 p.2) (hx:IsTupleKey knd s.heap k x) {Q:SetFound->Shared->Prop} (X8:k∈ks.map (·.1)->Q (.there none) s)
  (nf:Nat) (hnf:nf<=10*(t.mask+13)) (zC:taken t.place (J t.mask (aQ knd k) nf)=false) (X9:∀ q<nf,taken t.place (J t.mask (aQ knd k) q)=true)
  (Pz:k∉ks.map (·.1)->Q (.free (J t.mask (aQ knd k) nf) false) s) :
  ∀ (fuel n:Nat) (stand:Option Probe),stand.getD (t.probeStart (aQ knd k))=ps t.mask (aQ knd k) n->n<=nf->nf<n+fuel ->
   (∀ q<n,∀ p,ks[below t.place (J t.mask (aQ knd k) q)]? = some p->p.1≠k)->wpAny (model prog w) A (setSearchFrom a (.ref x) (aQ knd k) true fuel stand) Q E s
 |0,n,stand,_,h1,h2,_=>by lia
 |fuel+1,n,stand,iX,h1,h2,hq=>by
  have Qx:∀ i:Nat,es[i]? = (ks[i]?).map (zf knd):=fun i=>by rw[<- mw,he,ox]
  unfold setSearchFrom
  refine ah (wpAny_setState_of ho hd T.fits ?_)
  dsimp only
  rw[if_neg (by rw[T.odd];exact ja)]
  obtain⟨n',a1,a2,a3,a4⟩:=uY T (tK es) (aQ knd k) (10*turns t.mask) n ⟨nf,h1,by unfold turns;lia,zC⟩
  have AW:n'<=nf:=by
   by_cases z:n'<=nf
   ·exact z
   ·have:=(a3 nf h1 (by exact Nat.lt_of_not_le ‹_›)).1
    rw[zC] at this;cases this
  rcases a4 with⟨c1,c2⟩|⟨c1,c2,c3⟩
  ·have c2:t.probe (tK es) (aQ knd k) (stand.getD (t.probeStart (aQ knd k)))=some (.empty (J t.mask (aQ knd k) n') none):=by rw[iX];exact c2
   have e:n'=nf:=by
    by_cases z:n'<nf
    ·have:=X9 n' z
     rw[c1] at this;cases this
    ·lia
   have c2:t.probe (yf es) (aQ knd k) (stand.getD (t.probeStart (aQ knd k)))=some (.empty (J t.mask (aQ knd k) n') none):=c2
   rw[c2]
   dsimp only
   rw[e]
   refine aI (Pz fun hm=>?_)
   obtain⟨p,hp,rfl⟩:=dk.mp hm
   obtain⟨i,hi⟩:=List.mem_iff_getElem?.mp hp
   have ei:es[i]? = some (aQ knd p.1,.ref p.2):=by rw[Qx,hi];rfl
   have X_:i<t.place.size:=by rw[T.sz];exact(GY.mp ei).1
   obtain⟨ni,b1,b2,b3⟩:=T.path i _ _ ei
   have bt:below t.place (J t.mask (aQ knd p.1) ni)=i:=by rw[b2];exact below_at T.up X_
   have tk:taken t.place (J t.mask (aQ knd p.1) ni)=true:=by rw[b2];exact(gk T.up).mpr ⟨i,X_,rfl⟩
   have dr:ni<nf:=by
    by_cases z:nf<ni
    ·have:=b3 nf z
     rw[zC] at this;cases this
    ·have:ni≠nf:=fun z=>by rw[z,zC] at tk;cases tk
     lia
   by_cases z:ni<n
   ·exact hq ni z p (by rw[bt];exact hi) rfl
   ·refine(a3 ni (by exact L5 ‹_›) (by lia)).2 ?_
    rw[bt,rH,ei];rfl
  ·have c3:t.probe (yf es) (aQ knd k) (stand.getD (t.probeStart (aQ knd k)))=some (.candidate (J t.mask (aQ knd k) n') (below t.place (J t.mask (aQ knd k) n')) (ps t.mask (aQ knd k) (n'+1))):=by rw[iX];exact c3
   rw[c3]
   dsimp only
   have tk:=jJ T.up c1
   have N3:t.slot (J t.mask (aQ knd k) n')=.live (below t.place (J t.mask (aQ knd k) n')):=by rw[T.slot,if_pos c1]
   generalize hi:below t.place (J t.mask (aQ knd k) n')=i at tk c2 N3 ⊢
   have Ya:i<es.size:=by rw[<- T.sz];exact tk.1
   obtain⟨p,hp⟩:∃ p,ks[i]? = some p:=by
    have:i<ks.length:=by
     have:=congrArg List.length he
     simp at this;lia
    exact⟨_,ve this⟩
   have ei:es[i]? = some (aQ knd p.1,.ref p.2):=by rw[Qx,hp];rfl
   have Yb:=pd hp
   have fI:n'≠nf:=fun z=>by rw[z,zC] at c1;cases c1
   have again:¬ p.1=k->wpAny (model prog w) A (setSearchFrom a (.ref x) (aQ knd k) true fuel (some (ps t.mask (aQ knd k) (n'+1)))) Q E s:=fun hpk =>
    qe hu ho hd T he xI hx X8 nf hnf zC X9 Pz fuel (n'+1) (some (ps t.mask (aQ knd k) (n'+1))) rfl (by lia) (by lia) fun q Qw p' fo=>by
     by_cases z:q<n
     ·exact hq q z p' fo
     ·by_cases z2:q=n'
      ·subst z2
       rw[hi,hp] at fo
       cases fo
       exact hpk
      ·intro e'
       have:=(a3 q (by exact L5 ‹_›) (by lia)).2
       refine this ?_
       rw[rH,Qx,fo]
       show aQ knd p'.1=_
       rw[e']
   have ck:p.1=k->k∈ks.map (·.1):=fun e=>e ▸ dk.mpr ⟨p,Yb,rfl⟩
   have seen:∀ y∈List.map (fun x=>x.snd) (Array.filter (fun x=>x.fst == aQ knd k) es).toList,∃ k' b,y=.ref b/\IsTupleKey knd s.heap k' b:=fun y hy=>by
    obtain⟨e',IB,rfl⟩:=dk.mp hy
    rw[Array.toList_filter] at IB
    have:=(sR.mp IB).1
    rw[he] at this
    obtain⟨p',fo,rfl⟩:=dk.mp this
    exact⟨p'.1,p'.2,rfl,xI p' fo⟩
   refine Ju ?pk (K:=?K) fun key=>?main
   case main =>
    split
    ·refine ah (vY hx seen ?_)
     rw[if_neg ja]
     exact key
    ·exact key
   rw[ei]
   dsimp only
   refine ah (wpAny_holding (wpAny_eqBool_tuple hu (xI p Yb) hx ?_))
   refine ah (wpAny_setState_of ho hd T.fits ?_)
   dsimp only
   by_cases e:p.1=k
   ·rw[if_pos (by simp[e])]
    exact aI (X8 (ck e))
   ·rw[if_neg (by simp[e])]
    have S7:t.sameMemory t.moves t.mask=some true:=by unfold sameMemory;rw[if_pos (by simp)]
    rw[S7]
    dsimp only
    rw[if_pos rfl,N3]
    dsimp only
    rw[ei]
    dsimp only
    refine ah (m:=isSame (.ref p.2) (.ref p.2)) ?_
    unfold isSame
    dsimp only
    rw[if_pos (by simp)]
    refine aI (ah (aI ?_))
    rw[if_pos rfl]
    dsimp only
    rw[if_neg (by simp[e])]
    exact again e
end
theorem rO:∀ {l l2:List β},l.Perm l2->∀ {m:List α},l2=m.map f->∃ m':List α,l=m'.map f/\m'.Perm m:=by
 intro l l2 p
 induction p with
 |nil=>intro m e;exact⟨m,by rw[<- e],.refl _⟩
 |cons x _ ih =>
  intro m e
  cases m with
  |nil=>cases e
  |cons y m =>
   simp only[fT,List.cons.injEq] at e
   obtain⟨m',e1,p1⟩:=ih e.2
   exact⟨y :: m',by rw[fT,<- e1,e.1],p1.cons _⟩
 |swap x y l =>
  intro m e
  match m,e with
  |a :: b :: m,e =>
   simp only[fT,List.cons.injEq] at e
   exact⟨b :: a :: m,by simp[e.1,e.2.1,e.2.2],.swap ..⟩
 |trans _ _ ih1 Ts =>
  intro m e
  obtain⟨m',e1,p1⟩:=Ts e
  obtain⟨m2,e2,p2⟩:=ih1 e1
  exact⟨m2,e2,p2.trans p1⟩
theorem vV(xs:Array α)(p:Nat)(x:α):(insertAt xs p x).toList=xs.toList.take p++x :: xs.toList.drop p:=by
 unfold insertAt
 simp
 rw[Ov (by simp)]
theorem ql(hz:(order.filterMap fun i=>es[i]?).size=es.size)
  (h:Q (order.filterMap fun i=>es[i]?,t) s):wpAny (model prog w) A (Cj es (some (t,order))) Q E s:=by
 show wpAny _ _ (if ((order.filterMap fun i=>es[i]?).size != es.size)=true then (do unsupported "internal:set-table-lost-an-element";pure (order.filterMap fun i=>es[i]?,t)) else pure (order.filterMap fun i=>es[i]?,t)) _ _ _
 rw[if_neg (by simp[hz])]
 exact aI h
section
variable {prog:Program}{w:World}{K:Type}[DecidableEq K]{knd:KeyKind prog w K}{A:Around}{E:Value->Shared->Prop}{s:Shared}
theorem IsTupleKey.fh(hk:IsTupleKey knd h k a)(e:∀ o,h.get? a=some o->h'.get? a=some o):IsTupleKey knd h' k a:=by
 obtain⟨o,items,n,ho,r⟩:=hk
 exact⟨o,items,n,e o ho,r⟩
theorem FI.ne(S:FI knd h a ks)(hx:IsTupleKey knd h k x):x≠a:=by
 obtain⟨⟨o,es,ep,t,ho,hex,_⟩,_,_⟩:=S
 obtain⟨o',items,n,mz,hc,_⟩:=hx
 intro z
 subst z
 rw[ho] at mz
 cases mz
 rw[hex.1] at hc
 exact absurd hc (by decide)
theorem Gx(S:FI knd s.heap a ks)(hx:IsTupleKey knd s.heap k x)(hz:ks.length<1000)(hu:A.units<cLine)(rL:∀ k v,knd.is k v=true->v.scannable=true)
  (h:∀ (b:Bool) (h':Heap) (iN:List (List K × Addr)),Heap.SameBut a s.heap h'->FI knd h' a iN->(k∈ks.map (·.1)/\iN=ks\/k∉ks.map (·.1)/\iN.Perm ((k,x) :: ks))->Q b { s with heap:=h' }) :
  wpAny (model prog w) A (setAddHashed a (.ref x) (aQ knd k)) Q E s:=by
 obtain⟨⟨o,es,ep,t,ho,hex,hd,T,hM,hL,he⟩,nd,is⟩:=id S
 have hlen:es.size=ks.length:=by
  have:=congrArg List.length he
  simpa using this
 obtain⟨m,hm,_⟩:=T.pw
 obtain⟨e0,he0,hf0⟩:=T.free
 obtain⟨nf,n1,n2,n3⟩:=vM hm (aQ knd k) (taken t.place) he0 hf0
 unfold setAddHashed setAddHashedIn
 refine wpAny_holding (ah (wpAny_setState_of ho hd T.fits ?_))
 dsimp only
 have hbs:byScan (.ref x) es=false:=by simp[byScan,Value.scannable]
 rw[hbs]
 simp only[gL,if_false]
 refine ah ?_
 unfold setSearch
 refine qe hu ho hd T he is hx (fun ck=>?_) nf n1 n2 n3 (fun ND=>?_) 100000 0 none rfl (eP _) (by lia) fun q hq=>absurd hq (EA q)
 ·dsimp only
  refine aI ?_
  have e:s={ s with heap:=s.heap }:=by cases s;rfl
  rw[e]
  exact h _ _ ks (Heap.SameBut.refl a s.heap) S (.inl ⟨ck,rfl⟩)
 ·dsimp only
  generalize hj:J t.mask (aQ knd k) nf=j at n2 ⊢
  have hjm:j<=t.mask:=by rw[<- hj];exact TX ..
  have hre:Reach t.mask t.place (aQ knd k) j:=⟨nf,n1,hj,n3⟩
  refine ah (wpAny_setState_of ho hd T.fits ?_)
  dsimp only
  have eA':t.put j=({ t with place:=insertAt t.place (below t.place j) j,dummies:=#[] },below t.place j):=by
   unfold SetTable.put
   have:has t.dummies j=false:=by rw[T.dm];rfl
   simp only[this,gL,if_false]
   rw[T.dm]
  rw[eA']
  dsimp only
  have ck:(insertAt es (below t.place j) (aQ knd k,.ref x)).toList=(ks.take (below t.place j)++(k,x) :: ks.drop (below t.place j)).map (zf knd):=by
   rw[vV,he,ll,fT,OS,OU];rfl
  have Ki:(ks.take (below t.place j)++(k,x) :: ks.drop (below t.place j)).Perm ((k,x) :: ks):=by
   refine List.perm_middle.trans ?_
   rw[Ow]
  have Kj:below t.place j<=es.size:=by rw[<- T.sz];exact(bx T.up j).1
  have z0:(insertAt es (below t.place j) (aQ knd k,Value.ref x)).size=es.size+1:=cX _ _ Kj
  have hxa:=S.ne hx
  have Yc:∀ h',Heap.SameBut a s.heap h'->∀ iN:List (List K × Addr),iN.Perm ((k,x) :: ks)->∀ p∈iN,IsTupleKey knd h' p.1 p.2:=fun h' sb iN pm p hp=>by
   have:IsTupleKey knd s.heap p.1 p.2:=by
    rcases dA.mp (pm.mem_iff.mp hp) with rfl|hp
    ·exact hx
    ·exact is p hp
   exact IsTupleKey.fh this fun o' mz=>sb.extBut _ _ (S.ne this) mz
  have Yd:∀ iN:List (List K × Addr),iN.Perm ((k,x) :: ks)->(iN.map (·.1)).Nodup:=fun iN pm=>by
   rw[(pm.map _).nodup_iff,fT,kC]
   exact⟨ND,nd⟩
  -- behind the flag
  have main:∀ pl:Bool,wpAny (model prog w) A (do
    storeSet a (insertAt es (below t.place j) (aQ knd k,.ref x)) { t with place:=insertAt t.place (below t.place j) j,dummies:=#[],plain:=pl }
    if (!false && ({ t with place:=insertAt t.place (below t.place j) j,dummies:=#[],plain:=pl }:SetTable).tooFull)=true then do
      setRelay a (grown (es.size+1))
      pure true
     else pure true) Q E s:=fun pl=>by
   generalize N4:({ t with place:=insertAt t.place (below t.place j) j,dummies:=#[],plain:=pl }:SetTable)=t'
   have tm:t'.mask=t.mask:=by rw[<- N4]
   have tp:t'.place=insertAt t.place (below t.place j) j:=by rw[<- N4]
   have td:t'.dummies = #[]:=by rw[<- N4]
   have Ye:t'.fill=es.size+1:=by
    unfold SetTable.fill
    rw[tp,td,cX _ _ (bx T.up j).1,T.sz];simp
   refine ah (wpAny_storeSet_of ho hd ?_ (by rw[z0,sizeLine_eq];lia))
   have zI:(s.heap.update a (Obj.putSet (insertAt es (below t.place j) (aQ knd k,.ref x)) t')).get? a=some { o with data:=.set (insertAt es (below t.place j) (aQ knd k,.ref x)) (ep+1) t' }:=by
    have:=AK (Obj.putSet (insertAt es (below t.place j) (aQ knd k,.ref x)) t') ho (by rw[putSet_of _ _ hd];rfl)
    rw[putSet_of _ _ hd] at this;exact this
   have xS:=Heap.SameBut.update s.heap a (Obj.putSet (insertAt es (below t.place j) (aQ knd k,.ref x)) t')
   by_cases c:t'.tooFull=true
   ·rw[if_pos (by rw[c];rfl)]
    have XO:t'.fits (insertAt es (below t.place j) (aQ knd k,Value.ref x)).size=true:=by
     have:=T.few
     simp only[SetTable.fits,Ye,kH,beq_iff_eq,decide_eq_true_eq]
     rw[tp,cX _ _ (bx T.up j).1,z0,T.sz,tm]
     exact⟨rfl,by lia⟩
    obtain⟨t2,order,r1,r2,r3,r4,r5,r6,r7,r8,_⟩:=yE (t:=t') (es:=insertAt es (below t.place j) (aQ knd k,Value.ref x)) (by lia)
    rw[z0] at r1 r4
    unfold setRelay
    refine ah (ah (wpAny_setState_of zI rfl XO ?_))
    dsimp only
    rw[if_neg (by rw[sizeLine_eq];lia)]
    refine ah ?_
    rw[r1]
    obtain⟨iN,ek,pk⟩:=rO r8 ck
    refine ql r7 ?_
    dsimp only
    refine wpAny_storeSet_of zI rfl ?_ (by rw[r7,z0,sizeLine_eq];lia)
    refine aI ?_
    have Kk:=xS.trans (Heap.SameBut.update _ a (Obj.putSet (order.filterMap fun i=>(insertAt es (below t.place j) (aQ knd k,Value.ref x))[i]?) t2))
    have zo:=AK (Obj.putSet (order.filterMap fun i=>(insertAt es (below t.place j) (aQ knd k,Value.ref x))[i]?) t2) zI (by rw[putSet_of _ _ rfl];rfl)
    rw[putSet_of _ _ rfl] at zo
    exact h true _ iN Kk ⟨⟨_,_,_,_,zo,hex,rfl,r6,r5 (by lia),by rw[r3,<- N4];exact hL,ek⟩,Yd iN (pk.trans Ki),Yc _ Kk iN (pk.trans Ki)⟩ (.inr ⟨ND,pk.trans Ki⟩)
   ·rw[if_neg (by simpa using c)]
    refine aI ?_
    have xh:(es.size+1)*5<t.mask*3:=by
     unfold SetTable.tooFull at c
     rw[Ye,tm] at c
     simpa using c
    exact h true _ _ xS ⟨⟨_,_,_,_,zI,hex,rfl,T.put hjm n2 hre tm tp td xh,by rw[tm];exact hM,by rw[<- N4];exact hL,ck⟩,Yd _ Ki,Yc _ xS _ Ki⟩ (.inr ⟨ND,Ki⟩)
  split
  ·refine ah (jn hx rL fun b=>?_)
   cases b with
   |true=>exact main t.plain
   |false=>exact main false
  ·exact ah (aI (main t.plain))
end
end TS
namespace TS
open PySem PySem.SetTable PyProof.Rows
section
variable {prog:Program}{w:World}{A:Around}{R:Result->Shared->Prop}{I:Addr}{fp wr:List Addr}{n:Nat}{P:Nat->Value->Prop}{St:Nat->Heap->Prop}
theorem zX(W:Walks prog w A.in1 I fp wr n P St)(S:Addr)(Ap:S∉fp)(SI:Nat->Heap->Prop)(keep:∀ i h h',SI i h->(∀ b o,b∉wr->h.get? b=some o->h'.get? b=some o)->SI i h')
  (step:∀ (i:Nat) (v:Value) (s':Shared) (E':Value->Shared->Prop) (Q:Bool->Shared->Prop),P i v->SI i s'.heap->(∀ b h' tk,Heap.SameBut S s'.heap h'->SI (i+1) h'->Q b { s' with heap:=h',toks:=tk })->wpAny (model prog w) A.in1 (setAdd S v) Q E' s') :
  ∀ (k i:Nat) (s:Shared),n-i=k->i<=n->St i s.heap->SI i s.heap ->
   (∀ h' tk,SI n h'->(∀ b o,b∉wr->b≠S->s.heap.get? b=some o->h'.get? b=some o)->R (.ok (.ret .none)) { s with heap:=h',toks:=tk }) ->
   codeAny (model prog w) A (.builtin "set.update.loop" ⟨[.ref S,.ref I],[]⟩) R s:=by
 have hSw:S∉wr:=fun h=>Ap (W.sub _ h)
 intro k
 induction k with
 |zero =>
  intro i s hk hi iX hS hR
  have ck:i=n:=by lia
  subst ck
  refine codeAny_builtin F.entry_set_update_loop ?_
  rw[Around.under_plainId F.plain_set_update_loop _]
  show wpAny _ A.in1 (pyNext (.ref I) >>= _) _ _ s
  refine ah (W.done s _ _ iX fun h' tk iF=>?_)
  show wpAny _ A.in1 (ret Value.none) _ _ _
  exact aI (hR h' tk (keep _ _ _ hS iF) fun b o hb _ e=>iF b o hb e)
 |succ k ih =>
  intro i s hk hi iX hS hR
  have dr:i<n:=by lia
  refine codeAny_builtin F.entry_set_update_loop ?_
  rw[Around.under_plainId F.plain_set_update_loop _]
  show wpAny _ A.in1 (pyNext (.ref I) >>= _) _ _ s
  refine ah (W.item i s _ _ dr iX fun v h' tk hP eB' iF=>?_)
  show wpAny _ A.in1 (holding [v] (setAdd S v) >>= _) _ _ _
  refine ah (wpAny_holding (step i v _ _ _ hP (keep _ _ _ hS iF) fun b h2 Qy sb hS2=>?_))
  refine aI ⟨plainId_quiet F.plain_set_update_loop _,ih (i+1) _ (by lia) dr (W.frame _ _ _ eB' fun b hb o e=>?_) hS2 fun h3 tk3 hS3 E9=>?_⟩
  ·exact sb.extBut b o (fun z=>Ap (by rw[<- z];exact hb)) e
  ·exact hR h3 tk3 hS3 fun b o hb DS e=>E9 b o hb DS (sb.extBut b o DS (iF b o hb e))
end
section
variable {prog:Program}{w:World}{A:Around}{E:Value->Shared->Prop}{s:Shared}
theorem xV(a:Value)
  (h:Q₁ (.ref s.heap.objs.size) { s with heap:=s.heap.push { cls:=.type "set",dict:=none,data:=.set #[] 0 (.fresh 0 0 (!w.params.followText "set-order")) } }) :
  codeAny (model prog w) A (.call (.builtin "set.__new__") ⟨[.type "set",a],[]⟩) (wants Q₁ E) s:=by
 refine codeAny_of_tree ?_
 show wpAny _ A.in1 (do checkBuiltinCall "set.__new__" ⟨[.type "set",a],[]⟩;again (.builtin "set.__new__" ⟨[.type "set",a],[]⟩)) _ _ s
 refine ah (wpAny_of_eq (F.newCall_set_1 a) (aI ⟨plainId_quiet F.plain_set_new _,codeAny_builtin F.entry_set_new ?_⟩))
 rw[Around.under_plainId F.plain_set_new _]
 unfold Builtin.«set.__new__» Builtin.Frozenset.newClass
 have T2:=sub_set_self
 obtain⟨hp,g,d,tk,os⟩:=s
 dsimp only
 wp_walk
 refine wpAny_askSetting (aI ?_)
 dsimp only
 simp only[newObj]
 refine ah (wpAny_alloc (aI ?_))
 exact aI h
theorem qQ(hh:A.handled=none)(hl:s.heap.IsList l items)(SI:Nat->Heap->Prop)
  (h0:∀ h,h.get? s.heap.objs.size=some { cls:=.type "set",dict:=none,data:=.set #[] 0 (.fresh 0 0 (!w.params.followText "set-order")) }->(∀ b o,s.heap.get? b=some o->h.get? b=some o)->SI 0 h)
  (keep:∀ i h h',SI i h->(∀ b o,b<=s.heap.objs.size->h.get? b=some o->h'.get? b=some o)->SI i h')
  (step:∀ (i:Nat) (v:Value) (s':Shared) (E':Value->Shared->Prop) (Q:Bool->Shared->Prop),items[i]? = some v->SI i s'.heap->(∀ b h' tk,Heap.SameBut s.heap.objs.size s'.heap h'->SI (i+1) h'->Q b { s' with heap:=h',toks:=tk }) ->
   wpAny (model prog w) A.in1.in1.in1 (setAdd s.heap.objs.size v) Q E' s')
  (h:∀ (h':Heap) (tk:Nat),SI items.size h'->(∀ b o,b<s.heap.objs.size->s.heap.get? b=some o->h'.get? b=some o)->Q (.ref s.heap.objs.size) { s with heap:=h',toks:=tk }) :
  wpAny (model prog w) A (call (.type "set") [.ref l]) Q E s:=by
 obtain⟨c,tl,iG'⟩:=F.called_set.mro
 have iH':=F.called_set.made
 have T2:=F.called_set.sub
 refine wpAny_call (codeAny_of_tree ?_)
 show wpAny _ _ (callAny (.type "set") _) _ _ _
 refine aI ⟨Code.quiet_builtin _ (by decide +kernel),codeAny_builtin F.entry_type_call ?_⟩
 rw[Around.under_plain (weight_type_call_type "set" [.ref l] []) rfl]
 have h1:=F.called_set.notType
 have h2:=F.called_set.canCreate
 have hct:=F.typeCall_set_1 (.ref l)
 repeat (any_goals (first|assumption|wp_step))
 refine codeAny_mono (xV (.ref l) (E:=E) (Q₁:=fun obj eK=>obj=.ref s.heap.objs.size/\eK={ s with heap:=s.heap.push { cls:=.type "set",dict:=none,data:=.set #[] 0 (.fresh 0 0 (!w.params.followText "set-order")) } }) ⟨rfl,rfl⟩) fun r eK hr=>?_
 cases r with
 |error e=>exact hr
 |ok fl =>
  cases fl with
  |ret obj =>
   obtain⟨rfl,rfl⟩:=hr
   generalize iJ':(!w.params.followText "set-order")=led at h0 ⊢
   have hS:(s.heap.push { cls:=.type "set",dict:=none,data:=.set #[] 0 (.fresh 0 0 led) }).get? s.heap.objs.size=some { cls:=.type "set",dict:=none,data:=.set #[] 0 (.fresh 0 0 led) }:=g9 _ rfl
   have hT:Shared.TypeIs { s with heap:=s.heap.push { cls:=.type "set",dict:=none,data:=.set #[] 0 (.fresh 0 0 led) } } (.ref s.heap.objs.size) "set" := ⟨_,hS,rfl⟩
   have hli:=F.called_set.init.lookup
   have hbi:=F.called_set.init.bind (.ref s.heap.objs.size)
   repeat (any_goals (first|assumption|wp_step))
   refine codeAny_mono (codeAny_call_builtin (R:=wants (fun r EI=>r=.none/\∃ h' tk,EI={ s with heap:=h',toks:=tk }/\SI items.size h' /\
     (∀ b o,b<s.heap.objs.size->s.heap.get? b=some o->h'.get? b=some o)) E) F.called_set.init.plain F.entry_set_init (check_set_init_1 hT ?_)) fun eF' EI T3=>?_
   ·obtain⟨ol,N5,ip,nl,Yf⟩:=hl
    obtain⟨iM',eG',iN',eH'⟩:=ol
    simp only at ip Yf
    subst ip;subst Yf
    have eI':(s.heap.push { cls:=.type "set",dict:=none,data:=.set #[] 0 (.fresh 0 0 led) }).get? l=some { cls:=.type "list",dict:=eG',data:=.seq items nl,slots:=eH' }:=eL _ N5
    have iO':=F.sub_list_set
    have iP':=F.sub_list_frozenset
    have fI:(Value.type "list" == Value.type "dict")=false:=by decide
    have wc:(s.heap.push { cls:=.type "set",dict:=none,data:=.set #[] 0 (.fresh 0 0 led) }).IsList l items:=⟨_,eI',rfl,nl,rfl⟩
    unfold Builtin.«set.__init__» noKeywords Builtin.Frozenset.updateFrom
    generalize hPI:pyIter=PI
    wp_walk
    subst hPI
    refine wpAny_pyIter_list wc ?_
    refine ah (wpAny_runValue ?_)
    have Yg:l<s.heap.objs.size:=dc N5
    have hh3:A.in1.in1.in1.handled=none:=by simp[hh]
    have hsz:(s.heap.push { cls:=.type "set",dict:=none,data:=.set #[] 0 (.fresh 0 0 led) }).objs.size=s.heap.objs.size+1:=Ee ..
    have eL':l≠(s.heap.push { cls:=.type "set",dict:=none,data:=.set #[] 0 (.fresh 0 0 led) }).objs.size:=by
     rw[hsz];exact eI (qA Yg)
    have Ap:s.heap.objs.size∉[(s.heap.push { cls:=.type "set",dict:=none,data:=.set #[] 0 (.fresh 0 0 led) }).objs.size,l]:=by
     rw[hsz];simp only[dA,ot,wt,or_false,not_or]
     exact⟨eI (Nat.lt_succ_self _),yA Yg⟩
    refine zX (Walks.list hh3 _ l eL' items) s.heap.objs.size Ap SI (fun i h h' hi hk=>keep i h h' hi fun b o hb e=>hk b o ?_ e) (fun i v s' E' Q' hP hi hq=>step i v s' E' Q' hP hi hq) (items.size-0) 0 _ (by lia) (eP _)
     ⟨⟨_,g9 _ rfl,rfl,rfl⟩,(wc.push _)⟩ ?hS0 ?hR
    ·rw[hsz]
     simp only[dA,wt,or_false]
     exact eI (GP hb)
    case hS0 =>
     exact h0 _ (eL _ hS) fun b o e=>eL _ (eL _ e)
    case hR =>
     intro h' N6 Au iF
     show wpAny _ _ _ _ _ _
     refine aI ?_
     show wpAny _ _ (ret Value.none) _ _ _
     refine aI ⟨rfl,h',N6,rfl,Au,fun b o hb e=>?_⟩
     refine iF b o ?_ (eI hb) (eL _ (eL _ e))
     rw[hsz]
     simp only[dA,wt,or_false]
     exact eI (qA hb)
   ·cases eF' with
    |error e=>exact T3
    |ok eN' =>
     cases eN' with
     |ret r =>
      obtain⟨rfl,h',tk,rfl,Au,iF⟩:=T3
      repeat (any_goals (first|assumption|wp_step))
      exact h _ _ Au iF
     |_=>exact T3.elim
  |_=>exact hr.elim
end
theorem qU:Manifest.owners.lookup (String.ofList ['r','o','t','a','r','e','t','i','_','t','e','s'].reverse)=some Manifest.sig_set_iterator:=by kernel_rfl
theorem bQ:Slot "set_iterator" "__next__" "set_iterator.__next__" :=
 .of (owner := "set_iterator") (n := "__next__") (by rw[typeLookup_type,builtinLookup_eq_fast];kernel_rfl) (by decide +kernel) (by decide +kernel) (by decide +kernel)
  (by first|exact .inl (by decide +kernel)|exact .inr (by decide +kernel)) (by rw[isSubtype_type];kernel_rfl)
theorem nu:entryFor table "set_iterator.__next__" = some Builtin.«set_iterator.__next__» := entryFor_of_tree (by kernel_rfl)
theorem pC (a:Value):argsOk "set_iterator.__next__" ⟨[a],[]⟩:=by
 unfold argsOk;rw[signature?_of (id := "set_iterator.__next__") (n:=['_','_','t','x','e','n','_','_']) (o:=['r','o','t','a','r','e','t','i','_','t','e','s']) (by kernel_rfl) qU];kernel_rfl
theorem iV:Slot "set_iterator" "__iter__" "set_iterator.__iter__" :=
 .of (owner := "set_iterator") (n := "__iter__") (by rw[typeLookup_type,builtinLookup_eq_fast];kernel_rfl) (by decide +kernel) (by decide +kernel) (by decide +kernel)
  (by first|exact .inl (by decide +kernel)|exact .inr (by decide +kernel)) (by rw[isSubtype_type];kernel_rfl)
theorem mW:entryFor table "set.__iter__" = some Builtin.«frozenset.__iter__» :=
 entryFor_alias (id' := "frozenset.__iter__") (by kernel_rfl) rfl (by decide +kernel) (by kernel_rfl)
theorem jf:∀ (l:List α) (i:Nat) (h:i<l.length),(l[i] :: l.eraseIdx i).Perm l
 |x :: l,0,_=>.refl _
 |x :: l,i+1,h=>by
  have ih:=jf l i (by simpa using h)
  exact(List.Perm.swap _ _ _).trans (ih.cons x)
theorem yp(next:Nat->Nat):∀ (fuel k:Nat) (left:List α) (out:Array α),left.length=fuel->(pickOrder.go next fuel k left out).toList.Perm (out.toList++left)
 |0,k,left,out,h=>by
  have:left=[]:=Ou.mp h
  subst this
  unfold pickOrder.go
  rw[mr]
 |fuel+1,k,left,out,h=>by
  unfold pickOrder.go
  have dr:next k % left.length<left.length:=GW _ (by lia)
  rw[ve dr]
  dsimp only
  refine(yp next fuel (k+1) _ _ (by rw[Rm];split<;>lia)).trans ?_
  rw[n9,wq]
  refine List.Perm.append_left _ ?_
  exact jf _ _ dr
theorem lC(next:Nat->Nat)(xs:Array α):(pickOrder next xs).toList.Perm xs.toList:=by
 unfold pickOrder
 have:=yp next xs.size 0 xs.toList #[] (by simp)
 simpa using this
section
variable {prog:Program}{w:World}{A:Around}{E:Value->Shared->Prop}{s:Shared}
theorem qu(hn:n≠0)(h:∀ i d,i<n->Q i { s with drawn:=d }):wpAny M A (choose src n) Q E s:=fun Γ p _=>⟨hn,h _ _ (GW _ (Nat.pos_of_ne_zero hn))⟩
theorem Ek(n:Nat):∀ (xs:List α) (s:Shared) (Q:List α->Shared->Prop),xs.length=n->(∀ ys d,ys.Perm xs->Q ys { s with drawn:=d })->wpAny (model prog w) A (drawOrder n xs) Q E s:=by
 induction n with
 |zero =>
  intro xs s Q h q
  have:xs=[]:=Ou.mp h
  subst this
  unfold drawOrder
  exact aI (q [] s.drawn (.refl _))
 |succ n ih =>
  intro xs s Q h q
  cases xs with
  |nil=>cases h
  |cons x xs =>
   unfold drawOrder
   refine ah (qu (by simp) fun i d hi=>?_)
   rw[ve hi]
   dsimp only
   refine ah (ih _ _ _ (by rw[Rm,if_pos hi];simp at h ⊢;lia) fun ys d' py=>?_)
   refine aI ?_
   exact q _ d' ((py.cons _).trans (jf _ _ hi))
def qo(h:Heap)(I:Addr)(first:Value)(i:Nat)(a:Addr)(n ep:Nat):Prop :=
 h.get? I=some { cls:=.type "set_iterator",dict:=none,data:=.fields #[first,.int i 0,.ref a,.int n 0,.int ep 0],slots:=#[] }
def AA(h:Heap)(a:Addr)(es:Array (Int × Value))(ep:Nat)(t:SetTable):Prop:=∃ o,h.get? a=some o/\o.data=.set es ep t
variable {a I:Addr}{es:Array (Int × Value)}{ep:Nat}{t:SetTable}{first:Value}{i n:Nat}
theorem qo.typeIs (h:qo s.heap I first i a n ep):s.TypeIs (.ref I) "set_iterator" := ⟨_,h,rfl⟩
theorem xW(hit:qo s.heap I first i a n ep)
  (h:wpAny (model prog w) A.in1 (Builtin.«set_iterator.__next__» ⟨[.ref I],[]⟩) (fun fin s'=>∃ v,fin=.done (.ret v)/\Q (some v) s') (fun e s'=>wpAny (model prog w) A (isInstance e (.type "StopIteration")) (fun b CM=>b=true/\Q none CM) E s') s) :
  wpAny (model prog w) A (pyNext (.ref I)) Q E s:=by
 unfold pyNext
 refine ah (wpAny_attempt (wpAny_callSpecial?_slot (name:=Str.ofString "__next__") hit.typeIs bQ
  (wpAny_call_entry bQ hit.typeIs nu ?_ (pC _))))
 refine oq h (fun fin s' ⟨v,e,q⟩=>⟨v,e,aI q⟩) fun e s' q=>?_
 refine ah (oq q (fun b CM cE=>?_) fun _ _ x=>x)
 obtain⟨e,q⟩:=cE
 subst e
 rw[if_pos rfl]
 exact aI q
theorem xU{P:Fin->Shared->Prop}{Q:Option Value->Shared->Prop}(hh:A.handled=none)(hQ:∀ h',(∀ b o,s.heap.get? b=some o->h'.get? b=some o)->Q none { s with heap:=h' }) :
  wpAny (model prog w) A.in1 (newExc (.type "StopIteration") [] >>= fun e=>raiseNew e) P (fun e s'=>wpAny (model prog w) A (isInstance e (.type "StopIteration")) (fun b CM=>b=true/\Q none CM) E s') s:=by
 refine ah ?_
 simp only[newExc,newTuple]
 refine ah (wpAny_newObj_type ?_ (by size_fits))
 refine ah (m:=firstArgMember _ _) (wpAny_of_eq (a:=Value.none) (by first|rfl|(simp only[firstArgMember];rfl)) ?_)
 refine wpAny_newObj_type ?_ (by size_fits)
 simp only[raiseNew]
 refine ah (wpAny_handled ?_)
 rw[show A.in1.handled=none from hh]
 refine ah (aI (wpAny_throw ?_))
 refine wpAny_isInstance (T := "StopIteration") (b:=true) ⟨_,g9 _ rfl,rfl⟩ isSubtype_stop ⟨rfl,?_⟩
 exact hQ _ fun b o e=>eL _ (eL _ e)
theorem iJ{Q:Option Value->Shared->Prop}{slot:Nat}{r:Option (Value × Nat)}(hh:A.handled=none)(fI:a≠I)(hit:qo s.heap I (.int slot 0) i a es.size ep)(FK:AA s.heap a es ep t)(hf:t.fits es.size=true)
  (hr:∀ (A':Around) (E':Value->Shared->Prop) (Q':Option (Value × Nat)->Shared->Prop),Q' r s->wpAny (model prog w) A' (setNext a slot i ep) Q' E' s)
  (h1:∀ x nx h',r=some (x,nx)->qo h' I (.int nx 0) (i+1) a es.size ep->Heap.SameBut I s.heap h'->Q (some x) { s with heap:=h' })
  (h2:∀ h',r=none->(∀ b o,b≠I->s.heap.get? b=some o->h'.get? b=some o)->Q none { s with heap:=h' }) :
  wpAny (model prog w) A (pyNext (.ref I)) Q E s:=by
 obtain⟨o,ho,hd⟩:=FK
 refine xW hit ?_
 unfold Builtin.«set_iterator.__next__»
 refine ah (m:=slotArgs "__next__" 0 ⟨[.ref I],[]⟩) (wpAny_of_eq (a:=(.ref I,[])) rfl ?_)
 dsimp only
 refine ah (wpAny_fieldsOf hit rfl ?_)
 dsimp only
 refine ah (wpAny_setEntries_of ho hd hf ?_)
 rw[if_neg (by simp)]
 simp only[MD]
 refine ah (hr _ _ _ ?_)
 cases r with
 |some p =>
  obtain⟨x,nx⟩:=p
  dsimp only
  refine ah (wpAny_setField_rec hit (by simp) fun g1 e1 xS=>?_)
  refine ah (wpAny_setField_rec (s:={ s with heap:=g1 }) e1 (by simp) fun g2 e2 Kk=>?_)
  exact aI ⟨x,rfl,h1 x nx g2 rfl (by unfold qo;simpa[rawInt] using e2) (xS.trans Kk)⟩
 |none =>
  dsimp only
  refine ah (wpAny_setField_rec hit (by simp) fun g1 e1 xS=>?_)
  exact xU (s:={ s with heap:=g1 }) hh fun h' k=>h2 h' rfl fun b o hb e=>k b o (xS.extBut b o hb e)
theorem nT{Q:Option Value->Shared->Prop}{T:Addr}{ix:List Nat}{oT:Obj}{kT:Nat}(hh:A.handled=none)(hit:qo s.heap I (.ref T) i a es.size ep)(FK:AA s.heap a es ep t)(hf:t.fits es.size=true)
  (hT:s.heap.get? T=some oT) (hTd:oT.data=.seq (ix.map fun(k:Nat)=>Value.int k 0).toArray kT)
  (h1:∀ k e h',ix[i]? = some k->es[k]? = some e->qo h' I (.ref T) (i+1) a es.size ep->Heap.SameBut I s.heap h'->Q (some e.2) { s with heap:=h' }) (E6:∀ k∈ix,k<es.size)
  (h2:∀ h',ix[i]? = none->(∀ b o,b≠I->s.heap.get? b=some o->h'.get? b=some o)->Q none { s with heap:=h' }) :
  wpAny (model prog w) A (pyNext (.ref I)) Q E s:=by
 obtain⟨o,ho,hd⟩:=FK
 refine xW hit ?_
 unfold Builtin.«set_iterator.__next__»
 refine ah (m:=slotArgs "__next__" 0 ⟨[.ref I],[]⟩) (wpAny_of_eq (a:=(.ref I,[])) rfl ?_)
 dsimp only
 refine ah (wpAny_fieldsOf hit rfl ?_)
 dsimp only
 refine ah (wpAny_setEntries_of ho hd hf ?_)
 rw[if_neg (by simp)]
 refine ah (wpAny_seqItems hT hTd ?_)
 dsimp only
 simp only[MD,List.getElem?_toArray,ox]
 cases hk:ix[i]? with
 |some k =>
  dsimp only[Option.map]
  have DT:=E6 k (pd hk)
  refine ah ?_
  unfold setNextDrawn
  refine ah (wpAny_setState_of ho hd hf ?_)
  dsimp only
  simp only[MD]
  rw[if_neg (by simp),sT DT]
  refine aI ?_
  refine ah (wpAny_setField_rec hit (by simp) fun g1 e1 xS=>?_)
  exact aI ⟨_,rfl,h1 k es[k] g1 hk (sT DT) (by unfold qo;simpa[rawInt] using e1) xS⟩
 |none =>
  dsimp only[Option.map]
  refine ah (wpAny_setField_rec hit (by simp) fun g1 e1 xS=>?_)
  refine ah (wpAny_setField_rec (s:={ s with heap:=g1 }) e1 (by simp) fun g2 e2 Kk=>?_)
  exact xU (s:={ s with heap:=g2 }) hh fun h' k=>h2 h' hk fun b o hb e=>k b o ((xS.trans Kk).extBut b o hb e)
theorem oJ (a:Value):argsOk "set_iterator.__iter__" ⟨[a],[]⟩:=by
 unfold argsOk;rw[signature?_of (id := "set_iterator.__iter__") (n:=['_','_','r','e','t','i','_','_']) (o:=['r','o','t','a','r','e','t','i','_','t','e','s']) (by kernel_rfl) qU];kernel_rfl
theorem mV:entryFor table "set_iterator.__iter__" = some Builtin.«dict_keyiterator.__iter__» :=
 entryFor_alias (id' := "dict_keyiterator.__iter__") (by kernel_rfl) rfl (by decide +kernel) (by kernel_rfl)
theorem lq(hit:qo s.heap I first i a n ep)(h:Q (.ref I) s):wpAny (model prog w) A (pyIter (.ref I)) Q E s:=by
 refine wpAny_pyIter_slot hit.typeIs iV (wpAny_call_entry iV hit.typeIs mV ?_ (oJ _))
 show wpAny _ _ (ret (.ref I)) _ _ s
 exact aI ⟨_,rfl, "set_iterator",_,hit.typeIs,bQ.lookup,h⟩
theorem rA {slot:Nat} {Q:Option (Value × Nat)->Shared->Prop} (hb:w.params.followText "set-order" = true) (FK:AA s.heap a es ep t) (hf:t.fits es.size=true)
  (h:Q (((pickOrder (w.params.setOrder a ep) es)[i]?).map fun e=>(e.2,slot)) s):wpAny (model prog w) A (setNext a slot i ep) Q E s:=by
 obtain⟨o,ho,hd⟩:=FK
 unfold setNext
 refine ah (wpAny_setState_of ho hd hf ?_)
 dsimp only
 unfold setsByText
 refine ah (ah (wpAny_askSetting (aI ?_)))
 dsimp only
 rw[if_pos (by exact hb),if_neg (by simp)]
 refine ah ?_
 unfold setWalk
 refine ah (wpAny_setState_of ho hd hf ?_)
 dsimp only
 unfold setsByText
 refine ah (ah (wpAny_askSetting (aI ?_)))
 dsimp only
 rw[if_pos (by exact hb)]
 refine ah (wpAny_askSetting (aI ?_))
 exact aI h
theorem nO {slot:Nat} {Q:Option (Value × Nat)->Shared->Prop} (hb:w.params.followText "set-order" = false) (hl:t.led=true) (Kx:(!t.plain && decide (es.size>1))=false) (FK:AA s.heap a es ep t) (hf:t.fits es.size=true)
  (h:Q (match es[below t.place slot]?,t.place[below t.place slot]? with
  |some (_,x),some j=>some (x,j+1)
  |_,_=>none) s):wpAny (model prog w) A (setNext a slot i ep) Q E s:=by
 obtain⟨o,ho,hd⟩:=FK
 unfold setNext
 refine ah (wpAny_setState_of ho hd hf ?_)
 dsimp only
 unfold setsByText
 refine ah (ah (wpAny_askSetting (aI ?_)))
 dsimp only
 rw[if_neg (by rw[show(model prog w).w.params.followText "set-order" = false from hb];exact ja)]
 have e0:pX es t=(!t.plain && decide (es.size>1)):=rfl
 unfold pX at e0
 rw[e0,Kx,if_neg ja]
 refine ah (m:=Ih es t) ?_
 show wpAny _ _ (if (!t.led && !es.isEmpty)=true then unsupported "set:maker-not-led" else pure ()) _ _ s
 rw[if_neg (by rw[hl];simp)]
 exact aI (aI h)
def PV(ys:List (Int × Value))(i:Nat)(v:Value):Prop:=∃ e,ys[i]? = some e/\v=e.2
theorem qo.keep(x:qo h I first i a n ep)(e:∀ o,h.get? I=some o->h'.get? I=some o):qo h' I first i a n ep:=e _ x
theorem AA.keep(x:AA h a es ep t)(e:∀ o,h.get? a=some o->h'.get? a=some o):AA h' a es ep t:=let ⟨o,ho,r⟩:=x;⟨o,e _ ho,r⟩
theorem xf (hh:A.handled=none) (fI:a≠I) (hb:w.params.followText "set-order" = true) (hf:t.fits es.size=true) :
  Walks prog w A I [I,a] [I] es.size (PV (pickOrder (w.params.setOrder a ep) es).toList) (fun i h=>(∃ slot:Nat,qo h I (.int slot 0) i a es.size ep)/\AA h a es ep t) where
 sub:=fun b hb=>by simp at hb;simp[hb]
 frame:=fun _ _ _ ⟨⟨sl,x⟩,y⟩ hk=>⟨⟨sl,x.keep fun o e=>hk I (by simp) o e⟩,y.keep fun o e=>hk a (by simp) o e⟩
 item:=fun i s Q E hi ⟨⟨sl,x⟩,y⟩ hQ=>by
  have hlen:(pickOrder (w.params.setOrder a ep) es).size=es.size:=by
   have:=(lC (w.params.setOrder a ep) es).length_eq
   simpa using this
  refine iJ hh fI x y hf (r:=((pickOrder (w.params.setOrder a ep) es)[i]?).map fun e=>(e.2,sl)) (fun A' E' Q' q=>rA hb y hf q) (fun v nx h' e x' sb=>?_) fun h' e k=>?_
  ·rw[sT (by lia)] at e
   cases e
   exact hQ _ h' s.toks ⟨_,by rw[mw];exact sT (by lia),rfl⟩ ⟨⟨_,x'⟩,y.keep fun o e=>sb.extBut _ _ fI e⟩ fun b o hb e=>sb.extBut b o (fun h=>hb (by simp[h])) e
  ·rw[sT (by lia)] at e
   cases e
 done:=fun s Q E ⟨⟨sl,x⟩,y⟩ hQ=>by
  have hlen:(pickOrder (w.params.setOrder a ep) es).size=es.size:=by
   have:=(lC (w.params.setOrder a ep) es).length_eq
   simpa using this
  refine iJ hh fI x y hf (r:=((pickOrder (w.params.setOrder a ep) es)[es.size]?).map fun e=>(e.2,sl)) (fun A' E' Q' q=>rA hb y hf q) (fun v nx h' e x' sb=>?_) fun h' e k=>?_
  ·rw[CB (by lia)] at e
   cases e
  ·exact hQ h' s.toks fun b o hb e=>k b o (fun h=>hb (by simp[h])) e
 self:=fun _ _ _ _ ⟨⟨sl,x⟩,y⟩ hQ=>lq x hQ
def slotAt(t:SetTable):Nat->Nat
 |0=>0
 |i+1=>t.place.getD i 0+1
theorem ju(U:Up t.place)(h:i<=t.place.size):below t.place (slotAt t i)=i:=by
 cases i with
 |zero =>
  obtain⟨_,b,_⟩:=bx U 0
  by_cases z:below t.place 0=0
  ·exact z
  ·exact absurd (b 0 (Nat.pos_of_ne_zero z)) (EA _)
 |succ i=>exact wg U (by lia)
theorem vQ (hh:A.handled=none) (fI:a≠I) (hb:w.params.followText "set-order" = false) (hl:t.led=true) (Kx:(!t.plain && decide (es.size>1))=false) (U:Up t.place) (hz:t.place.size=es.size) (hf:t.fits es.size=true) :
  Walks prog w A I [I,a] [I] es.size (PV es.toList) (fun i h=>qo h I (.int (slotAt t i:Nat) 0) i a es.size ep/\AA h a es ep t) where
 sub:=fun b hb=>by simp at hb;simp[hb]
 frame:=fun _ _ _ ⟨x,y⟩ hk=>⟨x.keep fun o e=>hk I (by simp) o e,y.keep fun o e=>hk a (by simp) o e⟩
 item:=fun i s Q E hi ⟨x,y⟩ hQ=>by
  have Kj:=ju (t:=t) U (i:=i) (by lia)
  have e1:es[below t.place (slotAt t i)]? = some es[i]:=by rw[Kj];exact sT hi
  have e2:t.place[below t.place (slotAt t i)]? = some (t.place.getD i 0):=by rw[Kj];exact y_ (by lia)
  refine iJ hh fI x y hf (r:=some (es[i].2,t.place.getD i 0+1)) (fun A' E' Q' q=>nO hb hl Kx y hf (by rw[e1,e2];exact q)) (fun v nx h' e x' sb=>?_) fun h' e k=>nomatch e
  cases e
  exact hQ _ h' s.toks ⟨_,by rw[mw];exact sT hi,rfl⟩ ⟨x',y.keep fun o e=>sb.extBut _ _ fI e⟩ fun b o hb e=>sb.extBut b o (fun h=>hb (by simp[h])) e
 done:=fun s Q E ⟨x,y⟩ hQ=>by
  have Kj:=ju (t:=t) U (i:=es.size) (by lia)
  have e1:es[below t.place (slotAt t es.size)]? = none:=by rw[Kj];exact CB (bS _)
  refine iJ hh fI x y hf (r:=none) (fun A' E' Q' q=>nO hb hl Kx y hf (by rw[e1];exact q)) (fun v nx h' e x' sb=>nomatch e) fun h' e k=>?_
  exact hQ h' s.toks fun b o hb e=>k b o (fun h=>hb (by simp[h])) e
 self:=fun _ _ _ _ ⟨x,y⟩ hQ=>lq x hQ
theorem wu{T:Addr}{ix:List Nat}{kT:Nat}(hh:A.handled=none)(fI:a≠I)(hTI:T≠I)(hf:t.fits es.size=true)(hp:ix.Perm (List.range es.size)) :
  Walks prog w A I [I,a,T] [I] es.size (PV (ix.filterMap fun k=>es[k]?)) (fun i h=>qo h I (.ref T) i a es.size ep/\AA h a es ep t/\∃ o,h.get? T=some o/\o.data=.seq (ix.map fun(k:Nat)=>Value.int k 0).toArray kT):=by
 have hlen:ix.length=es.size:=by simpa using hp.length_eq
 have E6:∀ k∈ix,k<es.size:=fun k hk=>pe.mp (hp.mem_iff.mp hk)
 obtain⟨f1,f2⟩:=uR (l:=ix) (f:=fun k=>es[k]?) fun k hk=>by simp[E6 k hk]
 exact {
  sub:=fun b hb=>by simp at hb;simp[hb]
  frame:=fun _ _ _ ⟨x,y,o,z,zd⟩ hk=>⟨x.keep fun o e=>hk I (by simp) o e,y.keep fun o e=>hk a (by simp) o e,o,hk T (by simp) o z,zd⟩
  item:=fun i s Q E hi ⟨x,y,o,z,zd⟩ hQ=>by
   refine nT hh x y hf z zd (fun k e h' e1 e2 x' sb=>?_) E6 fun h' e k=>?_
   ·refine hQ _ h' s.toks ⟨e,by rw[f2,e1];exact e2,rfl⟩ ⟨x',y.keep fun o e=>sb.extBut _ _ fI e,o,sb.extBut _ _ hTI z,zd⟩ fun b o hb e=>sb.extBut b o (fun h=>hb (by simp[h])) e
   ·rw[ve (by lia)] at e;cases e
  done:=fun s Q E ⟨x,y,o,z,zd⟩ hQ=>by
   refine nT hh x y hf z zd (fun k e h' e1 e2 x' sb=>?_) E6 fun h' e k=>?_
   ·rw[wo (by lia)] at e1;cases e1
   ·exact hQ h' s.toks fun b o hb e=>k b o (fun h=>hb (by simp[h])) e
  self:=fun _ _ _ _ ⟨x,_⟩ hQ=>lq x hQ }
end
section
variable {prog:Program}{w:World}{A:Around}{E:Value->Shared->Prop}{s:Shared}{a:Addr}{o:Obj}{es:Array (Int × Value)}{ep:Nat}{t:SetTable}
theorem zZ (hh:A.handled=none) (ho:s.heap.get? a=some o) (hex:o.ExactSet) (hd:o.data=.set es ep t) (hf:t.fits es.size=true) (U:Up t.place) (hz:t.place.size=es.size) (hl:t.led=(!w.params.followText "set-order")) (hn:es.size<=sizeLine)
  (h:∀ (I:Addr) (h2:Heap) d (fp:List Addr) (St:Nat->Heap->Prop) (ys:List (Int × Value)),(∀ b o,s.heap.get? b=some o->h2.get? b=some o)->s.heap.objs.size<=I->(∀ b∈fp,b=a\/s.heap.objs.size<=b)->ys.Perm es.toList ->
   Walks prog w A I fp [I] es.size (PV ys) St->St 0 h2->Q (.ref I) { s with heap:=h2,drawn:=d }):wpAny (model prog w) A (pyIter (.ref a)) Q E s:=by
 have hT:s.TypeIs (.ref a) "set" := ⟨o,ho,hex.1⟩
 have dr:a<s.heap.objs.size:=dc ho
 refine wpAny_pyIter_slot hT F.slot_set_iter (wpAny_call_entry F.slot_set_iter hT mW ?_ (F.args_set_iter_1 _))
 unfold Builtin.«frozenset.__iter__»
 refine ah (m:=Builtin.Frozenset.slot0 "__iter__" ⟨[.ref a],[]⟩) (wpAny_of_eq (a:=a) rfl ?_)
 refine ah ?_
 unfold Builtin.Frozenset.sizeOf
 refine ah (wpAny_setEntries_of ho hd hf (aI ?_))
 refine ah ?_
 unfold setDrawn
 refine ah (wpAny_setState_of ho hd hf ?_)
 dsimp only
 unfold setsByText
 refine ah (ah (wpAny_askSetting (aI ?_)))
 refine aI ?_
 have e0:pX es t=(!t.plain && decide (es.size>1)):=rfl
 unfold pX at e0
 rw[e0]
 show wpAny _ _ (if (!w.params.followText "set-order" && (!t.plain && decide (es.size>1)))=true then _ else _) _ _ s
 cases hb:w.params.followText "set-order" with
 |true =>
  rw[if_neg (by simp)]
  refine ah (aI ?_)
  refine ah (wpAny_setEpoch_of ho hd hf ?_)
  refine ah (wpAny_newObj_type ?_)
  refine aI ⟨_,rfl, "set_iterator",_,⟨_,g9 _ rfl,rfl⟩,bQ.lookup,?_⟩
  have mz:(s.heap.push { cls:=.type "set_iterator",data:=.fields #[rawInt 0,rawInt 0,.ref a,rawInt es.size,rawInt ep] }).get? a=some o:=eL _ ho
  exact h s.heap.objs.size _ s.drawn _ _ _ (fun b o e=>eL _ e) (bS _) (fun b hb=>by
   rcases dA.mp hb with rfl|hb
   ·exact .inr (bS _)
   ·exact .inl (ot.mp hb)) (lC _ _) (xf (ep:=ep) hh (eI dr) hb hf) ⟨⟨0,g9 _ rfl⟩,o,mz,hd⟩
 |false =>
  cases Kx:(!t.plain && decide (es.size>1)) with
  |false =>
   rw[if_neg (by simp)]
   refine ah (aI ?_)
   refine ah (wpAny_setEpoch_of ho hd hf ?_)
   refine ah (wpAny_newObj_type ?_)
   refine aI ⟨_,rfl, "set_iterator",_,⟨_,g9 _ rfl,rfl⟩,bQ.lookup,?_⟩
   have mz:(s.heap.push { cls:=.type "set_iterator",data:=.fields #[rawInt 0,rawInt 0,.ref a,rawInt es.size,rawInt ep] }).get? a=some o:=eL _ ho
   exact h s.heap.objs.size _ s.drawn _ _ _ (fun b o e=>eL _ e) (bS _) (fun b hb=>by
    rcases dA.mp hb with rfl|hb
    ·exact .inr (bS _)
    ·exact .inl (ot.mp hb)) (.refl _) (vQ (ep:=ep) hh (eI dr) hb (by rw[hl,hb];rfl) Kx U hz hf) ⟨g9 _ rfl,o,mz,hd⟩
  |true =>
   rw[if_pos (by simp)]
   refine ah (Ek es.size (List.range es.size) s _ (by simp) fun ix d hp=>?_)
   refine ah (wpAny_newObj_type ?_ ?hzz)
   case hzz =>
    have:=hp.length_eq
    rw[Rq] at this
    show(ix.map fun(i:Nat)=>rawInt i).toArray.size<=sizeLine
    rw[gy,bT,this];exact hn
   have zI:(s.heap.push { cls:=.type "tuple",data:=.seq (ix.map fun(i:Nat)=>rawInt i).toArray }).get? a=some o:=eL _ ho
   refine ah (wpAny_setEpoch_of zI hd hf ?_)
   refine ah (wpAny_newObj_type ?_)
   refine aI ⟨_,rfl, "set_iterator",_,⟨_,g9 _ rfl,rfl⟩,bQ.lookup,?_⟩
   have Qz:(s.heap.push { cls:=.type "tuple",data:=.seq (ix.map fun(i:Nat)=>rawInt i).toArray }).objs.size=s.heap.objs.size+1:=Ee ..
   refine h (s.heap.push { cls:=.type "tuple",data:=.seq (ix.map fun(i:Nat)=>rawInt i).toArray }).objs.size _ d [(s.heap.push { cls:=.type "tuple",data:=.seq (ix.map fun(i:Nat)=>rawInt i).toArray }).objs.size,a,s.heap.objs.size] _ (ix.filterMap fun k=>es[k]?) (fun b o e=>eL _ (eL _ e)) (by rw[Qz];exact Cb _) (fun b hb=>?_) ?_
    (wu (ep:=ep) (kT:=0) (T:=s.heap.objs.size) (ix:=ix) (t:=t) hh (by rw[Qz];exact eI (qA dr)) (by rw[Qz];exact eI (Nat.lt_succ_self _)) hf hp) ⟨g9 _ rfl,⟨o,eL _ zI,hd⟩,_,eL _ (g9 _ rfl),rfl⟩
   ·rcases dA.mp hb with rfl|hb
    ·exact .inr (by rw[Qz];exact Cb _)
    ·rcases dA.mp hb with rfl|hb
     ·exact .inl rfl
     ·rw[ot.mp hb];exact .inr (bS _)
   ·have:=hp.filterMap fun k=>es[k]?
    rw[vq] at this
    exact this
theorem zR (hT:s.TypeIs (.ref a) "set") (h:Q false s):wpAny (model prog w) A (Builtin.List.listLengthHint (.ref a)) Q E s:=by
 unfold Builtin.List.listLengthHint
 refine ah (wpAny_specialOf hT PySem.F.slot_set_len.lookup ?_)
 generalize Yh:("set.__len__" : String)=id0
 wp_delta
 rw[show splitId id0=some ("set", "__len__") from by subst Yh;decide +kernel]
 subst Yh
 refine ah (wpAny_isInstance (T := "set") (b:=true) hT (by rw[isSubtype_type];kernel_rfl) ?_)
 refine wpAny_ite_split (fun uk=>absurd uk (by decide)) (fun _=>?_)
 refine wpAny_ite_split (fun _=>?_) (fun uk=>absurd (by decide +kernel) uk)
 refine ah (wpAny_typeOf hT ?_)
 exact aI h
theorem DN {R:Result->Shared->Prop} (hh:A.handled=none) (ho:s.heap.get? a=some o) (hex:o.ExactSet) (hd:o.data=.set es ep t) (hf:t.fits es.size=true) (U:Up t.place) (hz:t.place.size=es.size) (hl:t.led=(!w.params.followText "set-order")) (hn:es.size<=sizeLine)
  (S:Addr) (Yi:S≠a) (res:Value) (c₀:Nat) (hS:s.heap.get? S=some { cls:=.type "list",data:=.seq #[] c₀ })
  (hR:∀ h' tk d mG c' ys,(∀ b o,b≠S->s.heap.get? b=some o->h'.get? b=some o)->h'.get? S=some { cls:=.type "list",dict:=none,data:=.seq mG c',slots:=#[] }->ys.Perm es.toList->ItemsOf (PV ys) mG es.size->R (.ok (.ret res)) { s with heap:=h',toks:=tk,drawn:=d }) :
  wpAny (model prog w) A.in1 (Builtin.List.listExtendWith (.ref S) (.ref a) res)
   (fun fin s'=>match fin with|.done f=>R (.ok f) s'|.again c'=>c'.quiet=true/\codeAny (model prog w) A c' R s') (fun e s'=>R (.error e) s') s:=by
 have hT:s.TypeIs (.ref a) "set" := ⟨o,ho,hex.1⟩
 have hSl:=dc hS
 unfold Builtin.List.listExtendWith
 refine ah (wpAny_typeOf hT ?_)
 have h1:Builtin.List.listSameRef (.ref S) (.ref a)=false:=by simp[Builtin.List.listSameRef,Yi]
 simp only[h1,show(Value.type "set" == Value.type "list")=false by decide,show(Value.type "set" == Value.type "tuple")=false by decide,Bool.or_false,gL,if_false]
 refine ah (zZ (A:=A.in1) hh ho hex hd hf U hz hl hn fun I h2 d fp St ys kp hI hfp hp W st=>?_)
 have Ap:S∉fp:=fun hm=>by
  rcases hfp S hm with z|z
  ·exact Yi z
  ·exact absurd hSl (Nat.not_lt.mpr z)
 have key:∀ (h:Heap) (c₁ tk:Nat),St 0 h->(∀ b o,b≠S->s.heap.get? b=some o->h.get? b=some o) ->
   h.get? S=some { cls:=.type "list",data:=.seq #[] c₁ }->codeAny (model prog w) A (.builtin "list.extend.loop" ⟨[.ref S,.ref I,res],[]⟩) R { s with heap:=h,toks:=tk,drawn:=d }:=by
  intro h c₁ tk iX hk FL
  refine codeAny_extend_loopS W.toS hn S Ap res es.size 0 _ #[] c₁ rfl (eP _) iX FL (ItemsOf.nil _) fun s' mG c' hm Au sD=>?_
  rw[Moved.eq_with hm]
  refine hR s'.heap s'.toks d mG c' ys (fun b o hb e=>hm.heap b o (fun BE=>?_) (hk b o hb e)) Au hp sD
  rcases dA.mp BE with e'|BE
  ·exact hb e'
  ·exact absurd (dc e) (by rw[ot.mp BE];exact Nat.not_lt.mpr hI)
 have FL:h2.get? S=some { cls:=.type "list",data:=.seq #[] c₀ }:=kp _ _ hS
 refine ah (wpAny_holding (zR (s:={ s with heap:=h2,drawn:=d }) ⟨o,kp _ _ ho,hex.1⟩ ?_))
 refine wpAny_ite_split (fun _=>?_) (fun _=>aI ⟨plainId_quiet PySem.F.plain_extend_loop _,key _ c₀ _ st (fun b o _ e=>kp b o e) FL⟩)
 refine ah (wpAny_rule ?_)
 refine ah ?_
 show wpAny _ _ (updateSeq S (·.push .none) >>= fun _=>updateSeq S (·.pop)) _ _ _
 refine ah (wpAny_updateSeq FL rfl ?_)
 have FP:=AK (Obj.mapSeq (·.push Value.none)) FL rfl
 refine wpAny_updateSeq (hz:=by seq_fits) FP rfl ?_
 have T4:=AK (Obj.mapSeq (·.pop)) FP rfl
 refine aI ⟨plainId_quiet PySem.F.plain_extend_loop _,key _ _ _ ?_ (fun b o hb e=>?_) T4⟩
 ·refine W.frame 0 _ _ st fun b hb o e=>?_
  have DS:b≠S:=fun h=>Ap (h ▸ hb)
  exact(yy _ _ (Ne.symm DS)).trans ((yy _ _ (Ne.symm DS)).trans e)
 ·exact(yy _ _ (Ne.symm hb)).trans ((yy _ _ (Ne.symm hb)).trans (kp _ _ e))
theorem vW(h:ItemsOf (PV ys) acc n)(hn:ys.length=n):acc.toList=ys.map (·.2):=by
 apply D8
 intro i
 rw[ox]
 by_cases hi:i<n
 ·have iE:i<acc.size:=by rw[h.1];exact hi
  have e1:acc[i]? = some acc[i]:=sT iE
  obtain⟨e,he,hv⟩:=h.2 i acc[i] e1
  rw[mw,e1,he,hv];rfl
 ·rw[wo (by rw[vi,h.1];lia),wo (by lia)];rfl
theorem jD {R:Result->Shared->Prop} (hh:A.handled=none) (ho:s.heap.get? a=some o) (hex:o.ExactSet) (hd:o.data=.set es ep t) (hf:t.fits es.size=true) (U:Up t.place) (hz:t.place.size=es.size) (hl:t.led=(!w.params.followText "set-order")) (hn:es.size<=sizeLine)
  (hR:∀ h' tk d mG c' ys,(∀ b o,s.heap.get? b=some o->h'.get? b=some o)->h'.get? s.heap.objs.size=some { cls:=.type "list",dict:=none,data:=.seq mG c',slots:=#[] }->ys.Perm es.toList->ItemsOf (PV ys) mG es.size->R (.ok (.ret (.ref s.heap.objs.size))) { s with heap:=h',toks:=tk,drawn:=d }) :
  codeAny (model prog w) A (.builtin "proto.collect" ⟨[.ref a],[]⟩) R s:=by
 have dr:a<s.heap.objs.size:=dc ho
 have hS:(s.heap.push { cls:=.type "list",data:=.seq ([]:List Value).toArray }).get? s.heap.objs.size=some { cls:=.type "list",data:=.seq ([]:List Value).toArray }:=g9 _ rfl
 refine codeAny_builtin F.entry_proto_collect ?_
 rw[Around.under_plainId F.plain_proto_collect _]
 show wpAny _ A.in1 (newList [] >>= fun l=>again (.builtin "list.__iadd__" ⟨[l,.ref a],[]⟩)) _ _ s
 refine ah (wpAny_newObj_type ?_)
 refine aI ⟨plainId_quiet F.plain_list_iadd _,codeAny_builtin F.entry_list_iadd ?_⟩
 rw[Around.under_plainId F.plain_list_iadd _]
 show wpAny _ A.in1 (Builtin.List.listExtendWith (.ref s.heap.objs.size) (.ref a) (.ref s.heap.objs.size)) _ _ _
 exact DN (R:=R) (s:={ s with heap:=s.heap.push { cls:=.type "list",data:=.seq ([]:List Value).toArray } }) hh (eL _ ho) hex hd hf U hz hl hn s.heap.objs.size (yA dr) _ 0 hS fun h' tk d mG c' ys kp eo hp ia =>
  hR h' tk d mG c' ys (fun b o e=>kp b o (eI (dc e)) (eL _ e)) eo hp ia
theorem sI (hh:A.handled=none) (ho:s.heap.get? a=some o) (hex:o.ExactSet) (hd:o.data=.set es ep t) (hf:t.fits es.size=true) (U:Up t.place) (hz:t.place.size=es.size) (hl:t.led=(!w.params.followText "set-order")) (hn:es.size<=sizeLine)
  (hQ:∀ h' tk d vs,(∀ b o,s.heap.get? b=some o->h'.get? b=some o)->s.heap.objs.size<=h'.objs.size->vs.Perm (es.toList.map (·.2))->Q vs { s with heap:=h',toks:=tk,drawn:=d }):wpAny (model prog w) A (collect (.ref a)) Q E s:=by
 unfold collect
 refine ah (wpAny_runValue (jD hh ho hex hd hf U hz hl hn fun h' tk d acc c ys kp eo hp ia=>?_))
 show wpAny _ A (load s.heap.objs.size >>= _) _ _ { s with heap:=h',toks:=tk,drawn:=d }
 refine ah (wpAny_load eo ?_)
 refine aI (hQ h' tk d _ kp (kQ (dc eo)) ?_)
 rw[vW ia (by rw[hp.length_eq];simp)]
 exact hp.map _
end
end TS
namespace xk
open PySem PyProof.Rows
section
variable {prog:Program}{w:World}{A:Around}{E:Value->Shared->Prop}{s:Shared}{κ:SortKind}{r:Value->Int}{P:Value->Prop}
theorem sU{R:List Value->Prop}
  (Tj:∀ (A':Around) (E':Value->Shared->Prop) (Q':List Value->Shared->Prop),A'.handled=A.handled->(∀ vs h1 tk d,R vs->(∀ b o,s.heap.get? b=some o->h1.get? b=some o)->s.heap.objs.size<=h1.objs.size->Q' vs { s with heap:=h1,toks:=tk,drawn:=d })->wpAny (model prog w) A' (collect v) Q' E' s)
  (hsz:∀ vs,R vs->vs.length<=sizeLine) (hP:∀ vs,R vs->∀ v∈vs,P v)
  (hk:∀ vs,R vs->2<=vs.length->∀ (A':Around) (E':Value->Shared->Prop) (s':Shared),(∀ b o,s.heap.get? b=some o->s'.heap.get? b=some o)->∀ (Q:SortKind->Shared->Prop),Q κ s'->wpAny (model prog w) A' (keyKind' vs.toArray) Q E' s')
  (C:∀ (s':Shared),(∀ b o,s.heap.get? b=some o->s'.heap.get? b=some o)->lI prog w A.in1.in1 s' κ r P)
  (h:∀ (vs:List Value) (h':Heap) (a:Addr) (out:List Value) (n tk:Nat) d,R vs->out.Perm vs->(out.Pairwise fun x y=>r x<=r y)->(∀ b o,s.heap.get? b=some o->h'.get? b=some o)->s.heap.objs.size<=a->h'.get? a=some (seqObj "list" out.toArray n)->Q (.ref a) { s with heap:=h',toks:=tk,drawn:=d }) :
  wpAny (model prog w) A (call (.builtin "sorted") [v]) Q E s:=by
 refine Calls.call_function_entry kind_sorted plain_sorted entry_sorted (args_sorted1 _) ?_
 unfold Builtin.«sorted»
 refine ah (m:=checkCount "sorted" 1 1 _) (aI ?_)
 refine ah (Tj _ _ _ rfl fun vs h1 tk d hR kp hz=>?_)
 have z0:=hsz vs hR
 refine ah (wpAny_newList ?_ (by simpa using z0))
 have vt:(h1.push (seqObj "list" vs.toArray 0)).get? h1.objs.size=some (seqObj "list" vs.toArray 0):=g9 _ rfl
 have old:∀ b o,s.heap.get? b=some o->(dw (h1.push (seqObj "list" vs.toArray 0)) h1.objs.size vs).get? b=some o:=fun b o e=>by
  have dr:b<h1.objs.size:=dc (kp b o e)
  rw[h_ (eI dr) (by rw[size_push'];exact qA dr)]
  exact eL _ (kp b o e)
 show wpAny _ _ _ _ _ { s with heap:=h1.push (seqObj "list" vs.toArray 0),toks:=tk,drawn:=d }
 refine ah (wpAny_holding (wpAny_call_entry slot_list_sort ⟨_,vt,rfl⟩ entry_list_sort (gh (r:=r) (s:={ s with heap:=h1.push (seqObj "list" vs.toArray 0),toks:=tk,drawn:=d }) vt z0 (hP vs hR)
  (fun h2=>hk vs hR h2 _ _ _ old) (fun h2=>C _ old) fun out a1 a2=>⟨_,rfl,?_⟩) (args_list_sort _)))
 obtain⟨n,e⟩:=sortedHeap_at (out:=out) vt
 refine aI ⟨_,rfl,h vs _ h1.objs.size out.toList n tk d hR a1 a2 (fun b o e=>?_) hz (by rw[O0];exact e)⟩
 have dr:b<h1.objs.size:=dc (kp b o e)
 rw[sortedHeap_old (eI dr) (by rw[size_push'];exact qA dr)]
 exact eL _ (kp b o e)
end
end xk
namespace TS
open PySem PySem.SetTable PyProof.Rows
section
variable {K:Type}[DecidableEq K]
theorem zy(led:Bool):TI (α:=α) (SetTable.fresh 0 0 led) #[] :=
 ⟨⟨3,rfl,bS _⟩,rfl,fun i j h hj=>absurd hj (EA _),fun i hi=>absurd hi (EA _),rfl,(by show 0*5<7*3;decide),fun i h x e=>by simp at e⟩
end
end TS
namespace L2
open PySem PySem.Spec PyProof.Rows
section
variable {X:Cx}{pins:List (Addr × Obj)}{σ:St}{H:Hp}{s:Shared}
theorem Inv.drawn{d}(I:Inv X pins σ H s):Inv X pins σ H { s with drawn:=d }:=⟨I.ok,I.os,I.bare,I.base,I.loc,I.cell,I.free,I.nh,I.pin,I.aC,I.len⟩
theorem zQ:∀ (k:Key) (v:Value),(jS prog w).is k v=true->v.scannable=true:=fun k v h=>by
 rcases vk h with⟨i,t,rfl,rfl⟩|⟨x,t,rfl,rfl⟩<;>rfl
theorem b7.pairs(h:b7 H ys ks)(hv:Vals ys vs):∃ xs:List (List Key × Addr),vs=xs.map (fun p=>Value.ref p.2)/\xs.map (·.1)=ks/\∀ p∈xs,H p.2=some (.tup (p.1.map kV)):=by
 induction ys generalizing ks vs with
 |nil=>exact⟨[],Paired.n0 hv,(show ks=[] from Paired.n0 h).symm,fun p hp=>nomatch hp⟩
 |cons y ys ih =>
  obtain⟨k,ks,rfl,⟨b,rfl,g⟩,t⟩:=Paired.c h
  obtain⟨v,vs,rfl,rfl,rs⟩:=Paired.c hv
  obtain⟨xs,e1,e2,e3⟩:=ih t rs
  refine⟨(k,b) :: xs,by rw[e1];rfl,by rw[<- e2];rfl,fun p hp=>?_⟩
  rcases dA.mp hp with rfl|hp
  ·exact g
  ·exact e3 p hp
end
end L2
namespace TS
open PySem PySem.SetTable PyProof.Rows
end TS
namespace L2
open PySem PySem.Spec PyProof.Rows
end L2
namespace L2.Q
open PySem PySem.Spec PyProof.Rows
section
theorem Gg:bootBuiltins "set" = some (.type "set"):=by decide +kernel
end
end L2.Q
namespace L2.Q.R
open PySem PySem.Spec PyProof.Rows L2.Q
end L2.Q.R
namespace L2
open PySem PySem.Spec PyProof.Rows
section
variable {prog:Program}{w:World}{A:Around}{E:Value->Shared->Prop}{s:Shared}{I l:Addr}{items:Array Value}
theorem qg:typeLookup (.type "list_reverseiterator") "__len__" = pure none:=by rw[typeLookup_type,builtinLookup_eq_fast];kernel_rfl
theorem oN:typeLookup (.type "list_reverseiterator") "__length_hint__" = pure (some (.builtin "list_reverseiterator.__length_hint__")):=by rw[typeLookup_type,builtinLookup_eq_fast];kernel_rfl
theorem Al (hT:s.TypeIs (.ref I) "list_reverseiterator") (h:Q false s):wpAny (model prog w) A (Builtin.List.listLengthHint (.ref I)) Q E s:=by
 unfold Builtin.List.listLengthHint
 refine ah (wpAny_specialOf hT qg ?_)
 dsimp only
 rw[if_neg (by decide +kernel)]
 simp only[Option.isSome_none,gL,if_false]
 refine ah (wpAny_specialOf hT oN ?_)
 dsimp only
 rw[show splitId "list_reverseiterator.__length_hint__" = some ("list_reverseiterator", "__length_hint__") by decide +kernel]
 dsimp only
 refine ah (wpAny_isInstance (T := "list_reverseiterator") (b:=true) hT (by rw[isSubtype_type];kernel_rfl) ?_)
 refine wpAny_ite_split (fun uk=>absurd uk (by decide)) (fun _=>?_)
 refine wpAny_ite_split (fun _=>?_) (fun uk=>absurd (by decide +kernel) uk)
 refine wpAny_ite_split (fun uk=>absurd uk (by decide)) (fun _=>?_)
 exact aI h
theorem Ar {T:String} {P:Nat->Value->Prop} {St:Nat->Heap->Prop} {R:Result->Shared->Prop} (W:Walks prog w A.in1 I fp [I] n P St) (hT:s.TypeIs (.ref I) T) (wc:(Value.type T == Value.type "list")=false) (vS:(Value.type T == Value.type "tuple")=false)
  (hint:∀ (A':Around) (E':Value->Shared->Prop) (Q':Bool->Shared->Prop),Q' false s->wpAny (model prog w) A' (Builtin.List.listLengthHint (.ref I)) Q' E' s) (st:St 0 s.heap) (hn:n<=sizeLine)
  (S:Addr) (hSI:S≠I) (Ap:S∉fp) (res:Value) (c₀:Nat) (hS:s.heap.get? S=some { cls:=.type "list",data:=.seq #[] c₀ })
  (hR:∀ h' tk mG c',(∀ b o,b≠S->b≠I->s.heap.get? b=some o->h'.get? b=some o)->h'.get? S=some { cls:=.type "list",dict:=none,data:=.seq mG c',slots:=#[] }->ItemsOf P mG n->R (.ok (.ret res)) { s with heap:=h',toks:=tk }) :
  wpAny (model prog w) A.in1 (Builtin.List.listExtendWith (.ref S) (.ref I) res)
   (fun fin s'=>match fin with|.done f=>R (.ok f) s'|.again c'=>c'.quiet=true/\codeAny (model prog w) A c' R s') (fun e s'=>R (.error e) s') s:=by
 have key:∀ (h:Heap) (c₁ tk:Nat),St 0 h->(∀ b o,b≠S->s.heap.get? b=some o->h.get? b=some o) ->
   h.get? S=some { cls:=.type "list",data:=.seq #[] c₁ }->codeAny (model prog w) A (.builtin "list.extend.loop" ⟨[.ref S,.ref I,res],[]⟩) R { s with heap:=h,toks:=tk }:=by
  intro h c₁ tk iX hk FL
  refine codeAny_extend_loopS W.toS hn S Ap res n 0 _ #[] c₁ rfl (eP _) iX FL (ItemsOf.nil _) fun s' mG c' hm Au sD=>?_
  rw[Moved.eq_with hm]
  refine hR s'.heap s'.toks mG c' (fun b o hb N7 e=>hm.heap b o (fun BE=>?_) (hk b o hb e)) Au sD
  rcases dA.mp BE with e'|BE
  ·exact hb e'
  ·exact N7 (ot.mp BE)
 unfold Builtin.List.listExtendWith
 refine ah (wpAny_typeOf (T:=T) hT ?_)
 have h1:Builtin.List.listSameRef (.ref S) (.ref I)=false:=by simp[Builtin.List.listSameRef,hSI]
 simp only[h1,wc,vS,Bool.or_false,gL,if_false]
 refine ah (W.self 0 _ _ _ st ?_)
 refine ah (wpAny_holding (hint _ _ _ ?_))
 refine wpAny_ite_split (fun _=>?_) (fun _=>aI ⟨plainId_quiet PySem.F.plain_extend_loop _,key _ c₀ _ st (fun b o _ e=>e) hS⟩)
 refine ah (wpAny_rule ?_)
 refine ah ?_
 show wpAny _ _ (updateSeq S (·.push .none) >>= fun _=>updateSeq S (·.pop)) _ _ _
 refine ah (wpAny_updateSeq hS rfl ?_)
 have FP:=AK (Obj.mapSeq (·.push Value.none)) hS rfl
 refine wpAny_updateSeq (hz:=by seq_fits) FP rfl ?_
 have T4:=AK (Obj.mapSeq (·.pop)) FP rfl
 refine aI ⟨plainId_quiet PySem.F.plain_extend_loop _,key _ _ _ ?_ (fun b o hb e=>?_) T4⟩
 ·refine W.frame 0 _ _ st fun b hb o e=>?_
  have DS:b≠S:=fun h=>Ap (h ▸ hb)
  exact(yy _ _ (Ne.symm DS)).trans ((yy _ _ (Ne.symm DS)).trans e)
 ·exact(yy _ _ (Ne.symm hb)).trans ((yy _ _ (Ne.symm hb)).trans e)
theorem pP(hh:A.handled=none)(hI:s.heap.IsRevIter I l ((items.size:Int)-1))(hl:s.heap.IsList l items)(fI:l≠I)(hn:items.size<=sizeLine)
  (hQ:∀ h' tk c',(∀ b o,b≠I->s.heap.get? b=some o->h'.get? b=some o)->h'.get? s.heap.objs.size=some { cls:=.type "list",dict:=none,data:=.seq items.reverse c',slots:=#[] }->Q (.ref s.heap.objs.size) { s with heap:=h',toks:=tk }) :
  wpAny (model prog w) A (call (.type "list") [.ref I]) Q E s:=by
 have Yj:I<s.heap.objs.size:=by obtain⟨o,ho,_⟩:=hI;exact dc ho
 have hll:l<s.heap.objs.size:=by obtain⟨o,ho,_⟩:=hl;exact dc ho
 refine callType_codes (Q₁:=fun obj eK=>obj=.ref s.heap.objs.size/\eK={ s with heap:=s.heap.push { cls:=.type "list",data:=.seq #[] } }) PySem.F.called_list (PySem.F.typeCall_list_1 _) PySem.F.entry_list_init
  (code_list_new _ ⟨rfl,rfl⟩) fun obj eK Ic=>?_
 obtain⟨rfl,rfl⟩:=Ic
 have hS:(s.heap.push { cls:=.type "list",data:=.seq #[] }).get? s.heap.objs.size=some { cls:=.type "list",data:=.seq #[] }:=g9 _ rfl
 refine⟨⟨_,hS,rfl⟩,PySem.F.args_list_init_2 _ _,?_⟩
 show wpAny _ _ (do let old <- Builtin.List.listItems (.ref s.heap.objs.size);Builtin.List.listUpdate (.ref s.heap.objs.size) (fun _=>#[]);letGo old.toList.reverse;Builtin.List.listExtendWith (.ref s.heap.objs.size) (.ref I) .none) _ _ _
 refine ah ?_
 unfold Builtin.List.listItems
 refine ah (wpAny_seqItems hS rfl (aI ?_))
 show wpAny _ _ (updateSeq s.heap.objs.size (fun _=>#[]) >>= fun _=>letGo (#[]:Array Value).toList.reverse >>= fun _=>Builtin.List.listExtendWith (.ref s.heap.objs.size) (.ref I) .none) _ _ _
 refine ah (wpAny_updateSeq hS rfl ?_)
 have FP:=AK (Obj.mapSeq (fun _=>(#[]:Array Value))) hS rfl
 have T5:∀ b o,s.heap.get? b=some o->((s.heap.push { cls:=.type "list",data:=.seq #[] }).update s.heap.objs.size (Obj.mapSeq (fun _=>(#[]:Array Value)))).get? b=some o :=
  fun b o e=>(yy _ _ (Ne.symm (eI (dc e)))).trans (eL _ e)
 refine ah (wpAny_letGo ?_)
 have T6:Heap.IsRevIter ((s.heap.push { cls:=.type "list",data:=.seq #[] }).update s.heap.objs.size (Obj.mapSeq (fun _=>(#[]:Array Value)))) I l ((items.size:Int)-1):=hI.at fun o e=>T5 _ _ e
 refine Ar (A:=A.in1) (Walks.listRev (show A.in1.in1.handled=none from hh) I l fI items) T6.typeIs (by decide) (by decide) (fun A' E' Q' q=>Al T6.typeIs q) ⟨eP _,by simpa using T6,?_⟩ hn s.heap.objs.size (yA Yj) (by
  simp only[dA,wt,or_false,not_or]
  exact⟨yA Yj,yA hll⟩) .none _ FP fun h' tk mG c' hk Au sD=>?_
 ·exact hl.at fun o e=>T5 _ _ e
 ·have e:mG=items.reverse:=by
   apply Array.ext_getElem?
   intro i
   by_cases hi:i<items.size
   ·have iE:i<mG.size:=by rw[sD.1];exact hi
    have:=sD.2 i mG[i] (sT iE)
    rw[sT iE,<- this,Array.getElem?_reverse hi]
   ·rw[CB (by rw[sD.1];lia),CB (by rw[Array.size_reverse];lia)]
  rw[e] at Au
  exact⟨rfl,hQ h' tk c' (fun b o hb e=>hk b o (eI (dc e)) hb (T5 b o e)) Au⟩
end
section
variable {X:Cx}{e:Expr}{te:TE}{p p2 pos rV:Pos}
def jM(K:PySem.W.Frag):V->Hp->VK->Prop:=fun x H Q=>match x with
 |.ref a=>∃ ys,eM K H a ys/\∀ l,H l=none->Q (.ref l) (upd H l (.lst ys.reverse))
 |_=>False
theorem Vals.rev(h:Vals xs vs):Vals xs.reverse vs.reverse:=by
 induction xs generalizing vs with
 |nil=>rw[Paired.n0 h];exact .nil
 |cons x xs ih =>
  obtain⟨v,vs,rfl,r,rs⟩:=Paired.c h
  rw[Oz,Oz]
  exact Vals.append (ih rs) (.cons r .nil)
theorem vP (hc:X.calm=true) (hg:Gl X "list") (hm:X.mg "list" = none) (FR:Gl X "reversed") (mE:X.mg "reversed" = none) (he:PE X e te)
  (hv:bootBuiltins "list" = some (.type "list")) (T7:bootBuiltins "reversed" = some (.type "reversed"))
  (oC:starEach [e] X.env=(false,eval e X.env) :: starEach [] X.env:=by rfl)
  (hs:starEach [.Call (.Name "reversed" p2) [e] [] rV] X.env=(false,eval (.Call (.Name "reversed" p2) [e] [] rV) X.env) :: starEach [] X.env:=by rfl) :
  PE X (.Call (.Name "list" p) [.Call (.Name "reversed" p2) [e] [] rV] [] pos) (R3 (jM X.K) te):=by
 intro pins s σ H Q I h
 refine wpAny_Call_Name_kw (AX I hg hm hv ?_ (by decide) (by decide))
 refine PyProof.Rows.callWith_type1 ?_ hs rfl
 rw[hs]
 refine Calls.spliced_cons ?_
 refine wpAny_Call_Name_kw (AX I FR mE T7 ?_ (by decide) (by decide))
 refine PyProof.Rows.callWith_type1 ?_ oC rfl
 rw[oC]
 refine Calls.spliced_cons (b5 (he pins s σ H _ I h) fun u s1 b6=>L2.fE b6 fun x H1 I1 r1 q1=>Calls.spliced_nil ?_)
 have q1:jM X.K x H1 Q:=q1
 obtain⟨a,rfl⟩:∃ a,x=.ref a:=by
  unfold jM at q1
  split at q1
  ·exact⟨_,rfl⟩
  ·exact q1.elim
 obtain⟨ys,hl,q⟩:=q1
 cases r1
 obtain⟨vs,rv,pl,hz⟩:=I1.list hl
 have KG:X.A.handled=none:=I1.ok.hd hc
 have wc:s1.heap.IsList a vs.toArray:=pl.isList
 have hal:a<s1.heap.objs.size:=by obtain⟨o,ho,_⟩:=wc;exact dc ho
 refine call_reversed_list wc ?_
 refine Calls.spliced_nil ?_
 have hlen:=rv.length
 refine pP (s:={ s1 with heap:=s1.heap.push (revObj a ((vs.toArray.size:Int)-1)) }) KG ⟨_,g9 _ rfl,rfl,rfl⟩ (wc.push _) (eI hal) (by rw[gy];lia) fun h' tk c' kp eo=>?_
 have Yk:(s1.heap.push (revObj a ((vs.toArray.size:Int)-1))).objs.size=s1.heap.objs.size+1:=Ee ..
 refine⟨.ref (s1.heap.push (revObj a ((vs.toArray.size:Int)-1))).objs.size,_,I1.laid (a:=(s1.heap.push (revObj a ((vs.toArray.size:Int)-1))).objs.size) (t':=tk) (fun b o e=>kp b o (eI (dc e)) (eL _ e)) (by rw[Yk];exact Cb _) (show eJ X.prog X.w _ h' _ (.lst ys.reverse) from⟨by rw[List.length_reverse];exact hz,vs.reverse,c',rv.rev,by simpa using eo⟩),rfl,q _ (I1.aC.fresh (by rw[Yk];exact Cb _))⟩
end
end L2
namespace L2.Q
open PySem PySem.Spec PyProof.Rows
section
variable {X:Cx}{K:PySem.W.Frag}{e:Expr}{te:WE}{p p2 pos rV:Pos}
def jR:W1:=fun m x Q=>match x with
 |.list xs=>cy xs=true/\Q (.ow true) (.list xs.reverse)
 |_=>False
theorem bp.rev(r:bp K H ds vs):bp K H ds.reverse vs.reverse:=by
 induction ds generalizing vs with
 |nil=>rw[r.n0];exact .nil
 |cons d ds ih =>
  obtain⟨u,us,rfl,r,rs⟩:=r.c
  rw[Oz,Oz]
  exact(ih rs).append (.cons r .nil)
theorem xN(h:cy xs=true):cy xs.reverse=true:=fY.mpr fun x hx=>fY.mp h x (List.mem_reverse.mp hx)
theorem vB:Qj K (jM K) jR:=by
 intro Hs H m x v As Qd Qv w rx h f
 have r1:=rx.rep w
 cases r1 with
 |list z s q =>
  have hl:=q.length
  exact⟨_,s,f.lst w (by rw[List.length_reverse];lia) q.rev (xN h.1) h.2⟩
 |_=>exact h.elim
theorem sH:bootBuiltins "reversed" = some (.type "reversed"):=by decide +kernel
theorem wD (hg:Gl X "list") (hm:X.mg "list" = none) (FR:Gl X "reversed") (mE:X.mg "reversed" = none) (he:QE X K e te) (hc:X.calm=true:=by rfl) (hK:X.K=K:=by rfl)
  (oC:starEach [e] X.env=(false,eval e X.env) :: starEach [] X.env:=by rfl)
  (hs:starEach [.Call (.Name "reversed" p2) [e] [] rV] X.env=(false,eval (.Call (.Name "reversed" p2) [e] [] rV) X.env) :: starEach [] X.env:=by rfl) :
  QE X K (.Call (.Name "list" p) [.Call (.Name "reversed" p2) [e] [] rV] [] pos) (i6 jR te):=by
 subst hK
 refine PE.imp (vP hc hg hm FR mE he jl sH oC hs) fun σ H Qv hx=>kr hx fun Hs ρ ae Q sr h fin=>?_
 exact⟨Hs,ρ,ae,_,sr,h,fun v H1 aE m x As g1 r1 f1 q1=>vB aE H1 m x v As Q Qv g1.wf r1 q1 (Fin.after fin g1)⟩
end
end L2.Q
namespace L2.Q.R
open PySem PySem.Spec PyProof.Rows L2.Q
section
variable {Q:Md->L2.Q.D->Prop}{m:Md}{xs:List L2.Q.D}
theorem G6:jR m (.list xs) Q=(cy xs=true/\Q (.ow true) (.list xs.reverse)):=rfl
end
end L2.Q.R
namespace L2.Q
open PySem PySem.Spec PyProof.Rows PySem.W
abbrev Yl:List Value:=[.type "ValueError",.type "Exception",.type "BaseException",.type "object"]
structure nX(K:PySem.W.Frag)(C:Addr):Prop where
 ex:excIn K C Yl "ValueError.__new__" = true
 gx:findIn K (.ref C) "__getattr__" = some none
 ga:findIn K (.ref C) "__getattribute__" = some (some (.builtin "BaseException.__getattribute__"))
 cl:findIn K (.ref C) "__class__" = some (some (.builtin "object.__class__"))
 ob:mroIn K C (.type "object")=some true
theorem nX.obj{K:PySem.W.Frag}(x:nX K C)(X:K.In h):∃ bm N nm q bs hdct sn sub ab col dd k0 k1 k2 k3 k5 mN,
  h.get? C=some (excClassObj nm q C N bs bm hdct sn sub ab col dd k0 k1 k2 k3 k5 "ValueError.__new__")/\h.Ns N mN/\mN "__init__" = none/\OwnTail h Yl bm:=by
 have q:=x.ex
 unfold excIn at q
 split at q
 ·rename_i dd cd sl ho
  split at q
  ·rename_i C' bm k0 k1 k2 k3 n k5 hm hs
   simp only[kH,beq_iff_eq,Rz] at q
   obtain⟨⟨⟨⟨⟨e1,e2⟩,Ym⟩,ht⟩,aC⟩,BM⟩:=q
   cases e1;cases e2
   cases cd
   dsimp only at hm Ym aC BM
   cases hm;cases Ym
   have N3:sl = #[k0,k1,k2,k3,some (.builtin "ValueError.__new__"),k5]:=by
    cases sl
    dsimp only at hs
    rw[hs]
   cases N3
   exact⟨bm,_,_,_,_,_,_,_,_,_,dd,k0,k1,k2,k3,k5,_,X _ _ ho,.of_isNs (isNs_of_in X aC),nsMap_none_of_in X aC BM,tail_of_in X ht⟩
  ·cases q
 ·cases q
section
variable {prog:Program}{w:World}{A:Around}{E:Value->Shared->Prop}{h:Heap}{g:Array GenState}{d:Drawn}{t:Nat}{os:OsState}{a C:Addr}{o:Obj}{K:PySem.W.Frag}
theorem Ae{R:Result->Shared->Prop}(x:nX K C)(X:K.In h)(hx:h.get? a=some o)(hc:o.cls=.ref C)(hq:R (.ok (.ret (.ref C))) ⟨h,g,d,t,os⟩) :
  codeAny (model prog w) A (.call (.builtin "getset_descriptor.__get__") ⟨[.builtin "object.__class__",.ref a,.ref C],[]⟩) R ⟨h,g,d,t,os⟩:=by
 obtain⟨bm,N,nm,q,bs,hdct,sn,sub,ab,col,dd,k0,k1,k2,k3,k5,mN,hC,hN,BM,T⟩:=x.obj X
 have Yn:(⟨h,g,d,t,os⟩:Shared).TypeIs (.builtin "object.__class__") "getset_descriptor" := F.typeOf_object_class
 have N8:(Value.ref C :: bm).contains (.type (".".intercalate ("object.__class__".cutAt '.').dropLast))=true:=by
  rw[F.owner_object_class,Rp,T.hasType (X := "object") (b:=true) rfl];rfl
 refine codeAny_call_builtin F.slot_gs_get.plain F.entry_gs_get (F.slot_gs_get.check _ _ _ _ _ _ _ _ Yn (F.args_gs_get _ _ _) ?_)
 repeat (any_goals (first|assumption|(with_reducible refine wpAny_loadPart_at hx ?_;rw[hc])|(with_reducible refine wpAny_isSubtype_exc hC ?_;rw[N8])|wp_step))
 refine⟨Code.quiet_builtin _ (by decide +kernel),codeAny_builtin F.entry_object_class ?_⟩
 repeat (any_goals (first|assumption|(with_reducible refine wpAny_loadPart_at hx ?_;rw[hc])|wp_step))
theorem vJ(x:nX K C)(X:K.In h)(hx:h.get? a=some o)(hc:o.cls=.ref C)(hq:Q (.done (.ret (.ref C))) ⟨h,g,d,t,os⟩) :
  wpAny (model prog w) A (Builtin.«object.__getattribute__» ⟨[.ref a,.str "__class__" tk],[]⟩) Q E ⟨h,g,d,t,os⟩:=by
 have Yn:(⟨h,g,d,t,os⟩:Shared).TypeIs (.builtin "object.__class__") "getset_descriptor" := F.typeOf_object_class
 have f5:=F.typeOf_object_class
 have f6:=F.slot_gs_get.lookup
 have f7:=F.slot_gs_set.lookup
 have Lk:=looks_findIn (M:=model prog w) X x.cl
 repeat (any_goals (first|assumption|(with_reducible refine wpAny_loadPart_at hx ?_;rw[hc])|with_reducible refine Lk.at ?_|wp_step))
 refine Ae x X hx hc ?_
 repeat (any_goals (first|assumption|wp_step))
theorem Ei(x:nX K C)(X:K.In h)(hx:h.get? a=some o)(hc:o.cls=.ref C)(hq:Q (.ref C) ⟨h,g,d,t,os⟩) :
  wpAny (model prog w) A (getAttrBy (.ref a) (.str "__class__" tk) false) Q E ⟨h,g,d,t,os⟩:=by
 have f3:=F.attr_ValueError.ga.bind (.ref a)
 have hx2:(Value.builtin "BaseException.__getattribute__" == Value.builtin "object.__getattribute__")=false:=by decide +kernel
 have Yo:(onTheHeap (Value.ref C) && Value.builtin "BaseException.__getattribute__" == Value.builtin "object.__getattribute__")=false:=by rw[hx2];rfl
 have Lk:=looks_findIn (M:=model prog w) X x.ga
 have Lg:=looks_findIn (M:=model prog w) X x.gx
 repeat (any_goals (first|assumption|(with_reducible refine wpAny_loadPart_at hx ?_;rw[hc])|with_reducible refine Lk.at ?_|with_reducible refine Lg.at ?_|wp_step))
 obtain⟨bm,N,nm,q,bs,hdct,sn,sub,ab,col,dd,k0,k1,k2,k3,k5,mN,hC,hN,BM,T⟩:=x.obj X
 have hk:builtinKind "BaseException.__getattribute__" = some .slot:=by decide +kernel
 have hsplit:splitId "BaseException.__getattribute__" = some ("BaseException", "__getattribute__"):=by decide +kernel
 have N8:(Value.ref C :: bm).contains (.type "BaseException")=true:=by rw[Rp,T.hasType (X := "BaseException") (b:=true) rfl];rfl
 have chk:∀ {Q':Unit->Shared->Prop} {E':Value->Shared->Prop} {A':Around},Q' () ⟨h,g,d,t,os⟩->wpAny (model prog w) A' (checkBuiltinCall "BaseException.__getattribute__" ⟨[.ref a,.str "__class__" tk],[]⟩) Q' E' ⟨h,g,d,t,os⟩:=fun {Q' E' A'} x2=>by
  have ha:=F.args_bexc_ga (.ref a) (.str "__class__" tk)
  simp only[checkBuiltinCall,hk,hsplit]
  refine ah ?_
  unfold isInstance
  repeat (first|(with_reducible refine wpAny_loadPart_at hx ?_;rw[hc])|(with_reducible refine wpAny_isSubtype_exc hC ?_;rw[N8])|wp_step)
  exact x2
 refine codeAny_call_builtin F.attr_ValueError.ga.plain F.entry_bexc_ga (chk (vJ x X hx hc ?_))
 repeat (any_goals (first|assumption|wp_step))
theorem yj (x:nX K C) (X:K.In h) (hx:h.get? a=some o) (hc:o.cls=.ref C) (hq:Q (some (.ref C)) ⟨h,g,d,t+1,os⟩):wpAny (model prog w) A (getAttr? (.ref a) "__class__") Q E ⟨h,g,d,t,os⟩:=by
 unfold getAttr? getAttrBy?
 repeat (any_goals (first|assumption|with_reducible apply Ei x X hx hc|wp_step))
end
def Yp(a C:Addr)(h:Heap):Prop:=∃ o,h.get? a=some o/\o.cls=.ref C
theorem nX.eZ'{K:PySem.W.Frag}(x:nX K C)(X:K.In h):Looks M h (isType (.ref C)) true:=by
 obtain⟨bm,N,nm,q,bs,hdct,sn,sub,ab,col,dd,k0,k1,k2,k3,k5,mN,hC,hN,BM,T⟩:=x.obj X
 intro A' Q' E' s' k q
 unfold isType loadHead
 exact ah (wpAny_loadPart (k _ _ hC) (aI q))
theorem Ao{K:PySem.W.Frag}(x:nX K C):KitX K (.ref a) (.ref C) (Yp a C) where
 ty:=fun M h X p=>by
  obtain⟨o,h1,h2⟩:=p
  exact h2 ▸ (Looks.ld h1).andThen .now
 it:=fun M h X p=>x.eZ' X
 ne:=fun h tp dd its n sl X htp=>by
  obtain⟨bm,N,nm,q,bs,hdct,sn,sub,ab,col,dd,k0,k1,k2,k3,k5,mN,hC,hN,BM,T⟩:=x.obj X
  refine Bool.eq_false_iff.mpr fun q=>?_
  have e:C=tp:=Value.ref.inj (beq_iff_eq.mp q)
  subst e
  have z:=congrArg (fun o=>o.map (·.data)) (hC.symm.trans htp)
  cases z
 ca:=fun {prog w A E Q s} X p k=>by
  obtain⟨h,g,d,t,os⟩:=s
  obtain⟨o,h1,h2⟩:=p
  exact yj x X h1 h2 k
theorem sS{K:PySem.W.Frag}{a C R:Addr}{os:OsState}(x:nX K C)(r:nX K R)(sub:mroIn K C (.ref R)=some true)(X:K.In h)(p:Yp a C h)
  (hq:Q true ⟨h,g,d,t,os⟩):wpAny M A (excMatches (.ref a) (.ref R)) Q E ⟨h,g,d,t,os⟩:=by
 obtain⟨bm,N,nm,q,bs,hdct,sn,iQ',ab,col,dd,k0,k1,k2,k3,k5,mN,hC,hN,BM,T⟩:=r.obj X
 obtain⟨oe,he,RQ⟩:=p
 have N8:(Value.ref R :: bm).contains (.type "BaseException")=true:=by rw[Rp,T.hasType (X := "BaseException") (b:=true) rfl];rfl
 have f:=tc_notTuple
 have Lk:=looks_mroIn (M:=M) X sub
 unfold excMatches
 repeat (first|(with_reducible refine wpAny_loadPart_at he ?_;rw[RQ])|with_reducible refine wpAny_loadPart_at hC ?_|(with_reducible refine wpAny_isSubtype_exc hC ?_;rw[N8])|with_reducible refine Lk.at ?_|wp_step)
 exact hq
theorem FunFrames.rebase{h base B:Heap}:∀ {l:List PySem.Env},h.FunFrames base l->(∀ b∈ft l,B.get? b=none)->h.FunFrames B l
 |[],_,_=>trivial
 |env :: rest,⟨hk,⟨L,o,hf,hn,ho,hd⟩,hr⟩,hB=>⟨hk,⟨L,o,hf,hB L (by unfold ft;rw[yn,hf];exact df),ho,hd⟩,
   FunFrames.rebase hr fun b hb=>hB b (by unfold ft;rw[yn,hf];exact de _ hb)⟩
theorem eJ.there{P:Program}(x:eJ P w H h a o):∃ u,h.get? a=some u:=by
 cases o with
 |lst xs=>obtain⟨_,_,_,_,e⟩:=x;exact⟨_,e⟩
 |tup xs=>obtain⟨_,_,_,_,e,_⟩:=x;exact⟨_,e⟩
 |dK kvs=>obtain⟨_,_,_,_,o,_,_,e,_⟩:=x;exact⟨_,e⟩
 |dT kvs=>obtain⟨_,_,_,_,o,_,_,e,_⟩:=x;exact⟨_,e⟩
 |set S n=>obtain⟨o,_,_,_,e,_⟩:=x;exact⟨_,e⟩
 |ins C dx fs=>obtain⟨_,_,_,e,_⟩:=x;exact⟨_,e⟩
 |own y=>exact x
 |xd fs=>obtain⟨_,⟨_,_,_,e,_⟩,_⟩:=x;exact⟨_,e⟩
 |O4 lo hi=>obtain⟨_,_,_,e⟩:=x;exact⟨_,e⟩
 |dQ ob u=>obtain⟨e,_⟩:=x;exact⟨_,e⟩
 |qS ps=>exact⟨_,(show h.get? a=some _ from x)⟩
 |met f y=>exact⟨_,(show h.get? a=some _ from x)⟩
 |ext φ=>obtain⟨_,e,_⟩:=x;exact e
def x3(B:Heap)(fs:List Addr)(H':Hp)(h₀ h:Heap):Prop:=∀ b o,h.get? b=some o->(H' b≠none\/h₀.get? b≠none)->b∉fs->B.get? b=some o
def n4(P:Program)(w:World)(mg:Str->Option Value)(rn:List Str):AY:=fun outer H s E e s' =>
 ∃ a n C a0 H' B,e=.ref a/\(n∈rn/\mg n=some (.ref C))/\s'.os=s.os/\AllBare s'.gens/\Un (ft outer) [] H H' s.heap s'.heap/\gd P w H' s'.heap /\
  Heap.FlyingW B outer a (.ref C) a0 s'.heap/\x3 B (ft outer) H' s.heap s'.heap/\(∀ b∈ft outer,H' b=none)/\E (.ref C) none H'
structure ir(fs:List Addr)(H':Hp)(h₀ h h':Heap):Prop where
 keep:∀ b o,h.get? b=some o->(H' b≠none\/h₀.get? b≠none)->b∉fs->h'.get? b=some o
 slot:∀ b o,h.get? b=some o->b∈fs->∃ sl,h'.get? b=some { o with slots:=sl }
theorem ir.of{B:Heap}(c:x3 B (ft l) H' h₀ h)(st:B.StaysIn h')(up:h.UpToSlots h')(ff:h.FunFrames base l):ir (ft l) H' h₀ h h' :=
 ⟨fun b o e k n=>st b o (c b o e k n),fun b o e m=>by
  obtain⟨_,o',e',d⟩:=ff.mem m
  rw[e] at e';cases e'
  exact up b o e d⟩
theorem ir.un(m:ir fs H' h₀ h h')(u:Un fs [] H H' h₀ h):Un fs [] H H' h₀ h' where
 keep:=fun b o e n nb nx=>m.keep b o (u.keep b o e n nb nx) (.inr (by rw[e];exact fun z=>nomatch z)) nb
 slot:=fun b o e n hb nx=>by
  obtain⟨_,e1⟩:=u.slot b o e n hb nx
  obtain⟨sl,e2⟩:=m.slot b _ e1 hb
  exact⟨sl,e2⟩
 free:=u.free
 there:=fun b o e nx=>by
  obtain⟨o',e1⟩:=u.there b o e nx
  by_cases hb:b∈fs
  ·obtain⟨sl,e2⟩:=m.slot b o' e1 hb
   exact⟨_,e2⟩
  ·exact⟨o',m.keep b o' e1 (.inr (by rw[e];exact fun z=>nomatch z)) hb⟩
 hG:=u.hG
 pj:=u.pj
 qV:=u.qV
theorem ir.aC{P:Program}(m:ir fs H' h₀ h h')(f:∀ b∈fs,H' b=none)(x:gd P w H' h):gd P w H' h':=fun a o e =>
 (x a o e).fh (fun b u hb q=>by
  have hH:H' b≠none:=by
   rcases hb with z|z
   ·rw[z,e];exact fun z=>nomatch z
   ·rw[z];exact fun z=>nomatch z
  exact m.keep b u q (.inl hH) fun z=>hH (f b z)) (fun _ q=>q) fun _ _ q=>q
section
variable {X:Cx}{pins:List (Addr × Obj)}{σ:St}{H H':Hp}{s:Shared}{e:Value}
theorem x3.up{B h h':Heap}(iX:X.stack=X.env :: X.outer)(hf:X.env.frame=some X.env.locals)(hex:X.ex=[])(I:Inv X pins σ H s)(un:Un (ft X.stack) [] H H' s.heap h)(c:x3 B (ft X.stack) H' s.heap h)(m:ir (ft X.stack) H' s.heap h h')(fr:∀ b∈ft X.stack,H' b=none)(aC:gd X.prog X.w H' h) :
  Un X.fs [] X.kc H' X.eS.heap h'/\x3 B X.fs H' X.eS.heap h':=by
 have hs:∀ b,b∈ft X.stack↔b=X.env.locals\/b∈X.fs:=fun b=>by
  rw[iX];unfold ft;rw[yn,hf];exact dA
 have MS:∀ b o,X.eS.heap.get? b=some o->b≠X.env.locals:=fun b o e=>eI (kP (dc e) I.ok.above)
 have KL:∀ b:Addr,b∉X.ex:=fun b z=>by rw[hex] at z;exact nomatch z
 have m':=m.un un
 have th:∀ b o,X.eS.heap.get? b=some o->∃ o',s.heap.get? b=some o':=fun b o e=>I.base.there b o e (KL b)
 refine⟨⟨fun b o e n nb nx=>?_,fun b o e n hb nx=>?_,fun b o e n nx=>?_,fun b o e nx=>?_,fun b xs e=>un.hG b xs (I.base.hG b xs e),fun b ob u e=>un.pj b ob u (I.base.pj b ob u e),fun b ps e=>?_⟩,fun b o e k nb=>?_⟩
 ·exact m'.keep b o (I.base.keep b o e n nb (KL b)) (I.base.free b o e n (KL b)) (fun z=>((hs b).mp z).elim (MS b o e) nb) (by simp)
 ·obtain⟨_,e1⟩:=I.base.slot b o e n hb (KL b)
  obtain⟨sl,e2⟩:=m'.slot b _ e1 (I.base.free b o e n (KL b)) ((hs b).mpr (.inr hb)) (by simp)
  exact⟨sl,e2⟩
 ·obtain⟨o',e1⟩:=th b o e
  exact un.free b o' e1 (I.base.free b o e n (KL b)) (by simp)
 ·obtain⟨o',e1⟩:=th b o e
  exact m'.there b o' e1 (by simp)
 ·obtain⟨m1,e1⟩:=I.base.qV b ps e
  obtain⟨m2,e2⟩:=un.qV b _ e1
  exact⟨m1++m2,by rw[e2,MB]⟩
 ·have key:∀ o',h.get? b=some o'->(H' b≠none\/s.heap.get? b≠none)->b∉ft X.stack->B.get? b=some o:=fun o' e' k' n'=>by
   have:=m.keep b o' e' k' n'
   rw[e] at this;cases this
   exact c b o e' k' n'
  rcases k with k|k
  ·have nf:b∉ft X.stack:=fun z=>k (fr b z)
   cases q:H' b with
   |none=>exact absurd q k
   |some u =>
    obtain⟨o',e'⟩:=eJ.there (aC b u q)
    exact key o' e' (.inl k) nf
  ·cases q:X.eS.heap.get? b with
   |none=>exact absurd q k
   |some o0 =>
    obtain⟨o1,e1⟩:=th b o0 q
    obtain⟨o2,e2⟩:=un.there b o1 e1 (by simp)
    exact key o2 e2 (.inr (by rw[e1];exact fun z=>nomatch z)) fun z=>((hs b).mp z).elim (MS b o0 q) nb
end
section
variable {P:Program}{w:World}{K:PySem.W.Frag}{mg:Str->Option Value}{base:Heap}{N:List Str}{qual:Str}{scope:Scope}{f:Addr}{cd:Value}{A:Around}{outer:List PySem.Env}{eS:Shared}{kc:Hp}{E:XK}{rn:List Str}
theorem xm(hf:env.frame=some L)(h:b∈ft l):b∈ft (env :: l):=by
 unfold ft;rw[yn,hf];exact de _ h
theorem Cd:Passes (n4 P w mg rn) (rg (n4 P w mg rn) P w K mg base N qual scope f cd A outer eS kc E) E:=by
 intro pins σ H s e s' I hx
 obtain⟨a,n,C,a0,H',B,he,hn,os,bare,un,aC,DU,cov,fr,hE⟩:=hx
 subst he
 refine wpAny_leaves_onW I.ok.frames rfl DU fun h' Yq up=>?_
 have mv:=ir.of cov Yq.1 up DU.2.2.1
 obtain⟨u1,c1⟩:=x3.up (X:=rg (n4 P w mg rn) P w K mg base N qual scope f cd A outer eS kc E) rfl rfl rfl I un cov mv fr aC
 exact⟨a,n,C,a0,H',B,rfl,hn,os.trans I.os,bare,u1,mv.aC fr aC,Yq,c1,fun b hb=>fr b (xm rfl hb),hE⟩
def tM(X:Cx)(rn:List Str)(E:XK):Prop:=∀ (pins:List (Addr × Obj)) (σ:St) (H:Hp) (s:Shared) (h':Heap) (e:Addr) (n:Str) (C:Addr) (vs:List Value),Inv X pins σ H s->Heap.MadeExcOf s.heap h' e (.ref C) vs ->
 n∈rn->X.mg n=some (.ref C)->E (.ref C) none H->X.xe (.ref e) { s with heap:=h' }
theorem FN:tM (rg (n4 P w mg rn) P w K mg base N qual scope f cd A outer eS kc E) rn E:=by
 intro pins σ H s h' e n C vs I hx hn hm hE
 have st:=I.stack
 have ff:s.heap.FunFrames (hideAll s.heap (ft (envOfC qual scope eS.heap.objs.size f cd :: outer))) (envOfC qual scope eS.heap.objs.size f cd :: outer):=FunFrames.rebase st fun b hb=>hideAll_none _ hb
 refine wpAny_leaves_madeW (h:=s.heap) I.ok.frames rfl (fun b o q=>of_hideAll _ q) ff hx fun h'' t DU tup hnt up=>?_
 have ff':h'.FunFrames (hideAll s.heap (ft (envOfC qual scope eS.heap.objs.size f cd :: outer))) (envOfC qual scope eS.heap.objs.size f cd :: outer):=ff.of_keeps fun b o q _=>⟨o,hx.keeps b o q,rfl⟩
 have aC:gd P w H h':=I.aC.kept hx.keeps
 have fr:∀ b∈ft (envOfC qual scope eS.heap.objs.size f cd :: outer),H b=none:=I.RL
 have cov:x3 (hideAll s.heap (ft (envOfC qual scope eS.heap.objs.size f cd :: outer))) (ft (envOfC qual scope eS.heap.objs.size f cd :: outer)) H s.heap h':=fun b o q k nb=>by
  have ho:∃ o1,s.heap.get? b=some o1:=by
   rcases k with k|k
   ·cases z:H b with
    |none=>exact absurd z k
    |some u=>exact eJ.there (I.aC b u z)
   ·exact Option.ne_none_iff_exists'.mp k
  obtain⟨o1,e1⟩:=ho
  have e2:=hx.keeps b o1 e1
  rw[q] at e2;cases e2
  exact hideAll_get _ e1 nb
 have mv:ir (ft (envOfC qual scope eS.heap.objs.size f cd :: outer)) H s.heap h' h'':=ir.of cov DU.1 up ff'
 obtain⟨u1,c1⟩:=x3.up (X:=rg (n4 P w mg rn) P w K mg base N qual scope f cd A outer eS kc E) rfl rfl rfl I (Un.kept hx.keeps) cov mv fr aC
 exact⟨e,n,C,_,H,_,rfl,⟨hn,hm⟩,I.os,I.bare,u1,mv.aC fr aC,DU,c1,fun b hb=>fr b (xm rfl hb),hE⟩
def LX(rn:List Str)(mg:Str->Option Value)(E:XK):Str->Hp->Prop:=fun n H'=>n∈rn->∀ C,mg n=some (.ref C)->E (.ref C) none H'
def fD(K:PySem.W.Frag)(rn:List Str)(mg:Str->Option Value)(sp:iO):Sp:=fun vs H Qv E=>∃ ds Qd,bp K H ds vs/\sp ds Qd /\
 (∀ v H' ai m d As,ay H ai->Wf ai H'->RM K ai H' m d v As->As.Nodup->(∀ a∈As,ai a=none)->Qd m d->Qv v H') /\
 ∀ n H',ay H H'->Qd (.ow false) (.str n)->LX rn mg E n H'
theorem vK(h:fD K rn mg sp vs H Qv E)(hp:∀ ds Q,sp ds Q->t { nx:=fun _=>Q .sh .non,rt:=Q } (a_ N.length ds)) :
  sL K (LX rn mg E) t { nx:=fun _ H'=>Qv .non H',rt:=Qv } (start N vs) H:=by
 obtain⟨ds,Qd,rs,hs,fin,fx⟩:=h
 have hl:=rs.length
 refine⟨H,a_ N.length ds,[],{ nx:=fun _=>Qd .sh .non,rt:=Qd },⟨?_,⟨ay.refl _,fun _ _ e=>e⟩,ng,fun a h=>nomatch h⟩,hp ds Qd hs,?_,?_,?_,?_,fx⟩
 ·unfold a_ start
  rw[hl]
  exact SR.start rs
 ·exact fun aS H' ai bq bG s sr q=>fin .non H' ai .sh .non [] s sr.wf ⟨rfl,.non⟩ ng (fun a h=>nomatch h) q
 ·exact fun aS H' ai bq bG s sr q=>q.elim
 ·exact fun aS H' ai bq bG s sr q=>q.elim
 ·exact fun v H' ai m d As s w r nd own q=>fin v H' ai m d As s w r nd own q
theorem T8.ok{st:Stmt}{ps:List Str}(F:hV K x qual st f fd)(S:kU N ps (cv st))(len:∀ ds Q,sp ds Q->ds.length=ps.length)
  (AZ:∀ (cS:Value) (A:Around) (outer:List PySem.Env) (s:Shared) (H:Hp) (E:XK),ki k (A.deeper (envOfC qual (cv st) s.heap.objs.size f cS))->qh (rg (n4 P w mg rn) P w K mg base N qual (cv st) f cS A outer s H E) K (LX rn mg E) (ic st) t)
  (hp:∀ ds Q,sp ds Q->t { nx:=fun _=>Q .sh .non,rt:=Q } (a_ N.length ds)):hJ P w K mg base (n4 P w mg rn) (k+1) f fd ps (fD K rn mg sp):=by
 obtain⟨oc,od,kV,doc,pm,an,cS,ct,EK,rfl,lk,oz⟩:=F.ex
 exact Wj lk oz S (fun vs H Q E ⟨ds,Qd,rs,hs,_⟩=>by rw[<- rs.length];exact len ds Qd hs) fun A outer s H vs Q E hr zk=>⟨_,AZ cS A outer s H E hr,vK zk hp⟩
structure x5(P:Program)(w:World)(K:PySem.W.Frag)(mg:Str->Option Value)(base:Heap)(rn:List Str)(k:Nat)(x:Str)(ps:List Str)(sp:iO):Prop where
 ex:∃ (g:Addr) (fd:FuncData),mg x=some (.ref g)/\PySem.W.keepIn K (.ref g)=true/\Binds K fd ps []/\hJ P w K mg base (n4 P w mg rn) k g fd ps (fD K rn mg sp)
theorem hV.T9{st:Stmt}{ps:List Str}(F:hV K x qual st f fd)(hm:mg x=some (.ref f))(ok:hJ P w K mg base (n4 P w mg rn) k f fd ps (fD K rn mg sp))
  (h:∀ (kV doc pm:Value) (an:Option Addr) (cS ct:Value) (us:List Value),us.length=ps.length->bindArgs (PySem.W.fnOf x qual (kD st) (ic st) (cv st) .none kV doc pm an cS ct) ⟨us,[]⟩=pure (ps.zip us)):x5 P w K mg base rn k x ps sp:=⟨f,fd,hm,F.kp,F.binds h,ok⟩
end
def Yr(K:PySem.W.Frag)(mg:Str->Option Value)(n:Str):Prop:=∃ C,mg n=some (.ref C)/\nX K C
def uS(m:Md)(d:D)(Y:Str->Prop)(N:Prop):Prop:=match m,d with
 |.ow false,.str n=>Y n
 |_,_=>N
theorem xg{K:PySem.W.Frag}(r:RM K Hs H m d v As)(h:uS m d Y N):N:=by
 unfold uS at h
 split at h
 ·obtain⟨r,ne⟩:=r
  cases r
  exact absurd rfl ne
 ·exact h
section
variable {X:Cx}{K:PySem.W.Frag}{rn:List Str}{E:XK}{e:Expr}{es:List Expr}{te:WE}{t:WA}{pos:Pos}
def wV(n:Str)(te:WE):WS:=fun E ρ=>te ρ fun _ _=>E.rt (.ow false) (.str n)
theorem Az (hc:X.calm=true) (ok:tM X rn E) (hn:x∈rn) (hm:X.mg x=some (.ref C)) (xc:nX X.K C) (ha:PA X [e] ta) (hg:Gl X x) (i5:(x == ("__debug__" : Str))=false)
  (he:starEach [e] X.env=[(false,eval e X.env)]):PS X (.Raise (some (.Call (.Name x np) [e] [] dy)) none pos) (fun D σ H=>ta σ H fun vs H1=>vs.length<=sizeLine/\E (.ref C) none H1):=by
 intro pins s σ H D I h
 obtain⟨bm,N,nm,q,bs,hdct,sn,sub,ab,col,dd,k0,k1,k2,k3,k5,mN,hC,hN,BM,T⟩:=xc.obj I.mod.O6
 refine wpAny_Raise_call_subT (C:=C) (nm:=nm) (q:=q) (N:=N) (bs:=bs) (bm:=bm) (hdct:=hdct) (sn:=sn) (sub:=sub) (ab:=ab) (col:=col) (dd:=dd) (k0:=k0) (k1:=k1) (k2:=k2) (k3:=k3) (k5:=k5)
  F.excBase_ValueError (mN:=mN) (T.hasType F.excBase_ValueError.hasBase) (I.ok.hd hc) (by rw[he];rfl) BM (Pb I hg hm ⟨rfl,?_⟩ i5)
 have h2:=ha dy pins s σ H _ I h
 rw[he] at h2 ⊢
 exact Calls.evalArgs_plain (b5 h2 fun vs s1 ⟨xs,H1,I1,r,hl,q⟩=>⟨rfl,by rw[<- r.length];exact hl,I1.bk _ _ hC,hN.keeps I1.bk,T.keeps I1.bk,fun h' e' hx=>ok pins σ H1 s1 h' e' x C vs I1 hx hn hm q⟩)
theorem Ai (hc:X.calm=true) (ok:tM X rn E) (xc:Yr K X.mg x) (hn:x∈rn) (he:QE X K e te) (hg:Gl X x:=by rfl) (i5:(x == ("__debug__" : Str))=false:=by decide) (hK:X.K=K:=by rfl)
  (hs:starEach [e] X.env=[(false,eval e X.env)]:=by rfl):QS X K (LX rn X.mg E) (.Raise (some (.Call (.Name x np) [e] [] dy)) none pos) (wV x te):=by
 subst hK
 obtain⟨C,hm,xc⟩:=xc
 refine PS.imp (Az hc ok hn hm xc (pz he tq hs) hg i5 hs) fun D σ H hx=>fW hx fun Hs ρ ae E' sr h k1 k2 k3 k4 kx=>?_
 exact⟨Hs,ρ,ae,_,sr,h,fun v H1 aE m d As g1 r1 f1 q1=>⟨(by decide:1<=sizeLine),kx x H1 (g1.sh.trans g1.wf.sub) q1 hn C hm⟩⟩
section
variable {k:Nat}{x:Str}{ps:List Str}{sp:iO}{p dy:Pos}
theorem xP (C:x5 X.prog X.w X.K X.mg X.base rn k x ps sp) (hr:ki k X.A) (hx:Passes (n4 X.prog X.w X.mg rn) X E) (ha:PA X (e :: es) ta) (hg:Gl X x) (i5:(x == ("__debug__" : Str))=false) (he:starEach (e :: es) X.env=(false,eval e X.env) :: starEach es X.env)
  (fi:(backTo pos (starEach es X.env)).any (·.1)=false):PE X (.Call (.Name x p) (e :: es) [] pos) (M_ (fD X.K rn X.mg sp) [] E ta):=by
 obtain⟨g,fd,hm,hk,hb,F⟩:=C.ex
 exact Wa F hr hg hm hk hb .nil hx ha i5 he fi
theorem nP{σ:St}{H:Hp}{Qv:VK}{Hs:Hp}{ρ:Env}{ae:List Addr}{Y:Str->Prop}{Q:Md->D->Prop}(sr:cK K Hs ρ σ H ae)(h:t ρ fun ps=>sp (ps.map (·.2)) fun m d=>uS m d Y (bP (m,d) (f:=fun p=>Q (An p.1 p.2) p.2) ⟨⟩))
  (f:∀ v H' ai m d As,dS Hs H ai H'->RM K ai H' m d v As->cO ai H As->Q m d->Qv v H') (fx:∀ n H',ay Hs H'->Y n->LX rn X.mg E n H'):M_ (fD K rn X.mg sp) [] E (Tr K t) σ H Qv:=by
 refine⟨Hs,ρ,ae,_,sr,h,fun vs H1 aE ps As g1 r1 f1 q1=>?_⟩
 refine⟨_,_,by rw[mr];exact r1.reps g1.wf,q1,fun v H' ai m d As s w r nd own q=>?_,fun n H' s q=>fx n H' (g1.sh.trans (g1.wf.sub.trans s)) q⟩
 obtain⟨fA,r',fr⟩:=sV g1.wf s w r nd own
 exact Fin.after f g1 v H' _ (An m d) d fA (iB g1.wf s w) r' fr (xg r q)
def qz(sp:iO)(t:WA):WS:=fun E ρ=>t ρ fun ps=>sp (ps.map (·.2)) fun m d=>uS m d (fun n=>E.rt (.ow false) (.str n)) (bP (m,d) (f:=fun _=>E.nx ρ) ⟨⟩)
def Em(i:Nat)(sp:iO)(t:WA):WS:=fun E ρ=>t ρ fun ps=>sp (ps.map (·.2)) fun m d=>uS m d (fun n=>E.rt (.ow false) (.str n)) (bP (m,d) (f:=fun p=>match asg (An p.1 p.2) p.2 with
 |some sl=>E.nx (ρ.set i (some sl))
 |none=>False) ⟨⟩)
variable (C:x5 X.prog X.w X.K X.mg X.base rn k x ps sp)(hr:ki k X.A)
include C hr
variable (hx:Passes (n4 X.prog X.w X.mg rn) X E)
include hx
theorem oR (ha:QA X K (e :: es) t) (hs:swapsWith (.Call (.Name x p) (e :: es) [] dy) none pos.line X.env=pure false:=by rfl) (hK:X.K=K:=by rfl) (hg:Gl X x:=by rfl) (i5:(x == ("__debug__" : Str))=false:=by decide) (he:starEach (e :: es) X.env=(false,eval e X.env) :: starEach es X.env:=by rfl)
  (fi:(backTo dy (starEach es X.env)).any (·.1)=false:=by rfl):QS X K (LX rn X.mg E) (.Expr (.Call (.Name x p) (e :: es) [] dy) pos) (qz sp t):=by
 subst hK
 exact PS.imp (MY (xP C hr hx ha hg i5 he fi) hs) fun D σ H hx=>fW hx fun Hs ρ ae E' sr h k1 k2 k3 k4 kx=>nP (Q:=fun _ _=>E'.nx ρ) sr h (fun v H1 aE m d As g1 r1 f1 q1=>k1 σ H1 aE ρ ae g1.sh (sr.grow g1) q1) kx
theorem Df(hN:X.N.Nodup)(hi:X.N[i]? = some y)(hy:Loc X.env.scope y)(ha:QA X K (e :: es) t)(hs:swapsWith (.Call (.Name x p) (e :: es) [] dy) (some (.Name y pos')) pos.line X.env=pure false:=by rfl)
  (hf:X.fn y=true\/X.env.scope.names.lookup y=some .local:=by first|exact .inl rfl|exact .inr rfl|assumption) (hK:X.K=K:=by rfl) (hg:Gl X x:=by rfl) (i5:(x == ("__debug__" : Str))=false:=by decide) (he:starEach (e :: es) X.env=(false,eval e X.env) :: starEach es X.env:=by rfl)
  (fi:(backTo dy (starEach es X.env)).any (·.1)=false:=by rfl):QS X K (LX rn X.mg E) (.Assign [.Name y pos'] (.Call (.Name x p) (e :: es) [] dy) pos) (Em i sp t):=by
 subst hK
 refine PS.imp (RX hN hi hy (xP C hr hx ha hg i5 he fi) hs hf) fun D σ H hx=>fW hx fun Hs ρ ae E' sr h k1 k2 k3 k4 kx=>nP (Q:=fun m d=>match asg m d with
  |some sl=>E'.nx (ρ.set i (some sl))
  |none=>False) sr h (fun v H1 aE m d As g1 r1 f1 q1=>?_) kx
 cases e:asg m d with
 |none=>rw[e] at q1;exact q1.elim
 |some sl =>
  rw[e] at q1
  obtain⟨bG,s'⟩:=(sr.grow g1).set i r1 f1.1 (fun a ha=>⟨(f1.2 a ha).1,fun m=>(sr.sr.own a m).ne (f1.2 a ha).2⟩) e
  exact k1 _ H1 aE _ bG g1.sh s' q1
end
def wd(j:Nat)(a:Addr)(b:Bool):WE:=fun ρ Q=>ρ[j]? = some (some (.xc a))/\Q .sh (.bl b)
theorem mU (hm:X.mg "isinstance" = none) (hp:(a,oe)∈X.pn) (ip:oe.cls=.ref C) (xc:nX X.K C) (hk:kitOne X.K (.ref C) c=some b) (he:PE X e (CF j)) (ht:PE X e2 (tC vc)) (hvc:∀ u,RelV vc u->u=c)
  (hg:Gl X "isinstance" := by rfl) (hs:starEach (e :: [e2]) X.env=(false,eval e X.env) :: starEach [e2] X.env:=by rfl) (oC:starEach (e2 :: []) X.env=(false,eval e2 X.env) :: starEach [] X.env:=by rfl) (fi:(backTo pos (starEach [e2] X.env)).any (·.1)=false:=by rfl) :
  QE X K (.Call (.Name "isinstance" p) [e,e2] [] pos) (wd j a b):=by
 have hc:kS X (.builtin "isinstance") (fun xs H Q=>xs=[.ref a,vc]/\Q (.bl b) H):=by
  intro pins s σ H xs us Q I r h
  obtain⟨rfl,q⟩:=h
  obtain⟨u,v,rfl,ru,rv⟩:=Vals.two r
  obtain rfl:u=Value.ref a:=ru
  obtain rfl:=hvc v rv
  obtain⟨ho,_⟩:=I.pin (a,oe) (iS _ hp)
  exact kia_one (Ao xc) I.kf ⟨oe,ho,ip⟩ hk (fun z=>nomatch z) fun tk=>⟨.bl b,H,I.tok tk,rfl,q⟩
 refine PE.imp (Sf hc hg hm iW (pz he (pz ht tq oC) hs) (by decide) (by decide) hs fi) fun σ H Qv hx=>kr hx fun Hs ρ ae Q sr h f=>?_
 obtain⟨ea,q⟩:=h
 obtain⟨v,e1,r⟩:=sr.sr.get ea
 have r:v=V.ref a:=r
 subst r
 exact⟨_,e1,rfl,Fin.sh f sr.wf (.bl _) q⟩
end
abbrev ji(X:Cx)(pn:List (Addr × Obj))(xe:Value->Shared->Prop):Cx:={ X with pn:=pn,xe:=xe }
abbrev BO(X:Cx)(pn:List (Addr × Obj))(a:Addr):Cx:={ X with A:=X.A.mark (some (.ref a)),calm:=false,pn:=pn,xe:=fun _ _=>False }
abbrev Ce(X:Cx)(H:Hp)(s:Shared)(p:Addr × Obj):Prop:=s.heap.get? p.1=some p.2/\H p.1=none/\p.1≠X.env.locals/\p.1∉X.fs/\∀ v,p.2.data≠.cell v
section
variable {X:Cx}{pins nr pn:List (Addr × Obj)}{σ:St}{H:Hp}{s:Shared}{xe:Value->Shared->Prop}{a:Addr}
theorem Inv.ji(I:Inv X pins σ H s)(h:∀ p∈pn++nr,Ce X H s p):Inv (ji X pn xe) nr σ H s :=
 ⟨⟨I.ok.mod,I.ok.kind,I.ok.glob,I.ok.blt,I.ok.above,I.ok.inj,I.ok.has,I.ok.yT,I.ok.hd,I.ok.frames,I.ok.AU,I.ok.AV,I.ok.bs,I.ok.ti,I.ok.y3,I.ok.y6,I.ok.px,I.ok.w_⟩,I.os,I.bare,I.base,I.loc,I.cell,I.free,I.nh,h,I.aC,I.len⟩
theorem Inv.nZ(I:Inv (L2.Q.ji X pn xe) nr σ H s)(h:∀ p∈X.pn++pins,p∈pn++nr):Inv X pins σ H s :=
 ⟨⟨I.ok.mod,I.ok.kind,I.ok.glob,I.ok.blt,I.ok.above,I.ok.inj,I.ok.has,I.ok.yT,I.ok.hd,I.ok.frames,I.ok.AU,I.ok.AV,I.ok.bs,I.ok.ti,I.ok.y3,I.ok.y6,I.ok.px,I.ok.w_⟩,I.os,I.bare,I.base,I.loc,I.cell,I.free,I.nh,fun p hp=>I.pin p (h p hp),I.aC,I.len⟩
theorem Inv.BO(I:Inv (L2.Q.ji X pn xe) nr σ H s)(h:∀ p∈pn2++fh',Ce X H s p):Inv (L2.Q.BO X pn2 a) fh' σ H s :=
 ⟨⟨I.ok.mod,I.ok.kind,I.ok.glob,I.ok.blt,I.ok.above,I.ok.inj,I.ok.has,I.ok.yT,(fun z=>nomatch z),I.ok.frames,I.ok.AU,I.ok.AV,I.ok.bs,I.ok.ti,I.ok.y3,I.ok.y6,I.ok.px,I.ok.w_⟩,I.os,I.bare,I.base,I.loc,I.cell,I.free,I.nh,h,I.aC,I.len⟩
theorem Inv.Im(I:Inv (L2.Q.ji X pn xe) pins σ H s):Inv (L2.Q.ji X pn xe2) pins σ H s :=
 ⟨⟨I.ok.mod,I.ok.kind,I.ok.glob,I.ok.blt,I.ok.above,I.ok.inj,I.ok.has,I.ok.yT,I.ok.hd,I.ok.frames,I.ok.AU,I.ok.AV,I.ok.bs,I.ok.ti,I.ok.y3,I.ok.y6,I.ok.px,I.ok.w_⟩,I.os,I.bare,I.base,I.loc,I.cell,I.free,I.nh,I.pin,I.aC,I.len⟩
theorem Inv.DW(I:Inv (L2.Q.BO X pn a) nr σ H s)(hd:X.calm=true->X.A.handled=none)(h:∀ p∈X.pn++pins,p∈pn++nr):Inv X pins σ H s :=
 ⟨⟨I.ok.mod,I.ok.kind,I.ok.glob,I.ok.blt,I.ok.above,I.ok.inj,I.ok.has,I.ok.yT,hd,I.ok.frames,I.ok.AU,I.ok.AV,I.ok.bs,I.ok.ti,I.ok.y3,I.ok.y6,I.ok.px,I.ok.w_⟩,I.os,I.bare,I.base,I.loc,I.cell,I.free,I.nh,fun p hp=>I.pin p (h p hp),I.aC,I.len⟩
theorem SP.nZ{D:Ends}(h:SP (L2.Q.ji X pn xe) nr D f s)(hp:∀ p∈X.pn++pins,p∈pn++nr):SP X pins D f s:=by
 cases f with
 |next=>obtain⟨aS,H',I,q⟩:=h;exact⟨aS,H',Inv.nZ I hp,q⟩
 |brk=>obtain⟨aS,H',I,q⟩:=h;exact⟨aS,H',Inv.nZ I hp,q⟩
 |cont=>obtain⟨aS,H',I,q⟩:=h;exact⟨aS,H',Inv.nZ I hp,q⟩
 |ret u=>obtain⟨v,aS,H',I,r,q⟩:=h;exact⟨v,aS,H',Inv.nZ I hp,r,q⟩
theorem Inv.forget(I:Inv X pins σ H s)(hn:h'.Ns X.env.locals m)(hs:Heap.SameBut X.env.locals s.heap h'):Inv X pins (List.replicate X.N.length none) H { s with heap:=h',toks:=t }:=by
 have ne:∀ b o,X.eS.heap.get? b=some o->b≠X.env.locals:=fun b o e=>eI (kP (dc e) I.ok.above)
 refine⟨I.ok,I.os,I.bare,⟨fun b o e n hb hx=>(hs.2 b (ne b o e)).trans (I.base.keep b o e n hb hx),fun b o e n hb hx=>?_,I.base.free,fun b o e hx=>?_,I.base.hG,I.base.pj,I.base.qV⟩,⟨m,hn,fun i x v e1 e2=>?_⟩,fun x c e=>?_,I.free,I.nh,fun p hp=>?_,fun b o e=>?_,Rj⟩
 ·obtain⟨sl,e1⟩:=I.base.slot b o e n hb hx
  exact⟨sl,(hs.2 b (ne b o e)).trans e1⟩
 ·obtain⟨o',e1⟩:=I.base.there b o e hx
  exact⟨o',(hs.2 b (ne b o e)).trans e1⟩
 ·rw[Rh] at e2
  split at e2<;>cases e2
 ·obtain⟨v,z⟩:=I.cell x c e
  exact⟨v,z.sameBut hs (I.CC x c e)⟩
 ·obtain⟨e,n,nl,nf,d⟩:=I.pin p hp
  exact⟨(hs.2 p.1 nl).trans e,n,nl,nf,d⟩
 ·refine(I.aC b o e).fh (fun c u hc q=>(hs.2 c ?_).trans q) (fun _ q=>q) fun _ _ q=>q
  intro z
  rcases hc with w|w
  ·rw[<- w,z,I.free] at e;cases e
  ·rw[z,I.free] at w;cases w
end
theorem SR.Ys{K:PySem.W.Frag}:∀ σ:St,SR K Hs H (List.replicate σ.length none) σ []
 |[]=>.nil
 |_ :: σ=>.non (SR.Ys σ)
theorem SR.exc{K:PySem.W.Frag}:∀ (σ:St) (j:Nat),SR K Hs H ((List.replicate σ.length none).set j (some (.xc a))) (σ.set j (some (.ref a))) []
 |[],_=>.nil
 |_ :: σ,0=>.xc (SR.Ys σ)
 |_ :: σ,j+1=>.non (SR.exc σ j)
theorem x3.next{P:Program}{B:Heap}(c:x3 B fs H' h₀ h)(m:ir fs H' h₀ h h')(aC:gd P w H' h)(th:∀ b o,h₀.get? b=some o->∃ o',h.get? b=some o'):x3 B fs H' h₀ h':=fun b o e k nb=>by
 have ho:∃ o',h.get? b=some o':=by
  rcases k with k|k
  ·cases z:H' b with
   |none=>exact absurd z k
   |some u=>exact eJ.there (aC b u z)
  ·obtain⟨o0,e0⟩:=Option.ne_none_iff_exists'.mp k
   exact th b o0 e0
 obtain⟨o',e'⟩:=ho
 have e2:=m.keep b o' e' k nb
 rw[e] at e2;cases e2
 exact c b o e' k nb
def T_(body:WS)(ρh:Addr->Env)(hd:Addr->Str->WS):WS:=fun E ρ =>
 body { E with rt:=fun m d=>uS m d (fun n=>∀ a,hd a n { nx:=fun _=>False,rt:=E.rt } (ρh a)) (E.rt m d) } ρ
structure Ht(K:PySem.W.Frag)(mg:Str->Option Value)(rn:List Str)(R:Str):Prop where
 ex:∃ r,mg R=some (.ref r)/\nX K r/\∀ n C,n∈rn->mg n=some (.ref C)->nX K C/\mroIn K C (.ref r)=some true
theorem G4{X:Cx}{K:PySem.W.Frag}{R:Str}
  (xr:Ht X.K X.mg rn R) (hN:X.N.Nodup) (hj:X.N[j]? = some en) (hl:X.env.scope.names.lookup en=some .local) (iX:X.stack=X.env :: X.outer) (hf:X.env.frame=some X.env.locals)
  (hρ:∀ a,ρh a=(List.replicate X.N.length none).set j (some (.xc a)))
  (hb:∀ pn xe E1,Passes (n4 X.prog X.w X.mg rn) (ji X pn xe) E1->qh (ji X pn xe) K (LX rn X.mg E1) body wb)
  (hh:∀ pn a oe n C,n∈rn->X.mg n=some (.ref C)->nX X.K C->(a,oe)∈pn->oe.cls=.ref C->qh (BO X pn a) K L (fj' :: suite) (hd a n)) (hg:Gl X R:=by rfl) (i5:(R == ("__debug__" : Str))=false:=by decide) :
  QS X K L (.Try body [.ExceptHandler (some (.Name R np)) (some en) (fj' :: suite) X3] [] [] pos) (T_ wb ρh hd):=by
 intro pins s σ H D I hx
 obtain⟨Hs,ρ,ae,E,sr,h,k1,k2,k3,k4,kx⟩:=hx
 obtain⟨r,hm,xr,sub⟩:=xr.ex
 have sp0:∀ p∈X.pn++pins,p∈(X.pn++pins)++[]:=fun p hp=>by rw[mr];exact hp
 have AZ:=hb (X.pn++pins) (fun e s'=>∃ nr aS H1 s1,Inv (ji X (X.pn++pins) X.xe) nr aS H1 s1/\n4 X.prog X.w X.mg rn X.stack H1 s1 (fun c _ H'=>∃ n C,c=.ref C/\n∈rn/\X.mg n=some (.ref C)/\ay Hs H'/\∀ a,hd a n { nx:=fun _=>False,rt:=E.rt } (ρh a)) e s') _
  (fun nr aS H1 s1 e s' I1 c=>⟨nr,aS,H1,s1,Inv.Im I1,c⟩)
  [] s σ H D (Inv.ji I fun p hp=>I.pin p (by rw[mr] at hp;exact hp)) ⟨Hs,ρ,ae,_,sr,h,k1,k2,k3,fun v H' ai m d As s2 w2 r2 nd own q=>k4 v H' ai m d As s2 w2 r2 nd own (xg r2 q),fun n H' s2 q hn C hC=>⟨n,C,rfl,hn,hC,s2,q⟩⟩
 refine wpAny_Try_except (oq AZ (fun f s1 hs=>?_) fun e s' hx=>?_)
 ·have hs:=SP.nZ hs sp0
  cases f with
  |next =>
   obtain⟨aS,H',I',q⟩:=hs
   exact VS pins s1 aS H' D I' q
  |brk=>exact hs
  |cont=>exact hs
  |ret u=>exact hs
 ·obtain⟨nr,aS,H1,s1,I1,a,n',C,a0,H',B,rfl,AW,os,bare,un,aC,DU,cov,fr,n,C2,eC,hn,mE,sm,hq⟩:=hx
  cases eC
  obtain⟨xc,T2⟩:=sub n C hn mE
  obtain⟨Ua,g',d',t',Sd⟩:=s'
  obtain rfl:Sd=s1.os:=os
  have fm':Heap.FlyingW B (X.env :: X.outer) a (.ref C) a0 Ua:=iX ▸ DU
  have th:∀ b o,s1.heap.get? b=some o->∃ o',Ua.get? b=some o':=fun b o e=>un.there b o e (by simp)
  refine wpAny_looks_onW (iX ▸ I.ok.frames) hf fm' fun h4 held up4=>wpAny_landsW held fun h5 QB up5=>?_
  have Ub:ir (ft X.stack) H' s1.heap Ua h5:=ir.of cov QB.1 (up4.trans up5) DU.2.2.1
  have Yt:=cov.next Ub aC th
  have Uc:=Ub.un un
  have Ud:=Ub.aC fr aC
  have I5:Inv (ji X (X.pn++pins) X.xe) nr aS H' ⟨h5,g',d',t',s1.os⟩:=I1.call (h':=h5) (g':=g') (d':=d') (t':=t') (ch:=[]) Uc Ud bare (fun b z=>absurd z (by simp))
  refine wpAny_handleBy_cons (codeAny_handlers_test ?_) (by intro q;cases q)
  refine Pb (X:=BO X (X.pn++pins) a) (pins:=nr) (Inv.BO I5 fun p hp=>I5.pin p hp) hg hm ?_ i5
  refine sS xc xr T2 I5.kf QB.there (codeAny_handlers_suite_as ?_)
  refine lands_againW QB fun h6 QC up6=>?_
  have ff5:h5.FunFrames B X.stack:=iX ▸ QB.2.2.1
  have Ue:ir (ft X.stack) H' s1.heap h5 h6:=ir.of Yt QC.1 up6 ff5
  have un6:=Ue.un Uc
  have fs':=Ue.aC fr Ud
  have I6:Inv (ji X (X.pn++pins) X.xe) nr aS H' ⟨h6,g',d',t',s1.os⟩:=I1.call (h':=h6) (g':=g') (d':=d') (t':=t') (ch:=[]) un6 fs' bare (fun b z=>absurd z (by simp))
  obtain⟨oe,vs,he,ip,Yu,_⟩:=QC.first
  have nf:a∉ft X.stack:=fun z=>by
   have ff6:h6.FunFrames B X.stack:=iX ▸ QC.2.2.1
   obtain⟨_,o,e1,d1⟩:=ff6.mem z
   rw[he] at e1;cases e1
   exact d1 vs Yu
  have na:H' a=none:=by
   cases z:H' a with
   |none=>rfl
   |some u =>
    have:=(Yt.next Ue Ud fun b o e=>Uc.there b o e (by simp)) a oe he (.inl (by rw[z];exact fun z=>nomatch z)) nf
    rw[QC.2.1] at this;cases this
  have frm:∀ b,b∈ft X.stack↔b=X.env.locals\/b∈X.fs:=fun b=>by
   rw[iX];unfold ft;rw[yn,hf];exact dA
  have pa:Ce X H' ⟨h6,g',d',t',s1.os⟩ (a,oe):=⟨he,na,fun z=>nf ((frm a).mpr (.inl z)),fun z=>nf ((frm a).mpr (.inr z)),fun v z=>by rw[Yu] at z;cases z⟩
  have I6h:Inv (BO X ((a,oe) :: (X.pn++pins)) a) [] aS H' ⟨h6,g',d',t',s1.os⟩:=Inv.BO I6 fun p hp=>by
   rw[mr] at hp
   rcases dA.mp hp with z|z
   ·rw[z];exact pa
   ·exact I6.pin p (iS _ z)
  refine O9 (X:=BO X ((a,oe) :: (X.pn++pins)) a) (v:=.ref a) I6h hN hj (.inl hl) rfl (fun s7 I7 _=>?_) (.inr hl)
  refine oq (hh ((a,oe) :: (X.pn++pins)) a oe n C hn mE xc df ip [] s7 (aS.set j (some (.ref a))) H' { nx:=fun _ _=>False,rt:=D.rt } I7
   ⟨H',ρh a,[],_,⟨by rw[hρ a,<- (show aS.length=X.N.length from I1.len)];exact SR.exc aS j,⟨ay.refl _,fun _ _ e=>e⟩,ng,fun a h=>nomatch h⟩,hq a,fun _ _ _ _ _ _ _ z=>z,fun _ _ _ _ _ _ _ z=>z,fun _ _ _ _ _ _ _ z=>z,
    fun v H2 ax m d As s2=>k4 v H2 ax m d As (sm.trans s2),fun n H2 s2=>kx n H2 (sm.trans s2)⟩) (fun f s8 hs=>?_) fun _ _ z=>z.elim
  cases f with
  |next=>obtain⟨_,_,_,z⟩:=hs;exact z.elim
  |brk=>obtain⟨_,_,_,z⟩:=hs;exact z.elim
  |cont=>obtain⟨_,_,_,z⟩:=hs;exact z.elim
  |ret u =>
   obtain⟨v,σ8,H8,I8,rv,q⟩:=hs
   have I9:Inv X pins σ8 H8 s8:=Inv.DW I8 I.ok.hd fun p hp=>by rw[mr];exact de _ hp
   obtain⟨m,hn8,_⟩:=id I9.loc
   exact wpAny_nameGoes hl hn8 (by rw[I9.ok.kind];rfl) fun h9 m9 hn9 sb=>⟨v,_,H8,Inv.forget I9 hn9 sb,rv,q⟩
end L2.Q
namespace L2.Q
open PySem PySem.Spec PyProof.Rows
theorem oY:bootBuiltins "ValueError" = some (.type "ValueError"):=by decide +kernel
end L2.Q
namespace L2.Q.R
open PySem PySem.Spec PyProof.Rows L2.Q
section
variable {E:qZ}{ρ:Env}{Q:Md->L2.Q.D->Prop}{te:WE}{tar:WA}{i j:Nat}{a:Addr}{b:Bool}{sp:iO}{n:Str}{d:L2.Q.D}{Y:Str->Prop}{N:Prop}{t:WS}{ρh:Addr->Env}{hd:Addr->Str->WS}
theorem Ip:wV n te E ρ=te ρ fun _ _=>E.rt (.ow false) (.str n):=rfl
theorem Jg:qz sp tar E ρ=tar ρ fun ps=>sp (ps.map (·.2)) fun m d=>uS m d (fun n=>E.rt (.ow false) (.str n)) (bP (m,d) (f:=fun _=>E.nx ρ) ⟨⟩):=rfl
theorem JQ:Em i sp tar E ρ=tar ρ fun ps=>sp (ps.map (·.2)) fun m d=>uS m d (fun n=>E.rt (.ow false) (.str n)) (bP (m,d) (f:=fun p=>bP (asg (An p.1 p.2) p.2) (f:=fun o=>put o fun sl=>E.nx (ρ.set i (some sl))) ⟨⟩) ⟨⟩):=rfl
theorem K4:T_ t ρh hd E ρ=t { E with rt:=fun m d=>uS m d (fun n=>∀ a,hd a n { nx:=fun _=>False,rt:=E.rt } (ρh a)) (E.rt m d) } ρ:=rfl
theorem MF:wd j a b ρ Q=(ρ[j]? = some (some (.xc a))/\Q .sh (.bl b)):=rfl
theorem Mp:uS (.ow false) (.str n) Y N=Y n:=rfl
theorem KZ:uS .sh d Y N=N:=rfl
theorem JL:uS .bo d Y N=N:=rfl
theorem Ks:uS (.ow true) d Y N=N:=rfl
end
end L2.Q.R
namespace L2
open PySem PySem.Spec PyProof.Rows Builtin Builtin.Str Builtin.Int
section
variable {prog:Program}{w:World}{A:Around}{E:Value->Shared->Prop}{s:Shared}{x:Str}{n:Int}{t u:Tok}
theorem lU(aC:MulOk x n)(h:∀ t' k,Q (.str (Txt.mul x n) t') { s with toks:=k }):wpAny (model prog w) A (binaryOp .Mult (.str x t) (.int n u)) Q E s:=by
 refine P.mul_str aC.1 aC.2.1 aC.2.2 ?_
 unfold Txt.mul at h
 by_cases h1:n<1
 ·rw[if_pos h1];have h':=h s.toks (s.toks+1);rw[if_pos h1] at h';exact⟨by decide,h'⟩
 ·rw[if_neg h1];refine post_val_or_made (fun hc=>fits_reps (aC.2.2 h1 (by simpa using hc))) fun t' k=>?_
  have h':=h t' k;rw[if_neg h1] at h';exact h'
end
def Hr:R2:=fun x y H Q=>Fl y x H Q
theorem Dw{X:Cx}:dn X (binaryOp .Mult) Hr:=by
 intro pins s σ H y x u v Q I ry rx h
 unfold Hr Fl at h
 split at h
 ·rename_i n z
  obtain⟨⟨h1,h2,h3⟩,q⟩:=h
  obtain⟨t,rfl⟩:=rx
  obtain⟨t',rfl⟩:=ry
  refine lU ⟨?_,fun _ _=>?_,fun _ _=>?_⟩ fun t' k=>⟨.str (oo n z),H,I.tok _,⟨_,by rw[DY h1]⟩,q⟩
  ·have a1:¬ n < -(2 ^ 63:Int):=by lia
   have a2:¬ n >= 2 ^ 63:=by lia
   rw[decide_eq_false a1,decide_eq_false a2];rfl
  ·have:(2 ^ 63-1:Int) / 100<=(2 ^ 63-1) / n:=by
    apply Int.le_ediv_of_mul_le (by lia)
    have:(2 ^ 63-1:Int) / 100*n<=(2 ^ 63-1:Int) / 100*100:=Int.mul_le_mul_of_nonneg_left h2 (by decide)
    lia
   have e:(2 ^ 63-1:Int) / 100=92233720368547758:=by decide
   lia
  ·have:z.length*n.toNat<=100*100:=L7 h3 (by lia)
   have hs:=sizeLine_eq
   simp only[tooLong,decide_eq_false_iff_not]
   generalize z.length*n.toNat=m at this ⊢
   lia
 ·exact h.elim
end L2
namespace L2.Q
open PySem PySem.Spec PyProof.Rows
section
variable {X:Cx}{K:PySem.W.Frag}{a:Expr}{ta:WE}
def KP(t:WE):WE:=fun ρ Q=>t ρ fun m d=>jC m/\Q .sh d
theorem QD(h:QE X K a ta):QE X K a (KP ta):=by
 refine PE.imp h fun σ H Qv hx=>kr hx fun Hs ρ ae Q sr h fin=>?_
 refine⟨Hs,ρ,ae,_,sr,h,fun v H1 aE m d As g1 r1 f1 q1=>?_⟩
 obtain⟨nb,q⟩:=q1
 cases m with
 |sh=>exact fin v H1 aE .sh d As g1 r1 f1 q
 |bo=>exact nb.elim
 |ow fl =>
  obtain⟨r,ne⟩:=r1
  have hn:∀ a∈As,aE a=none:=fun a h=>(f1.2 a h).1
  have s:=iU (H:=H1) hn
  refine fin v H1 (sN aE H1 As) .sh d [] ⟨g1.all,g1.sh.trans s,wX g1.wf r.own,fun c hc=>?_⟩ ⟨rfl,r.rep s fun c hc=>by unfold sN;rw[if_pos hc]⟩ ⟨ng,fun _ h=>xt h⟩ q
  unfold sN at hc
  split at hc
  ·rename_i m
   exact .inr (f1.2 c m).2
  ·exact g1.new c hc
def owl(o:Option (Option Sl))(k:List D->Prop):Prop:=match o with
 |some (some (.ow true (.list xs)))=>k xs
 |_=>False
def intD(y:D)(k:Int->Prop):Prop:=match y with
 |.int i=>k i
 |_=>False
def fz'(d:D):Md:=bif d.flat then .sh else .ow true
end
end L2.Q
namespace L2.Q.R
open PySem PySem.Spec PyProof.Rows L2.Q
section
variable {ρ:Env}{te:WE}{m:Md}{ys:List L2.Q.D}{Q:Md->L2.Q.D->Prop}
theorem JX:owl (some (some (.ow true (.list ys)))) k=k ys:=rfl
theorem Kl:intD (.int i) k=k i:=rfl
theorem fA':KP te ρ Q=te ρ fun m d=>jC m/\Q .sh d:=rfl
end
end L2.Q.R
namespace L2
open PySem PySem.Spec PyProof.Rows
section
variable {prog:Program}{w:World}{A:Around}{E:Value->Shared->Prop}{s:Shared}
theorem Eu{κ:Type}[DecidableEq κ]{kd:HeapKind prog w κ}{d b:Addr}{xs:List (κ × Addr × Value)}{k:κ}{r:Value}{Q:Value->Shared->Prop}(hu:kd.room A)(hk:kd.is s.heap k b)(hm:s.heap.DictOfH kd d xs)(hz:xs.length<=sizeLine)
  (h1:∀ p,atKey xs k=some p->Q p.2 { s with toks:=s.toks+kd.draws k })
  (h2:atKey xs k=none->∀ h',h'.DictOfH kd d (storedH xs k b r)->Heap.SameBut d s.heap h'->Q r { s with heap:=h',toks:=s.toks+kd.draws k }):wpAny (model prog w) A (dictSetDefault d (.ref b) r) Q E s:=by
 obtain⟨o,es,ep,ho,hc,hd,he,xI,hn⟩:=hm
 unfold dictSetDefault
 try with_reducible refine wpAny_holding ?_
 refine ah (kd.pyHash hu hk (ah (wpAny_dictFind_heap (s:={ s with toks:=s.toks+kd.draws k }) hu hk ho hd he xI hn (fun no=>?_) fun j p hj=>?_)))
 ·have nk:=atKey_none_of_get no
  refine ah (wpAny_rule (ah (wpAny_updateDictKeys (hz:=by have e:=size_of_entries he;lia) (s:={ s with toks:=s.toks+kd.draws k }) ho hd (aI (h2 nk _ ?_ (Heap.SameBut.update ..))))))
  rw[storedH_new nk]
  refine⟨_,_,ep+1,AK _ ho (Obj.isFreed_of_dict (Obj.data_mapDictKeys hd _)),hc.mapDictKeys _,Obj.data_mapDictKeys hd _,by simp[he,entryOfKey],fun x hx=>?_,?_⟩
  ·rcases dz.mp hx with q|q
   ·exact kd.keeps (xI x q) ho hd (Heap.SameBut.update ..)
   ·obtain rfl:=ot.mp q
    exact kd.keeps hk ho hd (Heap.SameBut.update ..)
  ·rw[ll]
   refine iA.mpr ⟨hn,by simp,fun x hx y hy e=>?_⟩
   obtain rfl:y=k:=by simpa using hy
   exact not_mem_keys_of_get no (e ▸ hx)
 ·refine ah (wpAny_dictEntries (s:={ s with toks:=s.toks+kd.draws k }) ho hd ?_)
  rw[entry_at he j,hj]
  exact ah (wpAny_rule (aI (h1 _ (atKey_of_get hn hj))))
theorem zT{κ:Type}[DecidableEq κ](kd:HeapKind prog w κ)(d b:Addr)(hd:(d == sysModules)=false)(r:Value) :
  MeetsIn prog w (Builtin.«dict.setdefault» ⟨[.ref d,.ref b,r],[]⟩) (fun A R s=>kd.room A.in1/\∃ k xs,kd.is s.heap k b/\s.heap.DictOfH kd d xs/\xs.length<=sizeLine /\
   (∀ p,atKey xs k=some p->R (.ok (.ret p.2)) { s with toks:=s.toks+kd.draws k }) /\
   (atKey xs k=none->∀ h',h'.DictOfH kd d (storedH xs k b r)->Heap.SameBut d s.heap h'->R (.ok (.ret r)) { s with heap:=h',toks:=s.toks+kd.draws k })) :=
 .of_wp fun A R s cE=>by
  obtain⟨hu,k,xs,hk,hm,hz,h1,h2⟩:=cE
  unfold Builtin.«dict.setdefault» Builtin.Dict.keyAndDefault
  refine ah (ah (wpAny_notOrdered_dict hm.typeIs ?_))
  refine(show wpAny _ _ (pure (d,Value.ref b,some r)) _ _ s from aI ?_)
  refine(show wpAny _ _ (if (d == sysModules)=true then _ else (dictSetDefault d (Value.ref b) r >>= _)) _ _ s from ?_)
  rw[if_neg (by rw[hd];decide)]
  exact ah (Eu hu hk hm hz (fun p q=>aI ⟨p.2,rfl,h1 p q⟩) fun q h' a c=>aI ⟨r,rfl,h2 q h' a c⟩)
end
section
variable {X:Cx}{pins:List (Addr × Obj)}{σ:St}{H:Hp}{s:Shared}{a b:Addr}{A:Around}{E:Value->Shared->Prop}
theorem Am(hu:A.units+1<cLine)(I:Inv X pins σ H s)(e:H a=some (.dT kvs))(eb:H b=some (.tup (k.map kV)))(hl:kvs.length<sizeLine)(rv:RelV v r)
  (h1:∀ v' w' s',fS kvs k=some v'->Inv X pins σ H s'->RelV v' w'->Q w' s') (h2:fS kvs k=none->∀ s',Inv X pins σ (upd H a (.dT (putK kvs k v))) s'->Q r s') :
  wpAny (model X.prog X.w) A (call (.builtin "dict.setdefault") [.ref a,.ref b,r]) Q E s:=by
 obtain⟨z,hd,xs,rel,dd⟩:=WK I.aC e
 have hz:xs.length<=sizeLine:=by rw[<- Paired.length rel];exact z
 have hp:(putK kvs k v).length<=sizeLine:=by have:=PJ kvs k v;lia
 have vl:=rel.val k
 refine call_meetsIn PySem.F.slot_dict_setdefault dd.typeIs PySem.F.entry_dict_setdefault (PySem.F.args_dict_setdefault_3 _ _ _) (zT (tupleKind (jS X.prog X.w)) a b hd r) ⟨tupleKind_room_in1 hu,k,xs,ER I.aC eb,dd,hz,fun p fo=>?_,fun hn h' A7 hs=>?_⟩
 ·rw[fo] at vl
  cases ev:fS kvs k with
  |none=>rw[ev] at vl;exact(vl:False).elim
  |some v'=>rw[ev] at vl;exact h1 v' _ _ ev (I.tok _) vl
 ·have ev:fS kvs k=none:=by
   rw[hn] at vl
   cases ev:fS kvs k with
   |none=>rfl
   |some v'=>rw[ev] at vl;exact(vl:False).elim
  refine h2 ev _ ?_
  obtain⟨q,es,ep,hq,g2,g3,g4,_,g5⟩:=A7
  refine PK I (by rw[e];exact True.intro) hs ⟨q,hq⟩ ⟨hp,hd,_,(rel.put k eb rv).keeps fun c ys ec=>?_,q,es,ep,hq,g2,g3,g4,g5⟩
  rw[cc (VB ec e fun z=>nomatch z)]
  exact ec
end
def tSd(td ty tx:TE):TE:=fun σ H Q=>td σ H fun x H1=>∃ a,x=.ref a/\PN H1 a/\ty σ H1 fun y H2=>tx σ H2 fun z H3=>∃ kvs k b,H3 a=some (.dT kvs)/\y=.ref b/\H3 b=some (.tup (k.map kV))/\kvs.length<sizeLine /\
 (∀ v,fS kvs k=some v->Q v H3)/\(fS kvs k=none->Q z (upd H3 a (.dT (putK kvs k z))))
theorem Jx {X:Cx} (hu:X.A.units+1<cLine) (ho:PE X o td) (he:PE X e ty) (hf:PE X f tx) (m:M2 X o "setdefault" apos e f dy):PE X (.Call (.Attribute o "setdefault" apos) [e,f] [] dy) (tSd td ty tx):=by
 intro pins s σ H Q I h
 refine wpAny_Call_method m.base m.few m.line PySem.F.plainAttrs_dict PySem.F.slot_dict_setdefault PySem.F.type_dict_setdefault (b5 (ho pins s σ H _ I h) fun u s1 cE=>?_)
 obtain⟨x,H1,I1,rx,a,ex,d,q1⟩:=cE
 subst ex
 cases (show u=Value.ref a from rx)
 have td:=WR I1 d
 refine⟨td.1,td.2.1,?_⟩
 rw[m.trees]
 refine Calls.callWith_builtin rfl (Calls.evalArgs_plain (Calls.spliced_cons (b5 (he pins s1 σ H1 _ I1 q1) fun iv s2 b6=>L2.fE b6 fun y H2 I2 ry q2=>Calls.spliced_cons (b5 (hf pins s2 σ H2 _ I2 q2) fun fv s3 ⟨z,H3,I3,rz,kvs,k,b,e1,e2,e3,hl,q3,q4⟩=>Calls.spliced_nil ?_))))
 subst e2
 cases (show iv=Value.ref b from ry)
 exact Am hu I3 e1 e3 hl rz (fun v' w' s' ev I' r'=>⟨v',H3,I',r',q3 v' ev⟩) fun ev s' I'=>⟨z,_,I',rz,q4 ev⟩
end L2
namespace L2.Q
open PySem PySem.Spec PyProof.Rows
section
variable {X:Cx}{K:PySem.W.Frag}{a b c:Expr}{ta tb tc:WE}{pos apos dy:Pos}
def QF(x:D)(f:List (Key × D)->Prop)(g:List (List Key × D)->Prop):Prop:=match x with
 |.dK kvs=>f kvs
 |.dT kvs=>g kvs
 |_=>False
def N9(y:D)(k:List D->Prop):Prop:=match y with
 |.tup ys=>k ys
 |_=>False
def DV(o:Option D)(m n:Md)(z:D)(Q:Md->D->Prop):Prop:=match o with
 |some d=>Q (md m d) d
 |none=>Q n z
def N_(ta tb tc:WE):WE:=fun ρ Q=>ta ρ fun m x=>QF x (fun kvs=>tb ρ fun _ y=>tc ρ fun n z=>∃ k,y.key1=some k/\DV (dE kvs k) m n z Q)
 (fun kvs=>tb ρ fun _ y=>tc ρ fun n z=>N9 y fun ys=>∃ ks,eX ys=some ks/\DV (dE kvs ks) m n z Q)
theorem Ak(hx:lS K (N_ ta tb tc) σ H Qv):WU (lS K ta) (lS K tb) (lS K tc) σ H Qv:=kr hx fun Hs ρ ae Q sr h fin=>by
 refine⟨Hs,ρ,ae,_,sr,h,fun v H1 aE m x As g1 r1 f1 q1=>?_⟩
 have got:∀ {o:Option V} {d? : Option D} {H2 H3 ax dP:Hp} {w:V} {n:Md} {z:D} {Cs:List Addr},dS aE H1 ax H2->dS ax H2 dP H3->RM K dP H3 n z w Cs->cO dP H2 Cs->(match d? with
   |some d=>∃ v,o=some v/\Rep K H3 d v/\(m=.sh->Rep K dP d v)
   |none=>o=none)->DV d? m n z Q->Qv (o.getD w) H3:=by
  intro o d? H2 H3 ax dP w n z Cs g2 g3 r3 f3 l q
  cases d? with
  |none=>rw[show o=none from l];exact fin w H3 dP n z Cs ((g1.trans g2).trans g3) r3 (f3.of (g1.trans g2).all) q
  |some d =>
   obtain⟨v',e,u1,u2⟩:=l
   rw[e]
   exact(Fin.after fin ((g1.trans g2).trans g3)).md g3.wf u1 u2 q
 have core:∀ G:Hp,ay G H1->(∀ H3 dP,dS aE H1 dP H3->∀ d v,Rep K G d v->Rep K H3 d v/\(m=.sh->Rep K dP d v))->Rep K G x v->∃ a,v=.ref a/\PN H1 a/\lS K tb σ H1 fun y H2=>lS K tc σ H2 fun z H3=>∃ o,kL H3 a y o/\Qv (o.getD z) H3:=by
  intro G sg up r
  cases r with
  |dK kk s q =>
   refine⟨_,rfl,.inl ⟨_,ay.rd sg s⟩,aE,ρ,ae,_,sr.grow g1,q1,fun u H2 ax n y Bs g2 r2 f2 q2=>⟨ax,ρ,ae,_,(sr.grow g1).grow g2,q2,fun w H3 dP n3 z Cs g3 r3 f3 q3=>?_⟩⟩
   have ry:=(r2.grow g3).rep g3.wf
   obtain⟨k,hk,q4⟩:=q3
   have ev:=ry.key hk
   subst ev
   refine⟨_,kL.k' (ay.rd (g2.trans g3).all (ay.rd sg s)),got g2 g3 r3 f3 ?_ q4⟩
   have z:=zip_get (k:=k) q
   split
   ·rename_i d e
    rw[e] at z
    obtain⟨v',e',r'⟩:=z
    exact⟨v',e',up _ _ (g2.trans g3) _ _ r'⟩
   ·rename_i e
    rw[e] at z
    exact z
  |dT kk s q =>
   refine⟨_,rfl,.inr ⟨_,ay.rd sg s⟩,aE,ρ,ae,_,sr.grow g1,q1,fun u H2 ax n y Bs g2 r2 f2 q2=>⟨ax,ρ,ae,_,(sr.grow g1).grow g2,q2,fun w H3 dP n3 z Cs g3 r3 f3 q3=>?_⟩⟩
   have ry:=(r2.grow g3).rep g3.wf
   cases ry with
   |tup t2 e2 p2 =>
    obtain⟨k,hk,q4⟩:=q3
    obtain⟨b',eb,e3⟩:=Rep.lT (.tup t2 e2 p2) hk
    cases eb
    refine⟨_,kL.t' (ay.rd (g2.trans g3).all (ay.rd sg s)) e3,got g2 g3 r3 f3 ?_ q4⟩
    have z:=zip_get (k:=k) q
    split
    ·rename_i d e
     rw[e] at z
     obtain⟨v',e',r'⟩:=z
     exact⟨v',e',up _ _ (g2.trans g3) _ _ r'⟩
    ·rename_i e
     rw[e] at z
     exact z
   |_=>exact q3.elim
  |_=>exact q1.elim
 rcases r1.here g1.wf with⟨hm,r⟩|⟨hm,r⟩
 ·exact core aE g1.wf.sub (fun H3 dP g d v q=>⟨q.same (g1.wf.sub.trans g.all),fun _=>q.same g.sh⟩) r
 ·exact core H1 (ay.refl H1) (fun H3 dP g d v q=>⟨q.same g.all,fun z=>absurd z hm⟩) r
theorem GC (hu:X.A.units+64<cLine) (ha:QE X K a ta) (hb:QE X K b tb) (hc:QE X K c tc) (hm:M2 X a "get" apos b c dy:=by exact⟨rfl,rfl,rfl,rfl⟩):QE X K (.Call (.Attribute a "get" apos) [b,c] [] dy) (N_ ta tb tc) :=
 PE.imp (cm' (by lia) ha hb hc hm) fun σ H Qv hx=>Ak hx
def Oa(d x:D):D:=match d with
 |.list xs=>.list (xs++[x])
 |d=>d
def kN:List (List Key × D)->List Key->D->List (List Key × D)
 |[],k,x=>[(k,.list [x])]
 |p :: r,k,x=>if p.1=k then (p.1,Oa p.2 x) :: r else p :: kN r k x
def KS(kvs:List (List Key × D))(k:List Key):List (List Key × D):=match dE kvs k with
 |some _=>kvs
 |none=>kvs++[(k,.list [])]
def Bf:Option D->Prop
 |none=>True
 |some (.list xs)=>xs.length<sizeLine
 |_=>False
def QH(o:Option (Option Sl))(k:List (List Key × D)->Prop):Prop:=match o with
 |some (some (.ow true (.dT kvs)))=>k kvs
 |_=>False
def QJ(i:Nat)(tk te:WE):WS:=fun E ρ=>QH ρ[i]? fun kvs=>tk ρ fun _ y=>N9 y fun ys=>∃ ks,eX ys=some ks/\kvs.length<sizeLine/\Bf (dE kvs ks) /\
 te (ρ.set i (some (.ow true (.dT (KS kvs ks))))) fun _ x=>x.flat=true/\E.nx (ρ.set i (some (.ow true (.dT (kN kvs ks x)))))
theorem bL[DecidableEq κ](p:κ × β)(r:List (κ × β))(k:κ):dE (p :: r) k=if p.1=k then some p.2 else dE r k:=by
 by_cases h:p.1=k<;>simp[dE,h]
theorem Gy:∀ {kvs:List (List Key × D)},dE kvs k=some d->∃ j,(kvs.map (·.2))[j]? = some d/\(∀ vs:List V,vs.length=kvs.length->fS ((kvs.map (·.1)).zip vs) k=vs[j]?) /\
  ∀ x,(kN kvs k x).map (·.1)=kvs.map (·.1)/\(kN kvs k x).map (·.2)=(kvs.map (·.2)).set j (Oa d x)
 |[],h=>by simp[dE] at h
 |p :: kvs,h=>by
  rw[bL] at h
  by_cases e:p.1=k
  ·rw[if_pos e] at h
   cases h
   refine⟨0,rfl,fun vs hl=>?_,fun x=>?_⟩
   ·cases vs with
    |nil=>cases hl
    |cons v vs=>exact tI (p:=(p.1,v)) e
   ·simp[kN,e]
  ·rw[if_neg e] at h
   obtain⟨j,h1,h2,h3⟩:=Gy h
   refine⟨j+1,by simpa using h1,fun vs hl=>?_,fun x=>?_⟩
   ·cases vs with
    |nil=>cases hl
    |cons v vs =>
     show fS ((p.1,v) :: (kvs.map (·.1)).zip vs) k=_
     rw[tJ (p:=(p.1,v)) e,h2 vs (by simpa using hl)]
     rfl
   ·simp[kN,e,h3 x]
theorem qH:∀ {kvs:List (List Key × D)},dE kvs k=none->dE (kvs++[(k,d)]) k=some d
 |[],_=>by simp[dE]
 |p :: kvs,h=>by
  rw[bL] at h
  by_cases e:p.1=k
  ·rw[if_pos e] at h;cases h
  ·rw[if_neg e] at h
   rw[OB,bL,if_neg e,qH h]
theorem uJ:∀ {kvs:List (List Key × D)},dE kvs k=none->kN (kvs++[(k,.list [])]) k x=kN kvs k x
 |[],_=>by simp[kN,Oa]
 |p :: kvs,h=>by
  rw[bL] at h
  by_cases e:p.1=k
  ·rw[if_pos e] at h;cases h
  ·rw[if_neg e] at h
   rw[OB,kN,kN,if_neg e,if_neg e,uJ h]
theorem cK.place(sr:cK K Hs ρ σ H ae)(e:ρ[i]? = some (some (.ow fl d))):∃ v,σ[i]? = some (some v)/\Place K Hs H σ fl d v fun fl2 d2=>ρ.set i (some (.ow fl2 d2)):=by
 obtain⟨v,As,t,e2,ne,r,sb,g⟩:=SR.put i sr.sr e sr.sF
 refine⟨v,e2,As,r,ne,sb.nodup sr.sF,fun a h=>sr.own a (sb.subset h),fun ax H2 fl2 d2 fP s2 w2 n2 _ r2 ne2 kB o2 st=>?_⟩
 obtain⟨t2,x,y,z⟩:=g ax H2 fl2 d2 fP s2 r2 ne2 kB (fun a ha m=>(o2 a ha).2.elim id fun q=>absurd q (sr.sr.own a m).ne) fun a ha m=>st a (sr.sr.own a ha).ne m
 exact⟨t2,z,w2,x,fun a h=>(y a h).elim (fun q=>n2 a (sr.own a q) (sr.sr.own a q).ne) fun q=>(o2 a q).1⟩
theorem uz(sr:cK K Hs ρ σ H ae)(e1:ρ[i]? = some (some (.ow true (.dT kvs))))(hg:dE kvs ks=some (.list xs)) :
  ∃ a KW c ws,σ[i]? = some (some (.ref a))/\H a=some (.dT KW)/\fS KW ks=some (.ref c)/\H c=some (.lst ws)/\ws.length=xs.length /\
   ∀ x y,x.flat=true->Rep K Hs x y->ws.length<sizeLine->∃ dv,cK K Hs (ρ.set i (some (.ow true (.dT (kN kvs ks x))))) σ (upd H c (.lst (ws++[y]))) dv:=by
 obtain⟨v,e2,pl⟩:=sr.place e1
 obtain⟨fA,r,ne,nd,own,k⟩:=pl.ex
 cases r with
 |sh hf _=>exact absurd rfl ne
 |@dT a0 vs _ A kk e rs =>
  obtain⟨na,nA⟩:=kC.mp nd
  obtain⟨j,ej,ev,es⟩:=Gy hg
  obtain⟨w,B,e3,r3,sb,g⟩:=rs.at ej nA
  have hl:vs.length=kvs.length:=by have:=rs.length;rw[bT] at this;exact this.symm
  cases r3 with
  |sh hf _=>exact absurd (hf rfl) (by simp[D.flat])
  |@list c ws _ B' hz ec QK =>
   have cA:c∈A:=sb.subset df
   refine⟨a0,_,c,ws,e2,e,(ev vs hl).trans e3,ec,QK.length.symm,fun x y hx rx hw=>?_⟩
   have hca:a0≠c:=fun z=>na (z ▸ cA)
   obtain⟨nc,nB⟩:=kC.mp (sb.nodup nA)
   have r4:bE K Hs (upd H c (.lst (ws++[y]))) true (.list (xs++[x])) (.ref c) (c :: B'):=by
    have:=(QK.fh (H':=upd H c (.lst (ws++[y]))) (ay.refl _) fun b hb=>cc fun z=>nc (z ▸ hb)).append (az.cons (As:=[]) (.sh (fun _=>hx) rx) .nil)
    rw[mr,mr] at this
    exact .list (by rw[kz];exact hw) eR this
   obtain⟨fP,n2,y2,_,r5⟩:=g Hs (upd H c (.lst (ws++[y]))) true _ _ (ay.refl _) id r4 (sb.nodup nA) (fun _ h _=>h) (fun b _ nb=>cc fun z=>nb (z ▸ df))
   have Yv:∀ b∈fP,b∈A:=fun b hb=>(y2 b hb).elim (fun q=>q.1) fun q=>sb.subset q
   obtain⟨k1,k2⟩:=es x
   have kl:(kN kvs ks x).length=kvs.length:=by have:=congrArg List.length k1;simpa using this
   refine k Hs _ true (.dT (kN kvs ks x)) (a0 :: fP) (ay.refl _) (ug sr.wf (own c (de _ cA)) fun _ z=>nomatch z) (fun _ h _=>h) id (.dT (vs:=vs) ⟨by rw[kl];exact kk.1,fun p hp=>?_⟩ (by rw[cc hca,k1];exact e) (by rw[k2];exact r5)) (by simp) (kC.mpr ⟨fun z=>na (Yv _ z),n2⟩) (fun b hb=>?_) fun b _ nb=>cc fun z=>nb (z ▸ de _ cA)
   ·have:p.1∈kvs.map (·.1):=k1 ▸ List.mem_map_of_mem hp
    obtain⟨p',fo,e'⟩:=dk.mp this
    rw[<- e'];exact kk.2 p' fo
   ·have Yw:b∈a0 :: A:=(dA.mp hb).elim (fun z=>z ▸ df) fun z=>de _ (Yv b z)
    exact⟨own b Yw,.inl Yw⟩
theorem Be{te:WE}{Hs H:Hp}{ρ:Env}{σ:St}{ae:List Addr}{i:Nat}{kvs:List (List Key × D)}{ks:List Key}{xs:List D}{a:Addr}{KW:List (List Key × V)}{v':V}{R:Env->Prop}{G:Hp->Prop}(sr:cK K Hs ρ σ H ae)(e1:ρ[i]? = some (some (.ow true (.dT kvs))))(hg:dE kvs ks=some (.list xs))(hz:xs.length<sizeLine)
  (Yx:σ[i]? = some (some (.ref a))) (eH:H a=some (.dT KW)) (ev:fS KW ks=some v') (q:te ρ fun _ x=>x.flat=true/\R (ρ.set i (some (.ow true (.dT (kN kvs ks x)))))) (k1:∀ H' ai bq bG,ay Hs ai->cK K ai bq σ H' bG->R bq->G H') :
  PC K "list" v' H/\Sb (lS K te) R_ σ H fun us H2=>Wz v' us H2 fun _ H3=>G H3:=by
 obtain⟨a',Yy,c,ws,f1,f2,f3,f4,f5,f6⟩:=uz sr e1 hg
 have ea:a'=a:=by rw[f1] at Yx;cases Yx;rfl
 subst ea
 have ek:Yy=KW:=by rw[f2] at eH;cases eH;rfl
 subst ek
 have e':v'=.ref c:=by rw[f3] at ev;cases ev;rfl
 subst e'
 refine⟨.inl ⟨rfl,_,.inl (.inl f4)⟩,Hs,ρ,ae,_,sr,q,fun y H2 ax m x Cs g2 r2 fr2 q2=>?_⟩
 obtain⟨hx,q2⟩:=q2
 obtain⟨b',kv2,c2,ws2,h1,h2,h3,h4,h5,h6⟩:=uz (sr.grow g2) e1 hg
 have ea:b'=a':=by rw[f1] at h1;cases h1;rfl
 subst ea
 have ek:kv2=Yy:=by rw[g2.all _ _ f2] at h2;cases h2;rfl
 subst ek
 have e':c2=c:=by rw[f3] at h3;cases h3;rfl
 subst e'
 obtain⟨dv,gu⟩:=h6 x y hx (r2.flat g2.wf hx) (by lia)
 exact⟨c2,ws2,y,rfl,rfl,h4,by lia,k1 _ ax _ dv g2.sh gu q2⟩
theorem set_own{α:Type}{ρ:List α}{i:Nat}{x:α}(h:ρ[i]? = some x):ρ.set i x=ρ:=by
 apply D8
 intro j
 rw[List.getElem?_set]
 split
 ·rename_i e
  subst e
  have:=(lh.mp h).1
  rw[if_pos this,h]
 ·rfl
theorem Jj {L:Str->Hp->Prop} {i:Nat} {p1 p2 p3 p4 p5:Pos} (hu:X.A.units+64<cLine) (he:PE X a (CF i)) (hb:QE X K b tb) (hc:QE X K c tc) (hK:X.K=K:=by rfl) (hm:M2 X a "setdefault" p1 b (.List [] p2) p3:=by exact⟨rfl,rfl,rfl,rfl⟩)
  (hs:swapsWith (.Call (.Attribute (.Call (.Attribute a "setdefault" p1) [b,.List [] p2] [] p3) "append" p4) [c] [] p5) none pos.line X.env=pure false:=by rfl)
  (tF:attributeBase (.Call (.Attribute a "setdefault" p1) [b,.List [] p2] [] p3) "append" X.env (eval (.Call (.Attribute a "setdefault" p1) [b,.List [] p2] [] p3) X.env)=eval (.Call (.Attribute a "setdefault" p1) [b,.List [] p2] [] p3) X.env:=by rfl)
  (xh:((backTo p5 (starEach [c] X.env)).all (fun x=>!x.1) && (backToKw p5 (keywordEach [] X.env)).all (fun x=>x.1.isSome)
   && decide ([c].length+([]:List Keyword).length+(if ([]:List Keyword).isEmpty then 0 else 1)<30))=true:=by rfl)
  (hline:(p4.endLine == p5.line)=true:=by rfl) (xD:starEach (c :: []) X.env=(false,eval c X.env) :: starEach [] X.env:=by rfl) (A5:(backTo p5 (starEach [] X.env)).any (·.1)=false:=by rfl) :
  QS X K L (.Expr (.Call (.Attribute (.Call (.Attribute a "setdefault" p1) [b,.List [] p2] [] p3) "append" p4) [c] [] p5) pos) (QJ i tb tc):=by
 subst hK
 refine PS.imp (MY (PD PySem.F.plainAttrs_list PySem.F.slot_list_append PySem.F.type_list_append Sq (Jx (by lia) he hb (fK (K:=X.K) aq) hm) (pz hc tq xD) tF xh hline xD A5) hs) fun D σ H hx=>dD hx fun Hs ρ ae E sr h k1 k2 k3 k4=>?_
 unfold QJ QH at h
 split at h
 ·rename_i kvs e1
  obtain⟨v,e2,pl⟩:=sr.place e1
  obtain⟨fA,r,ne,nd,own,k⟩:=pl.ex
  have lv:∀ x∈fA,Hs x=none/\H x≠none:=fun x hx=>⟨own x hx,(r.own x hx).ne⟩
  cases r with
  |sh hf _=>exact absurd rfl ne
  |@dT a0 vs _ A kk e rs =>
   refine⟨_,e2,a0,rfl,.inr ⟨_,.inl e⟩,Hs,ρ,ae,_,sr,h,fun u H2 ax m y Bs g2 r2 f2 q2=>?_⟩
   refine⟨ax,ρ,ae,fun m d=>m=.ow true/\d=.list [],sr.grow g2,⟨eP _,rfl,rfl⟩,fun w H3 dP n z Cs g3 r3 f3 q3=>?_⟩
   obtain⟨rfl,rfl⟩:=q3
   have ry:=(r2.grow g3).rep g3.wf
   cases ry with
   |tup t2 ey p2 =>
    obtain⟨ks,hk,hz,zv,q⟩:=q2
    obtain⟨b',eb,e3⟩:=Rep.lT (.tup t2 ey p2) hk
    cases eb
    have g:=g2.trans g3
    have hl:kvs.length=vs.length:=by have:=rs.length;rwa[bT] at this
    have srg:=sr.grow g
    have zg:=zip_get (k:=ks) (rs.reps (G:=H) sr.wf.sub fun _ _=>rfl)
    refine⟨_,ks,_,g.all _ _ e,rfl,e3,by rw[GN,bT,<- hl,GV];exact hz,fun v' ev=>?_,fun ev=>?_⟩
    ·cases hg:dE kvs ks with
     |none=>rw[hg] at zg;rw[zg] at ev;cases ev
     |some d =>
      rw[hg] at zv
      cases d with
      |list xs =>
       rw[show KS kvs ks=kvs by unfold KS;rw[hg],set_own e1] at q
       exact Be (G:=fun H'=>D.nx σ H') srg e1 hg zv e2 (g.all _ _ e) ev q fun H' ai bq bG s1 s2 q'=>k1 σ H' ai bq bG (g.sh.trans s1) s2 q'
      |_=>exact zv.elim
    ·have hg:dE kvs ks=none:=by
      cases hg:dE kvs ks with
      |none=>rfl
      |some d=>rw[hg] at zg;obtain⟨v',z,_⟩:=zg;rw[z] at ev;cases ev
     rw[show KS kvs ks=kvs++[(ks,.list [])] by unfold KS;rw[hg]] at q
     obtain⟨r3,_⟩:=r3
     cases r3 with
     |sh hf _=>exact absurd (hf rfl) (by simp[Q.D.flat])
     |@list c ws _ B' hw ec QK =>
      cases QK
      obtain⟨na,nA⟩:=kC.mp nd
      have fc:=f3.2 c df
      have QL:H c=none:=g2.all.free fc.2
      have cA:∀ b∈a0 :: A,b≠c:=fun b hb z=>by
       subst z
       rcases dA.mp hb with rfl|hb
       ·rw[e] at QL;cases QL
       ·exact(rs.own _ hb).ne QL
      have ek:putK ((kvs.map (·.1)).zip vs) ks (V.ref c)=((kvs++[(ks,Q.D.list [])]).map (·.1)).zip (vs++[V.ref c]):=by
       have:=Nj ks ((kvs.map (·.1)).zip vs)
       rw[ev] at this
       unfold putK
       rw[this,if_neg (by decide),ll,List.zip_append (by rw[bT];exact hl)]
       rfl
      obtain⟨kl,ko⟩:=uI p2 hk
      have l1:=p2.length
      have Ug:=rs.grow g.sh g.all
      have rs4:az X.K dP (upd H3 a0 (.dT (((kvs++[(ks,Q.D.list [])]).map (·.1)).zip (vs++[V.ref c])))) true ((kvs++[(ks,Q.D.list [])]).map (·.2)) (vs++[V.ref c]) (A++[c]):=by
       have q1:=Ug.fh (H':=upd H3 a0 (.dT (((kvs++[(ks,Q.D.list [])]).map (·.1)).zip (vs++[V.ref c])))) (ay.refl _) fun b hb=>cc fun z=>na (z ▸ hb)
       have q2:=q1.append (az.cons (bE.list (ds:=[]) (As:=[]) hw ((cc fun z=>cA a0 df z.symm).trans ec) .nil) .nil)
       rw[show(kvs++[(ks,Q.D.list [])]).map (·.2)=kvs.map (·.2)++[Q.D.list []] by simp]
       exact q2
      obtain⟨dv,gu⟩:=k.node (fl2:=true) (d2:=.dT (kvs++[(ks,.list [])])) (C:=A++[c]) g lv (fun _ z=>by cases z) id
       (.dT ⟨by rw[kz];exact hz,fun p hp=>(dz.mp hp).elim (kk.2 p) fun z=>by
        obtain rfl:p=(ks,.list []):=by simpa using z
        exact⟨by show ks.length<=_;lia,ko⟩⟩ eR rs4)
       (iA.mpr ⟨nA,by simp,fun x hx y hy z=>cA x (de _ hx) (by rw[z];simpa using hy)⟩) (fun z=>(dz.mp z).elim na fun z=>cA a0 df (by simpa using z))
       (fun x hx=>(dz.mp hx).imp id fun z=>by
        obtain rfl:x=c:=by simpa using z
        exact⟨fc.1,QL⟩)
      rw[ek]
      have hi:i<ρ.length:=(lh.mp e1).1
      refine Be (G:=fun H'=>D.nx σ H') (R:=E.nx) (kvs:=kvs++[(ks,.list [])]) (xs:=[]) gu (by simp[hi]) (qH hg) (by rw[sizeLine_eq];decide) e2 eR (by rw[<- ek,bS',if_pos rfl]) ?_ fun H' ai bq bG s1 s2 q'=>k1 σ H' ai bq bG (g.sh.trans s1) s2 q'
      simp only[List.set_set,uJ hg]
      exact q
   |_=>exact q2.elim
 ·exact h.elim
end
end L2.Q
namespace L2
open PySem PySem.Spec PyProof.Rows
def CQ:R2:=fun x y H Q=>match x,y with
 |.str z,.int n=>(0<=n/\n<=100/\z.length<=100)/\Q (.str (oo n z)) H
 |_,_=>False
theorem Cv{X:Cx}:dn X (binaryOp .Mult) CQ:=by
 intro pins s σ H x y v u Q I rx ry h
 unfold CQ at h
 split at h
 ·rename_i z n
  obtain⟨⟨h1,h2,h3⟩,q⟩:=h
  by_cases hn:n<1
  ·obtain⟨t,rfl⟩:=rx
   obtain⟨t',rfl⟩:=ry
   have e:n=0:=by lia
   subst e
   refine lU ⟨by decide,fun z=>absurd hn z,fun z=>absurd hn z⟩ fun t' k=>⟨.str (oo 0 z),H,I.tok _,⟨t',by rw[show Txt.mul z 0=oo 0 z from by unfold Txt.mul oo;rw[if_pos hn];rfl]⟩,q⟩
  ·exact Dw pins s σ H (.str z) (.int n) v u Q I rx ry ⟨⟨by lia,h2,h3⟩,q⟩
 ·exact h.elim
end L2
namespace L2.Q
open PySem PySem.Spec PyProof.Rows
section
variable {X:Cx}{K:PySem.W.Frag}{a b c:Expr}{ta tb:WE}{pos:Pos}
def zJ:W2:=fun _ x _ y Q=>match x with
 |.str z=>match y with
  |.int n=>(0<=n/\n<=100/\z.length<=100)/\Q .sh (.str (oo n z))
  |_=>False
 |_=>False
theorem Cw:mh K CQ zJ:=by
 intro Hs H m x v As n y u Bs Qd Qv w rx ry h f
 have r1:=rx.rep w
 have r2:=ry.rep w
 cases r1 with
 |str hz=>cases r2 with
  |int n =>
   obtain⟨hh,q⟩:=h
   refine⟨hh,f.sh w (.str ?_) q⟩
   rw[p_,sizeLine_eq]
   have:n.toNat*Str.length _<=100*100:=L7 (by lia) hh.2.2
   lia
  |_=>exact h.elim
 |_=>exact h.elim
theorem Gn(ha:QE X K a ta)(hb:QE X K b tb):QE X K (.BinOp a .Mult b pos) (aw zJ ta tb):=Fh Cv Cw ha hb
def Uh(tk tv:WE):WE:=fun ρ Q=>tk ρ fun _ x=>tv ρ fun m y=>m=.sh/\∃ k,x.key1=some k/\Q (.ow y.flat) (.dK [(k,y)])
theorem A_(he:QE X K a ta)(S5:QE X K b tb):QE X K (.Dict [some a] [b] pos) (Uh ta tb):=by
 refine PE.imp (ci' (cg' he S5 cf') rfl rfl (by simp) (by simp)) fun σ H Qv hx=>kr hx fun Hs ρ ae Q sr h fin=>fun a ha=>?_
 have g0:dS Hs H Hs (upd H a (.dK [])):=NF sr.wf ha fun _ z=>nomatch z
 refine⟨Hs,ρ,ae,_,sr.grow g0,h,fun v H1 aE m x As g1 r1 f1 q1=>⟨aE,ρ,ae,_,(sr.grow g0).grow g1,q1,fun u H2 ax n y Bs g2 r2 f2 q2=>?_⟩⟩
 obtain⟨rfl,k,ek,q2⟩:=q2
 have rx:=(r1.grow g2).rep g2.wf
 have ex:=rx.key ek
 subst ex
 have gg:=(g0.trans g1).trans g2
 have e2:H2 a=some (.dK []):=g2.all _ _ (g1.all _ _ eR)
 have n2:ax a=none:=g2.lP (g1.lP (sr.wf.sub.free ha) (by rw[eR];exact fun z=>nomatch z)) (by rw[g1.all _ _ eR];exact fun z=>nomatch z)
 refine⟨e2,[(k,u)],rfl,by simp,?_⟩
 have g3:dS Hs H ax (upd H2 a (.dK [(k,u)])):=⟨fun b o hb=>by rw[cc (vn hb ha)];exact gg.all b o hb,gg.sh,ug gg.wf n2 (fun _ z=>nomatch z),gg.new⟩
 exact fin (.ref a) _ ax (.ow y.flat) (.dK [(k,y)]) [a] g3 ⟨.dK (vs:=[u]) (As:=[]) ⟨by rw[sizeLine_eq];simp,fun p hp=>by
  have:p=(k,y):=by simpa using hp
  subst this;exact pD rx ek⟩ eR (.cons (As:=[]) (.sh id r2.2) .nil),by simp⟩ ⟨by simp,fun b hb=>by
  obtain rfl:b=a:=by simpa using hb
  exact⟨n2,ha⟩⟩ q2
def Ui(d:D)(k:List (Key × D)->Prop):Prop:=match d with
 |.dK kvs=>k kvs
 |_=>False
def yZ(p:WP)(tk tv:WE):WS:=fun E ρ=>tv ρ fun m x=>p ρ fun fl d up=>tk ρ fun _ y=>m=.sh/\Ui d fun kvs=>∃ k,y.key1=some k/\kvs.length<sizeLine/\E.nx (up (fl && x.flat) (.dK (gS kvs k x)))
theorem zq(hu:X.A.units+64<cLine)(ho:QP X K a p)(hi:QE X K b tk)(hv:QE X K c tv)(hs:swapsWith c (some (.Subscript a b pos')) pos.line X.env=pure false:=by rfl) :
  QS X K L (.Assign [.Subscript a b pos'] c pos) (yZ p tk tv):=by
 refine PS.imp (WM (by lia) ho hi hv hs) fun D σ H hx=>dD hx fun Hs ρ ae E sr h k1 k2 k3 k4=>?_
 refine⟨Hs,ρ,ae,_,sr,h,fun v H1 aE m1 x As1 g1 r1 f1 q1=>⟨aE,ρ,ae,_,sr.grow g1,q1,fun u H2 ax fl d up g2 p2 q2=>⟨ax,ρ,ae,_,(sr.grow g1).grow g2,q2,fun y H3 dP m3 yd IQ g3 r3 f3 q3=>?_⟩⟩⟩
 obtain⟨rfl,q3⟩:=q3
 have rx:Rep K dP x v:=(r1.2.same g2.sh).same g3.sh
 have ry:=r3.rep g3.wf
 obtain⟨fA,r,ne,nd,own,k⟩:=p2.ex
 have lv:∀ x∈fA,ax x=none/\H2 x≠none:=fun x hx=>⟨own x hx,(r.own x hx).ne⟩
 cases r with
 |sh hf _=>exact absurd rfl ne
 |@dK a0 vs kvs A kk e rs =>
  obtain⟨key,hk,hz,q⟩:=q3
  have ey:=ry.key hk
  subst ey
  obtain⟨na,nA⟩:=kC.mp nd
  have hf:(fl && x.flat)=true->fl=true:=fun z=>by simp at z;exact z.1
  have Ug:=(rs.grow g3.sh g3.all).wk hf
  obtain⟨ws,Bs,sb,kK,ew⟩:=uM (k:=key) (bE.sh (fun z=>by simp at z;exact z.2) rx) Ug
  have hl:kvs.length=vs.length:=by have:=rs.length;rwa[bT] at this
  refine⟨a0,_,rfl,A6.k (g3.all _ _ e) (by rw[GN,bT,<- hl,GV];exact hz),?_⟩
  rw[ew]
  have nB:a0∉Bs:=fun z=>na (sb.subset z)
  obtain⟨dv,gu⟩:=k.node (fl2:=fl && x.flat) (d2:=.dK (gS kvs key x)) g3 lv (fun _ z=>by cases z) hf (.dK ⟨jI (gD _ _ _) hz,fun p hp=>(jN hp).elim (fun z=>by rw[z];exact pD ry hk) fun z=>by obtain⟨p',fo,e'⟩:=dk.mp z;rw[<- e'];exact kk.2 p' fo⟩ eR (kK.fh (ay.refl _) fun b hb=>cc fun z=>nB (by subst z;exact hb)))
   (sb.nodup nA) nB fun b hb=>.inl (sb.subset hb)
  exact k1 σ _ dP _ dv ((g1.sh.trans g2.sh).trans g3.sh) gu q
 |_=>exact q3.elim
end
end L2.Q
namespace L2.Q.R
open PySem PySem.Spec PyProof.Rows L2.Q
section
variable {ρ:Env}{E:qZ}{te tb tc tk tv:WE}{m m':Md}{x y:L2.Q.D}{ys:List L2.Q.D}{Q:Md->L2.Q.D->Prop}{p:WP}{i k:Nat}
theorem J_{a:Int}{x:Str}:zJ m (.str x) m' (.int a) Q=((0<=a/\a<=100/\x.length<=100)/\Q .sh (.str (oo a x))):=rfl
theorem Mt:Uh tk tv ρ Q=tk ρ fun _ x=>tv ρ fun m y=>m=.sh/\∃ k,x.key1=some k/\Q (.ow y.flat) (.dK [(k,y)]):=rfl
theorem Jf:yZ p tk tv E ρ=tv ρ fun m x=>p ρ fun fl d up=>tk ρ fun _ y=>m=.sh/\bP d (f:=fun d=>Ui d fun kvs=>∃ k,y.key1=some k/\kvs.length<sizeLine/\E.nx (up (fl && x.flat) (.dK (gS kvs k x)))) ⟨⟩:=rfl
theorem K_{kvs:List (Key × L2.Q.D)}{k:List (Key × L2.Q.D)->Prop}:Ui (.dK kvs) k=k kvs:=rfl
theorem K3:N_ te tb tc ρ Q=te ρ fun m x=>bP x (f:=fun x=>QF x (fun kvs=>tb ρ fun _ y=>tc ρ fun n z=>∃ k,y.key1=some k/\DV (dE kvs k) m n z Q)
 (fun kvs=>tb ρ fun _ y=>tc ρ fun n z=>bP y (f:=fun y=>N9 y fun ys=>∃ ks,eX ys=some ks/\DV (dE kvs ks) m n z Q) ⟨⟩)) ⟨⟩:=rfl
theorem Lx:QF (.dK kvs) f g=f kvs:=rfl
theorem Mw:QF (.dT kvs) f g=g kvs:=rfl
theorem Mz{k:List L2.Q.D->Prop}:N9 (.tup ys) k=k ys:=rfl
theorem fH':QJ i tk te E ρ=bP ρ[i]? (f:=fun o=>QH o fun kvs=>tk ρ fun _ y=>bP y (f:=fun y=>N9 y fun ys=>∃ ks,eX ys=some ks/\kvs.length<sizeLine/\Bf (dE kvs ks) /\
 te (ρ.set i (some (.ow true (.dT (KS kvs ks))))) fun _ x=>x.flat=true/\E.nx (ρ.set i (some (.ow true (.dT (kN kvs ks x)))))) ⟨⟩) ⟨⟩:=rfl
theorem MN{kvs:List (List Key × L2.Q.D)}{k:List (List Key × L2.Q.D)->Prop}:QH (some (some (.ow true (.dT kvs)))) k=k kvs:=rfl
end
end L2.Q.R
namespace L2
open PySem PySem.Spec PyProof.Rows
section
variable {X:Cx}
def QN(K:PySem.W.Frag):List V->Hp->VK->Prop:=fun xs H Q=>match xs with
 |[.ref a]=>∃ bs:List Bool,eM K H a (bs.map V.bl)/\Q (.bl (bs.any id)) H
 |_=>False
theorem wN (hc:X.calm=true):kS X (.builtin "any") (QN X.K):=by
 intro pins s σ H xs us Q I r h
 unfold QN at h
 split at h
 ·rename_i a
  obtain⟨bs,e,q⟩:=h
  obtain⟨u,rfl,ru⟩:=Vals.one r
  cases ru
  obtain⟨its,rv,pl,hz⟩:=I.list e
  have hl:s.heap.IsList a its.toArray:=pl.isList
  obtain⟨o,ho,O_,n,E2⟩:=id hl
  have hlen:=rv.length
  rw[bT] at hlen
  refine call_any_walk (wpAny_pyIter_list hl ?_)
  have fI:a≠s.heap.objs.size:=eI (dc ho)
  have KG:X.A.in1.handled=none:=I.ok.hd hc
  refine⟨s.heap.objs.size,_,_,_,_,_,fun i=>bs.getD i false,rfl,Walks.list KG s.heap.objs.size a fI its.toArray,⟨⟨_,g9 _ rfl,rfl,rfl⟩,⟨_,eL _ ho,O_,n,E2⟩⟩,?_,fun h' tk hk=>?_⟩
  ·intro i v s' Q' E' hv hq
   have DZ:its[i]? = some v:=by simpa using (show its.toArray[i]? = some v from hv)
   have hi:i<bs.length:=by
    have:=(lh.mp DZ).1
    lia
   obtain⟨w',e1,r1⟩:=rv.get (i:=i) (x:=V.bl bs[i]) (by simp[hi])
   rw[DZ] at e1
   cases e1
   cases (show v=Value.bool bs[i] from r1)
   have hq:Q' (bs.getD i false) s':=hq
   rw[show bs.getD i false=bs[i] by simp[List.getD,hi]] at hq
   exact wpAny_truthy_bool hq
  ·have e3:((List.range its.toArray.size).any fun i=>bs.getD i false)=bs.any id:=by
    rw[gy,<- hlen]
    apply wx.mpr
    simp only[GH,pe,id]
    constructor
    ·rintro⟨i,hi,h⟩
     exact⟨bs[i],Rr hi,by simpa[List.getD,hi] using h⟩
    ·rintro⟨b,hb,h⟩
     obtain⟨i,hi,rfl⟩:=List.mem_iff_getElem.mp hb
     exact⟨i,hi,by simpa[List.getD,hi] using h⟩
   rw[e3]
   refine⟨.bl (bs.any id),H,?_,rfl,q⟩
   exact I.kept (t':=tk) fun b o e=>hk b o (by simp;exact eI (dc e)) (eL _ e)
 ·exact h.elim
end
end L2
namespace L2.Q
open PySem PySem.Spec PyProof.Rows
section
variable {X:Cx}{K:PySem.W.Frag}{L:Str->Hp->Prop}{e e2 e3:Expr}{p:WP}{te TJ:WE}{apos dy pos:Pos}
theorem fI' (hc:X.calm=true:=by rfl) (hK:X.K=K:=by rfl):kS X (.builtin "any") (QN K):=by subst hK;exact wN hc
theorem FZ:bootBuiltins "any" = some (.builtin "any"):=by decide +kernel
def Uj:W1:=fun _ x Q=>match x with
 |.list xs=>∃ bs:List Bool,xs=bs.map D.bl/\Q .sh (.bl (bs.any (fun b=>b)))
 |_=>False
theorem Fj:DJ K (QN K) Uj:=by
 intro Hs H m x v As Qd Qv w rx h f
 have r1:=rx.rep w
 cases r1 with
 |list z s q =>
  obtain⟨bs,rfl,h⟩:=h
  cases Gp q
  exact⟨bs,s,f.sh w (.bl _) h⟩
 |_=>exact h.elim
def Ef(p:WP)(tk:WE):WS:=fun E ρ=>p ρ fun fl d up=>match d with
 |.list xs=>tk ρ fun _ j=>match j with
  |.int j=>∃ y,0<=j/\xs[j.toNat]? = some y/\y.flat=true/\E.nx (up fl (.list (xs.eraseIdx j.toNat)))
  |_=>False
 |_=>False
theorem Place.short(pl:Place K aE H1 σ fl (.list xs) v up)(e:v=.ref a)(h:H1 a=some (.lst vs)):vs.length<=sizeLine:=by
 subst e
 rcases pl.ex with⟨fA,r,ne,_⟩
 cases r with
 |sh _ _=>exact absurd rfl ne
 |list hz e3 _=>rw[h] at e3;cases e3;exact hz
theorem CJ(ho:QP X K e p)(he:QE X K e2 TJ)(hK:X.K=K:=by rfl)
  (tF:attributeBase e "pop" X.env (eval e X.env)=eval e X.env:=by rfl)
  (xh:((backTo dy (starEach [e2] X.env)).all (fun x=>!x.1) && (backToKw dy (keywordEach [] X.env)).all (fun x=>x.1.isSome)
   && decide ([e2].length+([]:List Keyword).length+(if ([]:List Keyword).isEmpty then 0 else 1)<30))=true:=by rfl)
  (hline:(apos.endLine == dy.line)=true:=by rfl) (xD:starEach (e2 :: []) X.env=(false,eval e2 X.env) :: starEach [] X.env:=by rfl) (A5:(backTo dy (starEach [] X.env)).any (·.1)=false:=by rfl)
  (hs:swapsWith (.Call (.Attribute e "pop" apos) [e2] [] dy) none pos.line X.env=pure false:=by rfl) :
  QS X K L (.Expr (.Call (.Attribute e "pop" apos) [e2] [] dy) pos) (Ef p TJ):=by
 subst hK
 refine PS.imp (MY (PD PySem.F.plainAttrs_list PySem.F.slot_list_pop PySem.F.type_list_pop bR' ho (pz he tq xD) tF xh hline xD A5) hs) fun D σ H hx=>dD hx fun Hs ρ ae E sr h k1 k2 k3 k4=>?_
 refine⟨Hs,ρ,ae,_,sr,h,fun v H1 aE fl d up g1 p1 q1=>?_⟩
 cases d with
 |list xs =>
  obtain⟨a1,XW,e1,s1⟩:=p1.TL g1.wf
  refine⟨by subst e1;exact .inl ⟨rfl,_,s1⟩,aE,ρ,ae,_,sr.grow g1,q1,fun w H2 ax m jd As g2 r2 f2 q2=>?_⟩
  have rj:=r2.rep g2.wf
  cases rj with
  |int j =>
   obtain⟨y,hj,ey,fy,q2⟩:=q2
   obtain⟨a,vs,A,ea,e2,Yz,rs,nd,hn,k⟩:=p1.put g2
   have hz0:=p1.short ea Yz
   obtain⟨nA,FG⟩:=kC.mp nd
   obtain⟨u,eu,ru⟩:=rs.X2 ey fy g2.wf
   obtain⟨B,sb,rb⟩:=rs.erase j.toNat
   have dr:=(lh.mp eu).1
   have N3:sizeLine<2 ^ 62:=by rw[sizeLine_eq];decide
   refine⟨a,vs,j,j.toNat,u,ea,rfl,e2,by lia,by lia,?_,eu,?_⟩
   ·unfold seqIndex?
    simp only[show ¬ j<0 by lia,if_false]
    rw[if_pos (by simp only[kH,decide_eq_true_eq];lia)]
   ·obtain⟨dv,gu⟩:=k fl _ _ B id rb (by rw[Rm];split<;>lia) (sb.nodup FG) (fun z=>nA (sb.subset z)) (fun x hx=>.inl (sb.subset hx))
    exact k1 _ _ ax _ dv (g1.sh.trans g2.sh) gu q2
  |_=>exact q2.elim
 |_=>exact q1.elim
def QQ(p:WP)(te:WE):WS:=fun E ρ=>p ρ fun fl d up=>match d with
 |.list xs=>te ρ fun m y=>m=.ow true/\match y with
  |.list ys=>cy ys=true/\xs.length+ys.length<=sizeLine/\E.nx (up fl (.list (xs++ys)))
  |_=>False
 |_=>False
theorem BR (ho:QP X K e p) (he:QE X K e2 te) (hK:X.K=K:=by rfl) (hs:swapsWith (.Call (.Attribute e "extend" apos) [e2] [] dy) none pos.line X.env=pure false:=by rfl)
  (tF:attributeBase e "extend" X.env (eval e X.env)=eval e X.env:=by rfl)
  (xh:((backTo dy (starEach [e2] X.env)).all (fun x=>!x.1) && (backToKw dy (keywordEach [] X.env)).all (fun x=>x.1.isSome)
   && decide ([e2].length+([]:List Keyword).length+(if ([]:List Keyword).isEmpty then 0 else 1)<30))=true:=by rfl)
  (hline:(apos.endLine == dy.line)=true:=by rfl) (xD:starEach (e2 :: []) X.env=(false,eval e2 X.env) :: starEach [] X.env:=by rfl) (A5:(backTo dy (starEach [] X.env)).any (·.1)=false:=by rfl) :
  QS X K L (.Expr (.Call (.Attribute e "extend" apos) [e2] [] dy) pos) (QQ p te):=by
 subst hK
 refine PS.imp (MY (PD PySem.F.plainAttrs_list PySem.F.slot_list_extend PySem.F.type_list_extend bK' ho (pz he tq xD) tF xh hline xD A5) hs) fun D σ H hx=>dD hx fun Hs ρ ae E sr h k1 k2 k3 k4=>?_
 refine⟨Hs,ρ,ae,_,sr,h,fun v H1 aE fl d up g1 p1 q1=>?_⟩
 cases d with
 |list xs =>
  obtain⟨a1,XW,e1,s1⟩:=p1.TL g1.wf
  refine⟨by subst e1;exact .inl ⟨rfl,_,s1⟩,aE,ρ,ae,_,sr.grow g1,q1,fun y H2 ax m x As g2 r2 f2 q2=>?_⟩
  obtain⟨rfl,q2⟩:=q2
  obtain⟨a,vs,A,ea,e2,Yz,rs,nd,hn,k⟩:=p1.put g2
  obtain⟨r,ne⟩:=r2
  cases r with
  |sh _ _=>exact absurd rfl ne
  |list hz e3 Qr =>
   obtain⟨fy,hl,q2⟩:=q2
   obtain⟨nA,FG⟩:=kC.mp nd
   have l1:=rs.length
   have l2:=Qr.length
   refine⟨a,_,vs,_,ea,rfl,e2,e3,by lia,?_⟩
   obtain⟨dv,gu⟩:=k fl (xs++_) (vs++_) (A++[]) id (rs.append (bp.owned ((Qr.reps g2.wf.sub fun _ _=>rfl).gP g2.wf.hG fy) fy)) (by rw[kz];lia) (by simpa using FG) (by simpa using nA) (fun x hx=>.inl (by simpa using hx))
   exact k1 _ _ ax _ dv (g1.sh.trans g2.sh) gu q2
  |_=>exact q2.elim
 |_=>exact q1.elim
end
end L2.Q
namespace L2.Q.R
open PySem PySem.Spec PyProof.Rows L2.Q
section
variable {ρ:Env}{E:qZ}{te tk:WE}{m:Md}{Q:Md->L2.Q.D->Prop}{p:WP}{xs ys:List L2.Q.D}{k:List L2.Q.D->Prop}
def QR(d:L2.Q.D)(k:List L2.Q.D->Prop):Prop:=match d with
 |.list xs=>k xs
 |_=>False
theorem L_:QR (.list xs) k=k xs:=rfl
theorem Kg:Ef p tk E ρ=p ρ fun fl d up=>bP d (f:=fun d=>QR d fun xs=>tk ρ fun _ j=>bP j (f:=fun j=>intD j fun j=>∃ y,0<=j/\xs[j.toNat]? = some y/\y.flat=true/\E.nx (up fl (.list (xs.eraseIdx j.toNat)))) ⟨⟩) ⟨⟩:=rfl
theorem LR:QQ p te E ρ=p ρ fun fl d up=>bP d (f:=fun d=>QR d fun xs=>te ρ fun m y=>m=.ow true/\bP y (f:=fun y=>QR y fun ys=>cy ys=true/\xs.length+ys.length<=sizeLine/\E.nx (up fl (.list (xs++ys)))) ⟨⟩) ⟨⟩:=rfl
theorem KH:DV (some d) m n z Q=Q (md m d) d:=rfl
theorem JM:DV none m n z Q=Q n z:=rfl
theorem Mh:Uj m (.list xs) Q = ∃ bs:List Bool,xs=bs.map L2.Q.D.bl/\Q .sh (.bl (bs.any (fun b=>b))):=rfl
end
end L2.Q.R
namespace TS
open PySem PySem.SetTable PyProof.Rows
section
variable {prog:Program}{w:World}{K:Type}[DecidableEq K]{knd:KeyKind prog w K}{A:Around}{E:Value->Shared->Prop}{s:Shared}
theorem pq{l:Addr}{items:Array Value}{xs:List (List K × Addr)}{Q:Value->Shared->Prop}(hh:A.handled=none)(hu:A.units+8<cLine)(hl:s.heap.IsList l items)(hi:items.toList=xs.map fun p=>Value.ref p.2)
  (xI:∀ p∈xs,IsTupleKey knd s.heap p.1 p.2) {U:List (List K)} (hU:U.length<=999) (hxU:∀ p∈xs,p.1∈U) (rL:∀ k v,knd.is k v=true->v.scannable=true)
  (h:∀ h' tk ks,FI knd h' s.heap.objs.size ks->(∀ k,k∈ks.map (·.1)↔k∈xs.map (·.1))->(∀ p∈ks,p∈xs)->(∀ b o,s.heap.get? b=some o->h'.get? b=some o)->Q (.ref s.heap.objs.size) { s with heap:=h',toks:=tk }) :
  wpAny (model prog w) A (call (.type "set") [.ref l]) Q E s:=by
 have lt:∀ p∈xs,p.2<s.heap.objs.size:=fun p hp=>by
  obtain⟨o,_,_,ho,_⟩:=xI p hp
  exact dc ho
 have few:∀ {h:Heap} (ks:List (List K × Addr)),FI knd h s.heap.objs.size ks->(∀ p∈ks,p∈xs)->ks.length<1000:=fun {h} ks S m=>by
  have:=TS.fX S.nd (m:=U) fun k hk=>by
   obtain⟨p,hp,rfl⟩:=dk.mp hk
   exact hxU p (m p hp)
  rw[bT] at this
  lia
 refine qQ hh hl (fun i h=>∃ ks,FI knd h s.heap.objs.size ks/\(∀ k,k∈ks.map (·.1)↔k∈(xs.take i).map (·.1))/\(∀ p∈ks,p∈xs)/\ks.length<=i/\∀ p∈xs,IsTupleKey knd h p.1 p.2) (fun h e k=>?_) (fun i h h' ⟨ks,S,m1,m2,m3,m4⟩ k=>?_) (fun i v s' E' Q' hv ⟨ks,S,m1,m2,m3,m4⟩ q=>?_) fun h' tk ⟨ks,S,m1,m2,m3,m4⟩ k=>?_
 ·exact⟨[],⟨⟨_,#[],0,_,e,⟨rfl,rfl,rfl⟩,rfl,zy _,(by show 7<=8191;decide),rfl,rfl⟩,ng,fun p hp=>nomatch hp⟩,fun k=>by simp,(fun p hp=>nomatch hp),bS _,fun p hp=>IsTupleKey.fh (xI p hp) fun o ho=>k _ _ ho⟩
 ·obtain⟨⟨o,es,ep,t,ho,r⟩,nd,is⟩:=S
  exact⟨ks,⟨⟨o,es,ep,t,k _ _ (bS _) ho,r⟩,nd,fun p hp=>IsTupleKey.fh (is p hp) fun o ho=>k _ _ (kQ (lt p (m2 p hp))) ho⟩,m1,m2,m3,fun p hp=>IsTupleKey.fh (m4 p hp) fun o ho=>k _ _ (kQ (lt p hp)) ho⟩
 ·have DZ:items.toList[i]? = some v:=by rw[mw];exact hv
  rw[hi,ox] at DZ
  cases ex:xs[i]? with
  |none=>rw[ex] at DZ;cases DZ
  |some p =>
   rw[ex] at DZ
   cases DZ
   have hp:=pd ex
   have Ya:i<xs.length:=(lh.mp ex).1
   have tk1:(xs.take (i+1)).map (·.1)=(xs.take i).map (·.1)++[p.1]:=by
    rw[AJ,ex,ll];rfl
   unfold setAdd
   refine wpAny_holding (ah (wpAny_pyHash_tuple (by show A.units+3<cLine;lia) (m4 p hp) ?_))
   refine Gx (s:={ s' with toks:=s'.toks+(p.1.length+1) }) S (m4 p hp) (few ks S m2) (by show A.units+3<cLine;lia) rL fun b h' iN sb S' c=>?_
   refine q b h' _ sb ⟨iN,S',fun k=>?_,fun p' fo=>?_,?_,fun p' fo=>IsTupleKey.fh (m4 p' fo) fun o ho=>sb.extBut _ _ (eI (lt p' fo)) ho⟩
   ·rw[tk1,dz,ot,<- m1]
    rcases c with⟨c1,rfl⟩|⟨c1,c2⟩
    ·exact⟨.inl,fun z=>z.elim id fun e=>e ▸ c1⟩
    ·rw[(c2.map _).mem_iff,fT,dA]
     exact⟨fun z=>z.symm,fun z=>z.symm⟩
   ·rcases c with⟨c1,rfl⟩|⟨c1,c2⟩
    ·exact m2 p' fo
    ·rcases dA.mp (c2.mem_iff.mp fo) with rfl|z
     ·exact hp
     ·exact m2 p' z
   ·rcases c with⟨c1,rfl⟩|⟨c1,c2⟩
    ·lia
    ·rw[c2.length_eq];simp;lia
 ·have e:items.size=xs.length:=by
   have:=congrArg List.length hi
   simpa using this
  rw[e,sQ] at m1
  exact h h' tk ks S m1 m2 fun b o ho=>k b o (dc ho) ho
end
end TS
namespace L2
open PySem PySem.Spec PyProof.Rows
def iy(K:PySem.W.Frag):V->Hp->VK->Prop:=fun x H Q=>match x with
 |.ref p=>∃ ys ks b0 sh,eM K H p ys/\(∃ U:List (List Key),U.length<=999/\∀ k∈ks,k∈U)/\b7 H ys ks/\(∀ k∈ks,iq k=b0 :: sh) /\
   ∀ zs ms l,b7 H zs ms->ms.Nodup->(∀ k,k∈ms↔k∈ks)->(ms.Pairwise fun a b=>gi b a=false)->H l=none->Q (.ref l) (upd H l (.lst zs))
 |_=>False
section
variable {X:Cx}{e:Expr}{te:TE}{p p2 pos rV:Pos}
theorem su (hc:X.calm=true) (hu:X.A.units+64<cLine) (hg:Gl X "sorted") (hm:X.mg "sorted" = none) (FR:Gl X "set") (mE:X.mg "set" = none) (he:PE X e te)
  (hv:bootBuiltins "sorted" = some (.builtin "sorted")) (T7:bootBuiltins "set" = some (.type "set"))
  (oC:starEach [e] X.env=(false,eval e X.env) :: starEach [] X.env:=by rfl)
  (hs:starEach [.Call (.Name "set" p2) [e] [] rV] X.env=(false,eval (.Call (.Name "set" p2) [e] [] rV) X.env) :: starEach [] X.env:=by rfl) :
  PE X (.Call (.Name "sorted" p) [.Call (.Name "set" p2) [e] [] rV] [] pos) (R3 (iy X.K) te):=by
 intro pins s σ H Q I h
 refine wpAny_Call_Name_kw (AX I hg hm hv ?_ (by decide) (by decide))
 refine PyProof.Rows.callWith_builtin1 ?_ hs rfl
 rw[hs]
 refine Calls.spliced_cons ?_
 refine wpAny_Call_Name_kw (AX I FR mE T7 ?_ (by decide) (by decide))
 refine PyProof.Rows.callWith_type1 ?_ oC rfl
 rw[oC]
 refine Calls.spliced_cons (b5 (he pins s σ H _ I h) fun u s1 b6=>L2.fE b6 fun x H1 I1 r1 q1=>Calls.spliced_nil ?_)
 have q1:iy X.K x H1 Q:=q1
 obtain⟨a,rfl⟩:∃ a,x=.ref a:=by
  unfold iy at q1
  split at q1
  ·exact⟨_,rfl⟩
  ·exact q1.elim
 obtain⟨ys,ks,b0,sh,hl,⟨U,hU,Ob⟩,ht,zv,q⟩:=q1
 cases r1
 obtain⟨vs,rv,pl,hz⟩:=I1.list hl
 obtain⟨xs,ex,ek,hx⟩:=ht.pairs rv
 have KG:X.A.handled=none:=I1.ok.hd hc
 have hlen:xs.length=ys.length:=by rw[rv.length,ex,bT]
 have xI:∀ p∈xs,IsTupleKey (jS X.prog X.w) s1.heap p.1 p.2:=fun p hp=>by
  obtain⟨us,ru,o,e1,c1,n1,d1⟩:=I1.tup (hx p hp)
  exact⟨o,us.toArray,n1,e1,c1,d1,by simpa using Sr ru⟩
 refine TS.pq (knd:=jS X.prog X.w) KG (by lia) pl.isList (by simpa using ex) xI hU (fun p hp=>Ob _ (by rw[<- ek];exact dk.mpr ⟨p,hp,rfl⟩)) zQ fun h2 tk iN S m1 m2 kp=>?_
 refine Calls.spliced_nil ?_
 obtain⟨⟨o,es,ep,t,ho,hex,hd,T,hM,hL,Kb⟩,nd,is⟩:=S
 have fL':es.toList.map (·.2)=iN.map fun p=>Value.ref p.2:=by rw[Kb,i9];rfl
 have iV':iN.length<=1000:=by
  have:=TS.fX nd (m:=U) fun k hk=>Ob k (by rw[<- ek];exact(m1 k).mp hk)
  rw[bT] at this
  lia
 have fM':es.size=iN.length:=by
  have:=congrArg List.length Kb
  simpa using this
 have fN':∀ p∈iN,p.1∈ks:=fun p hp=>by rw[<- ek];exact dk.mpr ⟨p,m2 p hp,rfl⟩
 have mem:∀ rX:List Value,rX.Perm (iN.map fun p=>Value.ref p.2)->∀ v∈rX,∃ b k,v=.ref b/\H1 b=some (.tup (k.map kV))/\k∈ks:=fun rX pv v hv=>by
  obtain⟨p,hp,rfl⟩:=dk.mp (pv.mem_iff.mp hv)
  exact⟨p.2,p.1,rfl,hx p (m2 p hp),fN' p hp⟩
 have YB:s1.heap.objs.size<=h2.objs.size:=kQ (dc ho)
 refine xk.sU (s:={ s1 with heap:=h2,toks:=tk }) (κ:=tuples' true) (R:=fun rX=>rX.Perm (iN.map fun p=>Value.ref p.2)) (r:=fun v=>zS ks (mL H1 v)) (P:=fun v=>∃ b k,v=.ref b/\H1 b=some (.tup (k.map kV))/\iq k=b0 :: sh/\k∈ks)
  (fun A' E' Q' hA hQ=>TS.sI (s:={ s1 with heap:=h2,toks:=tk }) (hA.trans KG) ho hex hd T.fits T.up T.sz hL (by rw[fM',sizeLine_eq];lia) fun h' N6 d rX FT K0 pv=>hQ rX h' N6 d (by rw[<- fL'];exact pv) FT K0)
  (fun rX pv=>by rw[pv.length_eq,bT,sizeLine_eq];lia) (fun rX pv v hv=>?_) (fun rX pv h2' A' E' s' FT Q' q'=>?_) (fun s' FT=>uC I1 fun b o e=>FT b o (kp b o e)) fun rX h' a' out n N6 d pv pm pw FT ha eo=>?_
 ·obtain⟨b,k,e1,e2,e3⟩:=mem rX pv v hv
  exact⟨b,k,e1,e2,zv k e3,e3⟩
 ·obtain⟨zs,z1,z2⟩:=b7.of (H:=H1) (ks:=ks) rX (mem rX pv)
  obtain⟨fs,f1,f2,f3⟩:=kat_tups I1 (s':=s') (fun b o e=>FT b o (kp b o e)) z1 z2 fun k hk=>by
   obtain⟨v,hv,rfl⟩:=dk.mp hk
   obtain⟨b,k,rfl,e2,e3⟩:=mem rX pv v hv
   rw[cI e2];exact zv k e3
  cases b0 with
  |true =>
   refine PySem.W.kat_kind (T:=.type "int") f1 (by lia) (fun f hf=>?_) (by decide) q'
   obtain⟨i,t,rfl⟩:=(f3 f hf).1 rfl
   exact .now
  |false =>
   refine PySem.W.kat_kind (T:=.type "str") f1 (by lia) (fun f hf=>?_) (by decide) q'
   obtain⟨i,t,rfl⟩:=(f3 f hf).2 rfl
   exact .now
 ·have Oc:=pm.trans pv
  obtain⟨zs,z1,z2⟩:=b7.of (H:=H1) (ks:=ks) out fun v hv=>mem _ Oc v hv
  have zl:=z2.length
  have ol:=Oc.length_eq
  rw[bT] at ol
  have ekk:(iN.map fun p=>Value.ref p.2).map (mL H1)=iN.map (·.1):=by
   rw[i9]
   exact GA fun p hp=>cI (hx p (m2 p hp))
  have Qa:(out.map (mL H1)).Perm (iN.map (·.1)):=by rw[<- ekk];exact Oc.map _
  refine⟨.ref a',_,(I1.laid (a:=a') (t':=N6) (fun b o e=>FT b o (kp b o e)) (jI YB ha) (show eJ X.prog X.w _ h' _ (.lst zs) from⟨by rw[sizeLine_eq];lia,out,n,z2,eo⟩)).drawn,rfl,
   q zs _ _ z1 (Qa.nodup_iff.mpr nd) (fun k=>by rw[Qa.mem_iff,m1,ek]) ?_ (I1.aC.fresh (jI YB ha))⟩
  rw[qq]
  refine pw.imp_of_mem fun {x y} mx my hle=>?_
  obtain⟨b,k,rfl,hb,kk⟩:=mem _ Oc x mx
  obtain⟨c,m,rfl,y9,km⟩:=mem _ Oc y my
  rw[cI hb,cI y9] at *
  have:=qY (L:=ks) ((zv m km).trans (zv k kk).symm) km
  rw[<- this]
  exact decide_eq_false (by lia)
end
end L2
namespace L2.Q
open PySem PySem.Spec PyProof.Rows
section
variable {X:Cx}{K:PySem.W.Frag}{e:Expr}{te:WE}{p p2 pos rV:Pos}
def fU:W1:=fun _ x Q=>match x with
 |.list xs=>∃ (ks U:List (List Key)) (sh:List Bool),xs=ks.map lT/\U.length<=999/\(∀ k∈ks,k∈U)/\(∀ k∈ks,iq k=true :: sh)/\∀ ms:List (List Key),ms.Nodup->(∀ k,k∈ms↔k∈ks)->(ms.Pairwise fun a b=>gi b a=false)->Q (.ow true) (.list (ms.map lT))
 |_=>False
theorem tY:Qj K (iy K) fU:=by
 intro Hs H m x v As Qd Qv w rx h f
 have r1:=rx.rep w
 cases r1 with
 |list z s q =>
  obtain⟨ks,U,sh,rfl,hU,Ob,hs,h⟩:=h
  obtain⟨ta,ok⟩:=yo q
  refine⟨_,ks,true,sh,s,⟨U,hU,Ob⟩,ta,hs,fun zs ms l tz nd mm pw TN=>?_⟩
  have rr:=jQ (K:=K) tz fun k hk=>ok k ((mm k).mp hk)
  have:ms.length<=U.length:=TS.fX nd fun k hk=>Ob k ((mm k).mp hk)
  exact f.lst w (by rw[bT,sizeLine_eq];lia) rr (gf ms) (h ms nd mm pw) l TN
 |_=>exact h.elim
theorem vR (hu:X.A.units+64<cLine) (hg:Gl X "sorted") (hm:X.mg "sorted" = none) (FR:Gl X "set") (mE:X.mg "set" = none) (he:QE X K e te) (hc:X.calm=true:=by rfl) (hK:X.K=K:=by rfl)
  (oC:starEach [e] X.env=(false,eval e X.env) :: starEach [] X.env:=by rfl)
  (hs:starEach [.Call (.Name "set" p2) [e] [] rV] X.env=(false,eval (.Call (.Name "set" p2) [e] [] rV) X.env) :: starEach [] X.env:=by rfl) :
  QE X K (.Call (.Name "sorted" p) [.Call (.Name "set" p2) [e] [] rV] [] pos) (i6 fU te):=by
 subst hK
 refine PE.imp (su hc hu hg hm FR mE he iG Gg oC hs) fun σ H Qv cE=>?_
 obtain⟨Hs,ρ,ae,Q,sr,h,fin⟩:=cE
 exact⟨Hs,ρ,ae,_,sr,h,fun v H1 aE m x As g1 r1 f1 q1=>tY aE H1 m x v As Q Qv g1.wf r1 q1 (Fin.after fin g1)⟩
end
end L2.Q
namespace L2.Q.R
open PySem PySem.Spec PyProof.Rows L2.Q
theorem Ey:fU m (.list xs) Q = ∃ (ks U:List (List Key)) (sh:List Bool),xs=ks.map lT/\U.length<=999/\(∀ k∈ks,k∈U)/\(∀ k∈ks,iq k=true :: sh)/\∀ ms:List (List Key),ms.Nodup->(∀ k,k∈ms↔k∈ks)->(ms.Pairwise fun a b=>gi b a=false)->Q (.ow true) (.list (ms.map lT)):=rfl
end L2.Q.R
namespace L2.Q
open PySem PySem.Spec PyProof.Rows
structure x6(H G:Hp):Prop where
 tup:∀ a vs,H a=some (.tup vs)->G a=some (.tup vs)
 lst:∀ a vs,Rd H a (.lst vs)->Rd G a (.lst vs)
 dct:∀ a u,jx u->Rd H a u->Rd G a u
section
variable {K:PySem.W.Frag}{H G Hs Gs:Hp}{p:Addr}{u:HO}{o:Obj}
theorem x6.rep2(s:x6 H G):(∀ {d:D} {v:V},Rep K H d v->Rep K G d v)/\∀ {ds:List D} {vs:List V},bp K H ds vs->bp K G ds vs :=
 Rep.ind .non .bl .int (fun _ h=>.str h) (fun _ _ _ z h _ ih=>.list z (h.imp (s.lst _ _) id) ih) (fun _ _ _ z h _ ih=>.tup z (s.tup _ _ h) ih) (fun _ _ _ kk h _ ih=>.dK kk (s.dct _ _ trivial h) ih) (fun _ _ _ kk h _ ih=>.dT kk (s.dct _ _ trivial h) ih) .nil fun _ _ _ _ _ _ a b=>.cons a b
theorem x6.rep(s:x6 H G)(r:Rep K H d v):Rep K G d v:=s.rep2.1 r
theorem x6.Ck(s:x6 Hs Gs):(∀ {d:D} {v:V} {As:List Addr},bE K Hs H fl d v As->(∀ a∈As,G a=H a)->bE K Gs G fl d v As)/\∀ {ds:List D} {vs:List V} {As:List Addr},az K Hs H fl ds vs As->(∀ a∈As,G a=H a)->az K Gs G fl ds vs As :=
 bE.ind (m1:=fun d v As=>(∀ a∈As,G a=H a)->bE K Gs G fl d v As) (m2:=fun ds vs As=>(∀ a∈As,G a=H a)->az K Gs G fl ds vs As) (fun _ _ f r _=>.sh f (s.rep r))
  (fun _ _ _ _ z e _ ih k=>.list z ((k _ df).trans e) (ih fun a h=>k a (de _ h))) (fun _ _ _ _ z e n _ ih k=>.tup z (s.tup _ _ e) n (ih k)) (fun _ _ _ _ z e _ ih k=>.dK z ((k _ df).trans e) (ih fun a h=>k a (de _ h)))
  (fun _ _ _ _ z e _ ih k=>.dT z ((k _ df).trans e) (ih fun a h=>k a (de _ h))) (fun _=>.nil) fun _ _ _ _ _ _ _ _ i1 i2 k=>.cons (i1 fun a h=>k a (iS _ h)) (i2 fun a h=>k a (fw _ h))
theorem x6.sr(s:x6 Hs Gs)(r:SR K Hs H ρ σ ae):(∀ a∈ae,G a=H a)->SR K Gs G ρ σ ae:=by
 induction r with
 |nil=>exact fun _=>.nil
 |non _ ih=>exact fun k=>.non (ih k)
 |sh h _ ih=>exact fun k=>.sh (s.rep h) (ih k)
 |xc _ ih=>exact fun k=>.xc (ih k)
 |ow ne h _ ih=>exact fun k=>.ow ne (s.Ck.1 h fun a m=>k a (iS _ m)) (ih fun a m=>k a (fw _ m))
 |lk ne h _ ih=>exact fun k=>.lk ne (s.Ck.1 h fun a m=>k a (iS _ m)) (ih fun a m=>k a (fw _ m))
theorem wM(hu:jx u)(e:H p=some u):x6 H (upd H p (.dQ o u)):=by
 have ne:∀ {a:Addr} {w:HO},(w≠u)->Rd H a w->a≠p:=fun hw h z=>by
  subst z
  rcases h with h|⟨ob,h⟩
  ·rw[e] at h;cases h;exact hw rfl
  ·rw[e] at h;cases h;exact hu
 have mv:∀ {a:Addr} {w:HO},a≠p->Rd H a w->Rd (upd H p (.dQ o u)) a w:=fun n h=>h.imp (fun h=>by rw[cc n];exact h) fun⟨ob,h⟩=>⟨ob,by rw[cc n];exact h⟩
 refine⟨fun a vs h=>?_,fun a vs h=>mv (ne (fun z=>by subst z;exact hu) h) h,fun a w hw h=>?_⟩
 ·rw[cc (ne (w:=.tup vs) (fun z=>by subst z;exact hu) (.inl h))];exact h
 ·by_cases z:a=p
  ·subst z
   rcases h with h|⟨ob,h⟩
   ·rw[e] at h;cases h;exact .inr ⟨o,eR⟩
   ·rw[e] at h;cases h;exact hu.elim
  ·exact mv z h
theorem pG(hu:jx u)(e:H p=some (.dQ o u)):x6 H (upd H p u):=by
 have ne:∀ {a:Addr} {w:HO},(w≠u)->(∀ ob x,w≠.dQ ob x)->Rd H a w->a≠p:=fun hw hf h z=>by
  subst z
  rcases h with h|⟨ob,h⟩
  ·rw[e] at h;cases h;exact hf _ _ rfl
  ·rw[e] at h;cases h;exact hw rfl
 have mv:∀ {a:Addr} {w:HO},a≠p->Rd H a w->Rd (upd H p u) a w:=fun n h=>h.imp (fun h=>by rw[cc n];exact h) fun⟨ob,h⟩=>⟨ob,by rw[cc n];exact h⟩
 refine⟨fun a vs h=>?_,fun a vs h=>mv (ne (w:=.lst vs) (fun z=>by subst z;exact hu) (fun _ _ z=>nomatch z) h) h,fun a w hw h=>?_⟩
 ·rw[cc (ne (w:=.tup vs) (fun z=>by subst z;exact hu) (fun _ _ z=>nomatch z) (.inl h))];exact h
 ·by_cases z:a=p
  ·subst z
   rcases h with h|⟨ob,h⟩
   ·rw[e] at h;cases h;exact hw.elim
   ·rw[e] at h;cases h;exact .inl eR
  ·exact mv z h
theorem cK.rD(s:cK K Hs ρ σ H ae)(e:Hs p=some w)(hw:∀ vs,w≠.tup vs)(hx:∀ vs,x≠.tup vs)(m:x6 Hs (upd Hs p x)):cK K (upd Hs p x) ρ σ (upd H p x) ae:=by
 have np:∀ a∈ae,a≠p:=fun a h z=>by subst z;rw[s.own a h] at e;cases e
 refine⟨m.sr s.sr fun a h=>cc (np a h),⟨fun a o h=>?_,fun a vs h=>?_⟩,s.sF,fun a h=>by rw[cc (np a h)];exact s.own a h⟩
 ·by_cases z:a=p
  ·subst z;rw[eR] at h ⊢;exact h
  ·rw[cc z] at h ⊢;exact s.wf.sub a o h
 ·by_cases z:a=p
  ·subst z;rw[eR] at h;cases h;exact absurd rfl (hx _)
  ·rw[cc z] at h ⊢;exact s.wf.hG a vs h
theorem RM.thw(hu:jx u)(e:Hs p=some (.dQ o u))(w:Wf Hs H)(hn:∀ a∈As,Hs a=none)(r:RM K Hs H m d v As):RM K (upd Hs p u) (upd H p u) m d v As:=by
 cases m with
 |sh=>exact⟨r.1,(pG hu e).rep r.2⟩
 |bo=>exact⟨r.1,(pG hu (w.sub _ _ e)).rep r.2⟩
 |ow fl=>exact⟨(pG hu e).Ck.1 r.1 (fun a h=>cc fun z=>by subst z;rw[hn a h] at e;cases e),r.2⟩
theorem uP(e:Hs p=some u)(s:ay (upd Hs p (.dQ o u)) ax):ay Hs (upd ax p u):=fun a w h=>by
 by_cases z:a=p
 ·subst z;rw[e] at h;cases h;exact eR
 ·rw[cc z];exact s a w (by rw[cc z];exact h)
theorem jA.dct(e:Hs p=some (.dQ o u))(rs:bp K Hs ds ks):jA K (Fc p o ks) ds fun G _=>ay Hs G where
 go:=fun i G H s w h=>⟨by rw[<- rs.length];exact h,u,w.sub _ _ (s _ _ e)⟩
 kR:=fun i G H x H' d s w h y=>by
  obtain⟨y1,y2⟩:=y
  subst y1
  obtain⟨v,ev,r⟩:=rs.get h
  rw[y2] at ev
  cases ev
  exact⟨G,dS.refl w,r.same s⟩
 stop:=fun G H s w=>⟨rs.length,u,w.sub _ _ (s _ _ e)⟩
end
def Dt:D->Option (List D)
 |.dK kvs=>some (kvs.map fun kv=>mI kv.1)
 |.dT kvs=>some (kvs.map fun kv=>lT kv.1)
 |_=>none
def Ci(te:WE)(g:WG)(b:WS):WS:=fun E ρ=>te ρ fun m x=>m=.sh/\∃ ds,Dt x=some ds/\jk g b E ds ρ
section
variable {X:Cx}{K:PySem.W.Frag}{L:Str->Hp->Prop}{e tg:Expr}{pos:Pos}{te:WE}{g:WG}{b:WS}{body:List Stmt}
theorem qX{J:It}(S:jA K J ds fun G _=>ay aE G)(sr:cK K aE ρ σ H1 ae)(q1:jk g b E ds ρ)(hL:∀ n H,L n H)
  (k1:∀ aS H' ai bq bG,ay aE ai->cK K ai bq aS H' bG->E.nx bq->D'.nx aS H')
  (k4:∀ v H' ai m d As,ay aE ai->Wf ai H'->RM K ai H' m d v As->As.Nodup->(∀ a∈As,ai a=none)->E.rt m d->D'.rt v H'):PZ J (NR K g) (sL K L b) D' σ H1:=by
 refine⟨fun i m σ H=>m=ds.length-i/\i<=ds.length/\∃ ai bq bG,ay aE ai/\cK K ai bq σ H bG/\jk g b E (ds.drop i) bq,⟨ds.length,by simp,eP _,aE,ρ,ae,ay.refl _,sr,by simpa using q1⟩,?_⟩
 rintro i m i3 H2 ⟨rfl,hi,ax,fN,dv,s2,gu,q2⟩
 by_cases dr:i<ds.length
 ·refine .inr ⟨S.go i ax H2 s2 gu.wf dr,fun ny H3=>∃ ai bq bG,ay aE ai/\cK K ai bq ny H3 bG/\jk g b E (ds.drop (i+1)) bq,fun ny H3 h3=>⟨ds.length-(i+1),by lia,rfl,dr,h3⟩,fun x H3 y=>?_⟩
  obtain⟨dP,g3,rd⟩:=S.kR i ax H2 x H3 ds[i] s2 gu.wf (by simp[dr]) y
  rw[D7 dr] at q2
  have s3:=s2.trans g3.sh
  refine⟨dP,fN,dv,ds[i],_,gu.grow g3,rd,q2,fun σ4 rS NT JJ _ q4=>?_⟩
  refine⟨dP,rS,NT,_,JJ,q4,?_,?_,?_,?_,fun n H5 _ _=>hL n H5⟩
  ·exact fun xC H5 ku oI oP s5 oQ q5=>⟨ku,oI,oP,s3.trans s5,oQ,q5⟩
  ·exact fun xC H5 ku oI oP s5 oQ q5=>k1 xC H5 ku oI oP (s3.trans s5) oQ q5
  ·exact fun xC H5 ku oI oP s5 oQ q5=>⟨ku,oI,oP,s3.trans s5,oQ,q5⟩
  ·exact fun v H5 ku m d As s5=>k4 v H5 ku m d As (s3.trans s5)
 ·have e:i=ds.length:=by lia
  subst e
  refine .inl ⟨S.stop ax H2 s2 gu.wf,?_⟩
  rw[OJ] at q2
  exact k1 i3 H2 ax fN dv s2 gu q2
theorem wQ(r:Rep K Hs x (.ref a))(w:Wf Hs H)(vE:Dt x=some ds)(hu:jx u)(e:Rd Hs a u)(h:n6 H u ks):bp K Hs ds ks:=by
 have one:∀ {w:HO},jx w->Rd Hs a w->w=u:=fun {w} hw r2=>by
  rcases e with e|⟨o,e⟩<;>rcases r2 with z|⟨o2,z⟩<;>rw[e] at z<;>cases z
  ·rfl
  ·exact hu.elim
  ·exact hw.elim
  ·rfl
 cases r with
 |@dK _ vs kvs kk rd q =>
  cases vE
  have:=one (w:=.dK _) trivial rd
  subst this
  have h:ks=_:=h
  have hl:=q.length
  rw[bT] at hl
  have e1:((kvs.map (·.1)).zip vs).map (·.1)=kvs.map (·.1):=L4 (by rw[bT];exact L9 hl)
  have e2:=congrArg (List.map kV) e1
  rw[i9] at e2
  rw[h,show(kvs.map fun kv=>mI kv.1)=(kvs.map (·.1)).map mI by rw[i9];rfl]
  refine(show bp K Hs _ (((kvs.map (·.1)).zip vs).map (kV ∘ fun x=>x.1)) from ?_)
  rw[e2]
  exact i_ fun k hk=>by obtain⟨p,hp,rfl⟩:=dk.mp hk;exact kk.2 p hp
 |@dT _ vs kvs kk rd q =>
  cases vE
  have:=one (w:=.dT _) trivial rd
  subst this
  have h:b7 H ks _:=h
  have hl:=q.length
  rw[bT] at hl
  rw[L4 (by rw[bT];exact L9 hl)] at h
  rw[show(kvs.map fun kv=>lT kv.1)=(kvs.map (·.1)).map lT by rw[i9];rfl]
  exact(jQ (K:=K) h fun k hk=>by obtain⟨p,hp,rfl⟩:=dk.mp hk;exact kk.2 p hp).gP w.hG (gf _)
 |_=>cases vE
theorem Dq(hp:PassesOwn (model X.prog X.w) X.A X.env X.xe)(hc:X.calm=true)(he:QE X K e te)(hg:QG X K tg g)(hb:qh X K L body b)(hL:∀ n H,L n H)(hs:∀ x,foldedSetIterable e X.env x=pure x:=by intro _;rfl) :
  QS X K L (.For tg e body [] pos) (Ci te g b):=by
 refine PS.imp (DG (VY hp hc (Er he) hg hb hs)) fun D σ H hx=>fW hx fun Hs ρ ae E sr h k1 k2 k3 k4 kx=>?_
 rw[zb]
 refine⟨Hs,ρ,ae,_,sr,h,fun v H1 aE m x As g1 r1 f1 q1=>?_⟩
 obtain⟨rfl,ds,vE,q1⟩:=q1
 obtain⟨rfl,r1⟩:=r1
 have YC:=sr.grow g1
 have go:∀ {a:Addr} {u:HO},v=.ref a->jx u->Rd aE a u->∃ p u,v=.ref p/\jx u/\((H1 p=some u/\∀ o ks,(∀ o' w,X.kc p≠some (.dQ o' w))->(∀ ps,X.kc p≠some (.qS ps))->n6 H1 u ks->PZ (Fc p o ks) (NR K g) (sL K L b) { D with nx:=BF X D.nx,bk:=BF X D.bk,ct:=BF X D.ct,rt:=To X D.rt } σ (upd H1 p (.dQ o u))) \/
   ∃ o,H1 p=some (.dQ o u)/\∀ ks,n6 H1 u ks->PZ (Fc p o ks) (NR K g) (sL K L b) { D with nx:=BF X D.nx,bk:=BF X D.bk,ct:=BF X D.ct,rt:=To X D.rt } σ H1):=by
  intro a u ev hu rd
  subst ev
  refine⟨a,u,rfl,hu,?_⟩
  rcases rd with rd|⟨o,rd⟩
  ·refine .inl ⟨g1.wf.sub _ _ rd,fun o ks nf nb hk=>?_⟩
   have rs:=(wM (o:=o) hu rd).rep2.2 (wQ r1 g1.wf vE hu (.inl rd) hk)
   have sf:=YC.rD (x:=.dQ o u) rd (fun vs z=>by subst z;exact hu) (fun vs z=>nomatch z) (wM hu rd)
   refine qX (.dct eR rs) sf q1 hL (fun aS H' ai bq bG s' DL n=>.inr ⟨a,u,o,?_,nf,nb,?_⟩) fun v H' ai m d As s' w' r' FU AW n=>.inr ⟨a,u,o,?_,nf,nb,?_⟩
   ·exact DL.wf.sub _ _ (s' _ _ eR)
   ·have e:=s' _ _ (eR (H:=aE) (a:=a) (o:=HO.dQ o u))
    exact k1 aS _ _ bq bG (g1.sh.trans (uP rd s')) (DL.rD e (fun vs z=>nomatch z) (fun vs z=>by subst z;exact hu) (pG hu e)) n
   ·exact w'.sub _ _ (s' _ _ eR)
   ·have e:=s' _ _ (eR (H:=aE) (a:=a) (o:=HO.dQ o u))
    refine k4 v _ _ m d As (g1.sh.trans (uP rd s')) ⟨fun b ob h=>?_,fun b vs h=>?_⟩ (r'.thw hu e w' AW) FU (fun b hb=>?_) n
    ·by_cases z:b=a
     ·subst z;rw[eR] at h ⊢;exact h
     ·rw[cc z] at h ⊢;exact w'.sub b ob h
    ·by_cases z:b=a
     ·subst z;rw[eR] at h;cases h;exact hu.elim
     ·rw[cc z] at h ⊢;exact w'.hG b vs h
    ·rw[cc fun z=>by subst z;rw[AW _ hb] at e;cases e];exact AW b hb
  ·refine .inr ⟨o,g1.wf.sub _ _ rd,fun ks hk=>?_⟩
   have rs:=wQ r1 g1.wf vE hu (.inr ⟨o,rd⟩) hk
   exact qX (.dct rd rs) YC q1 hL (fun aS H' ai bq bG s' DL n=>.inl (k1 aS H' ai bq bG (g1.sh.trans s') DL n)) fun v H' ai m d As s' w' r' FU AW n=>.inl (k4 v H' ai m d As (g1.sh.trans s') w' r' FU AW n)
 cases r1 with
 |dK kk rd q=>exact go (u:=.dK _) rfl trivial rd
 |dT kk rd q=>exact go (u:=.dT _) rfl trivial rd
 |_=>cases vE
end
end L2.Q
namespace L2.Q.R
open PySem PySem.Spec PyProof.Rows L2.Q
section
variable {E:qZ}{ρ:Env}{te:WE}{g:WG}{b:WS}{ks:List (Key × L2.Q.D)}{ts:List (List Key × L2.Q.D)}{P:List L2.Q.D->Prop}
def Uk(d:L2.Q.D)(P:List L2.Q.D->Prop):Prop:=∃ ds,Dt d=some ds/\P ds
theorem JG:Uk (.dK ks) P=P (ks.map fun kv=>mI kv.1):=propext ⟨fun⟨_,e,h⟩=>by cases e;exact h,fun h=>⟨_,rfl,h⟩⟩
theorem KR:Uk (.dT ts) P=P (ts.map fun kv=>lT kv.1):=propext ⟨fun⟨_,e,h⟩=>by cases e;exact h,fun h=>⟨_,rfl,h⟩⟩
theorem JH:Ci te g b E ρ=te ρ fun m x=>m=.sh/\bP x (f:=fun x=>Uk x fun ds=>jk g b E ds ρ) ⟨⟩:=rfl
end
end L2.Q.R
namespace L2
open PySem PySem.Spec PyProof.Rows
def Bk(sc scope:Scope)(N cn:List Str)(ix:List Nat):Bool :=
 scope.kind == .function && scope.names.all (fun y=>y.2 != .free || DB (sc.names.lookup y.1)) && scope.names.all (fun y=>y.2 != .local || scope.names.lookup y.1 == some .local) &&
 ix.length == cn.length && (List.range ix.length).all (fun k=>match ix[k]?,cn[k]? with
  |some j,some y=>N[j]? == some y && DB (sc.names.lookup y) && scope.names.contains (y,NameKind.free) && DB ((vT sc scope.names).lookup y) && !scope.names.contains (y,NameKind.cell)
  |_,_=>false) &&
 (vT sc scope.names).all (fun y=>!(y.2 == .cell || y.2 == .free) || scope.names.contains (y.1,NameKind.free) || scope.names.contains (y.1,NameKind.cell))
theorem eO.of{X:Cx}(rL:X.env.scope=sc)(hN:X.N=N)(h:Bk sc scope N cn ix=true):eO X scope tn cn ix:=by
 unfold Bk at h
 simp only[kH] at h
 obtain⟨⟨⟨⟨⟨h1,h3⟩,h4⟩,h5⟩,h6⟩,h7⟩:=h
 rw[OD] at h3 h4 h6 h7
 have Nt:(relabel scope X.env).names=vT sc scope.names:=by
  unfold relabel vT
  rw[<- rL]
  rfl
 refine⟨by simpa using h1,fun y hy hk=>?_,fun y hy hk=>?_,by simpa using h5,fun k j hk=>?_,fun x hx=>?_⟩
 ·have:=h3 y hy
  rw[hk] at this
  rw[rL]
  exact jg (by simpa using this)
 ·have:=h4 y hy
  rw[hk] at this
  simpa using this
 ·have iF:k<ix.length:=(lh.mp hk).1
  have:=h6 k (pe.mpr iF)
  rw[hk] at this
  cases e:cn[k]? with
  |none=>rw[e] at this;cases this
  |some y =>
   rw[e] at this
   simp only[kH] at this
   obtain⟨⟨⟨⟨a1,a2⟩,a3⟩,a4⟩,a5⟩:=this
   refine⟨y,rfl,by rw[hN];simpa using a1,by rw[rL];exact jg a2,by simpa using a3,by rw[Nt];exact jg a4,by simpa using a5⟩
 ·rw[Nt] at hx
  have mem:∃ k,(x,k)∈vT sc scope.names/\(k=.cell\/k=.free):=by
   rcases hx with hx|hx
   ·exact⟨_,PySem.mem_of_lookup hx,.inl rfl⟩
   ·exact⟨_,PySem.mem_of_lookup hx,.inr rfl⟩
  obtain⟨k,hm,hk⟩:=mem
  have:=h7 _ hm
  rcases hk with rfl|rfl<;>simpa using this
def QV(sc scope:Scope):Scope:={ scope with names:=vT sc scope.names }
theorem bH.inC{X:Cx}(rL:X.env.scope=sc)(h:Dl (QV sc QX) scope N cn ix=true):bH (aJ X QX C N fp s H) scope tn cn ix :=
 bH.of (sc:=QV sc QX) (by
  show relabel QX X.env=QV sc QX
  unfold relabel QV vT
  rw[<- rL]
  rfl) rfl h
end L2
namespace L2.Q
open PySem PySem.Spec PyProof.Rows
end L2.Q
namespace L2.Q.R
open PySem PySem.Spec PyProof.Rows L2.Q
end L2.Q.R
namespace L2
open PySem PySem.Spec PyProof.Rows
section
variable {X:Cx}{tg iter elt:Expr}{ifs:List Expr}{scope:Scope}{pos:Pos}{wi:TI}{g:TG}{tc:TT}{te:TE}{tn cn:List Str}{ix:List Nat}
theorem sG{i:Nat}{x:Str}{pos' A9:Pos}(hN:X.N.Nodup)(rp:X.N[i]? = some x)(hx:Loc X.env.scope x)(hc:X.calm=true)(hi:PI X tg iter wi)(O:eO X scope tn cn ix)
  (hg:∀ C fp cq cx,PG (aJ X scope C (tn++cn) fp cq cx) tg g) (mB:∀ C fp cq cx,tN (aJ X scope C (tn++cn) fp cq cx) ifs tc) (he:∀ C fp cq cx,PE (aJ X scope C (tn++cn) fp cq cx) elt te)
  (EX:swapsWith (.ListComp elt [⟨tg,iter,ifs,0⟩] scope pos) (some (.Name x pos')) A9.line X.env=pure true)
  (hs:∀ x,foldedSetIterable iter X.env x=pure x:=by intro _;rfl) (hf:X.fn x=true\/X.env.scope.names.lookup x=some .local:=by first|exact .inl rfl|exact .inr rfl|assumption) :
  PS X (.Assign [.Name x pos'] (.ListComp elt [⟨tg,iter,ifs,0⟩] scope pos) A9) (RW (rN wi g tc te tn.length ix) (Ph i)):=by
 intro pins s σ H D0 I h
 rw[exec_Assign_Name_used _ _ _ _ EX]
 refine ah (wpAny_standAt (ah ?_))
 show wpAny _ _ (do let _ <- comprehension (.ListComp elt [⟨tg,iter,ifs,0⟩] scope pos) scope X.env _ (newList []) false (eval iter X.env) (some (assign (.Name x pos') X.env))) _ _ s
 refine ah (oq (lR (use:=some (assign (.Name x pos') X.env)) (P:=fun _ s'=>SP X pins D0 .next s') hc hi O hg mB he hs I h fun C D m H5 s6 r J6 hn zC ⟨_,g1,_,g3,g4,g5⟩ qn=>?_) (fun _ s' hq=>aI (aI hq)) fun _ _ e=>e)
 refine(show wpAny _ _ (assign (.Name x pos') X.env (.ref D)) _ _ s6 from wpAny_assign_Name (O9 J6 hN rp hx (v:=.ref D) rfl (fun s7 I7 cE=>?_) hf))
 obtain⟨a,sb,ha⟩:=cE
 have SJ:C≠a:=by
  rcases ha with rfl|ha
  ·exact g1
  ·exact Ne.symm (g4 _ a ha)
 refine⟨m,hn.sameBut sb SJ,fun h' Nr=>⟨_,H5,?_,qn⟩⟩
 exact I7.turned (t':=s7.toks) (fun b o hb e=>Nr.extBut b o hb e) zC g1 g3 g4 g5
end
end L2
namespace L2.Q
open PySem PySem.Spec PyProof.Rows
section
variable {X:Cx}{K:PySem.W.Frag}{L:Str->Hp->Prop}
theorem rW{i:Nat}{x:Str}{tg iter elt:Expr}{ifs:List Expr}{scope:Scope}{pos pos' A9:Pos}{wi:WI}{g:WG}{tc:WT}{te:WE}{tn cn:List Str}{ix:List Nat}(hN:X.N.Nodup)(rp:X.N[i]? = some x)(hx:Loc X.env.scope x)(hc:X.calm=true)
  (hi:NS X K tg iter wi) (O:eO X scope tn cn ix)
  (hg:∀ C fp cq cx,QG (aJ X scope C (tn++cn) fp cq cx) K tg g) (mB:∀ C fp cq cx,NW (aJ X scope C (tn++cn) fp cq cx) K ifs tc) (he:∀ C fp cq cx,QE (aJ X scope C (tn++cn) fp cq cx) K elt te)
  (EX:swapsWith (.ListComp elt [⟨tg,iter,ifs,0⟩] scope pos) (some (.Name x pos')) A9.line X.env=pure true:=by rfl)
  (hs:∀ x,foldedSetIterable iter X.env x=pure x:=by intro _;rfl) (hf:X.fn x=true\/X.env.scope.names.lookup x=some .local:=by first|exact .inl rfl|exact .inr rfl|assumption) :
  QS X K L (.Assign [.Name x pos'] (.ListComp elt [⟨tg,iter,ifs,0⟩] scope pos) A9) (eB i (gm wi g tc te tn.length ix)) :=
 PS.imp (sG hN rp hx hc hi O hg mB he EX hs hf) fun D σ H hx=>dD hx fun Hs ρ ae E sr h k1 k2 k3 k4=>by
  refine lJ ⟨Hs,ρ,ae,_,sr,h,fun v H1 aE m d As g1 r1 f1 q1=>?_⟩
  have q1:match asg m d with
   |some sl=>E.nx (ρ.set i (some sl))
   |none=>False:=q1
  cases e:asg m d with
  |none=>rw[e] at q1;exact q1.elim
  |some sl =>
   rw[e] at q1
   obtain⟨bG,s'⟩:=(sr.grow g1).set i r1 f1.1 (fun a ha=>⟨(f1.2 a ha).1,fun m=>(sr.sr.own a m).ne (f1.2 a ha).2⟩) e
   exact k1 _ H1 aE _ bG g1.sh s' q1
end
namespace R
end R
end L2.Q
local macro_rules | `(tactic| walk_at "q") => do
 let nm (s:String):Lean.Ident:=Lean.mkIdent ((s.splitOn ".").foldl Lean.Name.mkStr .anonymous)
 let ds ← ("Kd K9 Kq J2 JB J9 Lj LK Jw Hy JN JK Ku J4 Km J0 Mm JF KD JV Kg LR L_ KH JM Mh J_ Mt Jf K_ K3 Lx Mw Mz fH' MN Ln Ml J1 K1 MK Lf KQ KJ Gi Ik HB IK Ls Ky wB_ K7 Mf Ld eb' Ms M7 Je Jz wC_ ed' ee' HN JR Kp Lq LC K5 J7 H_ Ja Ia Jk Jt HW Ji I_ Kw JP Ke KY JS M6 Lz J5 Ka Lr Lp JH JG KR Ey G6 Mq Mj Ma Mr K8 Mu Li Lw KN J3 Kr JT Ly Jp IW ef' Hx Kf JZ Mi La Kh Io eh' Hz Lb HF MT MP Kz Mx JD KC Kv Jv Hw Hv Hu gN_ gT_ J8 K6 Kc Ko JW JC MJ Ig Jb Jh Mv Ip Jg JQ K4 MF Mp KZ JL Ks JX Kl fA'".splitOn " ").toArray.mapM fun s=>`(Lean.Parser.Tactic.simpLemma| ↓$(nm ("L2.Q.R." ++ s)):ident)
 let us ← ("L2.Q.Qt L2.Q.fz' L2.Q.sZ L2.Q.BZ L2.Q.xB L2.Q.FC L2.Q.DI L2.Q.An L2.Q.Jy L2.Q.NQ L2.Q.NP L2.Q.TC L2.Q.nR L2.Q.Di L2.Q.asg L2.Q.md L2.Q.a_ L2.Q.D.flat L2.Q.cy L2.Q.D.ty L2.Q.Qk L2.Q.D.key1 L2.Q.eX L2.Q.nY L2.Q.yM List.length_map List.map_cons List.map_nil List.length_cons List.length_nil List.replicate_succ List.replicate_zero List.cons_append List.nil_append List.append_nil List.getElem?_cons_zero List.getElem?_cons_succ List.getElem?_nil List.set_cons_zero List.set_cons_succ List.all_cons List.all_nil Option.some.injEq Option.join_some Option.map_some Option.map_none Nat.reduceAdd Nat.reduceSub true_and and_true Bool.and_true Bool.true_and Bool.and_false Bool.false_and Bool.not_true Bool.not_false Bool.false_eq_true if_true if_false decide_true decide_false reduceIte cond_true cond_false PySem.sizeLine_eq L2.Q.dX' L2.Q.dY' L2.Q.dZ' L2.Q.cC L2.Q.Hf L2.Q.empty_app Nat.zero_add exists_eq_left' Int.reduceLT Int.reduceLE Int.reducePow Int.reduceNeg Int.reduceToNat Int.reduceAdd Int.reduceMul Int.reduceSub Nat.reduceLeDiff Nat.reduceLT false_or or_false and_self L2.Lh".splitOn " ").toArray.mapM fun s=>`(Lean.Parser.Tactic.simpLemma| $(nm s):ident)
 let as:Lean.TSyntaxArray [`Lean.Parser.Tactic.simpStar,`Lean.Parser.Tactic.simpErase,`Lean.Parser.Tactic.simpLemma]:=(ds++us).map fun x=>⟨x.raw⟩
 `(tactic| simp -dsimp only [$as,*])
local macro_rules | `(tactic| walk_at "o") => `(tactic| repeat (refine And.intro (by first | omega | exact ⟨by omega, by omega⟩ | decide) ?_))
namespace L2.Q.Ul
open PySem PySem.Spec PyProof.Rows
theorem small{n:Nat}(h:n<=10000):n<=sizeLine:=jI h (by decide)
theorem Fd{n:Nat}(h:n<=10000):n<sizeLine:=Zh h (by decide)
def isLet(c:Nat):Bool:=decide (97<=c/\c<=122)
abbrev abc:Str := "abcdefghijklmnopqrstuvwxyz"
theorem zY:sg abc=(List.range 26).map (97 + ·):=by decide +kernel
theorem Gh{i:Int}(h0:0<=i)(h1:i<26):∃ c,fR (sg abc) i=some c/\isLet c=true:=by
 refine⟨97+i.toNat,?_,?_⟩
 ·have:fR (sg abc) ((i.toNat:Nat):Int)=some (97+i.toNat):=HV (by
   rw[zY]
   have:i.toNat<26:=by lia
   simp[this])
  rwa[EE h0] at this
 ·simp[isLet];lia
theorem yW(x:Int):∃ c,fR (sg abc) (x % 26)=some c/\isLet c=true:=Gh (MG _ (by decide)) (O3 _ (by decide))
def lets(x:Str):Prop:=∀ c∈sg x,isLet c=true
def Open(x:Str):Prop:=1<=x.length/\x.length<=6/\lets x
def AB (x:Str):Prop:=x = "*"\/Open x
theorem oK{x y:Str}(hx:lets x)(hy:lets y):lets (x++y):=fun c hc=>by
 rw[By] at hc
 exact(dz.mp hc).elim (hx c) (hy c)
theorem jP{c:Nat}(h:isLet c=true):lets ⟨#[c]⟩:=fun d hd=>by
 have:d=c:=by simpa[sg] using hd
 rw[this];exact h
theorem Ax{x:Str}(h:lets x)(lo hi:Option Int):lets (rq x lo hi):=fun c hc=>by
 unfold rq sg at hc
 rw[List.toList_toArray] at hc
 exact h c (Ox (Oy hc))
theorem aZ(c:Nat):(⟨#[c]⟩:Str).length=1:=rfl
theorem AB.ok{x:Str}(h:AB x):PyData.strOk x=true:=by
 rw[Cy]
 rcases h with rfl|h
 ·have:sg "*" = [42]:=by decide +kernel
  intro c hc
  rw[this] at hc
  have:c=42:=by simpa using hc
  lia
 ·intro c hc
  have:=h.2.2 c hc
  simp[isLet] at this
  lia
abbrev aT:=Int × Str × Int
def fF(s:aT):List Key:=[.inl s.1,.inr s.2.1,.inl s.2.2]
def bX(s:aT):D:=.tup [.int s.1,.str s.2.1,.int s.2.2]
def mD(many:Int)(steps:List aT):D:=.tup [.int many,.list (steps.map bX)]
theorem du:∀ (l:List aT),cy (l.map bX)=true
 |[]=>rfl
 |x :: l=>by simp[cy,du l,bX,D.flat]
def K2(many:Int)(s:aT):Prop:=0<=s.1/\s.1<many/\AB s.2.1/\0<=s.2.2/\s.2.2<many
theorem Hq{many:Int}{s:aT}(n:Nat)(h:K2 many s):eh (n+1) (bX s)=true:=by
 have:=h.2.2.1.ok
 simp[eh,bX,this]
theorem ym{many:Int}{l:List aT}(n:Nat)(h:∀ s∈l,K2 many s):eh (n+2) (.list (l.map bX))=true:=by
 simp only[eh,List.all_map,OD]
 intro s hs
 exact Hq n (h s hs)
theorem YD{many:Int}{l:List aT}(n:Nat)(h:∀ s∈l,K2 many s):eh (n+3) (mD many l)=true:=by
 have h2:=ym n h
 show(eh (n+2) (.int many) && (eh (n+2) (.list (l.map bX)) && true))=true
 rw[h2]
 rfl
theorem tD:∀ (l:List aT),xA (l.map bX)=true
 |[]=>rfl
 |x :: l=>by simp[xA,tD l,bX,D.nb]
theorem fR'(many:Int)(l:List aT):(mD many l).nb=true:=by simp[mD,D.nb,xA,tD]
theorem eq_self{x:D}(h:x.nb=true):kG x x=true:=(pA x x h h).mpr rfl
theorem z9{s t:aT}(h:fF s=fF t):s=t:=by
 obtain⟨a,b,c⟩:=s
 obtain⟨a',b',c'⟩:=t
 simp[fF] at h
 obtain⟨rfl,rfl,rfl⟩:=h
 rfl
def AF(s t:aT):Bool:=gi (fF s) (fF t)
theorem tZ{P:aT->Prop}:∀ {ks:List (List Key)},(∀ k∈ks,∃ s,k=fF s/\P s)->∃ l:List aT,ks=l.map fF/\∀ s∈l,P s
 |[],_=>⟨[],rfl,fun s h=>nomatch h⟩
 |k :: ks,h=>by
  obtain⟨s,rfl,p⟩:=h k df
  obtain⟨l,rfl,q⟩:=tZ fun k hk=>h k (de _ hk)
  refine⟨s :: l,rfl,fun t ht=>?_⟩
  rcases dA.mp ht with rfl|ht
  ·exact p
  ·exact q t ht
abbrev Kn:=List (List Key × D)
def x8(P:aT->Prop)(kvs:Kn):Prop:=(∀ p∈kvs,∃ s,p.1=fF s/\P s)/\(kvs.map (·.1)).Nodup
theorem yt{κ β:Type}[DecidableEq κ](kvs:List (κ × β))(k:κ)(v:β):(gS kvs k v).map (·.1)=if k∈kvs.map (·.1) then kvs.map (·.1) else kvs.map (·.1)++[k]:=by
 unfold gS
 by_cases h:k∈kvs.map (·.1)
 ·have:(kvs.any fun kv=>decide (kv.1=k))=true:=by
   obtain⟨p,hp,e⟩:=dk.mp h
   exact GH.mpr ⟨p,hp,decide_eq_true e⟩
  rw[if_pos this,if_pos h,i9]
  apply GA
  intro p _
  show(if p.1=k then (p.1,v) else p).1=p.1
  split<;>rfl
 ·have:¬ (kvs.any fun kv=>decide (kv.1=k))=true:=by
   intro z
   obtain⟨p,hp,e⟩:=GH.mp z
   exact h (dk.mpr ⟨p,hp,of_decide_eq_true e⟩)
  rw[if_neg this,if_neg h,ll]
  rfl
theorem x8.put{P:aT->Prop}{kvs:Kn}{s:aT}{d:D}(h:x8 P kvs)(hs:P s):x8 P (gS kvs (fF s) d):=by
 refine⟨fun p hp=>?_,?_⟩
 ·rcases jN hp with e|e
  ·exact⟨s,e,hs⟩
  ·obtain⟨q,hq,e⟩:=dk.mp e
   rw[<- e]
   exact h.1 q hq
 ·rw[yt]
  split
  ·exact h.2
  ·rename_i hn
   exact iA.mpr ⟨h.2,by simp,fun a ha b hb e=>by
    have:b=fF s:=by simpa using hb
    subst this;subst e;exact hn ha⟩
theorem x8.nil{P:aT->Prop}:x8 P []:=⟨(fun p hp=>nomatch hp),ng⟩
theorem x8.sorted{P:aT->Prop}{kvs:Kn}(h:x8 P kvs){Q:Md->D->Prop}(k:∀ steps:List aT,(steps.map fF).Perm (kvs.map (·.1))->(∀ s∈steps,P s)->steps.Pairwise (fun a b=>AF a b=true)->steps.length=kvs.length->Q (.ow true) (.list (steps.map bX))) :
  nY (.ow true) (.list (kvs.map fun kv=>.tup (kv.1.map mI))) Q:=by
 refine⟨kvs.map (·.1),[false,true],by rw[i9];rfl,fun k hk=>?_,fun ms pm pw=>?_⟩
 ·obtain⟨p,hp,rfl⟩:=dk.mp hk
  obtain⟨s,e,_⟩:=h.1 p hp
  rw[e];rfl
 ·obtain⟨l,rfl,hl⟩:=tZ (P:=P) (ks:=ms) fun k hk=>by
   obtain⟨p,hp,e⟩:=dk.mp (pm.mem_iff.mp hk)
   rw[<- e]
   exact h.1 p hp
  have e:(l.map fF).map lT=l.map bX:=by rw[i9];rfl
  rw[e]
  refine k l pm hl ?_ (by have:=pm.length_eq;simpa using this)
  have nd:(l.map fF).Nodup:=pm.nodup_iff.mpr h.2
  rw[qq] at pw
  have FU:l.Pairwise fun a b=>fF a≠fF b:=by
   rw[List.Nodup,qq] at nd
   exact nd
  refine(pw.and FU).imp fun {a b} ⟨h1,h2⟩=>?_
  unfold AF
  cases h3:gi (fF a) (fF b) with
  |true=>rfl
  |false=>exact absurd (oE (a:=fF a) (b:=fF b) rfl h3 h1) h2
theorem qN:∀ (l:List Str),cy (l.map D.str)=true
 |[]=>rfl
 |x :: l=>by simp[cy,qN l,D.flat]
theorem lr:∀ (l:List Int),cy (l.map D.int)=true
 |[]=>rfl
 |x :: l=>by simp[cy,lr l,D.flat]
theorem jh{n i:Nat}{lo:Int}{x:D}(h:(jY lo n)[i]? = some x):i<n/\x=.int (lo+(i:Nat)):=by
 unfold jY at h
 rw[ox] at h
 by_cases hi:i<n
 ·rw[List.getElem?_range hi] at h
  exact⟨hi,(Option.some.inj h).symm⟩
 ·rw[wo (by simpa using hi)] at h
  cases h
theorem iT(lo:Int)(n:Nat):(jY lo n).length=n:=by simp[jY]
theorem BX{names:List Str}{i:Int}(h0:0<=i)(h1:i<names.length):∃ n,n∈names/\fR (names.map D.str) i=some (.str n):=by
 have hn:i.toNat<names.length:=by lia
 refine⟨names[i.toNat],Rr hn,?_⟩
 have:=HV (xs:=names.map D.str) (j:=i.toNat) (v:=.str names[i.toNat]) (by simp[hn])
 rwa[EE h0] at this
theorem name_mod{names:List Str}(x:Int)(h:1<=names.length):∃ n,n∈names/\fR (names.map D.str) (x % (names.length:Int))=some (.str n) :=
 BX (MG _ (by lia)) (O3 _ (by lia))
theorem uB(l:List Int)(lo hi:Option Int):gp (l.map D.int) lo hi=(gp l lo hi).map D.int:=by
 unfold gp
 rw[bT,OS,OU]
theorem pN{n d:Nat}{k:Int}(h0:0<=k)(h1:k<=n):HT.bI n d (some k)=k.toNat:=by
 simp only[HT.bI]
 rw[if_neg (by lia)]
 lia
theorem dg{α:Type}[DecidableEq α]:∀ {l m:List α},l.Nodup->(∀ x∈l,x∈m)->l.length<=m.length
 |[],_,_,_=>eP _
 |x :: l,m,nd,h=>by
  obtain⟨hx,nd⟩:=kC.mp nd
  have hm:=h x df
  have:=dg (l:=l) (m:=m.erase x) nd fun y hy=>(List.mem_erase_of_ne (fun e=>by subst e;exact hx hy)).mpr (h y (de _ hy))
  rw[List.length_erase_of_mem hm] at this
  have:=List.length_pos_of_mem hm
  simp only[oy]
  lia
def cV(n:Nat):List Int:=(List.range n).map fun i=>((i:Nat):Int)
theorem jc(n:Nat):(cV n).length=n:=by simp[cV]
theorem jo{n:Nat}{x:Int}:x∈cV n↔0<=x/\x<n:=by
 unfold cV
 rw[dk]
 constructor
 ·rintro⟨i,hi,rfl⟩
  have:=pe.mp hi
  lia
 ·intro ⟨h0,h1⟩
  exact⟨x.toNat,pe.mpr (by lia),by lia⟩
theorem zK{l:List Int}(h:l.Pairwise (· < ·)):l.Nodup:=h.imp fun h=>by lia
def ky(many:Int)(steps:List aT):Prop:=∀ s∈steps,K2 many s
theorem mC{ks:List Int}{x:Int}:((Sum.inl x:Key)∈ks.map fun x=>(Sum.inl x:Key))↔x∈ks:=by
 rw[dk]
 exact⟨fun⟨y,hy,e⟩=>by cases e;exact hy,fun h=>⟨x,h,rfl⟩⟩
theorem tX{κ β:Type}[DecidableEq κ]{kvs:List (κ × β)}{k:κ}:(kvs.any fun kv=>decide (kv.1=k))=true↔k∈kvs.map (·.1):=by
 rw[GH,dk]
 exact⟨fun⟨p,hp,e⟩=>⟨p,hp,of_decide_eq_true e⟩,fun⟨p,hp,e⟩=>⟨p,hp,decide_eq_true e⟩⟩
theorem oW{κ β:Type}[DecidableEq κ]:∀ {kvs:List (κ × β)} {k:κ},(dE kvs k).isSome=true↔k∈kvs.map (·.1)
 |[],k=>by simp[dE]
 |p :: kvs,k=>by
  have ih:=oW (kvs:=kvs) (k:=k)
  rw[fT,dA]
  by_cases h:p.1=k
  ·subst h;simp[dE]
  ·have:dE (p :: kvs) k=dE kvs k:=by simp[dE,h]
   rw[this,ih]
   exact⟨.inr,fun z=>z.elim (fun e=>absurd e.symm h) id⟩
inductive sd(l:List aT)(s:Int):Int->Prop
 |refl:sd l s s
 |step {t:aT}:sd l s t.1->t∈l->t.2.1 = "*"->sd l s t.2.2
structure Lc(l:List aT)(s:Int)(xs:List Int):Prop where
 up:xs.Pairwise (· < ·)
 mem:∀ x,x∈xs↔sd l s x
theorem sd.lt{many:Int}{l:List aT}(h:ky many l){s x:Int}(hs:0<=s/\s<many)(r:sd l s x):0<=x/\x<many:=by
 cases r with
 |refl=>exact hs
 |step r ht _=>exact(h _ ht).2.2.2
theorem El {l:List aT} {s:Int} {ks:List Int} (z:s∈ks) (h:∀ t∈l,t.2.1 = "*"->t.1∈ks->t.2.2∈ks) {x:Int} (r:sd l s x):x∈ks:=by
 induction r with
 |refl=>exact z
 |step r ht e ih=>exact h _ ht e ih
theorem Br{many:Int}{ks:List Int}(nd:ks.Nodup)(h:∀ x∈ks,0<=x/\x<many):ks.length<=many.toNat:=by
 have:=dg (m:=cV many.toNat) nd fun x hx=>jo.mpr (by have:=h x hx;lia)
 rwa[jc] at this
def cu(l:List aT)(s:Int)(d:Str):List Int:=(l.filter fun t=>decide (t.1=s) && decide (t.2.1=d)).map (·.2.2)
theorem jO{l:List aT}{s:Int}{d:Str}{x:Int}:x∈cu l s d↔(s,d,x)∈l:=by
 unfold cu
 rw[dk]
 constructor
 ·rintro⟨⟨p,q,r⟩,ht,rfl⟩
  obtain⟨h1,e⟩:=sR.mp ht
  simp only[kH,decide_eq_true_eq] at e
  rw[<- e.1,<- e.2]
  exact h1
 ·exact fun h=>⟨_,sR.mpr ⟨h,by simp⟩,rfl⟩
theorem zM(l:List aT)(s:Int)(d:Str):(cu l s d).length<=l.length:=by
 unfold cu
 rw[bT]
 exact List.length_filter_le _ _
def AG(l:List aT)(kvs:Kn):Prop:=∀ s d,dE kvs [.inl s,.inr d]=if cu l s d=[] then none else some (.list ((cu l s d).map .int))
theorem u_(k k':List Key)(x:D):∀ (kvs:Kn),dE (kN kvs k x) k'=if k'=k then some (match dE kvs k with
  |none=>.list [x]
  |some d=>Oa d x) else dE kvs k'
 |[]=>by
  rw[kN,bL]
  by_cases h:k'=k
  ·rw[if_pos h.symm,if_pos h];rfl
  ·rw[if_neg fun e=>h e.symm,if_neg h]
 |p :: r=>by
  rw[kN]
  by_cases e:p.1=k
  ·rw[if_pos e,bL]
   by_cases h:k'=k
   ·rw[if_pos h,h,bL p r k,if_pos e,if_pos e]
   ·rw[if_neg h,bL p r k',if_neg fun z=>h (z.symm.trans e),if_neg fun z=>h (z.symm.trans e)]
  ·rw[if_neg e,bL,u_ k k' x r]
   by_cases h:k'=k
   ·rw[if_pos h,h,bL p r k,if_neg e,if_neg e,if_pos rfl]
   ·rw[if_neg h,bL p r k',if_neg h]
theorem xY(k:List Key)(x:D):∀ (kvs:Kn),(kN kvs k x).length<=kvs.length+1
 |[]=>by simp[kN]
 |p :: r=>by
  have:=xY k x r
  rw[kN]
  split<;>simp only[oy]<;>lia
theorem AG.nil:AG [] []:=fun s d=>rfl
theorem AG.put{l:List aT}{kvs:Kn}(h:AG l kvs)(p:Int)(n:Str)(r:Int):AG (l++[(p,n,r)]) (kN kvs [.inl p,.inr n] (.int r)):=by
 intro s d
 rw[u_]
 have ee:cu (l++[(p,n,r)]) s d=cu l s d++if p=s/\n=d then [r] else []:=by
  unfold cu
  rw[List.filter_append,ll]
  congr 1
  by_cases e:p=s/\n=d
  ·simp[e.1,e.2]
  ·rw[if_neg e,List.filter_cons_of_neg (by simpa using e)];rfl
 by_cases e:p=s/\n=d
 ·rw[if_pos e] at ee
  obtain⟨rfl,rfl⟩:=e
  rw[ee,if_pos rfl,h p n,if_neg (show ¬ cu l p n++[r]=[] by simp)]
  by_cases z:cu l p n=[]
  ·rw[if_pos z,z];rfl
  ·rw[if_neg z];simp[Oa]
 ·rw[if_neg e,mr] at ee
  rw[ee,if_neg fun z=>e ?_,h s d]
  simp only[List.cons.injEq,Sum.inl.injEq,Sum.inr.injEq,and_true] at z
  exact⟨z.1.symm,z.2.symm⟩
theorem uc{l:List aT}{kvs:Kn}(h:AG l kvs){s:Int}{d:Str}{Q:Md->D->Prop}(q:Q .sh (.list ((cu l s d).map .int))):DV (dE kvs [.inl s,.inr d]) .sh .sh (.list []) Q:=by
 rw[h s d]
 by_cases z:cu l s d=[]
 ·rw[if_pos z];rw[z] at q;exact q
 ·rw[if_neg z];exact q
theorem uX{steps:List aT}{i:Nat}{x:D}(h:(steps.map bX)[i]? = some x):∃ p d r,x=.tup [.int p,.str d,.int r]/\(p,d,r)∈steps/\steps.take (i+1)=steps.take i++[(p,d,r)]:=by
 rw[ox] at h
 cases e:steps[i]? with
 |none=>rw[e] at h;cases h
 |some s =>
  rw[e] at h
  cases h
  obtain⟨p,d,r⟩:=s
  exact⟨p,d,r,rfl,pd e,by rw[AJ,e];rfl⟩
theorem int_at{l:List Int}{i:Nat}{x:D}(h:(l.map D.int)[i]? = some x):∃ c,x=.int c/\c∈l/\l.take (i+1)=l.take i++[c]:=by
 rw[ox] at h
 cases e:l[i]? with
 |none=>rw[e] at h;cases h
 |some s =>
  rw[e] at h
  cases h
  exact⟨s,rfl,pd e,by rw[AJ,e];rfl⟩
theorem sort_keys{l:List aT}{s:Int}{ks:List Int}{kd:List (Key × D)}(ek:kd.map (·.1)=ks.map fun x=>(Sum.inl x:Key))(nk:ks.Nodup)(mk:∀ x,x∈ks↔sd l s x){Q:Md->D->Prop}(k:∀ xs,Lc l s xs->Q (.ow true) (.list (xs.map .int))):yM .bo (.dK kd) Q:=by
 refine⟨true,fun p hp=>?_,fun ms pm pw=>?_⟩
 ·have:p.1∈kd.map (·.1):=List.mem_map_of_mem hp
  rw[ek] at this
  obtain⟨x,_,e⟩:=dk.mp this
  rw[<- e];rfl
 ·rw[ek] at pm
  obtain⟨xs,rfl⟩:∃ xs:List Int,ms=xs.map fun x=>(Sum.inl x:Key):=by
   have hm:∀ k∈ms,∃ x:Int,k=Sum.inl x:=fun k hk=>by
    obtain⟨x,_,rfl⟩:=dk.mp (pm.mem_iff.mp hk)
    exact⟨x,rfl⟩
   clear pm pw
   induction ms with
   |nil=>exact⟨[],rfl⟩
   |cons k ms ih =>
    obtain⟨l,rfl⟩:=ih fun j hj=>hm j (de _ hj)
    obtain⟨x,rfl⟩:=hm k df
    exact⟨x :: l,rfl⟩
  have e:(xs.map fun x=>(Sum.inl x:Key)).map mI=xs.map D.int:=by rw[i9];rfl
  rw[e]
  have mem:∀ x,x∈xs↔x∈ks:=fun x=>by rw[<- mC (ks:=xs),<- mC (ks:=ks)];exact pm.mem_iff
  have nd:xs.Nodup:=by
   have:(xs.map fun x=>(Sum.inl x:Key)).Nodup:=pm.nodup_iff.mpr (by
    unfold List.Nodup at *
    rw[qq]
    exact nk.imp fun h e=>h (Sum.inl.inj e))
   unfold List.Nodup at *
   rw[qq] at this
   exact this.imp fun h e=>h (by rw[e])
  refine k xs ⟨?_,fun x=>(mem x).trans (mk x)⟩
  rw[qq] at pw
  refine(pw.and nd).imp fun {a b} ⟨h1,h2⟩=>?_
  have h1:¬ b<a:=by simpa[qc] using h1
  lia
abbrev Pr:=Str × Int
def D1(p:Pr):D:=.tup [.str p.1,.int p.2]
def mM(steps:List aT)(s:Int):List Pr:=(steps.filter fun t=>decide (t.1=s)).map (·.2)
def se(many:Int)(steps:List aT):List D:=(cV many.toNat).map fun s=>.list ((mM steps s).map D1)
def Lv(many:Int)(steps:List aT):D:=.list (se many steps)
theorem Fv(many:Int):((jY 0 many.toNat).filter fun _=>true).map (fun _=>D.list [])=se many []:=by
 unfold se jY cV
 rw[LW.mpr fun _ _=>rfl,i9,i9]
 rfl
theorem DP{many s:Int}(steps:List aT)(h0:0<=s)(h1:s<many):(se many steps)[s.toNat]? = some (.list ((mM steps s).map D1)):=by
 have:s.toNat<many.toNat:=by lia
 simp[se,cV,this,EE h0]
theorem rK(many:Int)(steps:List aT):(se many steps).length=many.toNat:=by simp[se,cV]
theorem uh{n:Nat}{i:Int}(h0:0<=i)(h1:i<n):rh n i=some i.toNat:=by unfold rh;rw[if_pos h0,if_pos h1]
theorem Aa(steps:List aT)(p:Int)(d:Str)(r s:Int):mM (steps++[(p,d,r)]) s=if p=s then mM steps s++[(d,r)] else mM steps s:=by
 unfold mM
 by_cases h:p=s
 ·simp[h]
 ·simp[h]
theorem Hl{many p:Int}(steps:List aT)(d:Str)(r:Int)(h0:0<=p)(h1:p<many):(se many steps).set p.toNat (.list ((mM steps p).map D1++[.tup [.str d,.int r]]))=se many (steps++[(p,d,r)]):=by
 apply D8
 intro i
 by_cases hi:i<many.toNat
 ·have e:∀ st,(se many st)[i]? = some (.list ((mM st (i:Nat)).map D1)):=fun st=>by
   have:=DP (many:=many) (s:=(i:Nat)) st (by lia) (by lia)
   simpa using this
  rw[e,Aa]
  by_cases hp:p=(i:Nat)
  ·subst hp
   rw[if_pos rfl]
   simp[rK,hi,D1]
  ·rw[if_neg hp,Rl (by lia),e]
 ·rw[wo (by rw[List.length_set,rK];lia),wo (by rw[rK];lia)]
theorem GX{many s:Int}(steps:List aT)(h0:0<=s)(h1:s<many):fR (se many steps) s=some (.list ((mM steps s).map D1)) :=
 wJ (uh h0 (by rw[rK];lia)) (DP steps h0 h1)
theorem yg{steps:List aT}{s:Int}{p:Pr}(h:p∈mM steps s):∃ t∈steps,t.1=s/\t.2=p:=by
 obtain⟨t,ht,e⟩:=dk.mp h
 obtain⟨ht,hs⟩:=sR.mp ht
 exact⟨t,ht,of_decide_eq_true hs,e⟩
theorem yq{steps:List aT}{t:aT}(h:t∈steps):t.2∈mM steps t.1:=dk.mpr ⟨t,sR.mpr ⟨h,decide_eq_true rfl⟩,rfl⟩
theorem yw(steps:List aT)(s:Int):(mM steps s).length<=steps.length:=by
 unfold mM
 rw[bT]
 exact List.length_filter_le _ _
def Es (l:List aT) (t:aT):Prop:=(t.2.1 = "*"/\sd l t.1 t.2.2)\/(t.2.1 ≠ "*"/\∃ a b,sd l t.1 a/\(a,t.2.1,b)∈l/\sd l b t.2.2)
structure Od(many:Int)(l out:List aT):Prop where
 up:out.Pairwise fun a b=>AF a b=true
 mem:∀ t,t∈out↔(0<=t.1/\t.1<many)/\Es l t
theorem Es.in{many:Int}{l:List aT}(ck:ky many l){t:aT}(ht:0<=t.1/\t.1<many)(h:Es l t):K2 many t:=by
 rcases h with⟨e,r⟩|⟨e,a,b,r1,m,r2⟩
 ·have:=r.lt ck ht
  exact⟨ht.1,ht.2,by rw[e];exact .inl rfl,this.1,this.2⟩
 ·have ok:=ck _ m
  have:=r2.lt ck ok.2.2.2
  exact⟨ht.1,ht.2,ok.2.2.1,this.1,this.2⟩
theorem Od.in{many:Int}{l out:List aT}(h:Od many l out)(ck:ky many l):ky many out:=fun t ht=>((h.mem t).mp ht).2.in ck ((h.mem t).mp ht).1
def D2(names:List Str)(l:List aT):Prop:=∀ t∈l,t.2.1∈names
theorem Es.nm {names:List Str} {l:List aT} (h:D2 names l) (hz:("*" : Str)∈names) {t:aT} (e:Es l t):t.2.1∈names:=by
 rcases e with⟨e,_⟩|⟨_,a,b,_,m,_⟩
 ·rw[e];exact hz
 ·exact h (a,t.2.1,b) m
abbrev P2:=Int × Int
def oS(p:P2):List Key:=[.inl p.1,.inl p.2]
def cw(p:P2):D:=.tup [.int p.1,.int p.2]
theorem Du{p q:P2}(h:oS p=oS q):p=q:=by
 obtain⟨a,b⟩:=p
 obtain⟨c,d⟩:=q
 simp only[oS,List.cons.injEq,Sum.inl.injEq,and_true] at h
 rw[h.1,h.2]
theorem dW:∀ (l:List P2),cy (l.map cw)=true
 |[]=>rfl
 |x :: l=>by simp[cy,dW l,cw,D.flat]
theorem Aq(l:List P2)(n:Nat):eh (n+2) (.list (l.map cw))=true:=by
 simp only[eh,List.all_map,OD]
 intro x _
 cases n<;>rfl
theorem Dh:∀ (l:List P2),xA (l.map cw)=true
 |[]=>rfl
 |x :: l=>by simp[xA,Dh l,cw,D.nb]
theorem HR(l:List P2):kG (.list (l.map cw)) (.list (l.map cw))=true:=eq_self (show D.nb (.list (l.map cw))=true from Dh l)
theorem wZ{l:List P2}{i:Nat}{x:D}(h:(l.map cw)[i]? = some x):∃ p q,x=.tup [.int p,.int q]/\(p,q)∈l/\l.take (i+1)=l.take i++[(p,q)]:=by
 rw[ox] at h
 cases e:l[i]? with
 |none=>rw[e] at h;cases h
 |some s =>
  rw[e] at h
  cases h
  exact⟨s.1,s.2,rfl,pd e,by rw[AJ,e];rfl⟩
def gv(many:Int)(p:P2):Prop:=(0<=p.1/\p.1<many)/\0<=p.2/\p.2<many
def n5(ks:List P2):Kn:=ks.map fun p=>(oS p,.bl true)
theorem jU(ks:List P2):(n5 ks).map (·.1)=ks.map oS:=by simp[n5,i9,Function.comp_def]
theorem jL(ks:List P2):(n5 ks).length=ks.length:=by simp[n5]
theorem tE{ks:List P2}{x:P2}:oS x∈ks.map oS↔x∈ks:=by
 rw[dk]
 exact⟨fun⟨y,hy,e⟩=>Du e ▸ hy,fun h=>⟨x,h,rfl⟩⟩
def BQ(ks:List P2)(x:P2):List P2:=if x∈ks then ks else ks++[x]
theorem uH(ks:List P2)(x:P2):gS (n5 ks) (oS x) (.bl true)=n5 (BQ ks x):=by
 unfold gS BQ
 by_cases h:x∈ks
 ·rw[if_pos (tX.mpr (by rw[jU];exact tE.mpr h)),if_pos h]
  unfold n5
  rw[i9]
  apply GA
  intro p _
  show(if oS p=oS x then (oS p,D.bl true) else (oS p,D.bl true))=_
  split<;>rfl
 ·rw[if_neg fun z=>h (tE.mp (by rw[<- jU];exact tX.mp z)),if_neg h]
  simp[n5]
theorem uN(ks:List P2)(x:P2):(dE (n5 ks) (oS x)).isSome=decide (x∈ks):=by
 rw[wx,oW,jU,tE,decide_eq_true_eq]
theorem zP{ks:List P2}{x y:P2}:y∈BQ ks x↔y∈ks\/y=x:=by
 unfold BQ
 split
 ·rename_i h
  exact⟨.inl,fun z=>z.elim id fun e=>e ▸ h⟩
 ·simp
theorem wj{ks:List P2}{x:P2}(h:ks.Nodup):(BQ ks x).Nodup:=by
 unfold BQ
 split
 ·exact h
 ·rename_i n
  exact iA.mpr ⟨h,by simp,fun a ha b hb e=>n (by rw[<- ot.mp hb,<- e];exact ha)⟩
theorem zr(ks:List P2)(x:P2):(BQ ks x).length<=ks.length+1:=by
 unfold BQ
 split<;>simp
structure BU(ps ks:List P2):Prop where
 nd:ks.Nodup
 mem:∀ x,x∈ks↔x∈ps
 len:ks.length<=ps.length
theorem BU.nil:BU [] []:=⟨ng,fun _=>Iff.rfl,by simp⟩
theorem BU.put{ps ks:List P2}(h:BU ps ks)(x:P2):BU (ps++[x]) (BQ ks x):=⟨wj h.nd,fun y=>by rw[zP,dz,ot,h.mem],by
 have:=zr ks x
 have:=h.len
 rw[kz,LP]
 lia⟩
def B1(l:List aT)(ps:List P2)(p q:Int):Prop:=∀ d e,(p,d,e)∈l->∃ o,(q,d,o)∈l/\(e,o)∈ps
theorem B1.congr{l:List aT}{ps qs:List P2}(h:∀ x,x∈ps↔x∈qs){p q:Int}:B1 l ps p q↔B1 l qs p q:=by
 unfold B1
 simp only[h]
theorem Bq(ks:List P2):(n5 ks).map (fun kv=>lT kv.1)=ks.map cw:=by unfold n5;rw[i9];rfl
theorem HX{l:List Pr}{i:Nat}{x:D}(h:(l.map D1)[i]? = some x):∃ d e,x=.tup [.str d,.int e]/\(d,e)∈l/\l.take (i+1)=l.take i++[(d,e)]:=by
 rw[ox] at h
 cases e:l[i]? with
 |none=>rw[e] at h;cases h
 |some s =>
  rw[e] at h
  cases h
  exact⟨s.1,s.2,rfl,pd e,by rw[AJ,e];rfl⟩
theorem wO{steps:List aT}{s:Int}{d:Str}{e:Int}:(d,e)∈mM steps s↔(s,d,e)∈steps:=by
 constructor
 ·intro h
  obtain⟨t,ht,e1,e2⟩:=yg h
  obtain⟨a,b,c⟩:=t
  cases e1
  cases e2
  exact ht
 ·exact fun h=>yq h
theorem iI{α:Type}{l:List α}{i:Nat}{x:α}{P:α->Prop}(tk:l.take (i+1)=l.take i++[x])(h:∀ y∈l.take i,P y)(hx:P x):∀ y∈l.take (i+1),P y:=fun y hy=>by
 rw[tk] at hy
 rcases dz.mp hy with hy|hy
 ·exact h y hy
 ·rw[ot.mp hy];exact hx
def SM(l:List aT)(ps:List P2):Prop:=∀ p∈ps,B1 l ps p.1 p.2
def QY(f:Int->D):D->D
 |.int o=>f o
 |_=>.non
theorem CK(f:Int->D)(l:List Int):(((l.map D.int).filter fun _=>true).map (QY f))=l.map f:=by
 rw[LW.mpr fun _ _=>rfl,i9]
 rfl
theorem eF(x:Int){m:Int}(h:0<m):0<=x % m/\x % m<m:=⟨MG _ (by lia),O3 _ h⟩
theorem ye{a b:Int}(h0:-1000<=b)(h1:b<=10000000000):EJ a b:=.inr ⟨by lia,by lia⟩
theorem vf(l:List Str)(lo hi:Option Int):gp (l.map D.str) lo hi=(gp l lo hi).map D.str:=by
 unfold gp
 rw[bT,OS,OU]
theorem Bw{α:Type}{l:List α}{a b:Int}(h0:0<=a)(h1:a<b)(h2:a<l.length):1<=(gp l (some a) (some b)).length/\(gp l (some a) (some b)).length<=l.length/\∀ x∈gp l (some a) (some b),x∈l:=by
 have e:HT.bI l.length 0 (some a)=a.toNat:=pN h0 (by lia)
 have e2:a.toNat<HT.bI l.length l.length (some b):=by
  simp only[HT.bI]
  rw[if_neg (by lia)]
  lia
 unfold gp
 rw[e,mS,B6]
 exact⟨by lia,by lia,fun x hx=>Ox (Oy hx)⟩
def fu:WS :=
 (mn (IY (wB (qp Tx Fu (wC (.int 0)) (av 1) (aw eW (av 0) (wC (.int 0))))))
 (wV "NoState" (wC (.str "the machine has no such state")))
 dG)
def aP:iO:=fun ds Q=>∃ (many:Int) (l:List aT) (s:Int),ds=[mD many l,.int s]/\((0<=s/\s<many)->Q .sh .non)/\(¬ (0<=s/\s<many)->Q (.ow false) (.str "NoState"))
theorem jZ (ds Q) (h:aP ds Q):ds.length=["m", "state"].length:=by obtain⟨_,_,_,rfl,_⟩:=h;rfl
theorem pZ:∀ ds Q,aP ds Q->fu { nx:=fun _=>Q .sh .non,rt:=Q } (a_ 2 ds):=by
 rintro ds Q ⟨many,l,s,rfl,h1,h2⟩
 unfold fu mD
 walk_at "q"
 refine R.D (fun a=>?_) fun a=>?_
 ·walk_at "q"
  by_cases b:s<many
  ·refine R.F (by simp[b]) ?_
   walk_at "q"
   exact h1 ⟨a,b⟩
  ·refine R.T (by simp[b]) ?_
   walk_at "q"
   exact h2 fun z=>b z.2
 ·walk_at "q"
  exact h2 fun z=>a z.1
def l_:WS :=
 (cf (eB 1 lH)
 (cf (fq 0 (nV (cU (aw eW (av 0) (wC (.int 1)))) (gT 3 (cB (gN 2) (cB (gN 3) (cB (gN 4) mX))))
 (fq 4 (fq 3 (fq 2 (QJ 1 (g7 (ak (av 2) (ak (av 3) b9))) (av 4)))))))
 (tH 1)))
def bZ:iO:=fun ds Q=>∃ (many:Int) (l:List aT),ds=[mD many l]/\l.length<=10000/\∀ kvs,AG l kvs->Q (.ow true) (.dT kvs)
theorem sW (ds Q) (h:bZ ds Q):ds.length=["m"].length:=by obtain⟨_,_,rfl,_⟩:=h;rfl
theorem yK:∀ ds Q,bZ ds Q->l_ { nx:=fun _=>Q .sh .non,rt:=Q } (a_ 5 ds):=by
 rintro ds Q ⟨many,l,rfl,hz,h⟩
 unfold l_ mD
 walk_at "q"
 refine bF _ (fun i ρ=>∃ (kvs:Kn) (o2 o3 o4:Option Sl),AG (l.take i) kvs/\kvs.length<=i/\ρ=[some (.sh (.tup [.int many,.list (l.map bX)])),some (.ow true (.dT kvs)),o2,o3,o4]) ⟨[],_,_,_,AG.nil,by simp,rfl⟩ ?_ ?_
 ·rintro i x ρ hx ⟨kvs,o2,o3,o4,hw,hk,rfl⟩ N hN
  have hi:=(lh.mp hx).1
  rw[bT] at hi
  obtain⟨p,d,r,rfl,hs,et⟩:=uX hx
  walk_at "q"
  refine⟨by lia,?_,hN _ ⟨_,_,_,_,by rw[et];exact hw.put p d r,by have:=xY [.inl p,.inr d] (.int r) kvs;lia,rfl⟩⟩
  rw[hw p d]
  have:=zM (l.take i) p d
  rw[mS] at this
  split
  ·trivial
  ·show List.length _<_
   rw[bT]
   exact Fd (by lia)
 ·rintro ρ ⟨kvs,o2,o3,o4,hw,hk,rfl⟩
  rw[bT,sQ] at hw
  walk_at "q"
  exact h kvs hw
def jb:WS :=
 (cf (eB 1 (gm (fL (aw eW (av 0) (wC (.int 0)))) (gN 0) uj (nS b9) 1 []))
 (cf (fq 0 (nV (cU (aw eW (av 0) (wC (.int 1)))) (gT 3 (cB (gN 2) (cB (gN 3) (cB (gN 4) mX))))
 (fq 4 (fq 3 (DM (Qq (om 1) (av 2)) (g7 (ak (av 3) (ak (av 4) b9))))))))
 (tH 1)))
def bJ:iO:=fun ds Q=>∃ (many:Int) (steps:List aT),ds=[mD many steps]/\(0<=many/\many<=1000)/\ky many steps/\steps.length<=10000/\Q (.ow true) (Lv many steps)
theorem rP (ds Q) (h:bJ ds Q):ds.length=["m"].length:=by obtain⟨_,_,rfl,_⟩:=h;rfl
theorem vZ:∀ ds Q,bJ ds Q->jb { nx:=fun _=>Q .sh .non,rt:=Q } (a_ 5 ds):=by
 rintro ds Q ⟨many,steps,rfl,hm,ck,hl,h⟩
 unfold jb mD
 walk_at "q"
 refine⟨by lia,by lia,?_⟩
 refine cY (fun _=>true) (fun _=>.list []) (fun ρ=>∃ o,ρ=[o]) _ _ _ ⟨_,rfl⟩ ?_ ?_
 ·rintro x hx ρ ⟨o,rfl⟩ N1 N2 n1 n2
  walk_at "q"
  exact⟨.inr rfl,n2 _ ⟨_,rfl⟩ rfl⟩
 rw[Fv]
 refine bF _ (fun i ρ=>∃ o2 o3 o4,ρ=[some (.sh (.tup [.int many,.list (steps.map bX)])),some (.ow true (.list (se many (steps.take i)))),o2,o3,o4]) ⟨none,none,none,by simp⟩ ?_ ?_
 ·rintro i x ρ hx ⟨o2,o3,o4,rfl⟩ N hN
  obtain⟨p,d,r,rfl,hs,ht⟩:=uX hx
  have ok:=ck _ hs
  walk_at "q"
  refine⟨p.toNat,.list ((mM (steps.take i) p).map D1),uh ok.1 (by rw[rK];have:=ok.2.1;lia),DP _ ok.1 ok.2.1,rfl,?_⟩
  walk_at "q"
  refine⟨?_,?_⟩
  ·have:=yw (steps.take i) p
   have:(steps.take i).length<=steps.length:=by rw[mS];lia
   lia
  ·refine hN _ ⟨some (.sh (.int p)),some (.sh (.str d)),some (.sh (.int r)),?_⟩
   rw[Hl _ _ _ ok.1 ok.2.1,<- ht]
 ·rintro ρ ⟨o2,o3,o4,rfl⟩
  walk_at "q"
  rw[sQ]
  exact h
def dI:WS :=
 (cf (eB 2 (Uh (av 1) (KP (nS b9))))
 (cf (fq 1 (eB 3 (nS (ak (av 1) b9))))
 (cf (Bo (Tv (av 3))
 (cf (Qu 4 (om 3))
 (fq 4 (nV (cU (N_ (av 0) (g7 (ak (av 4) (ak (wC (.str "*")) b9))) (KP (nS b9)))) (gN 5)
 (mn (wB (aw (DH true) (av 5) (av 2)))
 (cf (fq 5 (fq 4 (yZ (om 2) (av 5) (KP (aw gV (aw eW (av 2) (av 4)) (nS (ak (g7 (ak (av 4) (ak (wC (.str "*")) (ak (av 5) b9)))) b9)))))))
 (fq 5 (DM (om 3) (av 5))))
 dG)))))
 (tH 2))))
structure Wk(many:Int)(l:List aT)(s:Int)(ks:List Int)(kd:List (Key × D)):Prop where
 ek:kd.map (·.1)=ks.map fun x=>(Sum.inl x:Key)
 nd:ks.Nodup
 z:s∈ks
 r:∀ x∈ks,sd l s x/\0<=x/\x<many
 v:∀ p∈kd,∃ w:List aT,p.2=.list (w.map bX)/\w.length<ks.length
theorem Wk.len{many:Int}{l:List aT}{s:Int}{ks:List Int}{kd:List (Key × D)}(w:Wk many l s ks kd)(h:many<=20):ks.length<=20/\kd.length=ks.length:=by
 refine⟨?_,by have:=congrArg List.length w.ek;simpa using this⟩
 have:=Br w.nd fun x hx=>(w.r x hx).2
 lia
theorem Wk.get{many:Int}{l:List aT}{s:Int}{ks:List Int}{kd:List (Key × D)}(w:Wk many l s ks kd){x:Int}(hx:x∈ks):∃ p:List aT,dE kd (.inl x)=some (.list (p.map bX))/\p.length<ks.length:=by
 have:(dE kd (.inl x)).isSome=true:=oW.mpr (by rw[w.ek];exact mC.mpr hx)
 obtain⟨d,e⟩:=RD.mp this
 obtain⟨q,hq,e'⟩:=ML.mp e
 obtain⟨p,e2,hl⟩:=w.v q (List.mem_of_find?_eq_some hq)
 exact⟨p,by rw[e,<- e',e2],hl⟩
theorem Wk.has{many:Int}{l:List aT}{s:Int}{ks:List Int}{kd:List (Key × D)}(w:Wk many l s ks kd)(x:Int):(dE kd (.inl x)).isSome=decide (x∈ks):=by
 rw[wx,oW,w.ek,mC,decide_eq_true_iff]
theorem Wk.put {many:Int} {l:List aT} {s:Int} {ks:List Int} {kd:List (Key × D)} (w:Wk many l s ks kd) (ck:ky many l) {a x:Int} (ha:a∈ks) (hx:x∉ks) (ht:((a, "*",x):aT)∈l) {p:List aT} (hp:p.length<=ks.length) :
  Wk many l s (ks++[x]) (gS kd (.inl x) (.list (p.map bX))):=by
 have ep:gS kd (.inl x) (D.list (p.map bX))=kd++[(.inl x,.list (p.map bX))]:=by
  unfold gS
  rw[if_neg fun z=>hx (mC.mp (by rw[<- w.ek];exact tX.mp z))]
 have nx:∀ b∈ks,∀ c∈[x],b≠c:=fun b hb c hc e=>by
  have:c=x:=by simpa using hc
  subst this;subst e;exact hx hb
 refine⟨by rw[ep,ll,w.ek];simp,iA.mpr ⟨w.nd,by simp,nx⟩,iS _ w.z,fun y hy=>?_,fun q hq=>?_⟩
 ·rcases dz.mp hy with hy|hy
  ·exact w.r y hy
  ·have:y=x:=by simpa using hy
   subst this
   exact⟨.step (t:=(a, "*",y)) (w.r a ha).1 ht rfl,(ck _ ht).2.2.2⟩
 ·rw[ep] at hq
  rw[kz,LP]
  rcases dz.mp hq with hq|hq
  ·obtain⟨u,e,hu⟩:=w.v q hq
   exact⟨u,e,by lia⟩
  ·have:q=(.inl x,.list (p.map bX)):=by simpa using hq
   subst this
   exact⟨p,rfl,by lia⟩
def bf:iO:=fun ds Q=>∃ (kvs:Kn) (s many:Int) (l:List aT),ds=[.dT kvs,.int s]/\AG l kvs/\ky many l/\many<=20/\(0<=s/\s<many) /\
 ∀ (kd:List (Key × D)) (ks:List Int),kd.map (·.1)=(ks.map fun x=>(Sum.inl x:Key))->ks.Nodup->(∀ x,x∈ks↔sd l s x)->Q (.ow false) (.dK kd)
theorem jG (ds Q) (h:bf ds Q):ds.length=["ways", "state"].length:=by obtain⟨_,_,_,_,rfl,_⟩:=h;rfl
theorem mJ:∀ ds Q,bf ds Q->dI { nx:=fun _=>Q .sh .non,rt:=Q } (a_ 6 ds):=by
 rintro ds Q ⟨kvs,s,many,l,rfl,hw,ck,hm,hs,h⟩
 unfold dI
 walk_at "q"
 refine⟨fun ρ=>∃ (ks wait:List Int) (kd:List (Key × D)) (o4 o5:Option Sl),Wk many l s ks kd/\(∀ x∈wait,x∈ks)/\wait.length<=ks.length/\(∀ t∈l,t.2.1 = "*"->t.1∈ks->t.1∉wait->t.2.2∈ks) /\
   ρ=[some (.sh (.dT kvs)),some (.sh (.int s)),some (.ow false (.dK kd)),some (.ow true (.list (wait.map .int))),o4,o5],
  fun ρ=>match ρ with
   |[_,_,some (.ow _ (.dK kd)),some (.ow _ (.list w)),_,_]=>2*(20-kd.length)+w.length
   |_=>0,⟨[s],[s],[(.inl s,.list [])],none,none,⟨rfl,by simp,by simp,fun x hx=>?_,fun p hp=>?_⟩,by simp,by simp,fun t _ _ e hn=>absurd (by simpa using e) (by simpa using hn),rfl⟩,?_⟩
 ·have:x=s:=by simpa using hx
  subst this;exact⟨.refl,hs⟩
 ·have:p=(.inl s,.list []):=by simpa using hp
  subst this;exact⟨[],rfl,by simp⟩
 rintro ρ ⟨Um,wait,YF,o4,o5,hc,YG,Dx,ip,rfl⟩
 have DT:=hc.len hm
 walk_at "q"
 by_cases fI:wait=[]
 ·subst fI
  rw[if_neg (by simp)]
  exact h YF Um hc.ek hc.nd fun x=>⟨fun hx=>(hc.r x hx).1,El hc.z fun t ht e hm=>ip t ht e hm (by simp)⟩
 ·obtain⟨w0,st,rfl⟩:∃ w0 st,wait=w0++[st]:=⟨wait.dropLast,wait.getLast fI,(List.dropLast_concat_getLast fI).symm⟩
  rw[if_pos (by simp)]
  refine⟨.int st,by simp,rfl,?_⟩
  walk_at "q"
  rw[show(List.map D.int (w0++[st])).dropLast=w0.map D.int by simp]
  simp only[kz,LP] at Dx ⊢
  refine uc hw ⟨trivial,?_⟩
  walk_at "q"
  refine bF _ (fun i ρ=>∃ (ks wait:List Int) (kd:List (Key × D)) (o5:Option Sl),Wk many l s ks kd/\st∈ks/\(∀ x∈wait,x∈ks)/\wait.length+1<=ks.length/\(∀ t∈l,t.2.1 = "*"->t.1∈ks->t.1∉wait->t.1≠st->t.2.2∈ks)/\(∀ x∈(cu l st "*").take i,x∈ks) /\
   2*(20-ks.length)+wait.length<2*(20-Um.length)+(w0.length+1) /\
   ρ=[some (.sh (.dT kvs)),some (.sh (.int s)),some (.ow false (.dK kd)),some (.ow true (.list (wait.map .int))),some (.sh (.int st)),o5])
   ⟨Um,w0,YF,_,hc,YG st (by simp),fun x hx=>YG x (by simp[hx]),by lia,fun t ht e h1 h2 h3=>ip t ht e h1 (by simp[h2,h3]),by simp,by lia,rfl⟩ ?_ ?_
  ·rintro i x ρ hx ⟨ks,wait,kd,o5,hc,iX,QZ,Dx,ip,Oe,YH,rfl⟩ N hN
   obtain⟨r,rfl,hr,et⟩:=int_at hx
   have DT:=hc.len hm
   walk_at "q"
   by_cases Q0:r∈ks
   ·refine R.F (by rw[hc.has];simp[Q0]) ?_
    walk_at "q"
    refine hN _ ⟨ks,wait,kd,_,hc,iX,QZ,Dx,ip,fun x hx=>?_,YH,rfl⟩
    rw[et] at hx
    rcases dz.mp hx with hx|hx
    ·exact Oe x hx
    ·have:x=r:=by simpa using hx
     rw[this];exact Q0
   ·refine R.T (by rw[hc.has];simp[Q0]) ?_
    walk_at "q"
    obtain⟨p,ep,hp⟩:=hc.get iX
    refine⟨_,_,rfl,ep,?_⟩
    walk_at "q"
    have e1:p.map bX++[D.tup [.int st,.str "*",.int r]]=(p++[((st, "*",r):aT)]).map bX:=by simp[bX]
    have y9:=hc.put ck iX Q0 (jO.mp hr) (p:=p++[((st, "*",r):aT)]) (by simp;lia)
    have fS':=y9.len hm
    rw[kz,LP] at fS'
    refine⟨by lia,.inl ⟨du p,?_⟩⟩
    rw[e1]
    refine⟨by lia,by lia,?_⟩
    rw[show wait.map D.int++[D.int r]=(wait++[r]).map D.int by simp]
    refine hN _ ⟨ks++[r],wait++[r],_,_,y9,by simp[iX],fun x hx=>?_,by simp;lia,fun t ht e h1 h2 h3=>?_,fun x hx=>?_,by simp;lia,rfl⟩
    ·rcases dz.mp hx with hx|hx
     ·simp[QZ x hx]
     ·simp at hx;simp[hx]
    ·simp only[dz,ot,not_or] at h1 h2 ⊢
     rcases h1 with h1|h1
     ·exact .inl (ip t ht e h1 h2.1 h3)
     ·exact absurd h1 h2.2
    ·rw[et] at hx
     rcases dz.mp hx with hx|hx
     ·simp[Oe x hx]
     ·have:x=r:=by simpa using hx
      simp[this]
  ·rintro ρ ⟨ks,wait,kd,o5,hc,iX,QZ,Dx,ip,Oe,YH,rfl⟩
   rw[bT,sQ] at Oe
   have iX':=hc.len hm
   refine⟨⟨ks,wait,kd,_,_,hc,QZ,by lia,fun t ht e h1 h2=>?_,rfl⟩,by simp;lia⟩
   by_cases e':t.1=st
   ·refine Oe _ (jO.mpr ?_)
    obtain⟨p,d,r⟩:=t
    simp only at e e' ⊢
    subst e;subst e'
    exact ht
   ·exact ip t ht e h1 h2 e'
def eY:WS :=
 (cf (fq 2 (eB 3 (gm (jr (aw eW (av 1) (av 2))) (gN 0) uj (g7 (ak (av 1) (ak (wC (.str "*")) (ak (av 0) b9)))) 1 [2])))
 (cf (fq 1 (nV (cU (aw eW (av 1) (av 2))) (gN 4)
 (fq 0 (nV (cU (aw eW (av 0) (av 4))) (gT 2 (cB (gN 5) (cB (gN 6) mX)))
 (mn (wB (aw ui (av 5) (wC (.str "*"))))
 (fq 5 (fq 2 (QQ (om 3) (gm (jr (aw eW (av 1) (av 6))) (gN 0) uj (g7 (ak (av 2) (ak (av 1) (ak (av 0) b9)))) 1 [5,2]))))
 dG)))))
 (oD (i6 fU (av 3)))))
def ya(xs:List Int):D:=.list (xs.map .int)
structure Q5(many:Int)(l:List aT)(rs:List (List Int)):Prop where
 len:rs.length=many.toNat
 at':∀ (i:Nat) xs,rs[i]? = some xs->Lc l i xs
theorem Q5.get{many:Int}{l:List aT}{rs:List (List Int)}(h:Q5 many l rs){s:Int}(hs:0<=s/\s<many):∃ xs,fR (rs.map ya) s=some (ya xs)/\Lc l s xs:=by
 have hn:s.toNat<rs.length:=by rw[h.len];lia
 refine⟨rs[s.toNat],wJ (uh hs.1 (by rw[bT,h.len];lia)) (by simp[hn]),?_⟩
 have:=h.at' s.toNat _ (ve hn)
 rwa[EE hs.1] at this
theorem Lc.len{many:Int}{l:List aT}{s:Int}{xs:List Int}(h:Lc l s xs)(ck:ky many l)(hs:0<=s/\s<many)(hm:many<=20):xs.length<=20:=by
 have:=Br (zK h.up) fun x hx=>((h.mem x).mp hx).lt ck hs
 lia
structure Ez(many:Int)(l:List aT)(s:Int)(out:List aT):Prop where
 up:out.Pairwise fun a b=>AF a b=true
 mem:∀ t,t∈out↔t.1=s/\Es l t
def D3(names:List Str)(s:Int):List aT:=(names.map fun n=>(cV 20).map fun q=>((s,n,q):aT)).flatten
theorem pI(names:List Str)(s:Int):(D3 names s).length=names.length*20:=by
 unfold D3
 induction names with
 |nil=>rfl
 |cons n names ih=>rw[fT,LZ,kz,ih,bT,jc,oy];lia
theorem pY{names:List Str}{s:Int}{t:aT}(h1:t.1=s)(h2:t.2.1∈names)(h3:0<=t.2.2/\t.2.2<20):t∈D3 names s:=by
 unfold D3
 rw[Rt]
 obtain⟨a,b,c⟩:=t
 simp only at h1 h2 h3
 subst h1
 exact⟨_,dk.mpr ⟨b,h2,rfl⟩,dk.mpr ⟨c,jo.mpr (by lia),rfl⟩⟩
theorem G5{ps U:List aT}(hu:U.length<=999)(hp:∀ t∈ps,t∈U){m:Md}{Q:Md->D->Prop}(k:∀ l:List aT,l.Pairwise (fun a b=>AF a b=true)->(∀ t,t∈l↔t∈ps)->Q (.ow true) (.list (l.map bX))):fU m (.list (ps.map bX)) Q:=by
 refine⟨ps.map fF,U.map fF,[false,true],by rw[i9];rfl,by rw[bT];exact hu,fun k hk=>?_,fun k hk=>?_,fun ms nd mm pw=>?_⟩
 ·obtain⟨t,ht,rfl⟩:=dk.mp hk
  exact dk.mpr ⟨t,hp t ht,rfl⟩
 ·obtain⟨t,ht,rfl⟩:=dk.mp hk
  rfl
 ·obtain⟨l,rfl,hl⟩:=tZ (P:=fun t=>t∈ps) (ks:=ms) fun k hk=>by
   obtain⟨t,ht,e⟩:=dk.mp ((mm k).mp hk)
   exact⟨t,e.symm,ht⟩
  rw[show(l.map fF).map lT=l.map bX by rw[i9];rfl]
  refine k l ?_ fun t=>⟨hl t,fun ht=>?_⟩
  ·rw[qq] at pw
   have FU:l.Pairwise fun a b=>fF a≠fF b:=by
    rw[List.Nodup,qq] at nd
    exact nd
   refine(pw.and FU).imp fun {a b} ⟨h1,h2⟩=>?_
   unfold AF
   cases h3:gi (fF a) (fF b) with
   |true=>rfl
   |false=>exact absurd (oE (a:=fF a) (b:=fF b) rfl h3 h1) h2
  ·obtain⟨u,BI,e⟩:=dk.mp ((mm (fF t)).mpr (dk.mpr ⟨t,ht,rfl⟩))
   rw[<- z9 e]
   exact BI
theorem vo(a:List aT)(b:List aT):a.map bX++b.map bX=(a++b).map bX:=by rw[ll]
structure Part(l:List aT)(s:Int)(xs:List Int)(i:Nat)(ps:List aT):Prop where
 ok:∀ t∈ps,t.1=s/\Es l t
 st:∀ q∈xs,((s, "*",q):aT)∈ps
 nx:∀ a∈xs.take i,∀ (d:Str) (b:Int),(a,d,b)∈l->d ≠ "*"->∀ q,sd l b q->(s,d,q)∈ps
def bz:iO:=fun ds Q=>∃ (many:Int) (l:List aT) (rs:List (List Int)) (names:List Str) (s:Int),ds=[Lv many l,.list (rs.map ya),.int s]/\(1<=many/\many<=20)/\ky many l/\D2 names l/\("*" : Str)∈names/\names.length<=8/\l.length<=1000/\Q5 many l rs/\(0<=s/\s<many)/\∀ out,Ez many l s out->Q (.ow true) (.list (out.map bX))
theorem lu (ds Q) (h:bz ds Q):ds.length=["exits", "reaches", "state"].length:=by obtain⟨_,_,_,_,_,rfl,_⟩:=h;rfl
theorem oH:∀ ds Q,bz ds Q->eY { nx:=fun _=>Q .sh .non,rt:=Q } (a_ 7 ds):=by
 rintro ds Q ⟨many,l,rs,names,s,rfl,hm,ck,yb,hz,LB,hl,Q6,hs,h⟩
 obtain⟨xs,ex,rx⟩:=Q6.get hs
 have hxl:=rx.len ck hs hm.2
 unfold eY Lv
 walk_at "q"
 refine⟨_,ex,?_⟩
 rw[show ya xs=D.list (xs.map .int) from rfl]
 walk_at "q"
 refine cY (fun _=>true) (fun d=>match d with
  |.int q=>bX (s, "*",q)
  |d=>d) (fun ρ=>∃ o,ρ=[o,some (.sh (.int s))]) _ _ _ ⟨_,rfl⟩ ?_ ?_
 ·rintro x hx ρ ⟨o,rfl⟩ N1 N2 n1 n2
  obtain⟨c,_,rfl⟩:=dk.mp hx
  walk_at "q"
  exact⟨.inl rfl,n2 _ ⟨_,rfl⟩ rfl⟩
 have e0:((xs.map D.int).filter fun _=>true).map (fun d=>match d with
   |.int q=>bX (s, "*",q)
   |d=>d)=(xs.map fun q=>((s, "*",q):aT)).map bX:=by
  rw[LW.mpr fun _ _=>rfl,i9,i9]
  rfl
 rw[e0]
 refine⟨_,ex,?_⟩
 rw[show ya xs=D.list (xs.map .int) from rfl]
 walk_at "q"
 refine bF _ (fun i ρ=>∃ (ps:List aT) (o4 o5 o6:Option Sl),Part l s xs i ps/\ps.length<=20+i*(l.length*20)/\ρ=[some (.sh (.list (se many l))),some (.sh (.list (rs.map ya))),some (.sh (.int s)),some (.ow true (.list (ps.map bX))),o4,o5,o6]) ⟨_,_,_,_,⟨fun t ht=>?_,fun q hq=>dk.mpr ⟨q,hq,rfl⟩,by simp⟩,by rw[bT];lia,rfl⟩ ?_ ?_
 ·obtain⟨q,hq,rfl⟩:=dk.mp ht
  exact⟨rfl,.inl ⟨rfl,(rx.mem q).mp hq⟩⟩
 ·rintro i x ρ hx ⟨ps,o4,o5,o6,hp,fi,rfl⟩ N hN
  have hi:=(lh.mp hx).1
  rw[bT] at hi
  obtain⟨a,ha,rfl⟩:∃ a,xs[i]? = some a/\x=.int a:=by
   rw[ox] at hx
   obtain⟨a,ha,e⟩:=ML.mp hx
   exact⟨a,ha,e.symm⟩
  have Nv:a∈xs:=pd ha
  have YJ:=(rx.mem a).mp Nv
  have YK:=YJ.lt ck hs
  have Qx:=yw l a
  walk_at "q"
  refine⟨_,GX l YK.1 YK.2,?_⟩
  walk_at "q"
  refine bF _ (fun j ρ=>∃ (ps:List aT) (o5 o6:Option Sl),Part l s xs i ps/\(∀ p∈(mM l a).take j,p.1 ≠ "*"->∀ q,sd l p.2 q->((s,p.1,q):aT)∈ps)/\ps.length<=20+i*(l.length*20)+j*20/\ρ=[some (.sh (.list (se many l))),some (.sh (.list (rs.map ya))),some (.sh (.int s)),some (.ow true (.list (ps.map bX))),some (.sh (.int a)),o5,o6]) ⟨ps,_,_,hp,by simp,by lia,rfl⟩ ?_ ?_
  ·clear hp fi
   rintro j x ρ hx ⟨ps,o5,o6,hp,hq,fi,rfl⟩ N hN
   have hj:=(lh.mp hx).1
   rw[bT] at hj
   obtain⟨d,b,i5,rfl⟩:∃ d b,(mM l a)[j]? = some (d,b)/\x=.tup [.str d,.int b]:=by
    rw[ox] at hx
    obtain⟨p,hp,e⟩:=ML.mp hx
    exact⟨p.1,p.2,hp,e.symm⟩
   have kF:((a,d,b):aT)∈l:=by
    obtain⟨t,ht,e1,e2⟩:=yg (pd i5)
    obtain⟨t1,t2⟩:=t
    simp only at e1 e2
    subst e1 e2
    exact ht
   have YL:=(ck _ kF).2.2.2
   have tk:(mM l a).take (j+1)=(mM l a).take j++[(d,b)]:=by rw[AJ,i5];rfl
   have iZ':20+i*(l.length*20)+j*20<=8000000:=by
    have h1:i*(l.length*20)<=20*(10000*20):=L7 (by lia) (by lia)
    lia
   walk_at "q"
   by_cases hd:d = "*"
   ·refine R.F (by simp[hd]) ?_
    walk_at "q"
    refine hN _ ⟨ps,_,_,hp,fun p fo fI=>?_,by lia,rfl⟩
    rw[tk] at fo
    rcases dz.mp fo with fo|fo
    ·exact hq p fo fI
    ·rw[ot.mp fo] at fI;exact absurd hd fI
   ·refine R.T (by simp[hd]) ?_
    obtain⟨ys,ey,ry⟩:=Q6.get YL
    have hyl:=ry.len ck YL hm.2
    walk_at "q"
    refine⟨_,ey,?_⟩
    rw[show ya ys=D.list (ys.map .int) from rfl]
    walk_at "q"
    refine cY (fun _=>true) (fun x=>match x with
     |.int q=>bX (s,d,q)
     |x=>x) (fun ρ=>∃ o,ρ=[o,some (.sh (.str d)),some (.sh (.int s))]) _ _ _ ⟨_,rfl⟩ ?_ ?_
    ·rintro x hx ρ ⟨o,rfl⟩ N1 N2 n1 n2
     obtain⟨c,_,rfl⟩:=dk.mp hx
     walk_at "q"
     exact⟨.inl rfl,n2 _ ⟨_,rfl⟩ rfl⟩
    have e1:((ys.map D.int).filter fun _=>true).map (fun x=>match x with
      |.int q=>bX (s,d,q)
      |x=>x)=(ys.map fun q=>((s,d,q):aT)).map bX:=by
     rw[LW.mpr fun _ _=>rfl,i9,i9]
     rfl
    rw[e1]
    refine⟨du _,by simp only[bT];lia,?_⟩
    rw[vo]
    refine hN _ ⟨ps++ys.map fun q=>(s,d,q),_,_,⟨fun t ht=>?_,fun q x2=>iS _ (hp.st q x2),fun c hc d' b' T1 RJ q x2=>iS _ (hp.nx c hc d' b' T1 RJ q x2)⟩,fun p fo fI q x2=>?_,by rw[kz,bT];lia,rfl⟩
    ·rcases dz.mp ht with ht|ht
     ·exact hp.ok t ht
     ·obtain⟨q,x2,rfl⟩:=dk.mp ht
      exact⟨rfl,.inr ⟨hd,a,b,YJ,kF,(ry.mem q).mp x2⟩⟩
    ·rw[tk] at fo
     rcases dz.mp fo with fo|fo
     ·exact iS _ (hq p fo fI q x2)
     ·rw[ot.mp fo] at x2 ⊢
      exact fw _ (dk.mpr ⟨q,(ry.mem q).mpr x2,rfl⟩)
  ·clear hp fi
   rintro ρ ⟨ps,o5,o6,hp,hq,fi,rfl⟩
   rw[bT] at hq fi
   rw[sQ] at hq
   have tk:xs.take (i+1)=xs.take i++[a]:=by rw[AJ,ha];rfl
   refine hN _ ⟨ps,_,_,_,⟨hp.ok,hp.st,fun c hc d b kF hd q hr=>?_⟩,?_,rfl⟩
   ·rw[tk] at hc
    rcases dz.mp hc with hc|hc
    ·exact hp.nx c hc d b kF hd q hr
    ·rw[ot.mp hc] at kF
     exact hq (d,b) (yq kF) hd q hr
   ·have:(i+1)*(l.length*20)=i*(l.length*20)+l.length*20:=by rw[Nat.add_mul,My]
    lia
 ·rintro ρ ⟨ps,o4,o5,o6,hp,fi,rfl⟩
  rw[bT] at hp
  walk_at "q"
  refine G5 (m:=.sh) (U:=D3 names s) (by rw[pI];lia) (fun t ht=>?_) fun out up mem=>h out ⟨up,fun t=>(mem t).trans ⟨hp.ok t,fun⟨e,es⟩=>?_⟩⟩
  ·obtain⟨e,es⟩:=hp.ok t ht
   have ok:=es.in ck (by rw[e];exact hs)
   exact pY e (es.nm yb hz) ⟨ok.2.2.2.1,by have:=ok.2.2.2.2;lia⟩
  ·obtain⟨t1,t2,t3⟩:=t
   simp only at e
   subst e
   rcases es with⟨e2,r⟩|⟨ne,a,b,r1,m,r2⟩
   ·simp only at e2 r
    subst e2
    exact hp.st _ ((rx.mem _).mpr r)
   ·exact hp.nx a (by rw[sQ];exact(rx.mem a).mpr r1) _ b m ne _ r2
def dO:WS :=
 (cf (mn (wB (aw Fu (av 1) (i6 z5 (av 0))))
 (oD (aw eW (av 0) (av 1)))
 dG)
 (oD (wC (.int 0))))
def aD:iO:=fun ds Q=>∃ (ns:List Int) (k:Int),ds=[.list (ns.map .int),.int k]/\0<=k/\Q .sh (.int (ns.getD k.toNat 0))
theorem jF (ds Q) (h:aD ds Q):ds.length=["_law_script", "_law_k"].length:=by obtain⟨_,_,rfl,_⟩:=h;rfl
theorem m8:∀ ds Q,aD ds Q->dO { nx:=fun _=>Q .sh .non,rt:=Q } (a_ 2 ds):=by
 rintro ds Q ⟨ns,k,rfl,hk,h⟩
 unfold dO
 walk_at "q"
 refine R.D (fun hl=>?_) fun hl=>?_
 ·walk_at "q"
  have hn:k.toNat<ns.length:=by lia
  refine⟨.int ns[k.toNat],?_,?_⟩
  ·have:=HV (xs:=ns.map D.int) (j:=k.toNat) (v:=.int ns[k.toNat]) (by simp[hn])
   rwa[EE hk] at this
  ·show Q .sh _;simpa[List.getD,hn] using h
 ·walk_at "q"
  have:ns.getD k.toNat 0=0:=by
   have:ns.length<=k.toNat:=by lia
   simp[List.getD,wo this]
  rwa[this] at h
def gn:WS :=
 (cf (eB 1 (wC (.str "abcdefghijklmnopqrstuvwxyz")))
 (cf (eB 2 (aw gV (aw eW (av 1) (aw gX (aw i7 (av 0) (wC (.int 6))) (wC (.int 26)))) (aw zJ (aw eW (av 1) (aw gX (aw i7 (av 0) (wC (.int 156))) (wC (.int 26)))) (aw gX (aw i7 (av 0) (wC (.int 4056))) (wC (.int 5))))))
 (fq 2 (oD (BH (aw eW (nS (ak (nS (ak (av 2) (ak (aw gV (av 2) (wC (.str "a"))) (ak (wC (.str "*")) b9)))) (ak (nS (ak (wC (.str "*")) (ak (av 2) (ak (aw gV (wC (.str "b")) (BH (av 2) (jE (wC (.int 1))) ig)) b9)))) b9))) (aw gX (av 0) (wC (.int 2)))) ig (jE (aw gV (wC (.int 1)) (aw gX (aw i7 (av 0) (wC (.int 2))) (wC (.int 3))))))))))
def bu:iO:=fun ds Q=>∃ c:Int,ds=[.int c]/\∀ names:List Str,1<=names.length->names.length<=3->(∀ n∈names,AB n)->Q (.ow true) (.list (names.map .str))
theorem m5 (ds Q) (h:bu ds Q):ds.length=["_law_cell"].length:=by obtain⟨_,rfl,_⟩:=h;rfl
theorem z_{x:Str}(h:lets x)(n:Int):lets (oo n x):=fun c hc=>by
 unfold oo sg at hc
 rw[List.toList_toArray] at hc
 obtain⟨y,hy,hc⟩:=Rt.mp hc
 rw[List.eq_of_mem_replicate hy] at hc
 exact h c hc
theorem qR:∀ ds Q,bu ds Q->gn { nx:=fun _=>Q .sh .non,rt:=Q } (a_ 3 ds):=by
 rintro ds Q ⟨c,rfl,h⟩
 unfold gn
 walk_at "q"
 obtain⟨c1,e1,l1⟩:=yW (c / 6)
 obtain⟨c2,e2,l2⟩:=yW (c / 156)
 have h5:=eF (c / 4056) (show(0:Int)<5 by decide)
 generalize c / 4056 % 5=k at *
 refine⟨c1,e1,c2,e2,?_⟩
 have hl:(⟨#[c1]⟩++oo k ⟨#[c2]⟩:Str).length=1+k.toNat:=by rw[cC,p_,aZ,aZ];lia
 have hb:lets (⟨#[c1]⟩++oo k ⟨#[c2]⟩:Str):=oK (jP l1) (z_ (jP l2) k)
 have hr:(oo k ⟨#[c2]⟩).length=k.toNat:=by rw[p_,aZ];lia
 have ha:("a" : Str)=⟨#[97]⟩:=by decide +kernel
 have Sw:("b" : Str)=⟨#[98]⟩:=by decide +kernel
 rw[hr,ha,Sw,aZ,aZ,aZ,aZ]
 generalize (⟨#[c1]⟩++oo k ⟨#[c2]⟩:Str)=base at *
 have hc:=uT base (some 1) none
 have d1:AB base:=.inr ⟨by lia,by lia,hb⟩
 have d2:AB (base ++ ⟨#[97]⟩):=.inr ⟨by rw[cC,aZ];lia,by rw[cC,aZ];lia,oK hb (jP rfl)⟩
 have d3:AB (⟨#[98]⟩++rq base (some 1) none):=.inr ⟨by rw[cC,aZ];lia,by rw[cC,aZ];lia,oK (jP rfl) (Ax hb _ _)⟩
 generalize base ++ ⟨#[97]⟩=w2 at *
 generalize ⟨#[98]⟩++rq base (some 1) none=w3 at *
 have h3:=eF (c / 2) (show(0:Int)<3 by decide)
 refine⟨⟨h5.1,by lia,by lia⟩,by lia,by lia,by lia,?_⟩
 have fin:∀ ns:List Str,ns.length=3->(∀ n∈ns,AB n)->Q (.ow true) (.list (gp (ns.map .str) none (some (1+c / 2 % 3)))):=fun ns e hd=>by
  rw[vf]
  have hc:=Bw (l:=ns) (a:=0) (b:=1+c / 2 % 3) (by lia) (by lia) (by lia)
  have e2:gp ns none (some (1+c / 2 % 3))=gp ns (some 0) (some (1+c / 2 % 3)):=by unfold gp;rw[pN (qB 0) (by lia)];rfl
  rw[e2]
  exact h _ hc.1 (by lia) fun n hn=>hd n (hc.2.2 n hn)
 rcases (show c % 2=0\/c % 2=1 by lia) with e|e
 ·rw[e]
  refine⟨_,rfl,?_⟩
  walk_at "q"
  refine .inl (fin [base,w2, "*"] rfl fun n hn=>?_)
  simp only[dA,wt,or_false] at hn
  rcases hn with rfl|rfl|rfl
  ·exact d1
  ·exact d2
  ·exact .inl rfl
 ·rw[e]
  refine⟨_,rfl,?_⟩
  walk_at "q"
  refine .inl (fin ["*",base,w3] rfl fun n hn=>?_)
  simp only[dA,wt,or_false] at hn
  rcases hn with rfl|rfl|rfl
  ·exact .inl rfl
  ·exact d1
  ·exact d3
def jj:WS :=
 (cf (eB 2 lH)
 (cf (fq 1 (nV (cU (av 1)) (gN 3)
 (qO (om 2) (av 3) (wC (.bl true)))))
 (cf (eB 4 (gm (fL (aw eW (av 0) (wC (.int 0)))) (gN 0) uj (gm (jr (aw eW (av 1) (wC (.int 1)))) (gN 0) (wB (aw nL (aw eW (av 0) (wC (.int 0))) (av 1))) (av 0) 1 [0]) 1 [0]))
 (cf (fq 4 (nV (cU (i6 rG (av 2))) (gT 2 (cB (gN 5) (cB (gN 6) mX)))
 (fq 4 (nV (cU (aw eW (av 4) (av 5))) (gN 7)
 (cf (eB 8 (gm (jr (aw eW (av 4) (av 6))) (gN 0) (Fm (wB (aw nL (aw eW (av 0) (wC (.int 1))) (aw eW (av 2) (wC (.int 1))))) (wB (aw (DH false) (g7 (ak (aw eW (av 2) (wC (.int 2))) (ak (aw eW (av 0) (wC (.int 2))) b9))) (av 1)))) (av 0) 1 [2,7]))
 (mn (wB (aw nL (av 8) (nS b9)))
 (oD (wC (.bl false)))
 dG))))))
 (oD (wC (.bl true)))))))
def bY:iO:=fun ds Q=>∃ (many:Int) (l:List aT) (ps:List P2),ds=[mD many l,.list (ps.map cw)]/\(0<=many/\many<=1000)/\ky many l/\l.length<=1000/\ps.length<=10000/\(∀ p∈ps,gv many p)/\∀ b,(b=true↔SM l ps)->Q .sh (.bl b)
theorem qx (ds Q) (h:bY ds Q):ds.length=["_law_m", "_law_pairs_here"].length:=by obtain⟨_,_,_,rfl,_⟩:=h;rfl
def yi(l:List aT)(s:Int):List aT:=l.filter fun t=>decide (t.1=s)
def FV(many:Int)(l:List aT):List D:=(cV many.toNat).map fun s=>.list ((yi l s).map bX)
theorem Hb{many s:Int}(l:List aT)(h0:0<=s)(h1:s<many):fR (FV many l) s=some (.list ((yi l s).map bX)) :=
 wJ (uh h0 (by simp[FV,jc];lia)) (by
  have:s.toNat<many.toNat:=by lia
  simp[FV,cV,this,EE h0])
def isAt(s:Int):D->Bool
 |.tup [.int a,_,_]=>decide (a=s)
 |_=>false
theorem Ag(l:List aT)(s:Int):((l.map bX).filter (isAt s)).map id=(yi l s).map bX:=by
 rw[List.map_id,List.filter_map]
 rfl
def Og(d:Str)(e:Int)(ks:List P2):D->Bool
 |.tup [_,.str x,.int o]=>decide (x=d) && decide ((e,o)∈ks)
 |_=>false
def Q7(l:List aT)(q:Int)(d:Str)(e:Int)(ks:List P2):List aT:=(yi l q).filter fun t=>decide (t.2.1=d) && decide ((e,t.2.2)∈ks)
theorem zH(l:List aT)(q:Int)(d:Str)(e:Int)(ks:List P2):(((yi l q).map bX).filter (Og d e ks)).map id=(Q7 l q d e ks).map bX:=by
 rw[List.map_id,List.filter_map]
 rfl
theorem xZ{l:List aT}{q e:Int}{d:Str}{ks:List P2}:Q7 l q d e ks≠[]↔∃ o,(q,d,o)∈l/\(e,o)∈ks:=by
 constructor
 ·intro h
  obtain⟨⟨a,b,o⟩,hm⟩:=List.exists_mem_of_ne_nil _ h
  obtain⟨h1,h2⟩:=sR.mp hm
  obtain⟨h5,h3⟩:=sR.mp h1
  rw[kH] at h2
  have h3:a=q:=of_decide_eq_true h3
  have h4:b=d:=of_decide_eq_true h2.1
  subst h3 h4
  exact⟨o,h5,of_decide_eq_true h2.2⟩
 ·rintro⟨o,h1,h2⟩ z
  have:(q,d,o)∈Q7 l q d e ks:=sR.mpr ⟨sR.mpr ⟨h1,decide_eq_true rfl⟩,by simp[h2]⟩
  rw[z] at this
  exact nomatch this
theorem tQ(l:List aT):kG (.list (l.map bX)) (.list [])=decide (l=[]):=by
 rw[wx,pA _ _ (show D.nb (.list (l.map bX))=true from tD l) rfl,decide_eq_true_iff]
 cases l<;>simp
theorem yS{l:List aT}{s:Int}{t:aT}:t∈yi l s↔t∈l/\t.1=s:=by
 unfold yi
 rw[sR,decide_eq_true_iff]
theorem vA:∀ ds Q,bY ds Q->jj { nx:=fun _=>Q .sh .non,rt:=Q } (a_ 9 ds):=by
 rintro ds Q ⟨many,l,ps,rfl,hm,ck,hl,Oh,hr,h⟩
 unfold jj mD
 walk_at "q"
 refine bF _ (fun i ρ=>∃ (ks:List P2) (o3:Option Sl),BU (ps.take i) ks/\ρ=[some (.sh (.tup [.int many,.list (l.map bX)])),some (.sh (.list (ps.map cw))),some (.ow true (.dT (n5 ks))),o3,none,none,none,none,none]) ⟨[],_,BU.nil,rfl⟩ ?_ ?_
 ·rintro i x ρ hx ⟨ks,o3,hd,rfl⟩ N hN
  obtain⟨p,q,rfl,hm,tk⟩:=wZ hx
  have DT:=hd.len
  rw[mS] at DT
  walk_at "q"
  refine⟨by rw[jL];lia,?_⟩
  have e:=uH ks (p,q)
  unfold oS at e
  rw[e]
  exact hN _ ⟨_,_,by rw[tk];exact hd.put (p,q),rfl⟩
 rintro ρ ⟨ks,o3,hd,rfl⟩
 rw[bT,sQ] at hd
 walk_at "q"
 refine⟨by lia,by lia,?_⟩
 refine cY (fun _=>true) (QY fun s=>.list ((yi l s).map bX)) (fun ρ=>∃ o,ρ=[o,some (.sh (.tup [.int many,.list (l.map bX)]))]) _ _ _ ⟨_,rfl⟩ ?_ ?_
 ·rintro x hx ρ ⟨o,rfl⟩ N1 N2 n1 n2
  obtain⟨j,hj,rfl⟩:=dk.mp hx
  walk_at "q"
  refine cY (isAt (0+(j:Nat))) id (fun ρ=>∃ o,ρ=[o,some (.sh (.int (0+(j:Nat))))]) _ _ _ ⟨_,rfl⟩ ?_ ?_
  ·rintro y hy ρ ⟨o,rfl⟩ M1 M2 m1 m2
   obtain⟨⟨a,b,c⟩,hy,rfl⟩:=dk.mp hy
   rw[show bX (a,b,c)=.tup [.int a,.str b,.int c] from rfl] at m1 m2 ⊢
   walk_at "q"
   by_cases e:a=0+(j:Nat)
   ·rw[if_pos (decide_eq_true e)]
    exact⟨.inl rfl,m2 _ ⟨_,rfl⟩ (decide_eq_true e)⟩
   ·rw[if_neg (by rw[decide_eq_true_iff];exact e)]
    exact m1 _ ⟨_,rfl⟩ (decide_eq_false e)
  rw[Ag]
  exact⟨.inr rfl,n2 _ ⟨_,rfl⟩ rfl⟩
 rw[show(((jY 0 many.toNat).filter fun _=>true).map (QY fun s=>.list ((yi l s).map bX)))=FV many l by
  rw[LW.mpr fun _ _=>rfl];unfold jY FV cV;rw[i9,i9];refine GA fun i _=>?_;show D.list ((yi l (0+(i:Nat))).map bX)=_;rw[Int.zero_add];rfl]
 refine bF _ (fun i ρ=>∃ (o5 o6 o7 o8:Option Sl),(∀ p∈ks.take i,B1 l ks p.1 p.2)/\ρ=[some (.sh (.tup [.int many,.list (l.map bX)])),some (.sh (.list (ps.map cw))),some (.ow true (.dT (n5 ks))),o3,some (.sh (.list (FV many l))),o5,o6,o7,o8]) ⟨_,_,_,_,(fun p hp=>by simp at hp),rfl⟩ ?_ ?_
 ·rintro i x ρ hx ⟨o5,o6,o7,o8,hi,rfl⟩ N hN
  have hx:(ks.map cw)[i]? = some x:=by rw[<- Bq];exact hx
  obtain⟨p,q,rfl,kF,tk⟩:=wZ hx
  have FX:=hr _ ((hd.mem _).mp kF)
  walk_at "q"
  refine⟨_,Hb l FX.1.1 FX.1.2,?_⟩
  walk_at "q"
  refine bF _ (fun j ρ=>∃ (o7 o8:Option Sl),(∀ t∈(yi l p).take j,∃ o,(q,t.2.1,o)∈l/\(t.2.2,o)∈ks)/\ρ=[some (.sh (.tup [.int many,.list (l.map bX)])),some (.sh (.list (ps.map cw))),some (.ow true (.dT (n5 ks))),o3,some (.sh (.list (FV many l))),some (.sh (.int p)),some (.sh (.int q)),o7,o8]) ⟨_,_,(fun p hp=>by simp at hp),rfl⟩ ?_ ?_
  ·rintro j x ρ hx ⟨o7,o8,hj,rfl⟩ N hN
   obtain⟨a,d,e,rfl,mE,Qy⟩:=uX hx
   have YM:=yS.mp mE
   have hm4:a=p:=YM.2
   subst hm4
   walk_at "q"
   refine⟨_,Hb l FX.2.1 FX.2.2,?_⟩
   walk_at "q"
   refine cY (Og d e ks) id (fun ρ=>∃ o,ρ=[o,some (.sh (.dT (n5 ks))),some (.sh (.tup [.int a,.str d,.int e]))]) _ _ _ ⟨_,rfl⟩ ?_ ?_
   ·rintro y hy ρ ⟨o,rfl⟩ M1 M2 m1 m2
    obtain⟨⟨b,c,f⟩,hy,rfl⟩:=dk.mp hy
    rw[show bX (b,c,f)=.tup [.int b,.str c,.int f] from rfl] at m1 m2 ⊢
    walk_at "q"
    by_cases e1:c=d
    ·rw[decide_eq_true e1]
     walk_at "q"
     have e2:=uN ks (e,f)
     unfold oS at e2
     rw[e2]
     by_cases e3:(e,f)∈ks
     ·rw[if_pos (decide_eq_true e3)]
      exact⟨.inl rfl,m2 _ ⟨_,rfl⟩ (by simp[Og,e1,e3])⟩
     ·rw[if_neg (by rw[decide_eq_true_iff];exact e3)]
      exact m1 _ ⟨_,rfl⟩ (by simp[Og,e3])
    ·rw[decide_eq_false e1]
     walk_at "q"
     exact m1 _ ⟨_,rfl⟩ (by simp[Og,e1])
   rw[zH]
   refine⟨ym 10 (fun s hs=>ck s (yS.mp (sR.mp hs).1).1),rfl,?_⟩
   rw[tQ]
   by_cases z:Q7 l q d e ks=[]
   ·rw[decide_eq_true z]
    walk_at "q"
    refine h false ⟨(fun y=>by cases y),fun y=>absurd z (xZ.mpr ?_)⟩
    have y:SM l ps:=y
    obtain⟨o,ho,m⟩:=y _ ((hd.mem _).mp kF) d e YM.1
    exact⟨o,ho,(hd.mem _).mpr m⟩
   ·rw[decide_eq_false z]
    walk_at "q"
    exact hN _ ⟨_,_,iI Qy hj (xZ.mp z),rfl⟩
  ·rintro ρ ⟨o7,o8,hj,rfl⟩
   rw[bT,sQ] at hj
   exact hN _ ⟨_,_,_,_,iI tk hi fun d e he=>hj (p,d,e) (yS.mpr ⟨he,rfl⟩),rfl⟩
 ·rintro ρ ⟨o5,o6,o7,o8,hi,rfl⟩
  rw[bT,jL,sQ] at hi
  walk_at "q"
  exact h true ⟨fun _ p hp=>(B1.congr hd.mem).mp (hi p ((hd.mem p).mpr hp)),fun _=>rfl⟩
def fj:WS :=
 (fq 1 (nV (cU (av 1)) (gN 2)
 (cf (qz aP (ak (av 0) (ak (aw eW (av 2) (wC (.int 0))) b9)))
 (qz aP (ak (av 0) (ak (aw eW (av 2) (wC (.int 1))) b9))))))
def aX:iO:=fun ds Q=>∃ (many:Int) (l:List aT) (ps:List P2),ds=[mD many l,.list (ps.map cw)]/\((∀ p∈ps,gv many p)->Q .sh .non)/\((∃ p∈ps,¬ gv many p)->Q (.ow false) (.str "NoState"))
theorem kJ (ds Q) (h:aX ds Q):ds.length=["m", "pairs"].length:=by obtain⟨_,_,_,rfl,_⟩:=h;rfl
theorem oM:∀ ds Q,aX ds Q->fj { nx:=fun _=>Q .sh .non,rt:=Q } (a_ 3 ds):=by
 rintro ds Q ⟨many,l,ps,rfl,h1,h2⟩
 unfold fj mD
 walk_at "q"
 refine bF _ (fun i ρ=>∃ o:Option Sl,(∀ p∈ps.take i,gv many p)/\ρ=[some (.sh (.tup [.int many,.list (l.map bX)])),some (.sh (.list (ps.map cw))),o]) ⟨_,(fun p hp=>by simp at hp),rfl⟩ ?_ ?_
 ·rintro i x ρ hx ⟨o,hi,rfl⟩ N hN
  obtain⟨p,q,rfl,hm,tk⟩:=wZ hx
  walk_at "q"
  refine⟨many,l,p,rfl,fun a=>?_,fun a=>?_⟩
  ·walk_at "q"
   refine⟨many,l,q,rfl,fun b=>?_,fun b=>?_⟩
   ·walk_at "q"
    exact hN _ ⟨_,iI tk hi ⟨a,b⟩,rfl⟩
   ·walk_at "q"
    exact h2 ⟨_,hm,fun z=>b z.2⟩
  ·walk_at "q"
   exact h2 ⟨_,hm,fun z=>a z.1⟩
 ·rintro ρ ⟨o,hi,rfl⟩
  rw[bT,sQ] at hi
  exact h1 hi
def dB:WS :=
 (cf (eB 2 lH)
 (cf (fq 1 (nV (cU (av 1)) (gN 3)
 (qO (om 2) (av 3) (wC (.bl true)))))
 (cf (eB 4 (cG bJ (ak (av 0) b9)))
 (cf (eB 5 (cG bZ (ak (av 0) b9)))
 (cf (fq 5 (fq 4 (fq 2 (Ci (av 2) (gT 2 (cB (gN 6) (cB (gN 7) mX)))
 (fq 4 (nV (cU (aw eW (av 4) (av 6))) (gT 2 (cB (gN 8) (cB (gN 9) mX)))
 (fq 8 (fq 7 (fq 9 (mn (IY (wB (i6 Uj (gm (jr (N_ (av 5) (g7 (ak (av 7) (ak (av 8) b9))) (KP (nS b9)))) (gN 0) uj (aw (DH false) (g7 (ak (av 1) (ak (av 0) b9))) (av 2)) 1 [9,2]))))
 (oD (wC (.bl false)))
 dG))))))))))
 (oD (wC (.bl true))))))))
def aM:iO:=fun ds Q=>∃ (many:Int) (l:List aT) (ps:List P2),ds=[mD many l,.list (ps.map cw)]/\(0<=many/\many<=1000)/\ky many l/\l.length<=1000/\ps.length<=10000/\(∀ p∈ps,gv many p)/\∀ b,(b=true↔SM l ps)->Q .sh (.bl b)
theorem je (ds Q) (h:aM ds Q):ds.length=["m", "pairs"].length:=by obtain⟨_,_,_,rfl,_⟩:=h;rfl
theorem kI:∀ ds Q,aM ds Q->dB { nx:=fun _=>Q .sh .non,rt:=Q } (a_ 10 ds):=by
 rintro ds Q ⟨many,l,ps,rfl,hm,ck,hl,Oh,hr,h⟩
 unfold dB mD
 walk_at "q"
 refine bF _ (fun i ρ=>∃ (ks:List P2) (o3:Option Sl),BU (ps.take i) ks/\ρ=[some (.sh (.tup [.int many,.list (l.map bX)])),some (.sh (.list (ps.map cw))),some (.ow true (.dT (n5 ks))),o3,none,none,none,none,none,none]) ⟨[],_,BU.nil,rfl⟩ ?_ ?_
 ·rintro i x ρ hx ⟨ks,o3,hd,rfl⟩ N hN
  obtain⟨p,q,rfl,hm,tk⟩:=wZ hx
  have DT:=hd.len
  rw[mS] at DT
  walk_at "q"
  refine⟨by rw[jL];lia,?_⟩
  have e:=uH ks (p,q)
  unfold oS at e
  rw[e]
  exact hN _ ⟨_,_,by rw[tk];exact hd.put (p,q),rfl⟩
 rintro ρ ⟨ks,o3,hd,rfl⟩
 rw[bT,sQ] at hd
 walk_at "q"
 refine⟨many,l,rfl,hm,ck,by lia,?_⟩
 walk_at "q"
 refine⟨many,l,rfl,by lia,fun kvs hw=>?_⟩
 walk_at "q"
 refine bF _ (fun i ρ=>∃ (o6 o7 o8 o9:Option Sl),(∀ p∈ks.take i,B1 l ks p.1 p.2)/\ρ=[some (.sh (.tup [.int many,.list (l.map bX)])),some (.sh (.list (ps.map cw))),some (.sh (.dT (n5 ks))),o3,some (.sh (Lv many l)),some (.sh (.dT kvs)),o6,o7,o8,o9]) ⟨_,_,_,_,(fun p hp=>by simp at hp),rfl⟩ ?_ ?_
 ·rintro i x ρ hx ⟨o6,o7,o8,o9,hi,rfl⟩ N hN
  rw[Bq] at hx
  obtain⟨p,q,rfl,kF,tk⟩:=wZ hx
  have FX:=hr _ ((hd.mem _).mp kF)
  walk_at "q"
  refine⟨_,GX l FX.1.1 FX.1.2,?_⟩
  walk_at "q"
  refine bF _ (fun j ρ=>∃ (o8 o9:Option Sl),(∀ t∈(mM l p).take j,∃ o,(q,t.1,o)∈l/\(t.2,o)∈ks)/\ρ=[some (.sh (.tup [.int many,.list (l.map bX)])),some (.sh (.list (ps.map cw))),some (.sh (.dT (n5 ks))),o3,some (.sh (Lv many l)),some (.sh (.dT kvs)),some (.sh (.int p)),some (.sh (.int q)),o8,o9]) ⟨_,_,(fun p hp=>by simp at hp),rfl⟩ ?_ ?_
  ·rintro j x ρ hx ⟨o8,o9,hj,rfl⟩ N hN
   obtain⟨d,e,rfl,mE,Qy⟩:=HX hx
   walk_at "q"
   refine uc hw ?_
   walk_at "q"
   refine cY (fun _=>true) (QY fun o=>.bl (decide ((e,o)∈ks))) (fun ρ=>∃ o,ρ=[o,some (.sh (.int e)),some (.sh (.dT (n5 ks)))]) _ _ _ ⟨_,rfl⟩ ?_ ?_
   ·rintro x hx ρ ⟨o,rfl⟩ N1 N2 n1 n2
    obtain⟨c,hc,rfl⟩:=dk.mp hx
    walk_at "q"
    have e1:=uN ks (e,c)
    unfold oS at e1
    rw[e1]
    exact⟨.inl rfl,n2 _ ⟨_,rfl⟩ rfl⟩
   rw[CK]
   refine⟨(cu l q d).map fun o=>decide ((e,o)∈ks),by rw[i9];rfl,?_⟩
   refine R.B (fun hb=>?_) fun hb=>?_
   ·walk_at "q"
    have hb:((cu l q d).map fun o=>decide ((e,o)∈ks)).any (fun b=>b)=false:=by simpa using hb
    refine h false ⟨(fun z=>by cases z),fun z=>?_⟩
    have z:SM l ps:=z
    obtain⟨o,ho,m⟩:=z _ ((hd.mem _).mp kF) d e (wO.mp mE)
    have:((cu l q d).map fun o=>decide ((e,o)∈ks)).any (fun b=>b)=true:=GH.mpr ⟨_,dk.mpr ⟨o,jO.mpr ho,rfl⟩,decide_eq_true ((hd.mem _).mpr m)⟩
    rw[hb] at this
    exact this
   ·walk_at "q"
    have hb:((cu l q d).map fun o=>decide ((e,o)∈ks)).any (fun b=>b)=true:=by simpa using hb
    rw[List.any_map] at hb
    obtain⟨o,ho,z⟩:=GH.mp hb
    exact hN _ ⟨_,_,iI Qy hj ⟨o,jO.mp ho,of_decide_eq_true z⟩,rfl⟩
  ·rintro ρ ⟨o8,o9,hj,rfl⟩
   rw[bT,sQ] at hj
   exact hN _ ⟨_,_,_,_,iI tk hi fun d e he=>hj (d,e) (wO.mpr he),rfl⟩
 ·rintro ρ ⟨o6,o7,o8,o9,hi,rfl⟩
  rw[bT,jL,sQ] at hi
  walk_at "q"
  exact h true ⟨fun _ p hp=>(B1.congr hd.mem).mp (hi p ((hd.mem p).mpr hp)),fun _=>rfl⟩
def rY:WS :=
 (cf (eB 1 (cG bZ (ak (av 0) b9)))
 (cf (eB 2 (cG bJ (ak (av 0) b9)))
 (cf (eB 3 (gm (fL (aw eW (av 0) (wC (.int 0)))) (gN 0) uj (i6 yM (cG bf (ak (av 1) (ak (av 0) b9)))) 1 [1]))
 (cf (eB 4 (nS b9))
 (cf (nV (fL (aw eW (av 0) (wC (.int 0)))) (gN 5)
 (QQ (om 4) (cG bz (ak (av 2) (ak (av 3) (ak (av 5) b9))))))
 (yr [.inl (aw eW (av 0) (wC (.int 0))),.inr 4]))))))
theorem Ez.len {many:Int} {l out:List aT} {names:List Str} {s:Int} (z:Ez many l s out) (ck:ky many l) (hs:0<=s/\s<many) (hm:many<=20) (yb:D2 names l) (hz:("*" : Str)∈names) (LB:names.length<=8):out.length<=160:=by
 have nd:out.Nodup:=z.up.imp fun {a b} q e=>by subst e;unfold AF at q;rw[oO] at q;cases q
 have:=dg (m:=D3 names s) nd fun t ht=>by
  obtain⟨e,es⟩:=(z.mem t).mp ht
  have ok:=es.in ck (by rw[e];exact hs)
  exact pY e (es.nm yb hz) ⟨ok.2.2.2.1,by have:=ok.2.2.2.2;lia⟩
 rw[pI] at this
 lia
def eZ:iO:=fun ds Q=>∃ (many:Int) (l:List aT) (names:List Str),ds=[mD many l]/\(1<=many/\many<=20)/\ky many l/\D2 names l/\("*" : Str)∈names/\names.length<=8/\l.length<=1000/\∀ out,Od many l out->out.length<=3200->Q (.ow true) (mD many out)
theorem xJ (ds Q) (h:eZ ds Q):ds.length=["m"].length:=by obtain⟨_,_,_,rfl,_⟩:=h;rfl
theorem DX:∀ ds Q,eZ ds Q->rY { nx:=fun _=>Q .sh .non,rt:=Q } (a_ 6 ds):=by
 rintro ds Q ⟨many,l,names,rfl,hm,ck,yb,hz,LB,hl,h⟩
 unfold rY
 rw[show a_ 6 [mD many l]=[some (.sh (mD many l)),none,none,none,none,none] from rfl]
 walk_at "q"
 refine⟨many,l,rfl,by lia,fun kvs hw=>?_⟩
 walk_at "q"
 refine⟨many,l,rfl,by lia,ck,by lia,?_⟩
 unfold Lv mD
 walk_at "q"
 refine⟨by lia,by lia,?_⟩
 refine gw (fun n out=>∃ rs:List (List Int),out=rs.map ya/\rs.length=n/\∀ (i:Nat) xs,rs[i]? = some xs->Lc l i xs) (fun ρ=>∃ o,ρ=[o,some (.sh (.dT kvs))]) _ 0 [] _ _ ⟨_,rfl⟩ ⟨[],rfl,rfl,fun i k hk=>by simp at hk⟩ ?_ ?_
 ·rintro j y hy ρ ⟨o,rfl⟩ out ⟨rs,rfl,Q8,E4⟩ N1 N2 A8
  have hj:=(jh hy).1
  obtain⟨_,rfl⟩:=jh hy
  walk_at "q"
  refine⟨kvs,0+(j:Nat),many,l,rfl,hw,ck,hm.2,by lia,fun kd ks ek nd mem=>?_⟩
  walk_at "q"
  refine sort_keys (Q:=fun m d=>NV m d/\N2 [some (.sh (.int (0+(j:Nat)))),some (.sh (.dT kvs))] d) ek nd mem fun xs hx=>?_
  refine⟨.inr rfl,A8 _ _ ⟨_,rfl⟩ ⟨rs++[xs],by simp[ya],by simp[Q8],fun i k' iF=>?_⟩⟩
  rcases Nat.lt_or_ge i rs.length with hi|hi
  ·rw[FY hi] at iF
   exact E4 i k' iF
  ·rw[AI hi] at iF
   have rp:i-rs.length=0:=by
    rcases Nat.eq_zero_or_pos (i-rs.length) with z|z
    ·exact z
    ·rw[wo (by simp;lia)] at iF;cases iF
   rw[rp] at iF
   cases iF
   have:((i:Nat):Int)=0+(j:Nat):=by lia
   rw[this]
   exact hx
 rintro out ⟨rs,e,Q8,E4⟩
 simp only[OQ] at e
 subst e
 rw[iT,Mb] at Q8
 have Q6:Q5 many l rs:=⟨Q8,E4⟩
 refine⟨by lia,by lia,?_⟩
 refine bF _ (fun i ρ=>∃ (ps:List aT) (o5:Option Sl),ps.Pairwise (fun a b=>AF a b=true)/\(∀ t,t∈ps↔(0<=t.1/\t.1<(i:Nat))/\Es l t)/\ps.length<=i*160/\ρ=[some (.sh (.tup [.int many,.list (l.map bX)])),some (.ow true (.dT kvs)),some (.ow true (.list (se many l))),some (.ow true (.list (rs.map ya))),some (.ow true (.list (ps.map bX))),o5]) ⟨[],_,.nil,fun t=>?_,by simp,rfl⟩ ?_ ?_
 ·simp
  lia
 ·rintro i x ρ hx ⟨ps,o5,up,mem,fi,rfl⟩ N hN
  obtain⟨hi,rfl⟩:=jh hx
  walk_at "q"
  refine⟨many,l,rs,names,0+(i:Nat),rfl,hm,ck,yb,hz,LB,hl,Q6,by lia,fun out K0=>?_⟩
  have N5:=K0.len ck (by lia) hm.2 yb hz LB
  walk_at "q"
  have S_:i*160<=20*160:=L7 (by lia) (bS _)
  refine⟨du _,by lia,?_⟩
  rw[vo]
  refine hN _ ⟨ps++out,_,LS.mpr ⟨up,K0.up,fun a ha b hb=>?_⟩,fun t=>?_,by rw[kz];lia,rfl⟩
  ·have h1:=((mem a).mp ha).1
   have h2:=((K0.mem b).mp hb).1
   obtain⟨a1,a2,a3⟩:=a
   obtain⟨b1,b2,b3⟩:=b
   simp only at h1 h2
   unfold AF fF
   simp only[gi]
   rw[if_neg (by simp;lia)]
   exact decide_eq_true (by lia)
  ·rw[dz,mem,K0.mem]
   constructor
   ·rintro(⟨z,e⟩|⟨z,e⟩)
    ·exact⟨by lia,e⟩
    ·exact⟨by lia,e⟩
   ·rintro⟨z,e⟩
    by_cases q:t.1<(i:Nat)
    ·exact .inl ⟨by lia,e⟩
    ·exact .inr ⟨by lia,e⟩
 ·rintro ρ ⟨ps,o5,up,mem,fi,rfl⟩
  rw[iT] at mem fi
  walk_at "q"
  refine h ps ⟨up,fun t=>?_⟩ (by have:many.toNat*160<=20*160:=L7 (by lia) (bS _);lia)
  rw[mem]
  constructor<;>rintro⟨z,e⟩<;>exact⟨by lia,e⟩
def Uo(names:List Str):List aT:=((cV 10).map (D3 names)).flatten
theorem Ad(names:List Str):(Uo names).length=10*(names.length*20):=by
 unfold Uo
 have:∀ n:Nat,((cV n).map (D3 names)).flatten.length=n*(names.length*20):=fun n=>by
  unfold cV
  rw[i9]
  induction n with
  |zero=>simp
  |succ n ih=>rw[List.range_succ,ll,List.flatten_append,kz,ih,Nat.add_mul,My];simp[pI]
 exact this 10
theorem Od.len {many:Int} {l out:List aT} {names:List Str} (h:Od many l out) (ck:ky many l) (hm:many<=10) (yb:D2 names l) (hz:("*" : Str)∈names) (LB:names.length<=5):out.length<=1000:=by
 have nd:out.Nodup:=h.up.imp fun {a b} q e=>by subst e;unfold AF at q;rw[oO] at q;cases q
 have:=dg (m:=Uo names) nd fun t ht=>by
  obtain⟨e,es⟩:=(h.mem t).mp ht
  have ok:=es.in ck e
  exact Rt.mpr ⟨_,dk.mpr ⟨t.1,jo.mpr (by lia),rfl⟩,pY rfl (es.nm yb hz) ⟨ok.2.2.2.1,by have:=ok.2.2.2.2;lia⟩⟩
 rw[Ad] at this
 lia
def bV:WS :=
 (cf (fq 0 (nV (uK (BH (av 0) (jE (wC (.int 4))) (jE (wC (.int 44))))) (gT 2 (cB (gN 6) (cB (gN 7) mX)))
 (cf (eB 8 (g7 (ak (aw gX (av 7) (av 5)) (ak (aw eW (av 2) (aw gX (aw i7 (aw i7 (av 7) (av 5)) (av 5)) (i6 z5 (av 2)))) (ak (aw gX (aw i7 (av 7) (av 5)) (av 5)) b9)))))
 (cf (qO (om 4) (av 8) (wC (.bl true)))
 (mn (Fm (wB (aw Fu (aw gV (aw eW (av 8) (wC (.int 0))) (av 5)) (av 1))) (wB (aw ui (aw gX (aw i7 (aw i7 (av 3) (wC (.int 2))) (aw gV (aw Ql (av 6) (av 6)) (wC (.int 1)))) (wC (.int 4))) (wC (.int 1)))))
 (cf (eB 9 (aw eW (av 8) (wC (.int 2))))
 (cf (mn (Fm (wB (aw nL (aw gX (aw i7 (aw i7 (av 3) (wC (.int 3))) (aw gV (av 6) (wC (.int 1)))) (wC (.int 2))) (wC (.int 1)))) (wB (aw Fu (aw gV (av 9) (av 5)) (av 1))))
 (eB 9 (aw gV (av 9) (av 5)))
 dG)
 (qO (om 4) (g7 (ak (aw gV (aw eW (av 8) (wC (.int 0))) (av 5)) (ak (aw eW (av 8) (wC (.int 1))) (ak (av 9) b9)))) (wC (.bl true)))))
 dG)))))
 (yr [.inr 1,.inl (i6 nY (i6 rG (av 4)))]))
def dN:WS :=
 (cf (eB 3 (cG aD (ak (av 0) (ak (wC (.int 2)) b9))))
 (cf (eB 4 lH)
 (cf (fq 1 (eB 5 (av 1)))
 (cf (mn (wB (aw nL (aw gX (av 3) (wC (.int 2))) (wC (.int 1))))
 (eB 5 (aw i7 (aw gV (av 1) (wC (.int 1))) (wC (.int 2))))
 dG)
 bV))))
def Q9(many:Int)(names:List Str)(t:aT):Prop:=K2 many t/\t.2.1∈names
def aU:iO:=fun ds Q=>∃ (ns:List Int) (many:Int) (names:List Str),ds=[.list (ns.map .int),.int many,.list (names.map .str)]/\ns.length<=63/\(1<=many/\many<=20)/\1<=names.length/\(∀ n∈names,AB n) /\
 ∀ l:List aT,ky many l->D2 names l->l.length<=900->Q (.ow true) (mD many l)
theorem jB (ds Q) (h:aU ds Q):ds.length=["_law_script", "_law_many", "_law_deeds_here"].length:=by obtain⟨_,_,_,rfl,_⟩:=h;rfl
theorem z8{l:List Int}{i:Nat}{x:D}(h:(mY (l.map D.int))[i]? = some x):∃ c,x=.tup [.int i,.int c]/\i<l.length:=by
 unfold mY at h
 rw[List.getElem?_mapIdx,ox] at h
 cases e:l[i]? with
 |none=>rw[e] at h;cases h
 |some c=>rw[e] at h;cases h;exact⟨c,rfl,(lh.mp e).1⟩
theorem fJ{Q:Md->D->Prop}{ns:List Int}{many first low:Int}{names:List Str}(jv:ns.length<=63)(hm:1<=many/\many<=20)(xi:1<=low/\low<=many)(n1:1<=names.length)(hd:∀ n∈names,AB n)
  (h:∀ l:List aT,ky many l->D2 names l->l.length<=900->Q (.ow true) (mD many l)):bV { nx:=fun _=>Q .sh .non,rt:=Q } [some (.sh (.list (ns.map .int))),some (.sh (.int many)),some (.sh (.list (names.map .str))),some (.sh (.int first)),some (.ow true (.dT [])),some (.sh (.int low)),none,none,none,none]:=by
 unfold bV
 walk_at "q"
 refine .inl ⟨lr ns,?_⟩
 rw[uB]
 have hc:=fC ns (some 4) (some 44)
 generalize gp ns (some 4) (some 44)=cells at *
 refine bF _ (fun i ρ=>∃ (kvs:Kn) (o6 o7 o8 o9:Option Sl),x8 (Q9 many names) kvs/\kvs.length<=2*i/\ρ=[some (.sh (.list (ns.map .int))),some (.sh (.int many)),some (.sh (.list (names.map .str))),some (.sh (.int first)),some (.ow true (.dT kvs)),some (.sh (.int low)),o6,o7,o8,o9]) ⟨[],_,_,_,_,x8.nil,eP _,rfl⟩ ?_ ?_
 ·rintro i x ρ hx ⟨kvs,o6,o7,o8,o9,hk,hz,rfl⟩ N hN
  obtain⟨c,rfl,hi⟩:=z8 hx
  have a1:=eF c (show 0<low by lia)
  have a3:=eF (c / low) (show 0<low by lia)
  have sq:0<=(i:Int)*i/\(i:Int)*i<=63*63:=⟨Int.mul_nonneg (by lia) (by lia),Int.mul_le_mul (by lia) (by lia) (by lia) (by lia)⟩
  walk_at "q"
  obtain⟨n,hn,e⟩:=name_mod (c / low / low) n1
  walk_at "o"
  have pl:=gD kvs (fF ((c % low),n,(c / low % low))) (D.bl true)
  have II:=hk.put (s:=((c % low),n,(c / low % low))) (d:=.bl true) ⟨⟨a1.1,(by lia : (c % low)<many),hd n hn,a3.1,(by lia : (c / low % low)<many)⟩,hn⟩
  refine⟨.str n,e,?_⟩
  walk_at "q"
  refine⟨by lia,by lia,by lia,R.D (fun e1=>?_) fun e1=>?_⟩
  ·walk_at "q"
   refine⟨ye (by lia) (by lia),by lia,?_⟩
   have put:∀ f:Int,0<=f->f<many->(gS kvs (fF ((c % low),n,(c / low % low))) (.bl true)).length<16777216/\N [some (.sh (.list (ns.map .int))),some (.sh (.int many)),some (.sh (.list (names.map .str))),some (.sh (.int first)),some (.ow true (.dT (gS (gS kvs (fF ((c % low),n,(c / low % low))) (.bl true)) (fF ((c % low)+low,n,f)) (.bl true)))),some (.sh (.int low)),some (.sh (.int i)),some (.sh (.int c)),some (.sh (.tup [.int (c % low),.str n,.int (c / low % low)])),some (.sh (.int f))]:=fun f f0 f1=>by
    have SN:=gD (gS kvs (fF ((c % low),n,(c / low % low))) (.bl true)) (fF ((c % low)+low,n,f)) (D.bl true)
    generalize hg:gS kvs (fF ((c % low),n,(c / low % low))) (D.bl true)=kv1 at *
    refine⟨by lia,hN _ ⟨_,_,_,_,_,II.put (s:=((c % low)+low,n,f)) ⟨⟨(by lia : 0<=(c % low)+low),e1,hd n hn,f0,f1⟩,hn⟩,?_,rfl⟩⟩
    exact jI SN (by lia)
   have skip:N [some (.sh (.list (ns.map .int))),some (.sh (.int many)),some (.sh (.list (names.map .str))),some (.sh (.int first)),some (.ow true (.dT (gS kvs (fF ((c % low),n,(c / low % low))) (.bl true)))),some (.sh (.int low)),some (.sh (.int i)),some (.sh (.int c)),some (.sh (.tup [.int (c % low),.str n,.int (c / low % low)])),o9]:=hN _ ⟨_,_,_,_,_,II,by lia,rfl⟩
   by_cases e2:first / 2 / ((i:Int)*i+1) % 4=1
   ·rw[decide_eq_true e2]
    walk_at "q"
    exact skip
   ·rw[decide_eq_false e2]
    walk_at "q"
    refine⟨by lia,R.D (fun e3=>?_) fun e3=>?_⟩
    ·walk_at "q"
     refine R.D (fun e4=>?_) fun e4=>?_
     ·walk_at "q"
      exact put _ (by lia) e4
     ·walk_at "q"
      exact put _ a3.1 (by lia)
    ·walk_at "q"
     exact put _ a3.1 (by lia)
  ·walk_at "q"
   exact hN _ ⟨_,_,_,_,_,II,by lia,rfl⟩
 ·rintro ρ ⟨kvs,o6,o7,o8,o9,hk,hz,rfl⟩
  have hz:kvs.length<=126:=by simp[mY] at hz;lia
  walk_at "q"
  refine(show nY (.ow true) (.list (kvs.map fun kv=>.tup (kv.1.map mI))) (fun m x=>Q (sZ [(.sh,.int many),(m,x)]) (.tup [.int many,x])) from hk.sorted fun l pm hs up hl=>?_)
  exact h l (fun s m=>(hs s m).1) (fun s m=>(hs s m).2) (by lia)
theorem nj:∀ ds Q,aU ds Q->dN { nx:=fun _=>Q .sh .non,rt:=Q } (a_ 10 ds):=by
 rintro ds Q ⟨ns,many,names,rfl,jv,hm,n1,hd,h⟩
 obtain⟨w4,e4⟩:∃ w4,w4=bV:=⟨_,rfl⟩
 unfold dN
 rw[<- e4]
 walk_at "q"
 refine⟨ns,2,rfl,by decide,?_⟩
 generalize ns.getD _ 0=first
 walk_at "q"
 refine R.D (fun _=>?_) fun _=>?_
 ·walk_at "q"
  rw[e4]
  exact fJ jv hm (by lia) n1 hd h
 ·walk_at "q"
  rw[e4]
  exact fJ jv hm (by lia) n1 hd h
def cL:WS :=
 (cf (mn (wB (aw nL (aw gX (aw i7 (av 2) (wC (.int 432))) (wC (.int 2))) (wC (.int 1))))
 (eB 5 (i6 jR (av 5)))
 dG)
 (tH 5))
def cM:WS :=
 (cf (mn (Fm (wB (aw ui (av 5) (nS b9))) (wB (aw nL (aw gX (aw i7 (av 2) (wC (.int 48))) (wC (.int 3))) (wC (.int 2)))))
 (DM (om 5) (aw eW (av 5) (aw gX (aw i7 (av 2) (wC (.int 144))) (i6 z5 (av 5)))))
 dG)
 cL)
def cH:WS :=
 (cf (mn (Fm (wB (aw ui (av 5) (nS b9))) (wB (aw nL (aw gX (aw i7 (av 2) (wC (.int 48))) (wC (.int 3))) (wC (.int 1)))))
 (Ef (om 5) (aw gX (aw i7 (av 2) (wC (.int 144))) (i6 z5 (av 5))))
 dG)
 cM)
def cJ:WS :=
 (cf (fq 0 (nV (cU (BH (av 0) (jE (wC (.int 4))) (jE (aw gV (wC (.int 4)) (aw gX (aw i7 (av 2) (wC (.int 4))) (wC (.int 12))))))) (gN 6)
 (DM (om 5) (g7 (ak (aw gX (aw i7 (av 6) (wC (.int 7))) (av 1)) (ak (aw gX (aw i7 (aw i7 (av 6) (wC (.int 7))) (av 1)) (av 1)) b9))))))
 cH)
def cN:WS :=
 (cf (mn (wB (aw nL (av 4) (wC (.int 2))))
 (eB 5 (aw gV (gm (fL (av 3)) (gN 0) uj (g7 (ak (av 0) (ak (av 0) b9))) 1 []) (gm (fL (aw I0 (av 1) (av 3))) (gN 0) uj (g7 (ak (aw gV (av 0) (av 1)) (ak (av 0) b9))) 1 [3])))
 dG)
 cJ)
def gA:WS :=
 (cf (eB 2 (cG aD (ak (av 0) (ak (wC (.int 3)) b9))))
 (cf (eB 3 (aw i7 (aw gV (av 1) (wC (.int 1))) (wC (.int 2))))
 (cf (eB 4 (aw gX (av 2) (wC (.int 4))))
 (cf (eB 5 (nS b9))
 (cf (mn (wB (aw nL (av 4) (wC (.int 1))))
 (eB 5 (gm (fL (av 1)) (gN 0) uj (g7 (ak (av 0) (ak (av 0) b9))) 1 []))
 dG)
 cN)))))
def bO:iO:=fun ds Q=>∃ (ns:List Int) (many:Int),ds=[.list (ns.map .int),.int many]/\ns.length<=63/\(1<=many/\many<=20)/\∀ ps:List P2,(∀ p∈ps,gv many p)->ps.length<=200->Q (.ow true) (.list (ps.map cw))
theorem mR (ds Q) (h:bO ds Q):ds.length=["_law_script", "_law_many"].length:=by obtain⟨_,_,rfl,_⟩:=h;rfl
theorem Ij{l:List P2}{i:Int}(h0:0<=i)(h1:i<l.length):∃ x,x∈l/\fR (l.map cw) i=some (cw x):=by
 have hn:i.toNat<l.length:=by lia
 refine⟨l[i.toNat],Rr hn,?_⟩
 have:=HV (xs:=l.map cw) (j:=i.toNat) (v:=cw l[i.toNat]) (by simp[hn])
 rwa[EE h0] at this
theorem qJ{α β:Type}(f:α->β):∀ (l:List α) (k:Nat),(l.map f).eraseIdx k=(l.eraseIdx k).map f
 |[],_=>rfl
 |x :: l,0=>rfl
 |x :: l,k+1=>by simp[qJ f l k]
theorem qw(l:List P2):kG (.list (l.map cw)) (.list [])=decide (l=[]):=by
 rw[wx,pA _ _ (show D.nb (.list (l.map cw))=true from Dh l) rfl,decide_eq_true_iff]
 cases l<;>simp
theorem lV{many:Int}{ps qs:List P2}(h:∀ p∈ps,gv many p)(g:∀ p∈qs,gv many p):∀ p∈ps++qs,gv many p:=fun p hp=>(dz.mp hp).elim (h p) (g p)
theorem nF{many:Int}{x:P2}(h:gv many x):∀ p∈[x],gv many p:=fun p hp=>by rw[ot.mp hp];exact h
theorem rE{many n:Int}{k:List D->Prop}(hn:n<=many)(h:∀ us:List P2,(∀ p∈us,gv many p)->us.length=n.toNat->k (us.map cw)):gG (gN 0) uj (g7 (ak (av 0) (ak (av 0) b9))) (jY 0 n.toNat) [none] k:=by
 refine gw (fun n out=>∃ us:List P2,out=us.map cw/\us.length=n/\∀ p∈us,gv many p) (fun ρ=>∃ o,ρ=[o]) _ 0 [] _ _ ⟨_,rfl⟩ ⟨[],rfl,rfl,fun t ht=>nomatch ht⟩ ?_ ?_
 ·rintro j y hy ρ ⟨o,rfl⟩ out ⟨us,rfl,yk,B3⟩ N1 N2 A8
  obtain⟨hj,rfl⟩:=jh hy
  walk_at "q"
  exact⟨.inl rfl,A8 _ _ ⟨_,rfl⟩ ⟨us++[((0+(j:Nat),0+(j:Nat)):P2)],(by rw[ll];rfl),by simp[yk],lV B3 (nF ⟨⟨(by lia : (0:Int)<=0+(j:Nat)),(by lia : (0:Int)+(j:Nat)<many)⟩,(by lia : (0:Int)<=0+(j:Nat)),(by lia : (0:Int)+(j:Nat)<many)⟩)⟩⟩
 rintro out ⟨us,e,yk,B3⟩
 simp only[OQ] at e
 subst e
 rw[iT] at yk
 exact h us B3 (by lia)
theorem dH{Q:Md->D->Prop}{ns:List Int}{many cell low kind:Int}{ps:List P2}{o6:Option Sl}(jv:ns.length<=63)(hm:1<=many/\many<=20)(hi:∀ p∈ps,gv many p)(hl:ps.length<=199)(h:∀ ps:List P2,(∀ p∈ps,gv many p)->ps.length<=200->Q (.ow true) (.list (ps.map cw))) :
  cL { nx:=fun _=>Q .sh .non,rt:=Q } [some (.sh (.list (ns.map .int))),some (.sh (.int many)),some (.sh (.int cell)),some (.sh (.int low)),some (.sh (.int kind)),some (.ow true (.list (ps.map cw))),o6]:=by
 unfold cL
 walk_at "q"
 refine R.D (fun _=>?_) fun _=>?_
 ·walk_at "q"
  rw[<- List.map_reverse]
  exact⟨dW _,h ps.reverse (fun p hp=>hi p (List.mem_reverse.mp hp)) (by simp;lia)⟩
 ·walk_at "q"
  exact h ps hi (by lia)
theorem dU{Q:Md->D->Prop}{ns:List Int}{many cell low kind:Int}{ps:List P2}{o6:Option Sl}(jv:ns.length<=63)(hm:1<=many/\many<=20)(hi:∀ p∈ps,gv many p)(hl:ps.length<=198)(h:∀ ps:List P2,(∀ p∈ps,gv many p)->ps.length<=200->Q (.ow true) (.list (ps.map cw))) :
  cM { nx:=fun _=>Q .sh .non,rt:=Q } [some (.sh (.list (ns.map .int))),some (.sh (.int many)),some (.sh (.int cell)),some (.sh (.int low)),some (.sh (.int kind)),some (.ow true (.list (ps.map cw))),o6]:=by
 obtain⟨w9,e9⟩:∃ w9,w9=cL:=⟨_,rfl⟩
 unfold cM
 rw[<- e9]
 walk_at "q"
 refine⟨Aq _ 10,rfl,?_⟩
 rw[qw]
 by_cases z:ps=[]
 ·rw[decide_eq_true z]
  walk_at "q"
  rw[e9]
  exact dH jv hm hi (by lia) h
 ·rw[decide_eq_false z]
  walk_at "q"
  refine R.D (fun _=>?_) fun _=>?_
  ·have hp:0<ps.length:=List.length_pos_iff.mpr z
   have hj:=eF (cell / 144) (show(0:Int)<ps.length by lia)
   obtain⟨x,hx,ex⟩:=Ij (l:=ps) hj.1 hj.2
   walk_at "q"
   refine⟨by lia,_,ex,?_⟩
   rw[show cw x=.tup [.int x.1,.int x.2] from rfl]
   walk_at "q"
   refine⟨by lia,?_⟩
   rw[show ps.map cw++[D.tup [.int x.1,.int x.2]]=(ps++[x]).map cw by rw[ll];rfl,e9]
   exact dH jv hm (lV hi (nF (hi x hx))) (by simp;lia) h
  ·walk_at "q"
   rw[e9]
   exact dH jv hm hi (by lia) h
theorem nq{Q:Md->D->Prop}{ns:List Int}{many cell low kind:Int}{ps:List P2}{o6:Option Sl}(jv:ns.length<=63)(hm:1<=many/\many<=20)(hi:∀ p∈ps,gv many p)(hl:ps.length<=198)(h:∀ ps:List P2,(∀ p∈ps,gv many p)->ps.length<=200->Q (.ow true) (.list (ps.map cw))) :
  cH { nx:=fun _=>Q .sh .non,rt:=Q } [some (.sh (.list (ns.map .int))),some (.sh (.int many)),some (.sh (.int cell)),some (.sh (.int low)),some (.sh (.int kind)),some (.ow true (.list (ps.map cw))),o6]:=by
 obtain⟨w8,e8⟩:∃ w8,w8=cM:=⟨_,rfl⟩
 unfold cH
 rw[<- e8]
 walk_at "q"
 refine⟨Aq _ 10,rfl,?_⟩
 rw[qw]
 by_cases z:ps=[]
 ·rw[decide_eq_true z]
  walk_at "q"
  rw[e8]
  exact dU jv hm hi (by lia) h
 ·rw[decide_eq_false z]
  walk_at "q"
  refine R.D (fun _=>?_) fun _=>?_
  ·have hp:0<ps.length:=List.length_pos_iff.mpr z
   have hj:=eF (cell / 144) (show(0:Int)<ps.length by lia)
   walk_at "q"
   have hn:(cell / 144 % (ps.length:Int)).toNat<ps.length:=by lia
   refine⟨by lia,cw ps[(cell / 144 % (ps.length:Int)).toNat],hj.1,by simp[hn],rfl,?_⟩
   rw[qJ,e8]
   exact dU jv hm (fun p hp=>hi p (List.mem_of_mem_eraseIdx hp)) (by rw[List.length_eraseIdx_of_lt hn];lia) h
  ·walk_at "q"
   rw[e8]
   exact dU jv hm hi (by lia) h
theorem gW{Q:Md->D->Prop}{ns:List Int}{many cell low kind:Int}{ps:List P2}(jv:ns.length<=63)(hm:1<=many/\many<=20)(hi:∀ p∈ps,gv many p)(hl:ps.length<=100)(h:∀ ps:List P2,(∀ p∈ps,gv many p)->ps.length<=200->Q (.ow true) (.list (ps.map cw))) :
  cJ { nx:=fun _=>Q .sh .non,rt:=Q } [some (.sh (.list (ns.map .int))),some (.sh (.int many)),some (.sh (.int cell)),some (.sh (.int low)),some (.sh (.int kind)),some (.ow true (.list (ps.map cw))),none]:=by
 obtain⟨w7,e7⟩:∃ w7,w7=cH:=⟨_,rfl⟩
 unfold cJ
 rw[<- e7]
 walk_at "q"
 refine .inl ⟨lr ns,?_⟩
 rw[uB]
 have hc:=fC ns (some 4) (some (4+cell / 4 % 12))
 generalize gp ns (some 4) (some (4+cell / 4 % 12))=cells at *
 refine bF _ (fun i ρ=>∃ (ps:List P2) (o6:Option Sl),(∀ p∈ps,gv many p)/\ps.length<=100+i/\ρ=[some (.sh (.list (ns.map .int))),some (.sh (.int many)),some (.sh (.int cell)),some (.sh (.int low)),some (.sh (.int kind)),some (.ow true (.list (ps.map cw))),o6]) ⟨ps,_,hi,by lia,rfl⟩ ?_ ?_
 ·rintro i x ρ hx ⟨ps,o6,hi,hl,rfl⟩ N hN
  have Ya:i<cells.length:=by have:=(lh.mp hx).1;simpa using this
  obtain⟨c,rfl,HM,tk⟩:=int_at hx
  have a1:=eF (c / 7) (show 0<many by lia)
  have a2:=eF (c / 7 / many) (show 0<many by lia)
  walk_at "q"
  refine⟨by lia,by lia,by lia,by lia,hN _ ⟨ps++[(c / 7 % many,c / 7 / many % many)],_,lV hi (nF ⟨a1,a2⟩),by simp;lia,(by rw[ll];rfl)⟩⟩
 ·rintro ρ ⟨ps,o6,hi,hl,rfl⟩
  rw[bT] at hl
  rw[e7]
  exact nq jv hm hi (by lia) h
theorem gO{Q:Md->D->Prop}{ns:List Int}{many cell low kind:Int}{ps:List P2}(jv:ns.length<=63)(hm:1<=many/\many<=20)(hi:∀ p∈ps,gv many p)(hl:ps.length<=100)(xi:1<=low/\low<=many)(h:∀ ps:List P2,(∀ p∈ps,gv many p)->ps.length<=200->Q (.ow true) (.list (ps.map cw))) :
  cN { nx:=fun _=>Q .sh .non,rt:=Q } [some (.sh (.list (ns.map .int))),some (.sh (.int many)),some (.sh (.int cell)),some (.sh (.int low)),some (.sh (.int kind)),some (.ow true (.list (ps.map cw))),none]:=by
 obtain⟨w6,e6⟩:∃ w6,w6=cJ:=⟨_,rfl⟩
 unfold cN
 rw[<- e6]
 walk_at "q"
 refine R.D (fun _=>?_) fun _=>?_
 ·walk_at "q"
  refine⟨by lia,by lia,rE (n:=low) (many:=many) xi.2 fun us hu yk=>⟨by lia,by lia,?_⟩⟩
  refine gw (fun n out=>∃ us:List P2,out=us.map cw/\us.length=n/\∀ p∈us,gv many p) (fun ρ=>∃ o,ρ=[o,some (.sh (.int low))]) _ 0 [] _ _ ⟨_,rfl⟩ ⟨[],rfl,rfl,fun t ht=>nomatch ht⟩ ?_ ?_
  ·rintro j y hy ρ ⟨o,rfl⟩ out ⟨us,rfl,yk,B3⟩ N1 N2 A8
   obtain⟨hj,rfl⟩:=jh hy
   walk_at "q"
   exact⟨.inl rfl,A8 _ _ ⟨_,rfl⟩ ⟨us++[((0+(j:Nat)+low,0+(j:Nat)):P2)],(by rw[ll];rfl),by simp[yk],lV B3 (nF ⟨⟨(by lia : (0:Int)<=0+(j:Nat)+low),(by lia : (0:Int)+(j:Nat)+low<many)⟩,(by lia : (0:Int)<=0+(j:Nat)),(by lia : (0:Int)+(j:Nat)<many)⟩)⟩⟩
  rintro out ⟨vs,e,hvl,hvi⟩
  simp only[OQ] at e
  subst e
  rw[iT] at hvl
  refine⟨by simp;lia,.inl ⟨dW _,dW _,?_⟩⟩
  rw[<- ll,e6]
  exact gW jv hm (lV hu hvi) (by simp;lia) h
 ·walk_at "q"
  rw[e6]
  exact gW jv hm hi hl h
theorem qj:∀ ds Q,bO ds Q->gA { nx:=fun _=>Q .sh .non,rt:=Q } (a_ 7 ds):=by
 rintro ds Q ⟨ns,many,rfl,jv,hm,h⟩
 obtain⟨w5,e5⟩:∃ w5,w5=cN:=⟨_,rfl⟩
 unfold gA
 rw[<- e5]
 walk_at "q"
 refine⟨ns,3,rfl,by decide,?_⟩
 generalize ns.getD _ 0=cell
 walk_at "q"
 refine R.D (fun _=>?_) fun _=>?_
 ·walk_at "q"
  refine⟨by lia,by lia,rE (qB many) fun us hu yk=>?_⟩
  rw[e5]
  exact gO jv hm hu (by lia) (by lia) h
 ·walk_at "q"
  rw[e5]
  exact gO (ps:=[]) jv hm (fun p hp=>nomatch hp) (eP _) (by lia) h
def gq:WS :=
 (cf (qz aX (ak (av 0) (ak (av 1) b9)))
 (oD (cG aM (ak (av 0) (ak (av 1) b9)))))
def bR:iO:=fun ds Q=>∃ (many:Int) (l:List aT) (ps:List P2),ds=[mD many l,.list (ps.map cw)]/\(0<=many/\many<=1000)/\ky many l/\l.length<=1000/\ps.length<=10000/\((∀ p∈ps,gv many p)->∀ b,(b=true↔SM l ps)->Q .sh (.bl b))/\((∃ p∈ps,¬ gv many p)->Q (.ow false) (.str "NoState"))
theorem mZ (ds Q) (h:bR ds Q):ds.length=["m", "pairs"].length:=by obtain⟨_,_,_,rfl,_⟩:=h;rfl
theorem qM:∀ ds Q,bR ds Q->gq { nx:=fun _=>Q .sh .non,rt:=Q } (a_ 2 ds):=by
 rintro ds Q ⟨many,l,ps,rfl,hm,ck,hl,Oh,h1,h2⟩
 unfold gq
 rw[show a_ 2 [mD many l,.list (ps.map cw)]=[some (.sh (mD many l)),some (.sh (.list (ps.map cw)))] from rfl]
 walk_at "q"
 refine⟨many,l,ps,rfl,fun a=>?_,fun a=>?_⟩
 ·walk_at "q"
  refine⟨many,l,ps,rfl,hm,ck,hl,Oh,a,fun b hb=>?_⟩
  walk_at "q"
  exact h1 a b hb
 ·walk_at "q"
  exact h2 a
def eQ:WS :=
 (cf (eB 1 lH)
 (cf (nV (cU (aw gV (aw eW (av 0) (wC (.int 1))) (gm (fL (aw eW (av 0) (wC (.int 0)))) (gN 0) uj (g7 (ak (av 0) (ak (wC (.str "*")) (ak (aw gX (aw gV (av 0) (wC (.int 1))) (aw eW (av 1) (wC (.int 0)))) b9)))) 1 [0]))) (gN 2)
 (qO (om 1) (av 2) (wC (.bl true))))
 (oD (cG eZ (ak (g7 (ak (aw eW (av 0) (wC (.int 0))) (ak (i6 nY (i6 rG (av 1))) b9))) b9)))))
def bC:iO:=fun ds Q=>∃ (many:Int) (l:List aT) (names:List Str),ds=[mD many l]/\(1<=many/\many<=10)/\ky many l/\D2 names l/\names.length<=4/\l.length<=900/\∀ out:List aT,ky many out->out.length<=1000->Q (.ow true) (mD many out)
theorem lz (ds Q) (h:bC ds Q):ds.length=["_law_m"].length:=by obtain⟨_,_,_,rfl,_⟩:=h;rfl
theorem oA:∀ ds Q,bC ds Q->eQ { nx:=fun _=>Q .sh .non,rt:=Q } (a_ 3 ds):=by
 rintro ds Q ⟨many,l,names,rfl,hm,ck,yb,LB,hl,h⟩
 unfold eQ mD
 walk_at "q"
 refine⟨by lia,by lia,?_⟩
 refine gw (fun n out=>∃ us:List aT,out=us.map bX/\us.length=n/\∀ t∈us,Q9 many (("*" : Str) :: names) t) (fun ρ=>∃ o,ρ=[o,some (.sh (.tup [.int many,.list (l.map bX)]))]) _ 0 [] _ _ ⟨_,rfl⟩ ⟨[],rfl,rfl,fun t ht=>nomatch ht⟩ ?_ ?_
 ·rintro j y hy ρ ⟨o,rfl⟩ out ⟨us,rfl,yk,B3⟩ N1 N2 A8
  obtain⟨hj,rfl⟩:=jh hy
  have b1:=eF (0+(j:Nat)+1) (show 0<many by lia)
  walk_at "q"
  refine⟨by lia,.inl rfl,A8 _ _ ⟨_,rfl⟩ ⟨us++[(((0+(j:Nat):Int), "*",(0+(j:Nat)+1) % many):aT)],(by rw[ll];rfl),by simp[yk],fun t ht=>?_⟩⟩
  rcases dz.mp ht with z|z
  ·exact B3 t z
  ·rw[ot.mp z]
   exact⟨⟨(by lia : (0:Int)<=0+(j:Nat)),(by lia : (0:Int)+(j:Nat)<many),.inl rfl,b1.1,b1.2⟩,df⟩
 rintro out ⟨us,e,yk,B3⟩
 simp only[OQ] at e
 subst e
 rw[iT] at yk
 refine⟨by simp;lia,.inl ⟨du _,du _,?_⟩⟩
 rw[<- ll]
 have all:∀ t∈l++us,Q9 many (("*" : Str) :: names) t:=fun t ht=>by
  rcases dz.mp ht with z|z
  ·exact⟨ck t z,de _ (yb t z)⟩
  ·exact B3 t z
 have len:(l++us).length<=910:=by rw[kz];lia
 generalize l++us=vs at *
 refine bF _ (fun i ρ=>∃ (kvs:Kn) (o2:Option Sl),x8 (Q9 many (("*" : Str) :: names)) kvs/\kvs.length<=i/\ρ=[some (.sh (.tup [.int many,.list (l.map bX)])),some (.ow true (.dT kvs)),o2]) ⟨[],_,x8.nil,eP _,rfl⟩ ?_ ?_
 ·rintro i x ρ hx ⟨kvs,o2,hk,hz,rfl⟩ N hN
  have hi:i<vs.length:=by have:=(lh.mp hx).1;simpa using this
  obtain⟨a,d,b,rfl,hs,tk⟩:=uX hx
  walk_at "q"
  have pl:=gD kvs (fF (a,d,b)) (D.bl true)
  exact⟨by lia,hN _ ⟨_,_,hk.put (s:=(a,d,b)) (all _ hs),by lia,rfl⟩⟩
 ·rintro ρ ⟨kvs,o2,hk,hz,rfl⟩
  rw[bT] at hz
  walk_at "q"
  refine(show nY (.ow true) (.list (kvs.map fun kv=>.tup (kv.1.map mI))) (fun m x=>eZ [.tup [.int many,x]] fun m d=>bP (m,d) (f:=fun p=>Q (An p.1 p.2) p.2) ⟨⟩) from hk.sorted fun l2 pm hs up vS=>?_)
  refine⟨many,l2,("*" : Str) :: names,rfl,by lia,fun s m=>(hs s m).1,fun s m=>(hs s m).2,df,by simp;lia,by lia,fun out he _=>?_⟩
  have Q_:ky many l2:=fun s m=>(hs s m).1
  walk_at "q"
  exact h out (he.in Q_) (he.len (names:=("*" : Str) :: names) Q_ hm.2 (fun s m=>(hs s m).2) df (by simp;lia))
def gr:WS :=
 (cf (T_ (Em 2 bR (ak (av 0) (ak (av 1) b9))) (fun a=>[none,none,none,some (.xc a),none]) (fun a n=>(cf (eB 4 (nS (ak (wd 3 a (decide (n = "NoMachine"))) (ak (wd 3 a (decide (n = "TooBig"))) (ak (wd 3 a (decide (n = "NoDeed"))) (ak (wd 3 a (decide (n = "NoText"))) b9))))))
 (cf (eB 4 (aw gV (av 4) (nS (ak (wd 3 a (decide (n = "NoFrame"))) (ak (wd 3 a (decide (n = "NoScroll"))) (ak (wd 3 a (decide (n = "NoName"))) b9))))))
 (cf (mn (Fn (wB (aw (DH false) (wC (.bl true)) (av 4))) (Fn (wB (wd 3 a (decide (n = "NoRow")))) (IY (wB (wd 3 a true)))))
 (oD (g7 (ak (wC (.str "refused")) (ak (wC (.str "other")) b9))))
 dG)
 (oD (g7 (ak (wC (.str "refused")) (ak (wd 3 a (decide (n = "NoState"))) b9)))))))))
 (yr [.inl (wC (.str "told")),.inr 2]))
def aN:iO:=fun ds Q=>∃ (many:Int) (l:List aT) (ps:List P2),ds=[mD many l,.list (ps.map cw)]/\(0<=many/\many<=1000)/\ky many l/\l.length<=1000/\ps.length<=10000/\((∀ p∈ps,gv many p)->∀ b,(b=true↔SM l ps)->Q .sh (.tup [.str "told",.bl b]))/\((∃ p∈ps,¬ gv many p)->Q .sh (.tup [.str "refused",.bl true]))
theorem m7 (ds Q) (h:aN ds Q):ds.length=["_law_m", "_law_pairs_here"].length:=by obtain⟨_,_,_,rfl,_⟩:=h;rfl
theorem qT:∀ ds Q,aN ds Q->gr { nx:=fun _=>Q .sh .non,rt:=Q } (a_ 5 ds):=by
 rintro ds Q ⟨many,l,ps,rfl,hm,ck,hl,Oh,h1,h2⟩
 unfold gr
 walk_at "q"
 refine⟨many,l,ps,rfl,hm,ck,hl,Oh,fun a b hb=>?_,fun a=>?_⟩
 ·walk_at "q"
  exact h1 a b hb
 ·walk_at "q"
  intro z
  refine .inl ⟨rfl,rfl,R.F (by decide) ?_⟩
  walk_at "q"
  refine R.F (by decide) ?_
  walk_at "q"
  exact h2 a
def jH:WS :=
 (fq 11 (nV (yh (g7 (ak (g7 (ak (av 11) (ak (wC (.int 0)) b9))) (ak (g7 (ak (aw I0 (av 2) (wC (.int 1))) (ak (av 11) b9))) b9)))) (gN 12)
 (fq 12 (mn (wB (aw ui (cG aN (ak (av 4) (ak (aw gV (aw gV (BH (av 6) ig (jE (av 10))) (nS (ak (av 12) b9))) (BH (av 6) (jE (av 10)) ig)) b9))) (g7 (ak (wC (.str "refused")) (ak (wC (.bl true)) b9)))))
 (oD (wC (.bl false)))
 dG))))
def jT:WS :=
 (cf (DM (om 7) (g7 (ak (wC (.int 0)) (ak (wC (.int 0)) b9))))
 (fq 8 (oD (zx (aw nL (cG aN (ak (av 4) (ak (av 6) b9))) (g7 (ak (wC (.str "told")) (ak (av 8) b9)))) (aw nL (cG aN (ak (av 4) (ak (av 7) b9))) (g7 (ak (wC (.str "told")) (ak (cG bY (ak (av 4) (ak (av 7) b9))) b9))))))))
def vg:WS :=
 (cf (fq 2 (nV (yh (g7 (ak (i6 NK (wC (.int 1))) (ak (aw I0 (i6 NK (wC (.int 1))) (aw gX (av 3) (aw NJ (wC (.int 10)) (wC (.int 59))))) (ak (av 2) (ak (aw gV (av 2) (aw gX (av 3) (aw NJ (wC (.int 10)) (wC (.int 59))))) b9)))))) (gN 11)
 jH))
 jT)
def jK:WS :=
 (cf (eB 10 (aw gX (av 3) (aw gV (i6 z5 (av 6)) (wC (.int 1)))))
 vg)
def oh:WS :=
 (cf (eB 8 (cG bY (ak (av 4) (ak (av 6) b9))))
 (cf (eB 9 (cG aN (ak (av 4) (ak (av 7) b9))))
 (cf (fq 8 (mn (Fn (wB (aw ui (av 9) (g7 (ak (wC (.str "told")) (ak (av 8) b9))))) (Fn (IY (wB (i6 (TB "bool") (aw eW (av 9) (wC (.int 1)))))) (Fn (wB (aw ui (av 7) (av 6))) (wB (aw ui (av 4) (av 5))))))
 (oD (wC (.bl false)))
 dG))
 jK)))
def pK:WS :=
 (cf (fq 2 (eB 5 (g7 (ak (av 2) (ak (i6 rG (aw eW (av 4) (wC (.int 1)))) b9)))))
 (cf (eB 6 (cG bO (ak (av 0) (ak (av 2) b9))))
 (cf (eB 7 (i6 rG (av 6)))
 oh)))
def oX:WS :=
 (cf (eB 3 (cG aD (ak (av 0) (ak (wC (.int 1)) b9))))
 (cf (eB 4 (cG aU (ak (av 0) (ak (av 2) (ak (cG bu (ak (av 3) b9)) b9)))))
 (cf (mn (wB (aw nL (aw gX (av 1) (wC (.int 16))) (wC (.int 11))))
 (cf (eB 2 (aw gV (wC (.int 7)) (aw gX (aw i7 (av 1) (wC (.int 16))) (wC (.int 3)))))
 (eB 4 (cG bC (ak (cG aU (ak (av 0) (ak (av 2) (ak (BH (cG bu (ak (av 3) b9)) ig (jE (wC (.int 1)))) b9)))) b9))))
 dG)
 pK)))
def Ds:WS :=
 (cf (eB 1 (cG aD (ak (av 0) (ak (wC (.int 0)) b9))))
 (cf (eB 2 (aw gV (wC (.int 1)) (aw gX (aw i7 (av 1) (wC (.int 8))) (wC (.int 10)))))
 (cf (mn (wB (aw nL (aw gX (av 1) (wC (.int 8))) (wC (.int 5))))
 (eB 2 (aw gV (wC (.int 1)) (aw gX (aw i7 (av 1) (wC (.int 8))) (wC (.int 20)))))
 dG)
 oX)))
abbrev LD:iO:=XY
theorem Dd (ds Q) (h:LD ds Q):ds.length=["_law_script"].length:=by obtain⟨_,rfl,_⟩:=h;rfl
theorem jm (b:Bool):eh 12 (.tup [.str "told",.bl b])=true:=by cases b<;>decide +kernel
theorem tR (b:Bool):kG (.tup [.str "told",.bl b]) (.tup [.str "told",.bl b])=true:=by cases b<;>decide +kernel
theorem pW{p:Prop}{a b:Bool}(h:a=true↔p)(g:b=true↔p):a=b:=by
 rw[wx]
 exact h.trans g.symm
theorem zz{Q:Md->D->Prop}{ns:List Int}{cell many far:Int}{l:List aT}{ps:List P2}{o9 YN LG si:Option Sl}(hm:1<=many/\many<=20)(ck:ky many l)(hl:l.length<=1000)(hi:∀ p∈ps,gv many p)(fi:ps.length<=200){b:Bool}(hb:b=true↔SM l ps)(h:∀ m,Q m (.bl true)) :
  jT { nx:=fun _=>Q .sh .non,rt:=Q } [some (.sh (.list (ns.map .int))),some (.sh (.int cell)),some (.sh (.int many)),some (.sh (.int far)),some (.ow true (.tup [.int many,.list (l.map bX)])),some (.ow true (.tup [.int many,.list (l.map bX)])),some (.ow true (.list (ps.map cw))),some (.ow true (.list (ps.map cw))),some (.sh (.bl b)),o9,YN,LG,si]:=by
 unfold jT
 walk_at "q"
 refine⟨by lia,?_⟩
 have e:ps.map cw++[D.tup [.int 0,.int 0]]=(ps++[((0,0):P2)]).map cw:=by rw[ll];rfl
 have h0:gv many (0,0):=⟨⟨by decide,(by lia : 0<many)⟩,by decide,(by lia : 0<many)⟩
 refine⟨many,l,ps,rfl,by lia,ck,hl,by lia,fun _ b2 N7=>?_,fun⟨p,hp,z⟩=>absurd (hi p hp) z⟩
 rw[pW N7 hb]
 walk_at "q"
 refine⟨jm b,jm b,?_⟩
 rw[tR]
 walk_at "q"
 rw[e]
 refine⟨many,l,_,rfl,by lia,ck,hl,by simp;lia,fun _ b3 hb3=>?_,fun⟨p,hp,z⟩=>absurd (lV hi (nF h0) p hp) z⟩
 walk_at "q"
 refine⟨many,l,ps++[((0,0):P2)],by rw[e];rfl,by lia,ck,hl,by simp;lia,lV hi (nF h0),fun b4 hb4=>?_⟩
 rw[pW hb4 hb3]
 walk_at "q"
 refine⟨jm b3,jm b3,?_⟩
 rw[tR]
 exact h _
theorem Av{N B:L2.Q.Env->Prop}{Q:Md->D->Prop}{ns:List Int}{cell many far k w:Int}{l:List aT}{ps:List P2}{o8 o9 si:Option Sl}(hm:1<=many/\many<=20)(ck:ky many l)(hl:l.length<=1000)(hi:∀ p∈ps,gv many p)(fi:ps.length<=200)(hk:0<=k/\k<=ps.length)(hw:¬ (0<=w/\w<many))(hN:∀ si,N [some (.sh (.list (ns.map .int))),some (.sh (.int cell)),some (.sh (.int many)),some (.sh (.int far)),some (.ow true (.tup [.int many,.list (l.map bX)])),some (.ow true (.tup [.int many,.list (l.map bX)])),some (.ow true (.list (ps.map cw))),some (.ow true (.list (ps.map cw))),o8,o9,some (.sh (.int k)),some (.sh (.int w)),si]) :
  jH { nx:=N,ct:=N,bk:=B,rt:=Q } [some (.sh (.list (ns.map .int))),some (.sh (.int cell)),some (.sh (.int many)),some (.sh (.int far)),some (.ow true (.tup [.int many,.list (l.map bX)])),some (.ow true (.tup [.int many,.list (l.map bX)])),some (.ow true (.list (ps.map cw))),some (.ow true (.list (ps.map cw))),o8,o9,some (.sh (.int k)),some (.sh (.int w)),si]:=by
 unfold jH
 walk_at "q"
 refine bF _ (fun i ρ=>∃ (si:Option Sl),ρ=[some (.sh (.list (ns.map .int))),some (.sh (.int cell)),some (.sh (.int many)),some (.sh (.int far)),some (.ow true (.tup [.int many,.list (l.map bX)])),some (.ow true (.tup [.int many,.list (l.map bX)])),some (.ow true (.list (ps.map cw))),some (.ow true (.list (ps.map cw))),o8,o9,some (.sh (.int k)),some (.sh (.int w)),si]) ⟨_,rfl⟩ ?_ ?_
 ·rintro i x ρ hx ⟨si,rfl⟩ N hN
  obtain⟨a,b,rfl,uk⟩:∃ a b:Int,x=.tup [.int a,.int b]/\¬ gv many (a,b):=by
   have:=pd hx
   simp only[dA,wt,or_false] at this
   rcases this with e|e
   ·exact⟨_,_,e,fun z=>hw z.1⟩
   ·exact⟨_,_,e,fun z=>hw z.2⟩
  walk_at "q"
  have e1:∀ lo hi,gp (ps.map cw) lo hi=(gp ps lo hi).map cw:=fun lo hi=>by
   unfold gp
   rw[bT,OS,OU]
  rw[e1,e1,show(gp ps none (some k)).map cw++[D.tup [.int a,.int b]]=(gp ps none (some k)++[((a,b):P2)]).map cw by rw[ll];rfl,<- ll]
  have c1:=fC ps none (some k)
  have c2:=fC ps (some k) none
  refine .inl ⟨dW _,by rw[bT];lia,.inl ⟨dW _,.inl ⟨dW _,by rw[bT,bT,kz];simp;lia,.inl ⟨dW _,dW _,?_⟩⟩⟩⟩
  refine⟨many,l,_,rfl,by lia,ck,hl,by simp;lia,fun z=>absurd (z (a,b) (by simp)) uk,fun _=>?_⟩
  walk_at "q"
  refine⟨by decide +kernel,by decide +kernel,R.F (by decide +kernel) ?_⟩
  walk_at "q"
  exact hN _ ⟨_,rfl⟩
 ·rintro ρ ⟨si,rfl⟩
  exact hN _
theorem zF{Q:Md->D->Prop}{ns:List Int}{cell many far:Int}{l:List aT}{ps:List P2}{o9:Option Sl}(hm:1<=many/\many<=20)(ck:ky many l)(hl:l.length<=1000)(hi:∀ p∈ps,gv many p)(fi:ps.length<=200){b:Bool}(hb:b=true↔SM l ps)(h:∀ m,Q m (.bl true)) :
  jK { nx:=fun _=>Q .sh .non,rt:=Q } [some (.sh (.list (ns.map .int))),some (.sh (.int cell)),some (.sh (.int many)),some (.sh (.int far)),some (.ow true (.tup [.int many,.list (l.map bX)])),some (.ow true (.tup [.int many,.list (l.map bX)])),some (.ow true (.list (ps.map cw))),some (.ow true (.list (ps.map cw))),some (.sh (.bl b)),o9,none,none,none]:=by
 obtain⟨w14,Uq⟩:∃ w14,w14=jT:=⟨_,rfl⟩
 obtain⟨w0,e0⟩:∃ w0,w0=jH:=⟨_,rfl⟩
 unfold jK vg
 rw[<- Uq,<- e0]
 walk_at "q"
 have p1:=MG far (show(100000000000000000000000000000000000000000000000000000000000:Int)≠0 by decide)
 generalize far % 100000000000000000000000000000000000000000000000000000000000=big at *
 have cp:HL 10 59:=by unfold HL;decide
 have hk:=eF far (show(0:Int)<ps.length+1 by lia)
 generalize far % ((ps.length:Int)+1)=k at *
 refine⟨by lia,cp,cp,?_⟩
 refine bF _ (fun i ρ=>∃ (LG si:Option Sl),ρ=[some (.sh (.list (ns.map .int))),some (.sh (.int cell)),some (.sh (.int many)),some (.sh (.int far)),some (.ow true (.tup [.int many,.list (l.map bX)])),some (.ow true (.tup [.int many,.list (l.map bX)])),some (.ow true (.list (ps.map cw))),some (.ow true (.list (ps.map cw))),some (.sh (.bl b)),o9,some (.sh (.int k)),LG,si]) ⟨_,_,rfl⟩ ?_ ?_
 ·rintro i x ρ hx ⟨LG,si,rfl⟩ N hN
  obtain⟨w,rfl,hw⟩:∃ w:Int,x=.int w/\¬ (0<=w/\w<many):=by
   have:=pd hx
   simp only[dA,wt,or_false] at this
   rcases this with e|e|e|e<;>exact⟨_,e,by lia⟩
  walk_at "q"
  rw[e0]
  exact Av hm ck hl hi fi (by lia) hw fun si=>hN _ ⟨_,_,rfl⟩
 ·rintro ρ ⟨LG,si,rfl⟩
  rw[Uq]
  exact zz hm ck hl hi fi hb h
theorem CN{Q:Md->D->Prop}{ns:List Int}{cell many far:Int}{l:List aT}{ps:List P2}(hm:1<=many/\many<=20)(ck:ky many l)(hl:l.length<=1000)(hi:∀ p∈ps,gv many p)(fi:ps.length<=200)(h:∀ m,Q m (.bl true)) :
  oh { nx:=fun _=>Q .sh .non,rt:=Q } [some (.sh (.list (ns.map .int))),some (.sh (.int cell)),some (.sh (.int many)),some (.sh (.int far)),some (.ow true (.tup [.int many,.list (l.map bX)])),some (.ow true (.tup [.int many,.list (l.map bX)])),some (.ow true (.list (ps.map cw))),some (.ow true (.list (ps.map cw))),none,none,none,none,none]:=by
 obtain⟨w12,Ur⟩:∃ w12,w12=jK:=⟨_,rfl⟩
 unfold oh
 rw[<- Ur]
 walk_at "q"
 refine⟨many,l,ps,rfl,by lia,ck,hl,by lia,hi,fun b hb=>?_⟩
 walk_at "q"
 refine⟨many,l,ps,rfl,by lia,ck,hl,by lia,fun _ b2 N7=>?_,fun⟨p,hp,z⟩=>absurd (hi p hp) z⟩
 rw[pW N7 hb]
 walk_at "q"
 refine⟨jm b,jm b,R.F (by rw[tR];rfl) ?_⟩
 walk_at "q"
 refine R.F (by decide) ?_
 walk_at "q"
 refine⟨Aq _ 10,Aq _ 10,R.F (by rw[HR];rfl) ?_⟩
 walk_at "q"
 refine⟨YD 9 ck,YD 9 ck,R.F (by rw[show kG (.tup [.int many,.list (l.map bX)]) (.tup [.int many,.list (l.map bX)])=true from eq_self (fR' _ _)];rfl) ?_⟩
 walk_at "q"
 rw[Ur]
 exact zF hm ck hl hi fi hb h
theorem yl{Q:Md->D->Prop}{ns:List Int}{cell many far:Int}{l:List aT}(jv:ns.length<=63)(hm:1<=many/\many<=20)(ck:ky many l)(hl:l.length<=1000)(h:∀ m,Q m (.bl true)) :
  pK { nx:=fun _=>Q .sh .non,rt:=Q } [some (.sh (.list (ns.map .int))),some (.sh (.int cell)),some (.sh (.int many)),some (.sh (.int far)),some (.ow true (.tup [.int many,.list (l.map bX)])),none,none,none,none,none,none,none,none]:=by
 obtain⟨w9,e9⟩:∃ w9,w9=oh:=⟨_,rfl⟩
 unfold pK
 rw[<- e9]
 walk_at "q"
 refine .inl ⟨du _,?_⟩
 refine⟨ns,many,rfl,jv,hm,fun ps hi fi=>?_⟩
 walk_at "q"
 refine .inl ⟨dW _,?_⟩
 rw[e9]
 exact CN hm ck hl hi fi h
theorem xT{Q:Md->D->Prop}{ns:List Int}{cell many:Int}(jv:ns.length<=63)(hm:1<=many/\many<=20)(h:∀ m,Q m (.bl true)) :
  oX { nx:=fun _=>Q .sh .non,rt:=Q } [some (.sh (.list (ns.map .int))),some (.sh (.int cell)),some (.sh (.int many)),none,none,none,none,none,none,none,none,none,none]:=by
 obtain⟨w6,e6⟩:∃ w6,w6=pK:=⟨_,rfl⟩
 unfold oX
 rw[<- e6]
 walk_at "q"
 refine⟨ns,1,rfl,by decide,?_⟩
 generalize ns.getD _ 0=far
 walk_at "q"
 refine⟨far,rfl,fun names n1 n3 hd=>?_⟩
 walk_at "q"
 refine⟨ns,many,names,rfl,jv,hm,n1,hd,fun l ck yb hl=>?_⟩
 walk_at "q"
 refine R.D (fun _=>?_) fun _=>?_
 ·walk_at "q"
  have hk:=eF (cell / 16) (show(0:Int)<3 by decide)
  generalize cell / 16 % 3=k at *
  refine⟨far,rfl,fun names2 n1 n3 hd=>?_⟩
  walk_at "q"
  refine .inl ⟨qN _,?_⟩
  rw[vf]
  have e2:gp names2 none (some 1)=gp names2 (some 0) (some 1):=by unfold gp;rw[pN (qB 0) (by lia)];rfl
  have hc:=Bw (l:=names2) (a:=0) (b:=1) (by decide) (by decide) (by lia)
  rw[<- e2] at hc
  refine⟨ns,7+k,gp names2 none (some 1),rfl,jv,by lia,hc.1,fun n hn=>hd n (hc.2.2 n hn),fun l2 Q_ fY' vS=>?_⟩
  walk_at "q"
  refine⟨7+k,l2,_,rfl,by lia,Q_,fY',by lia,vS,fun out hio N5=>?_⟩
  unfold mD
  walk_at "q"
  rw[e6]
  exact yl jv (by lia) hio N5 h
 ·walk_at "q"
  rw[e6]
  exact yl jv hm ck (by lia) h
theorem Iw:∀ ds Q,LD ds Q->Ds { nx:=fun _=>Q .sh .non,rt:=Q } (a_ 13 ds):=by
 rintro ds Q ⟨ns,rfl,hn,h⟩
 obtain⟨w3,e3⟩:∃ w3,w3=oX:=⟨_,rfl⟩
 unfold Ds
 rw[<- e3]
 walk_at "q"
 refine⟨ns,0,rfl,by decide,?_⟩
 generalize ns.getD _ 0=cell
 walk_at "q"
 have b1:=eF (cell / 8) (show(0:Int)<10 by decide)
 have b2:=eF (cell / 8) (show(0:Int)<20 by decide)
 refine R.D (fun _=>?_) fun _=>?_
 ·walk_at "q"
  rw[e3]
  exact xT hn (by lia) h
 ·walk_at "q"
  rw[e3]
  exact xT hn (by lia) h
def top(i:Nat):Stmt:=PySem.Challenge.pw_kinlook_k53_what_is_a_one_way_table.main.body.getD i (.Pass ⟨0,0,0,0⟩)
abbrev aL:Stmt:=top 13
abbrev gU:List Str:=["m", "state"]
abbrev dX:Stmt:=top 14
abbrev vH:List Str:=["m", "ways", "start", "deed", "end"]
abbrev cF:Stmt:=top 15
abbrev lg:List Str:=["m", "exits", "start", "deed", "end"]
abbrev aK:Stmt:=top 17
abbrev gR:List Str:=["m", "pairs", "pair"]
abbrev aR:Stmt:=top 18
abbrev fH:List Str:=["m", "pairs", "listed", "pair", "exits", "ways", "p", "q", "deed", "end"]
abbrev aO:Stmt:=top 20
abbrev iQ:List Str:=["m", "pairs"]
abbrev bD:Stmt:=top 22
abbrev lY:List Str:=["ways", "state", "walks", "waiting", "start", "end"]
abbrev aV:Stmt:=top 23
abbrev dM:List Str:=["exits", "reaches", "state", "steps", "near", "deed", "far"]
abbrev g8:Stmt:=top 24
abbrev uG:List Str:=["m", "ways", "exits", "reaches", "steps", "state"]
abbrev bA:Stmt:=top 26
abbrev kZ:List Str:=["_law_script", "_law_k"]
abbrev b_:Stmt:=top 27
abbrev oZ:List Str:=["_law_cell", "_law_letters", "_law_base"]
abbrev bB:Stmt:=top 28
abbrev lE:List Str:=["_law_script", "_law_many", "_law_deeds_here", "_law_first", "_law_known", "_law_low", "_law_k", "_law_cell", "_law_step", "_law_end"]
abbrev bj:Stmt:=top 29
abbrev gK:List Str:=["_law_m", "_law_known", "_law_step"]
abbrev aW:Stmt:=top 30
abbrev cW:List Str:=["_law_script", "_law_many", "_law_cell", "_law_low", "_law_kind", "_law_pairs_here", "_law_more"]
abbrev bN:Stmt:=top 31
abbrev gY:List Str:=["_law_m", "_law_pairs_here", "_law_held", "_law_pair", "_law_nexts", "_law_p", "_law_q", "_law_step", "_law_ends"]
abbrev b8:Stmt:=top 32
abbrev pO:List Str:=["_law_m", "_law_pairs_here", "_law_found", "e", "_law_others"]
abbrev oV:Stmt:=top 33
abbrev GQ:List Str:=["_law_script", "_law_cell", "_law_many", "_law_far", "_law_m", "_law_copied", "_law_pairs_here", "_law_handed", "_law_due_here", "_law_found", "_law_at", "_law_wrong", "_law_pair"]
abbrev rn:List Str:=["NoState"]
structure Txt(K:PySem.W.Frag)(mg:Str->Option Value):Prop where
 Oi:mg "ValueError" = none
 Oj:mg "any" = none
 Ol:mg "bool" = none
 Om:mg "enumerate" = none
 sj:mg "isinstance" = none
 B4:mg "len" = none
 AH:mg "list" = none
 wm:mg "range" = none
 Oo:mg "reversed" = none
 Oq:mg "set" = none
 D4:mg "sorted" = none
 D5:S6 mg "HIDDEN" "*"
 ga':Yr K mg "NoState"
 gb':Ht K mg rn "KinError"
 gc':∀ n C,n∈rn->mg n=some (.ref C)->∃ c,mg "NoText" = some (.ref c)/\PySem.W.kitOne K (.ref C) (.ref c)=some (decide (n = "NoText"))
 gd':∀ n C,n∈rn->mg n=some (.ref C)->∃ c,mg "NoDeed" = some (.ref c)/\PySem.W.kitOne K (.ref C) (.ref c)=some (decide (n = "NoDeed"))
 ge':∀ n C,n∈rn->mg n=some (.ref C)->∃ c,mg "TooBig" = some (.ref c)/\PySem.W.kitOne K (.ref C) (.ref c)=some (decide (n = "TooBig"))
 gf':∀ n C,n∈rn->mg n=some (.ref C)->∃ c,mg "NoMachine" = some (.ref c)/\PySem.W.kitOne K (.ref C) (.ref c)=some (decide (n = "NoMachine"))
 gg':∀ n C,n∈rn->mg n=some (.ref C)->∃ c,mg "NoName" = some (.ref c)/\PySem.W.kitOne K (.ref C) (.ref c)=some (decide (n = "NoName"))
 gh':∀ n C,n∈rn->mg n=some (.ref C)->∃ c,mg "NoScroll" = some (.ref c)/\PySem.W.kitOne K (.ref C) (.ref c)=some (decide (n = "NoScroll"))
 gi':∀ n C,n∈rn->mg n=some (.ref C)->∃ c,mg "NoFrame" = some (.ref c)/\PySem.W.kitOne K (.ref C) (.ref c)=some (decide (n = "NoFrame"))
 gj':∀ n C,n∈rn->mg n=some (.ref C)->∃ c,mg "NoRow" = some (.ref c)/\PySem.W.kitOne K (.ref C) (.ref c)=some (decide (n = "NoRow"))
 gk':∀ n C,n∈rn->mg n=some (.ref C)->PySem.W.kitOne K (.ref C) (.type "ValueError")=some true
 gl':∀ n C,n∈rn->mg n=some (.ref C)->∃ c,mg "NoState" = some (.ref c)/\PySem.W.kitOne K (.ref C) (.ref c)=some (decide (n = "NoState"))
section
variable {P:Program}{w:World}{K:PySem.W.Frag}{mg:Str->Option Value}{base:Heap}
theorem gQ:kU gU ["m", "state"] (cv aL):=⟨rfl,rfl,rfl,by decide +kernel,rfl,by decide +kernel,by decide +kernel⟩
theorem pM {f:Addr} (T:Txt K mg)  (cS:Value) (A:Around) (outer:List PySem.Env) (s:Shared) (H:Hp) (E:XK) (hr:ki 0 (A.deeper (envOfC "check_state" (cv aL) s.heap.objs.size f cS))) :
  qh (rg (n4 P w mg rn) P w K mg base gU "check_state" (cv aL) f cS A outer s H E) K (LX rn mg E) (ic aL) fu :=
 have nd:=gQ.nd
 have hu:(A.deeper (envOfC "check_state" (cv aL) s.heap.objs.size f cS)).units+64<cLine:=hr.units
 (ao (eV (vy (zm GF uf Ib Bd au (qv 1) (fz hu (qv 0) au)))
   (ao (Ai rfl FN T.ga' (.head _) il))
   bw))
theorem m_ {f:Addr} {fd:FuncData} (F:hV K "check_state" "check_state" aL f fd) (T:Txt K mg)  : hJ P w K mg base (n4 P w mg rn) 1 f fd ["m", "state"] (fD K rn mg aP) :=
 T8.ok F gQ jZ (pM T ) pZ
theorem nG:kU vH ["m"] (cv dX):=⟨rfl,rfl,rfl,by decide +kernel,rfl,by decide +kernel,by decide +kernel⟩
theorem vO {f:Addr} {fd:FuncData} (F:hV K "ways_of" "ways_of" dX f fd) (T:Txt K mg)  : hJ P w K mg base kE 1 f fd ["m"] (aA K bZ) :=
 sP.ok (t:=l_) F nG sW (fun cS A outer s H E hr =>
  have nd:=nG.nd
  have hu:=hr.units
  (aj (aF (i:=1) nd rfl (Or.inl rfl) lW)
   (aj (aG 0 (cP PassesOwn.never rfl (cD (fz hu (qv 0) au)) (lD rfl (aY (aB (i:=2) nd rfl (Or.inl rfl)) (aY (aB (i:=3) nd rfl (Or.inl rfl)) (aY (aB (i:=4) nd rfl (Or.inl rfl)) g_))))
   (ao (aG 4 (aG 3 (aG 2 (Jj hu (pv 1) (cg (aa (qv 2) (aa (qv 3) aq))) (qv 4))))))))
   (ao (pB (pv 1)))))) yK
theorem j_:kU lg ["m"] (cv cF):=⟨rfl,rfl,rfl,by decide +kernel,rfl,by decide +kernel,by decide +kernel⟩
theorem sX {f:Addr} {fd:FuncData} (F:hV K "exits_of" "exits_of" cF f fd) (T:Txt K mg)  : hJ P w K mg base kE 1 f fd ["m"] (aA K bJ) :=
 sP.ok (t:=jb) F j_ rP (fun cS A outer s H E hr =>
  have nd:=j_.nd
  have hu:=hr.units
  (aj (dZ (i:=1) (tn:=["state"]) (cn:=[]) (ix:=[]) nd rfl (Or.inl rfl) rfl (lM (fV T.wm (fz hu (qv 0) au))) (bH.of (sc:=cv cF) (N:=lg) rfl rfl (by decide +kernel)) (fun _ _ _ _=>(aB (i:=0) (show(["state"]:List Str).Nodup by decide +kernel) rfl (Or.inl rfl) (.inr rfl))) (fun _ _ _ _=>dR) (fun _ _ _ _=>(fK aq)))
   (aj (aG 0 (cP PassesOwn.never rfl (cD (fz hu (qv 0) au)) (lD rfl (aY (aB (i:=2) nd rfl (Or.inl rfl)) (aY (aB (i:=3) nd rfl (Or.inl rfl)) (aY (aB (i:=4) nd rfl (Or.inl rfl)) g_))))
   (ao (aG 4 (aG 3 (qD (HQ hu (bW (pv 1)) (qv 2)) (cg (aa (qv 3) (aa (qv 4) aq)))))))))
   (ao (pB (pv 1)))))) vZ
theorem gj:kU lY ["ways", "state"] (cv bD):=⟨rfl,rfl,rfl,by decide +kernel,rfl,by decide +kernel,by decide +kernel⟩
theorem lQ {f:Addr} {fd:FuncData} (F:hV K "hidden_walks" "hidden_walks" bD f fd) (T:Txt K mg)  : hJ P w K mg base kE 1 f fd ["ways", "state"] (aA K bf) :=
 sP.ok (t:=dI) F gj jG (fun cS A outer s H E hr =>
  have nd:=gj.nd
  have hu:=hr.units
  (aj (aF (i:=2) nd rfl (Or.inl rfl) (A_ (qv 1) (QD (fK aq))))
   (aj (aG 1 (aF (i:=3) nd rfl (Or.inl rfl) (fK (aa (qv 1) aq))))
   (aj (Bb PassesOwn.never (Dk (qv 3))
   (aj (Gr (i:=4) nd rfl (Or.inl rfl) (bW (pv 3)))
   (ao (aG 4 (cP PassesOwn.never rfl (cD (GC hu (qv 0) (cg (aa (qv 4) (aa (Qi T.D5) aq))) (QD (fK aq)))) (aB (i:=5) nd rfl (Or.inl rfl))
   (ao (eV (bh (Fw (K:=K) hu) zE (qv 5) (qv 2) (by rfl))
   (aj (aG 5 (aG 4 (zq hu (bW (pv 2)) (qv 5) (QD (cR (fz hu (qv 2) (qv 4)) (fK (aa (cg (aa (qv 4) (aa (Qi T.D5) (aa (qv 5) aq)))) aq)))))))
   (ao (aG 5 (qD (bW (pv 3)) (qv 5)))))
   bw)))))))
   (ao (pB (pv 2))))))) mJ
theorem gM:kU dM ["exits", "reaches", "state"] (cv aV):=⟨rfl,rfl,rfl,by decide +kernel,rfl,by decide +kernel,by decide +kernel⟩
theorem mH {f:Addr} {fd:FuncData} (F:hV K "eased_steps" "eased_steps" aV f fd) (T:Txt K mg)  : hJ P w K mg base kE 1 f fd ["exits", "reaches", "state"] (aA K bz) :=
 sP.ok (t:=eY) F gM lu (fun cS A outer s H E hr =>
  have nd:=gM.nd
  have hu:=hr.units
  (aj (aG 2 (dZ (i:=3) (tn:=["end"]) (cn:=["state"]) (ix:=[2]) nd rfl (Or.inl rfl) rfl (lO (fz hu (qv 1) (qv 2))) (bH.of (sc:=cv aV) (N:=dM) rfl rfl (by decide +kernel)) (fun _ _ _ _=>(aB (i:=0) (show(["end", "state"]:List Str).Nodup by decide +kernel) rfl (Or.inl rfl) (.inr rfl))) (fun _ _ _ _=>dR) (fun _ _ _ _=>(cg (aa (qv 1) (aa (Qi T.D5) (aa (qv 0) aq)))))))
   (aj (aG 1 (cP PassesOwn.never rfl (cD (fz hu (qv 1) (qv 2))) (aB (i:=4) nd rfl (Or.inl rfl))
   (ao (aG 0 (cP PassesOwn.never rfl (cD (fz hu (qv 0) (qv 4))) (lD rfl (aY (aB (i:=5) nd rfl (Or.inr rfl)) (aY (aB (i:=6) nd rfl (Or.inl rfl)) g_)))
   (ao (eV (bh (DC (K:=K) hu) rQ (qv 5) (Qi T.D5) (kA _))
   (ao (aG 5 (aG 2 (BR (bW (pv 3)) (nU (tn:=["end"]) (cn:=["deed", "state"]) (ix:=[5,2]) rfl (lO (fz hu (qv 1) (qv 6))) (bH.of (sc:=cv aV) (N:=dM) rfl rfl (by decide +kernel)) (fun _ _ _ _=>(aB (i:=0) (show(["end", "deed", "state"]:List Str).Nodup by decide +kernel) rfl (Or.inl rfl) (.inr rfl))) (fun _ _ _ _=>dR) (fun _ _ _ _=>(cg (aa (qv 2) (aa (qv 1) (aa (qv 0) aq))))))))))
   bw)))))))
   (ao (di (vR hu rfl T.D4 rfl T.Oq (qv 3))))))) oH
theorem fQ:kU kZ ["_law_script", "_law_k"] (cv bA):=⟨rfl,rfl,rfl,by decide +kernel,rfl,by decide +kernel,by decide +kernel⟩
theorem lZ {f:Addr} {fd:FuncData} (F:hV K "_law_cell_at" "_law_cell_at" bA f fd) (T:Txt K mg)  : hJ P w K mg base kE 1 f fd ["_law_script", "_law_k"] (aA K aD) :=
 sP.ok (t:=dO) F fQ jF (fun cS A outer s H E hr =>
  have nd:=fQ.nd
  have hu:=hr.units
  (aj (eV (bh uf Bd (qv 1) (e_ dY qL rfl T.B4 qF (qv 0)) (kA _))
   (ao (di (fz hu (qv 0) (qv 1))))
   bw)
   (ao (di au)))) m8
theorem iH:kU oZ ["_law_cell"] (cv b_):=⟨rfl,rfl,rfl,by decide +kernel,rfl,by decide +kernel,by decide +kernel⟩
theorem o_ {f:Addr} {fd:FuncData} (F:hV K "_law_deeds" "_law_deeds" b_ f fd) (T:Txt K mg)  : hJ P w K mg base kE 1 f fd ["_law_cell"] (aA K bu) :=
 sP.ok (t:=gn) F iH m5 (fun cS A outer s H E hr =>
  have nd:=iH.nd
  have hu:=hr.units
  (aj (aF (i:=1) nd rfl (Or.inl rfl) il)
   (aj (aF (i:=2) nd rfl (Or.inl rfl) (cR (fz hu (qv 1) (cj (cT (qv 0) au) au)) (Gn (fz hu (qv 1) (cj (cT (qv 0) au) au)) (cj (cT (qv 0) au) au))))
   (ao (aG 2 (di (gZ (fz hu (fK (aa (fK (aa (qv 2) (aa (cR (qv 2) il) (aa il aq)))) (aa (fK (aa il (aa (qv 2) (aa (cR il (gZ (qv 2) (eU au) jW)) aq)))) aq))) (cj (qv 0) au)) jW (eU (cR au (cj (cT (qv 0) au) au)))))))))) qR
theorem lA:kU gY ["_law_m", "_law_pairs_here"] (cv bN):=⟨rfl,rfl,rfl,by decide +kernel,rfl,by decide +kernel,by decide +kernel⟩
theorem sJ {f:Addr} {fd:FuncData} (F:hV K "_law_due" "_law_due" bN f fd) (T:Txt K mg)  : hJ P w K mg base kE 1 f fd ["_law_m", "_law_pairs_here"] (aA K bY) :=
 sP.ok (t:=jj) F lA qx (fun cS A outer s H E hr =>
  have nd:=lA.nd
  have hu:=hr.units
  (aj (aF (i:=2) nd rfl (Or.inr rfl) lW)
   (aj (aG 1 (cP PassesOwn.never rfl (cD (qv 1)) (aB (i:=3) nd rfl (Or.inl rfl))
   (ao (lK hu (bW (pv 2)) (qv 3) ub))))
   (aj (rW (i:=4) (tn:=["_law_k"]) (cn:=["_law_m"]) (ix:=[0]) nd rfl (Or.inl rfl) rfl (lM (fV T.wm (fz hu (qv 0) au))) (eO.of (sc:=cv bN) (N:=gY) rfl rfl (by decide +kernel)) (fun _ _ _ _=>(aB (i:=0) (show(["_law_k", "_law_m"]:List Str).Nodup by decide +kernel) rfl (Or.inr rfl) (.inl rfl))) (fun _ _ _ _=>dR) (fun _ _ _ _=>(nU (tn:=["_law_step"]) (cn:=["_law_k"]) (ix:=[0]) rfl (lO (fz hu (qv 1) au)) (bH.inC (sc:=cv bN) rfl (by decide +kernel)) (fun _ _ _ _=>(aB (i:=0) (show(["_law_step", "_law_k"]:List Str).Nodup by decide +kernel) rfl (Or.inl rfl) (.inr rfl))) (fun _ _ _ _=>(xK (bh (sA (K:=K) hu) iD (fz hu (qv 0) au) (qv 1) (kA _)))) (fun _ _ _ _=>(qv 0)))))
   (aj (aG 4 (cP PassesOwn.never rfl (cD (iZ d_ lL rfl T.AH jl (qv 2))) (lD rfl (aY (aB (i:=5) nd rfl (Or.inl rfl)) (aY (aB (i:=6) nd rfl (Or.inl rfl)) g_)))
   (ao (aG 4 (cP PassesOwn.never rfl (cD (fz hu (qv 4) (qv 5))) (aB (i:=7) nd rfl (Or.inr rfl))
   (aj (dZ (i:=8) (tn:=["_law_other"]) (cn:=["_law_held", "_law_step"]) (ix:=[2,7]) nd rfl (Or.inl rfl) rfl (lO (fz hu (qv 4) (qv 6))) (bH.of (sc:=cv bN) (N:=gY) rfl rfl (by decide +kernel)) (fun _ _ _ _=>(aB (i:=0) (show(["_law_other", "_law_held", "_law_step"]:List Str).Nodup by decide +kernel) rfl (Or.inl rfl) (.inr rfl))) (fun _ _ _ _=>(xK (Fs (rJ (bh (sA (K:=K) hu) iD (fz hu (qv 0) au) (fz hu (qv 2) au) (kA _)) (lX (bh (kf (K:=K) hu) zE (cg (aa (fz hu (qv 2) au) (aa (fz hu (qv 0) au) aq))) (qv 1) (by rfl))))))) (fun _ _ _ _=>(qv 0)))
   (ao (eV (bh (sA (K:=K) hu) iD (qv 8) (fK aq) (kA _))
   (ao (di ub))
   bw))))))))
   (ao (di ub))))))) vA
theorem gH:kU gR ["m", "pairs"] (cv aK):=⟨rfl,rfl,rfl,by decide +kernel,rfl,by decide +kernel,by decide +kernel⟩
theorem pJ {f:Addr} (T:Txt K mg) (Ra:x5 P w K mg base rn 1 "check_state" ["m", "state"] aP) (cS:Value) (A:Around) (outer:List PySem.Env) (s:Shared) (H:Hp) (E:XK) (hr:ki 1 (A.deeper (envOfC "check_pairs" (cv aK) s.heap.objs.size f cS))) :
  qh (rg (n4 P w mg rn) P w K mg base gR "check_pairs" (cv aK) f cS A outer s H E) K (LX rn mg E) (ic aK) fj :=
 have nd:=gH.nd
 have hu:(A.deeper (envOfC "check_pairs" (cv aK) s.heap.objs.size f cS)).units+64<cLine:=hr.units
 (ao (aG 1 (cP PassesOwn.leaving rfl (cD (qv 1)) (aB (i:=2) nd rfl (Or.inl rfl))
   (aj (oR Ra (hr.mono (by decide)) Cd (aa (qv 0) (aa (fz hu (qv 2) au) aq)))
   (ao (oR Ra (hr.mono (by decide)) Cd (aa (qv 0) (aa (fz hu (qv 2) au) aq))))))))
theorem mO {f:Addr} {fd:FuncData} (F:hV K "check_pairs" "check_pairs" aK f fd) (T:Txt K mg) (Ra:x5 P w K mg base rn 1 "check_state" ["m", "state"] aP):hJ P w K mg base (n4 P w mg rn) 2 f fd ["m", "pairs"] (fD K rn mg aX) :=
 T8.ok F gH kJ (pJ T Ra) oM
theorem fG:kU fH ["m", "pairs"] (cv aR):=⟨rfl,rfl,rfl,by decide +kernel,rfl,by decide +kernel,by decide +kernel⟩
theorem jz {f:Addr} {fd:FuncData} (F:hV K "steps_matched" "steps_matched" aR f fd) (T:Txt K mg) (Us:gE P w K mg base 1 "exits_of" ["m"] (aA K bJ)) (Ut:gE P w K mg base 1 "ways_of" ["m"] (aA K bZ)):hJ P w K mg base kE 2 f fd ["m", "pairs"] (aA K aM) :=
 sP.ok (t:=dB) F fG je (fun cS A outer s H E hr =>
  have nd:=fG.nd
  have hu:=hr.units
  (aj (aF (i:=2) nd rfl (Or.inr rfl) lW)
   (aj (aG 1 (cP PassesOwn.never rfl (cD (qv 1)) (aB (i:=3) nd rfl (Or.inl rfl))
   (ao (lK hu (bW (pv 2)) (qv 3) ub))))
   (aj (aF (i:=4) nd rfl (Or.inl rfl) (cZ Us (hr.mono (by decide)) (aa (qv 0) aq)))
   (aj (aF (i:=5) nd rfl (Or.inl rfl) (cZ Ut (hr.mono (by decide)) (aa (qv 0) aq)))
   (aj (aG 5 (aG 4 (aG 2 (Dq PassesOwn.never rfl (qv 2) (lD rfl (aY (aB (i:=6) nd rfl (Or.inl rfl)) (aY (aB (i:=7) nd rfl (Or.inl rfl)) g_)))
   (ao (aG 4 (cP PassesOwn.never rfl (cD (fz hu (qv 4) (qv 6))) (lD rfl (aY (aB (i:=8) nd rfl (Or.inl rfl)) (aY (aB (i:=9) nd rfl (Or.inr rfl)) g_)))
   (ao (aG 8 (aG 7 (aG 9 (eV (vy (uQ (e_ fI' Fj rfl T.Oj FZ (nU (tn:=["other"]) (cn:=["end", "listed"]) (ix:=[9,2]) rfl (lO (GC hu (qv 5) (cg (aa (qv 7) (aa (qv 8) aq))) (QD (fK aq)))) (bH.of (sc:=cv aR) (N:=fH) rfl rfl (by decide +kernel)) (fun _ _ _ _=>(aB (i:=0) (show(["other", "end", "listed"]:List Str).Nodup by decide +kernel) rfl (Or.inl rfl) (.inr rfl))) (fun _ _ _ _=>dR) (fun _ _ _ _=>(Dy (kf (K:=K) hu) zE (cg (aa (qv 1) (aa (qv 0) aq))) (qv 2) (by rfl)))))))
   (ao (di ub))
   bw)))))))) (fun _ _=>trivial)))))
   (ao (di ub)))))))) kI
theorem uZ:kU uG ["m"] (cv g8):=⟨rfl,rfl,rfl,by decide +kernel,rfl,by decide +kernel,by decide +kernel⟩
theorem zN {f:Addr} {fd:FuncData} (F:hV K "eased" "eased" g8 f fd) (T:Txt K mg) (Ut:gE P w K mg base 1 "ways_of" ["m"] (aA K bZ)) (Us:gE P w K mg base 1 "exits_of" ["m"] (aA K bJ)) (gm':gE P w K mg base 1 "hidden_walks" ["ways", "state"] (aA K bf)) (gn':gE P w K mg base 1 "eased_steps" ["exits", "reaches", "state"] (aA K bz)):hJ P w K mg base kE 2 f fd ["m"] (aA K eZ) :=
 sP.ok (t:=rY) F uZ xJ (fun cS A outer s H E hr =>
  have nd:=uZ.nd
  have hu:=hr.units
  (aj (aF (i:=1) nd rfl (Or.inr rfl) (cZ Ut (hr.mono (by decide)) (aa (qv 0) aq)))
   (aj (aF (i:=2) nd rfl (Or.inl rfl) (cZ Us (hr.mono (by decide)) (aa (qv 0) aq)))
   (aj (dZ (i:=3) (tn:=["state"]) (cn:=["ways"]) (ix:=[1]) nd rfl (Or.inl rfl) rfl (lM (fV T.wm (fz hu (qv 0) au))) (bH.of (sc:=cv g8) (N:=uG) rfl rfl (by decide +kernel)) (fun _ _ _ _=>(aB (i:=0) (show(["state", "ways"]:List Str).Nodup by decide +kernel) rfl (Or.inl rfl) (.inr rfl))) (fun _ _ _ _=>dR) (fun _ _ _ _=>(e_ Hg Ah rfl T.D4 iG (cZ gm' (hr.mono (by decide)) (aa (qv 1) (aa (qv 0) aq))))))
   (aj (aF (i:=4) nd rfl (Or.inl rfl) (fK aq))
   (aj (cP PassesOwn.never rfl (fV T.wm (fz hu (qv 0) au)) (aB (i:=5) nd rfl (Or.inl rfl))
   (ao (BR (bW (pv 4)) (cZ gn' (hr.mono (by decide)) (aa (qv 2) (aa (qv 3) (aa (qv 5) aq)))))))
   (ao (tG (TQ (fz hu (qv 0) au) (TR (pv 4) za)))))))))) DX
theorem fM:kU lE ["_law_script", "_law_many", "_law_deeds_here"] (cv bB):=⟨rfl,rfl,rfl,by decide +kernel,rfl,by decide +kernel,by decide +kernel⟩
theorem lN {f:Addr} {fd:FuncData} (F:hV K "_law_machine" "_law_machine" bB f fd) (T:Txt K mg) (LH:gE P w K mg base 1 "_law_cell_at" ["_law_script", "_law_k"] (aA K aD)):hJ P w K mg base kE 2 f fd ["_law_script", "_law_many", "_law_deeds_here"] (aA K aU) :=
 sP.ok (t:=dN) F fM jB (fun cS A outer s H E hr =>
  have nd:=fM.nd
  have hu:=hr.units
  (aj (aF (i:=3) nd rfl (Or.inl rfl) (cZ LH (hr.mono (by decide)) (aa (qv 0) (aa au aq))))
   (aj (aF (i:=4) nd rfl (Or.inl rfl) lW)
   (aj (aG 1 (aF (i:=5) nd rfl (Or.inl rfl) (qv 1)))
   (aj (eV (bh (sA (K:=K) hu) iD (cj (qv 3) au) au (kA _))
   (ao (aF (i:=5) nd rfl (Or.inl rfl) (cT (cR (qv 1) au) au)))
   bw)
   (aj (aG 0 (cP PassesOwn.never rfl (En T.Om (gZ (qv 0) (eU au) (eU au))) (lD rfl (aY (aB (i:=6) nd rfl (Or.inl rfl)) (aY (aB (i:=7) nd rfl (Or.inl rfl)) g_)))
   (aj (aF (i:=8) nd rfl (Or.inl rfl) (cg (aa (cj (qv 7) (qv 5)) (aa (fz hu (qv 2) (cj (cT (cT (qv 7) (qv 5)) (qv 5)) (e_ dY qL rfl T.B4 qF (qv 2)))) (aa (cj (cT (qv 7) (qv 5)) (qv 5)) aq)))))
   (aj (lK hu (bW (pv 4)) (qv 8) ub)
   (ao (eV (Fs (rJ (bh uf Bd (cR (fz hu (qv 8) au) (qv 5)) (qv 1) (kA _)) (lX (bh (DC (K:=K) hu) rQ (cj (cT (cT (qv 3) au) (cR (Ii (qv 6) (qv 6)) au)) au) au (kA _)))))
   (aj (aF (i:=9) nd rfl (Or.inl rfl) (fz hu (qv 8) au))
   (aj (eV (Fs (rJ (bh (sA (K:=K) hu) iD (cj (cT (cT (qv 3) au) (cR (qv 6) au)) au) au (kA _)) (lX (bh uf Bd (cR (qv 9) (qv 5)) (qv 1) (kA _)))))
   (ao (aF (i:=9) nd rfl (Or.inl rfl) (cR (qv 9) (qv 5))))
   bw)
   (ao (lK hu (bW (pv 4)) (cg (aa (cR (fz hu (qv 8) au) (qv 5)) (aa (fz hu (qv 8) au) (aa (qv 9) aq)))) ub))))
   bw))))))
   (ao (tG (TR (pv 1) (TQ (e_ Bp uW rfl T.D4 iG (iZ d_ lL rfl T.AH jl (qv 4))) za)))))))))) nj
theorem iY:kU cW ["_law_script", "_law_many"] (cv aW):=⟨rfl,rfl,rfl,by decide +kernel,rfl,by decide +kernel,by decide +kernel⟩
theorem pH {f:Addr} {fd:FuncData} (F:hV K "_law_pairs" "_law_pairs" aW f fd) (T:Txt K mg) (LH:gE P w K mg base 1 "_law_cell_at" ["_law_script", "_law_k"] (aA K aD)):hJ P w K mg base kE 2 f fd ["_law_script", "_law_many"] (aA K bO) :=
 sP.ok (t:=gA) F iY mR (fun cS A outer s H E hr =>
  have nd:=iY.nd
  have hu:=hr.units
  (aj (aF (i:=2) nd rfl (Or.inl rfl) (cZ LH (hr.mono (by decide)) (aa (qv 0) (aa au aq))))
   (aj (aF (i:=3) nd rfl (Or.inr rfl) (cT (cR (qv 1) au) au))
   (aj (aF (i:=4) nd rfl (Or.inl rfl) (cj (qv 2) au))
   (aj (aF (i:=5) nd rfl (Or.inl rfl) (fK aq))
   (aj (eV (bh (sA (K:=K) hu) iD (qv 4) au (kA _))
   (ao (dZ (i:=5) (tn:=["_law_k"]) (cn:=[]) (ix:=[]) nd rfl (Or.inl rfl) rfl (lM (fV T.wm (qv 1))) (bH.of (sc:=cv aW) (N:=cW) rfl rfl (by decide +kernel)) (fun _ _ _ _=>(aB (i:=0) (show(["_law_k"]:List Str).Nodup by decide +kernel) rfl (Or.inl rfl) (.inr rfl))) (fun _ _ _ _=>dR) (fun _ _ _ _=>(cg (aa (qv 0) (aa (qv 0) aq))))))
   bw)
   (aj (eV (bh (sA (K:=K) hu) iD (qv 4) au (kA _))
   (ao (aF (i:=5) nd rfl (Or.inl rfl) (cR (nU (tn:=["_law_k"]) (cn:=[]) (ix:=[]) rfl (lM (fV T.wm (qv 3))) (bH.of (sc:=cv aW) (N:=cW) rfl rfl (by decide +kernel)) (fun _ _ _ _=>(aB (i:=0) (show(["_law_k"]:List Str).Nodup by decide +kernel) rfl (Or.inl rfl) (.inr rfl))) (fun _ _ _ _=>dR) (fun _ _ _ _=>(cg (aa (qv 0) (aa (qv 0) aq))))) (nU (tn:=["_law_k"]) (cn:=["_law_low"]) (ix:=[3]) rfl (lM (fV T.wm (B_ (qv 1) (qv 3)))) (bH.of (sc:=cv aW) (N:=cW) rfl rfl (by decide +kernel)) (fun _ _ _ _=>(aB (i:=0) (show(["_law_k", "_law_low"]:List Str).Nodup by decide +kernel) rfl (Or.inl rfl) (.inr rfl))) (fun _ _ _ _=>dR) (fun _ _ _ _=>(cg (aa (cR (qv 0) (qv 1)) (aa (qv 0) aq))))))))
   bw)
   (aj (aG 0 (cP PassesOwn.never rfl (cD (gZ (qv 0) (eU au) (eU (cR au (cj (cT (qv 2) au) au))))) (aB (i:=6) nd rfl (Or.inl rfl))
   (ao (qD (bW (pv 5)) (cg (aa (cj (cT (qv 6) au) (qv 1)) (aa (cj (cT (cT (qv 6) au) (qv 1)) (qv 1)) aq)))))))
   (aj (eV (Fs (rJ (bh (DC (K:=K) hu) rQ (qv 5) (fK aq) (kA _)) (lX (bh (sA (K:=K) hu) iD (cj (cT (qv 2) au) au) au (kA _)))))
   (ao (CJ (bW (pv 5)) (cj (cT (qv 2) au) (e_ dY qL rfl T.B4 qF (qv 5)))))
   bw)
   (aj (eV (Fs (rJ (bh (DC (K:=K) hu) rQ (qv 5) (fK aq) (kA _)) (lX (bh (sA (K:=K) hu) iD (cj (cT (qv 2) au) au) au (kA _)))))
   (ao (qD (bW (pv 5)) (fz hu (qv 5) (cj (cT (qv 2) au) (e_ dY qL rfl T.B4 qF (qv 5))))))
   bw)
   (aj (eV (bh (sA (K:=K) hu) iD (cj (cT (qv 2) au) au) au (kA _))
   (ao (aF (i:=5) nd rfl (Or.inl rfl) (wD rfl T.AH rfl T.Oo (qv 5))))
   bw)
   (ao (pB (pv 5)))))))))))))) qj
theorem iu:kU iQ ["m", "pairs"] (cv aO):=⟨rfl,rfl,rfl,by decide +kernel,rfl,by decide +kernel,by decide +kernel⟩
theorem qW {f:Addr} (T:Txt K mg) (Uu:x5 P w K mg base rn 2 "check_pairs" ["m", "pairs"] aX) (Uv:gE P w K mg base 2 "steps_matched" ["m", "pairs"] (aA K aM)) (cS:Value) (A:Around) (outer:List PySem.Env) (s:Shared) (H:Hp) (E:XK) (hr:ki 2 (A.deeper (envOfC "is_one_way" (cv aO) s.heap.objs.size f cS))) :
  qh (rg (n4 P w mg rn) P w K mg base iQ "is_one_way" (cv aO) f cS A outer s H E) K (LX rn mg E) (ic aO) gq :=
 have nd:=iu.nd
 have hu:(A.deeper (envOfC "is_one_way" (cv aO) s.heap.objs.size f cS)).units+64<cLine:=hr.units
 (aj (oR Uu (hr.mono (by decide)) Cd (aa (qv 0) (aa (qv 1) aq)))
   (ao (di (cZ Uv (hr.mono (by decide)) (aa (qv 0) (aa (qv 1) aq))))))
theorem ph {f:Addr} {fd:FuncData} (F:hV K "is_one_way" "is_one_way" aO f fd) (T:Txt K mg) (Uu:x5 P w K mg base rn 2 "check_pairs" ["m", "pairs"] aX) (Uv:gE P w K mg base 2 "steps_matched" ["m", "pairs"] (aA K aM)):hJ P w K mg base (n4 P w mg rn) 3 f fd ["m", "pairs"] (fD K rn mg bR) :=
 T8.ok F iu mZ (qW T Uu Uv) qM
theorem gJ:kU gK ["_law_m"] (cv bj):=⟨rfl,rfl,rfl,by decide +kernel,rfl,by decide +kernel,by decide +kernel⟩
theorem mQ {f:Addr} {fd:FuncData} (F:hV K "_law_ringed" "_law_ringed" bj f fd) (T:Txt K mg) (gp':gE P w K mg base 2 "eased" ["m"] (aA K eZ)):hJ P w K mg base kE 3 f fd ["_law_m"] (aA K bC) :=
 sP.ok (t:=eQ) F gJ lz (fun cS A outer s H E hr =>
  have nd:=gJ.nd
  have hu:=hr.units
  (aj (aF (i:=1) nd rfl (Or.inl rfl) lW)
   (aj (cP PassesOwn.never rfl (cD (cR (fz hu (qv 0) au) (nU (tn:=["_law_k"]) (cn:=["_law_m"]) (ix:=[0]) rfl (lM (fV T.wm (fz hu (qv 0) au))) (bH.of (sc:=cv bj) (N:=gK) rfl rfl (by decide +kernel)) (fun _ _ _ _=>(aB (i:=0) (show(["_law_k", "_law_m"]:List Str).Nodup by decide +kernel) rfl (Or.inl rfl) (.inr rfl))) (fun _ _ _ _=>dR) (fun _ _ _ _=>(cg (aa (qv 0) (aa il (aa (cj (cR (qv 0) au) (fz hu (qv 1) au)) aq)))))))) (aB (i:=2) nd rfl (Or.inl rfl))
   (ao (lK hu (bW (pv 1)) (qv 2) ub)))
   (ao (di (cZ gp' (hr.mono (by decide)) (aa (cg (aa (fz hu (qv 0) au) (aa (e_ Bp uW rfl T.D4 iG (iZ d_ lL rfl T.AH jl (qv 1))) aq))) aq))))))) oA
theorem iw:kU pO ["_law_m", "_law_pairs_here"] (cv b8):=⟨rfl,rfl,rfl,by decide +kernel,rfl,by decide +kernel,by decide +kernel⟩
theorem ou {f:Addr} {fd:FuncData} (F:hV K "_law_asked" "_law_asked" b8 f fd) (T:Txt K mg) (gq':x5 P w K mg base rn 3 "is_one_way" ["m", "pairs"] bR):hJ P w K mg base kE 4 f fd ["_law_m", "_law_pairs_here"] (aA K aN) :=
 sP.ok (t:=gr) F iw m7 (fun cS A outer s H E hr =>
  have nd:=iw.nd
  have hu:=hr.units
  (aj (G4 (j:=3) (ρh:=fun a=>[none,none,none,some (.xc a),none]) T.gb' nd rfl rfl rfl rfl (fun a=>rfl) (fun pn xe E1 Yo=>(ao (Df gq' (hr.mono (by decide)) Yo (i:=2) nd rfl (Or.inl rfl) (aa (qv 0) (aa (qv 1) aq)))))
   (fun pn a oe n C hn hm xc hp ip=>by
    obtain⟨gr',gs',gt'⟩:=T.gc' n C hn hm
    obtain⟨gu',gv',gw'⟩:=T.gd' n C hn hm
    obtain⟨gx',gy',gz'⟩:=T.ge' n C hn hm
    obtain⟨gA',gB',gC'⟩:=T.gf' n C hn hm
    obtain⟨gD',gE',gF'⟩:=T.gg' n C hn hm
    obtain⟨gG',gH',gI'⟩:=T.gh' n C hn hm
    obtain⟨gJ',gK',gL'⟩:=T.gi' n C hn hm
    obtain⟨gM',gN',gO'⟩:=T.gj' n C hn hm
    obtain⟨gP',gQ',gR'⟩:=T.gl' n C hn hm
    exact(aj (aF (i:=4) nd rfl (Or.inl rfl) (fK (aa (mU (vc:=.ref gA') (j:=3) T.sj hp ip xc gC' (pv 3) (zh rfl gB' rfl) (fun _ r=>r)) (aa (mU (vc:=.ref gx') (j:=3) T.sj hp ip xc gz' (pv 3) (zh rfl gy' rfl) (fun _ r=>r)) (aa (mU (vc:=.ref gu') (j:=3) T.sj hp ip xc gw' (pv 3) (zh rfl gv' rfl) (fun _ r=>r)) (aa (mU (vc:=.ref gr') (j:=3) T.sj hp ip xc gt' (pv 3) (zh rfl gs' rfl) (fun _ r=>r)) aq))))))
   (aj (aF (i:=4) nd rfl (Or.inl rfl) (cR (qv 4) (fK (aa (mU (vc:=.ref gJ') (j:=3) T.sj hp ip xc gL' (pv 3) (zh rfl gK' rfl) (fun _ r=>r)) (aa (mU (vc:=.ref gG') (j:=3) T.sj hp ip xc gI' (pv 3) (zh rfl gH' rfl) (fun _ r=>r)) (aa (mU (vc:=.ref gD') (j:=3) T.sj hp ip xc gF' (pv 3) (zh rfl gE' rfl) (fun _ r=>r)) aq))))))
   (aj (eV (Fs (xx (bh (kf (K:=K) hu) zE ub (qv 4) (by rfl)) (xx (uQ (mU (vc:=.ref gM') (j:=3) T.sj hp ip xc gO' (pv 3) (zh rfl gN' rfl) (fun _ r=>r))) (BK (vy (uQ (mU (vc:=.ty "ValueError") (j:=3) T.sj hp ip xc (T.gk' n C hn hm) (pv 3) (FQ T.Oi oY) (fun _ r=>r))))))))
   (ao (di (cg (aa il (aa il aq)))))
   bw)
   (ao (di (cg (aa il (aa (mU (vc:=.ref gP') (j:=3) T.sj hp ip xc gR' (pv 3) (zh rfl gQ' rfl) (fun _ r=>r)) aq))))))))))
   (ao (tG (TQ il (TR (pv 2) za)))))) qT
theorem Bh:kU GQ ["_law_script"] (cv oV):=⟨rfl,rfl,rfl,by decide +kernel,rfl,by decide +kernel,by decide +kernel⟩
theorem gS' {f:Addr} {fd:FuncData} (F:hV K "law" "law" oV f fd) (T:Txt K mg) (LH:gE P w K mg base 1 "_law_cell_at" ["_law_script", "_law_k"] (aA K aD)) (YQ:gE P w K mg base 2 "_law_machine" ["_law_script", "_law_many", "_law_deeds_here"] (aA K aU)) (gT':gE P w K mg base 2 "_law_pairs" ["_law_script", "_law_many"] (aA K bO)) (YR:gE P w K mg base 1 "_law_due" ["_law_m", "_law_pairs_here"] (aA K bY)) (Rb:gE P w K mg base 4 "_law_asked" ["_law_m", "_law_pairs_here"] (aA K aN)) (YS:gE P w K mg base 1 "_law_deeds" ["_law_cell"] (aA K bu)) (gU':gE P w K mg base 3 "_law_ringed" ["_law_m"] (aA K bC)):hJ P w K mg base kE 5 f fd ["_law_script"] (aA K LD) :=
 sP.ok (t:=Ds) F Bh Dd (fun cS A outer s H E hr =>
  have nd:=Bh.nd
  have hu:=hr.units
  (aj (aF (i:=1) nd rfl (Or.inl rfl) (cZ LH (hr.mono (by decide)) (aa (qv 0) (aa au aq))))
   (aj (aF (i:=2) nd rfl (Or.inl rfl) (cR au (cj (cT (qv 1) au) au)))
   (aj (eV (bh (sA (K:=K) hu) iD (cj (qv 1) au) au (kA _))
   (ao (aF (i:=2) nd rfl (Or.inl rfl) (cR au (cj (cT (qv 1) au) au))))
   bw)
   (aj (aF (i:=3) nd rfl (Or.inl rfl) (cZ LH (hr.mono (by decide)) (aa (qv 0) (aa au aq))))
   (aj (aF (i:=4) nd rfl (Or.inl rfl) (cZ YQ (hr.mono (by decide)) (aa (qv 0) (aa (qv 2) (aa (cZ YS (hr.mono (by decide)) (aa (qv 3) aq)) aq)))))
   (aj (eV (bh (sA (K:=K) hu) iD (cj (qv 1) au) au (kA _))
   (aj (aF (i:=2) nd rfl (Or.inl rfl) (cR au (cj (cT (qv 1) au) au)))
   (ao (aF (i:=4) nd rfl (Or.inl rfl) (cZ gU' (hr.mono (by decide)) (aa (cZ YQ (hr.mono (by decide)) (aa (qv 0) (aa (qv 2) (aa (gZ (cZ YS (hr.mono (by decide)) (aa (qv 3) aq)) jW (eU au)) aq)))) aq)))))
   bw)
   (aj (aG 2 (aF (i:=5) nd rfl (Or.inl rfl) (cg (aa (qv 2) (aa (iZ d_ lL rfl T.AH jl (fz hu (qv 4) au)) aq)))))
   (aj (aF (i:=6) nd rfl (Or.inl rfl) (cZ gT' (hr.mono (by decide)) (aa (qv 0) (aa (qv 2) aq))))
   (aj (aF (i:=7) nd rfl (Or.inl rfl) (iZ d_ lL rfl T.AH jl (qv 6)))
   (aj (aF (i:=8) nd rfl (Or.inl rfl) (cZ YR (hr.mono (by decide)) (aa (qv 4) (aa (qv 6) aq))))
   (aj (aF (i:=9) nd rfl (Or.inl rfl) (cZ Rb (hr.mono (by decide)) (aa (qv 4) (aa (qv 7) aq))))
   (aj (aG 8 (eV (Fs (xx (bh (DC (K:=K) hu) rQ (qv 9) (cg (aa il (aa (qv 8) aq))) (kA _)) (xx (vy (uQ (Jl T.sj (fz hu (qv 9) au) (FQ T.Ol Ej)))) (xx (bh (DC (K:=K) hu) rQ (qv 7) (qv 6) (kA _)) (BK (bh (DC (K:=K) hu) rQ (qv 4) (qv 5) (kA _)))))))
   (ao (di ub))
   bw))
   (aj (aF (i:=10) nd rfl (Or.inl rfl) (cj (qv 3) (cR (e_ dY qL rfl T.B4 qF (qv 6)) au)))
   (aj (aG 2 (cP PassesOwn.never rfl (BV (cg (aa (Gz au) (aa (B_ (Gz au) (cj (qv 3) (Fe au au))) (aa (qv 2) (aa (cR (qv 2) (cj (qv 3) (Fe au au))) aq)))))) (aB (i:=11) nd rfl (Or.inl rfl))
   (ao (aG 11 (cP PassesOwn.never rfl (BV (cg (aa (cg (aa (qv 11) (aa au aq))) (aa (cg (aa (B_ (qv 2) au) (aa (qv 11) aq))) aq)))) (aB (i:=12) nd rfl (Or.inl rfl))
   (ao (aG 12 (eV (bh (DC (K:=K) hu) rQ (cZ Rb (hr.mono (by decide)) (aa (qv 4) (aa (cR (cR (gZ (qv 6) jW (eU (qv 10))) (fK (aa (qv 12) aq))) (gZ (qv 6) (eU (qv 10)) jW)) aq))) (cg (aa il (aa ub aq))) (kA _))
   (ao (di ub))
   bw))))))))
   (aj (qD (bW (pv 7)) (cg (aa au (aa au aq))))
   (ao (aG 8 (di (Js (Dy (sA (K:=K) hu) iD (cZ Rb (hr.mono (by decide)) (aa (qv 4) (aa (qv 6) aq))) (cg (aa il (aa (qv 8) aq))) (kA _)) (Jm (Dy (sA (K:=K) hu) iD (cZ Rb (hr.mono (by decide)) (aa (qv 4) (aa (qv 7) aq))) (cg (aa il (aa (cZ YR (hr.mono (by decide)) (aa (qv 4) (aa (qv 7) aq))) aq))) (kA _))))))))))))))))))))))) Iw
end
theorem Ot{us:List Value}(h:us.length=1):∃ a0,us=[a0]:=by
 cases us with
 |nil=>simp at h
 |cons a0 us =>
 cases us with
 |nil=>exact⟨_,rfl⟩
 |cons b us=>simp at h
theorem B5{us:List Value}(h:us.length=2):∃ a0 a1,us=[a0,a1]:=by
 cases us with
 |nil=>simp at h
 |cons a0 us =>
 cases us with
 |nil=>simp at h
 |cons a1 us =>
 cases us with
 |nil=>exact⟨_,_,rfl⟩
 |cons b us=>simp at h
theorem YT{us:List Value}(h:us.length=3):∃ a0 a1 a2,us=[a0,a1,a2]:=by
 cases us with
 |nil=>simp at h
 |cons a0 us =>
 cases us with
 |nil=>simp at h
 |cons a1 us =>
 cases us with
 |nil=>simp at h
 |cons a2 us =>
 cases us with
 |nil=>exact⟨_,_,_,rfl⟩
 |cons b us=>simp at h
theorem all_mk {l:PySem.W.OpenLaw} {w:World} {K:PySem.W.Frag} {h:Heap} {mg:Str->Option Value} {fa:Addr} (X:K.In h) (G:h.Ns mainGlobals mg) (hfa:mg "law" = some (.ref fa))
  (a0:PySem.W.nsIn K mainGlobals "check_state" = some (some (.ref f0))) (l0:K.lookup f0=some ⟨o0,d0,.func (PySem.W.fnOf "check_state" "check_state" (kD aL) (ic aL) (cv aL) .none v0 j0 p0 e0 r0 u0),t0⟩) (c0:PySem.W.codeIn K r0 "check_state" = true) (k0:PySem.W.keepIn K (.ref f0)=true)
  (a1:PySem.W.nsIn K mainGlobals "ways_of" = some (some (.ref f1))) (l1:K.lookup f1=some ⟨o1,d1,.func (PySem.W.fnOf "ways_of" "ways_of" (kD dX) (ic dX) (cv dX) .none v1 j1 p1 e1 r1 u1),t1⟩) (c1:PySem.W.codeIn K r1 "ways_of" = true) (k1:PySem.W.keepIn K (.ref f1)=true)
  (a2:PySem.W.nsIn K mainGlobals "exits_of" = some (some (.ref f2))) (l2:K.lookup f2=some ⟨o2,d2,.func (PySem.W.fnOf "exits_of" "exits_of" (kD cF) (ic cF) (cv cF) .none v2 j2 p2 e2 r2 u2),t2⟩) (c2:PySem.W.codeIn K r2 "exits_of" = true) (k2:PySem.W.keepIn K (.ref f2)=true)
  (a3:PySem.W.nsIn K mainGlobals "check_pairs" = some (some (.ref f3))) (l3:K.lookup f3=some ⟨o3,d3,.func (PySem.W.fnOf "check_pairs" "check_pairs" (kD aK) (ic aK) (cv aK) .none v3 j3 p3 e3 r3 u3),t3⟩) (c3:PySem.W.codeIn K r3 "check_pairs" = true) (k3:PySem.W.keepIn K (.ref f3)=true)
  (a4:PySem.W.nsIn K mainGlobals "steps_matched" = some (some (.ref f4))) (l4:K.lookup f4=some ⟨o4,d4,.func (PySem.W.fnOf "steps_matched" "steps_matched" (kD aR) (ic aR) (cv aR) .none v4 j4 p4 e4 r4 u4),t4⟩) (c4:PySem.W.codeIn K r4 "steps_matched" = true) (k4:PySem.W.keepIn K (.ref f4)=true)
  (a5:PySem.W.nsIn K mainGlobals "is_one_way" = some (some (.ref f5))) (l5:K.lookup f5=some ⟨o5,d5,.func (PySem.W.fnOf "is_one_way" "is_one_way" (kD aO) (ic aO) (cv aO) .none v5 j5 p5 e5 r5 u5),t5⟩) (c5:PySem.W.codeIn K r5 "is_one_way" = true) (k5:PySem.W.keepIn K (.ref f5)=true)
  (a6:PySem.W.nsIn K mainGlobals "hidden_walks" = some (some (.ref f6))) (l6:K.lookup f6=some ⟨o6,d6,.func (PySem.W.fnOf "hidden_walks" "hidden_walks" (kD bD) (ic bD) (cv bD) .none v6 j6 p6 e6 r6 u6),t6⟩) (c6:PySem.W.codeIn K r6 "hidden_walks" = true) (k6:PySem.W.keepIn K (.ref f6)=true)
  (a7:PySem.W.nsIn K mainGlobals "eased_steps" = some (some (.ref f7))) (l7:K.lookup f7=some ⟨o7,d7,.func (PySem.W.fnOf "eased_steps" "eased_steps" (kD aV) (ic aV) (cv aV) .none v7 j7 p7 e7 r7 u7),t7⟩) (c7:PySem.W.codeIn K r7 "eased_steps" = true) (k7:PySem.W.keepIn K (.ref f7)=true)
  (a8:PySem.W.nsIn K mainGlobals "eased" = some (some (.ref f8))) (l8:K.lookup f8=some ⟨o8,d8,.func (PySem.W.fnOf "eased" "eased" (kD g8) (ic g8) (cv g8) .none v8 j8 p8 e8 r8 u8),t8⟩) (c8:PySem.W.codeIn K r8 "eased" = true) (k8:PySem.W.keepIn K (.ref f8)=true)
  (a9:PySem.W.nsIn K mainGlobals "_law_cell_at" = some (some (.ref f9))) (l9:K.lookup f9=some ⟨o9,d9,.func (PySem.W.fnOf "_law_cell_at" "_law_cell_at" (kD bA) (ic bA) (cv bA) .none v9 j9 p9 e9 r9 u9),t9⟩) (c9:PySem.W.codeIn K r9 "_law_cell_at" = true) (k9:PySem.W.keepIn K (.ref f9)=true)
  (Uw:PySem.W.nsIn K mainGlobals "_law_deeds" = some (some (.ref YV))) (l10:K.lookup YV=some ⟨YN,d10,.func (PySem.W.fnOf "_law_deeds" "_law_deeds" (kD b_) (ic b_) (cv b_) .none v10 j10 p10 e10 SG u10),t10⟩) (Ux:PySem.W.codeIn K SG "_law_deeds" = true) (Uy:PySem.W.keepIn K (.ref YV)=true)
  (Uz:PySem.W.nsIn K mainGlobals "_law_machine" = some (some (.ref YW))) (UA:K.lookup YW=some ⟨LG,d11,.func (PySem.W.fnOf "_law_machine" "_law_machine" (kD bB) (ic bB) (cv bB) .none v11 j11 p11 e11 Tn u11),t11⟩) (UB:PySem.W.codeIn K Tn "_law_machine" = true) (UC:PySem.W.keepIn K (.ref YW)=true)
  (UD:PySem.W.nsIn K mainGlobals "_law_ringed" = some (some (.ref YX))) (UE:K.lookup YX=some ⟨si,d12,.func (PySem.W.fnOf "_law_ringed" "_law_ringed" (kD bj) (ic bj) (cv bj) .none v12 j12 p12 Ur r12 u12),t12⟩) (UG:PySem.W.codeIn K r12 "_law_ringed" = true) (UH:PySem.W.keepIn K (.ref YX)=true)
  (UI:PySem.W.nsIn K mainGlobals "_law_pairs" = some (some (.ref YY))) (UJ:K.lookup YY=some ⟨o13,d13,.func (PySem.W.fnOf "_law_pairs" "_law_pairs" (kD aW) (ic aW) (cv aW) .none v13 j13 p13 e13 r13 u13),t13⟩) (UK:PySem.W.codeIn K r13 "_law_pairs" = true) (UL:PySem.W.keepIn K (.ref YY)=true)
  (UM:PySem.W.nsIn K mainGlobals "_law_due" = some (some (.ref YZ))) (UN:K.lookup YZ=some ⟨o14,d14,.func (PySem.W.fnOf "_law_due" "_law_due" (kD bN) (ic bN) (cv bN) .none v14 j14 p14 Uq r14 u14),t14⟩) (UO:PySem.W.codeIn K r14 "_law_due" = true) (UQ:PySem.W.keepIn K (.ref YZ)=true)
  (UR:PySem.W.nsIn K mainGlobals "_law_asked" = some (some (.ref Y0))) (UT:K.lookup Y0=some ⟨o15,d15,.func (PySem.W.fnOf "_law_asked" "_law_asked" (kD b8) (ic b8) (cv b8) .none v15 j15 p15 e15 r15 u15),t15⟩) (UU:PySem.W.codeIn K r15 "_law_asked" = true) (UW:PySem.W.keepIn K (.ref Y0)=true)
  (UX:PySem.W.nsIn K mainGlobals "law" = some (some (.ref Y1))) (UY:K.lookup Y1=some ⟨o16,d16,.func (PySem.W.fnOf "law" "law" (kD oV) (ic oV) (cv oV) .none v16 j16 p16 e16 Y2 u16),t16⟩) (c16:PySem.W.codeIn K Y2 "law" = true) (UZ:PySem.W.keepIn K (.ref Y1)=true)
  (Oi:PySem.W.nsIn K mainGlobals "ValueError" = some none)
  (Oj:PySem.W.nsIn K mainGlobals "any" = some none)
  (Ol:PySem.W.nsIn K mainGlobals "bool" = some none)
  (Om:PySem.W.nsIn K mainGlobals "enumerate" = some none)
  (sj:PySem.W.nsIn K mainGlobals "isinstance" = some none)
  (B4:PySem.W.nsIn K mainGlobals "len" = some none)
  (AH:PySem.W.nsIn K mainGlobals "list" = some none)
  (wm:PySem.W.nsIn K mainGlobals "range" = some none)
  (Oo:PySem.W.nsIn K mainGlobals "reversed" = some none)
  (Oq:PySem.W.nsIn K mainGlobals "set" = some none)
  (D4:PySem.W.nsIn K mainGlobals "sorted" = some none)
  {hA':Tok} (D5:PySem.W.nsIn K mainGlobals "HIDDEN" = some (some (.str "*" hA')))
  {D6:Addr} (U0:PySem.W.nsIn K mainGlobals "KinError" = some (some (.ref D6)))
  {Y3:Addr} (U4:PySem.W.nsIn K mainGlobals "NoDeed" = some (some (.ref Y3)))
  {Y4:Addr} (U5:PySem.W.nsIn K mainGlobals "NoFrame" = some (some (.ref Y4)))
  {Y5:Addr} (U6:PySem.W.nsIn K mainGlobals "NoMachine" = some (some (.ref Y5)))
  {Y6:Addr} (U7:PySem.W.nsIn K mainGlobals "NoName" = some (some (.ref Y6)))
  {Y7:Addr} (U8:PySem.W.nsIn K mainGlobals "NoRow" = some (some (.ref Y7)))
  {Y8:Addr} (U9:PySem.W.nsIn K mainGlobals "NoScroll" = some (some (.ref Y8)))
  {mP:Addr} (U_:PySem.W.nsIn K mainGlobals "NoState" = some (some (.ref mP)))
  {Y9:Addr} (Va:PySem.W.nsIn K mainGlobals "NoText" = some (some (.ref Y9)))
  {Y_:Addr} (Vb:PySem.W.nsIn K mainGlobals "TooBig" = some (some (.ref Y_)))
  (Vc:PySem.W.excIn K D6 [.type "ValueError",.type "Exception",.type "BaseException",.type "object"] "ValueError.__new__" = true) (Vd:PySem.W.findIn K (.ref D6) "__getattr__" = some none) (Ve:PySem.W.findIn K (.ref D6) "__getattribute__" = some (some (.builtin "BaseException.__getattribute__"))) (Vf:PySem.W.findIn K (.ref D6) "__class__" = some (some (.builtin "object.__class__"))) (Vg:PySem.W.mroIn K D6 (.type "object")=some true)
  (Vh:PySem.W.excIn K mP [.type "ValueError",.type "Exception",.type "BaseException",.type "object"] "ValueError.__new__" = true) (Vi:PySem.W.findIn K (.ref mP) "__getattr__" = some none) (Vj:PySem.W.findIn K (.ref mP) "__getattribute__" = some (some (.builtin "BaseException.__getattribute__"))) (Vk:PySem.W.findIn K (.ref mP) "__class__" = some (some (.builtin "object.__class__"))) (Vl:PySem.W.mroIn K mP (.type "object")=some true)
  (Vm:PySem.W.mroIn K mP (.ref D6)=some true)
  (Vn:PySem.W.kitOne K (.ref mP) (.ref Y9)=some false)
  (Vo:PySem.W.kitOne K (.ref mP) (.ref Y3)=some false)
  (Vp:PySem.W.kitOne K (.ref mP) (.ref Y_)=some false)
  (Vq:PySem.W.kitOne K (.ref mP) (.ref Y5)=some false)
  (Vr:PySem.W.kitOne K (.ref mP) (.ref Y6)=some false)
  (Vs:PySem.W.kitOne K (.ref mP) (.ref Y8)=some false)
  (Vt:PySem.W.kitOne K (.ref mP) (.ref Y4)=some false)
  (Vu:PySem.W.kitOne K (.ref mP) (.ref Y7)=some false)
  (Vv:PySem.W.kitOne K (.ref mP) (.type "ValueError")=some true)
  (Vw:PySem.W.kitOne K (.ref mP) (.ref mP)=some true)
  : ∃ fd:FuncData,(∀ (s:Shared) (v:Value),BindsTo s fd ⟨[v],[]⟩ [("_law_script",v)])/\∀ base:Heap,K.In base->base.Ns mainGlobals mg->hJ l.prog w K mg base kE 5 fa fd ["_law_script"] (aA K LD):=by
 have e:=hfa.symm.trans (PySem.W.mg_of X G UX)
 cases e
 have hC':=PySem.W.mg_of X G U0
 have hD':=PySem.W.mg_of X G U4
 have hE':=PySem.W.mg_of X G U5
 have hF':=PySem.W.mg_of X G U6
 have hG':=PySem.W.mg_of X G U7
 have hH':=PySem.W.mg_of X G U8
 have hJ':=PySem.W.mg_of X G U9
 have Vx:=PySem.W.mg_of X G U_
 have hK':=PySem.W.mg_of X G Va
 have hL':=PySem.W.mg_of X G Vb
 have hN':nX K D6:=⟨Vc,Vd,Ve,Vf,Vg⟩
 have Za:nX K mP:=⟨Vh,Vi,Vj,Vk,Vl⟩
 have each:∀ {G:Str->Addr->Prop},G "NoState" mP->∀ n C,n∈rn->mg n=some (.ref C)->G n C:=by
  intro G hO' n C hn hm
  simp only[rn,dA,wt,or_false] at hn
  rcases hn with rfl
  ·rw[Vx] at hm;cases hm;exact hO'
 have T:Txt K mg:=⟨PySem.W.mg_none_of X G Oi,PySem.W.mg_none_of X G Oj,PySem.W.mg_none_of X G Ol,PySem.W.mg_none_of X G Om,PySem.W.mg_none_of X G sj,PySem.W.mg_none_of X G B4,PySem.W.mg_none_of X G AH,PySem.W.mg_none_of X G wm,PySem.W.mg_none_of X G Oo,PySem.W.mg_none_of X G Oq,PySem.W.mg_none_of X G D4,⟨_,PySem.W.mg_of X G D5⟩,⟨_,Vx,Za⟩,⟨_,hC',hN',each ⟨Za,Vm⟩⟩,each ⟨_,hK',Vn⟩,each ⟨_,hD',Vo⟩,each ⟨_,hL',Vp⟩,each ⟨_,hF',Vq⟩,each ⟨_,hG',Vr⟩,each ⟨_,hJ',Vs⟩,each ⟨_,hE',Vt⟩,each ⟨_,hH',Vu⟩,each Vv,each ⟨_,Vx,Vw⟩⟩
 have F0:=oB (st:=aL) l0 c0 k0
 have F1:=oB (st:=dX) l1 c1 k1
 have F2:=oB (st:=cF) l2 c2 k2
 have F3:=oB (st:=aK) l3 c3 k3
 have F4:=oB (st:=aR) l4 c4 k4
 have F5:=oB (st:=aO) l5 c5 k5
 have F6:=oB (st:=bD) l6 c6 k6
 have F7:=oB (st:=aV) l7 c7 k7
 have F8:=oB (st:=g8) l8 c8 k8
 have F9:=oB (st:=bA) l9 c9 k9
 have Zb:=oB (st:=b_) l10 Ux Uy
 have Zc:=oB (st:=bB) UA UB UC
 have Zd:=oB (st:=bj) UE UG UH
 have Ze:=oB (st:=aW) UJ UK UL
 have Zf:=oB (st:=bN) UN UO UQ
 have Zg:=oB (st:=b8) UT UU UW
 have F16:=oB (st:=oV) UY c16 UZ
 refine⟨PySem.W.fnOf "law" "law" (kD oV) (ic oV) (cv oV) .none v16 j16 p16 e16 Y2 u16,fun s v=>.of_eq rfl,fun base _ _=>?_⟩
 have C0:x5 l.prog w K mg base rn 1 "check_state" ["m", "state"] aP:=hV.T9 F0 (PySem.W.mg_of X G a0) (m_ F0 T ) fun _ _ _ _ _ _ us hl=>by obtain⟨_,_,rfl⟩:=B5 hl;rfl
 have C1:gE l.prog w K mg base 1 "ways_of" ["m"] (aA K bZ):=F1.tS (PySem.W.mg_of X G a1) (vO F1 T ) fun _ _ _ _ _ _ us hl=>by obtain⟨_,rfl⟩:=Ot hl;rfl
 have C2:gE l.prog w K mg base 1 "exits_of" ["m"] (aA K bJ):=F2.tS (PySem.W.mg_of X G a2) (sX F2 T ) fun _ _ _ _ _ _ us hl=>by obtain⟨_,rfl⟩:=Ot hl;rfl
 have C6:gE l.prog w K mg base 1 "hidden_walks" ["ways", "state"] (aA K bf):=F6.tS (PySem.W.mg_of X G a6) (lQ F6 T ) fun _ _ _ _ _ _ us hl=>by obtain⟨_,_,rfl⟩:=B5 hl;rfl
 have C7:gE l.prog w K mg base 1 "eased_steps" ["exits", "reaches", "state"] (aA K bz):=F7.tS (PySem.W.mg_of X G a7) (mH F7 T ) fun _ _ _ _ _ _ us hl=>by obtain⟨_,_,_,rfl⟩:=YT hl;rfl
 have C9:gE l.prog w K mg base 1 "_law_cell_at" ["_law_script", "_law_k"] (aA K aD):=F9.tS (PySem.W.mg_of X G a9) (lZ F9 T ) fun _ _ _ _ _ _ us hl=>by obtain⟨_,_,rfl⟩:=B5 hl;rfl
 have C10:gE l.prog w K mg base 1 "_law_deeds" ["_law_cell"] (aA K bu):=Zb.tS (PySem.W.mg_of X G Uw) (o_ Zb T ) fun _ _ _ _ _ _ us hl=>by obtain⟨_,rfl⟩:=Ot hl;rfl
 have C14:gE l.prog w K mg base 1 "_law_due" ["_law_m", "_law_pairs_here"] (aA K bY):=Zf.tS (PySem.W.mg_of X G UM) (sJ Zf T ) fun _ _ _ _ _ _ us hl=>by obtain⟨_,_,rfl⟩:=B5 hl;rfl
 have C3:x5 l.prog w K mg base rn 2 "check_pairs" ["m", "pairs"] aX:=hV.T9 F3 (PySem.W.mg_of X G a3) (mO F3 T C0) fun _ _ _ _ _ _ us hl=>by obtain⟨_,_,rfl⟩:=B5 hl;rfl
 have C4:gE l.prog w K mg base 2 "steps_matched" ["m", "pairs"] (aA K aM):=F4.tS (PySem.W.mg_of X G a4) (jz F4 T C2 C1) fun _ _ _ _ _ _ us hl=>by obtain⟨_,_,rfl⟩:=B5 hl;rfl
 have C8:gE l.prog w K mg base 2 "eased" ["m"] (aA K eZ):=F8.tS (PySem.W.mg_of X G a8) (zN F8 T C1 C2 C6 C7) fun _ _ _ _ _ _ us hl=>by obtain⟨_,rfl⟩:=Ot hl;rfl
 have C11:gE l.prog w K mg base 2 "_law_machine" ["_law_script", "_law_many", "_law_deeds_here"] (aA K aU):=Zc.tS (PySem.W.mg_of X G Uz) (lN Zc T C9) fun _ _ _ _ _ _ us hl=>by obtain⟨_,_,_,rfl⟩:=YT hl;rfl
 have C13:gE l.prog w K mg base 2 "_law_pairs" ["_law_script", "_law_many"] (aA K bO):=Ze.tS (PySem.W.mg_of X G UI) (pH Ze T C9) fun _ _ _ _ _ _ us hl=>by obtain⟨_,_,rfl⟩:=B5 hl;rfl
 have C5:x5 l.prog w K mg base rn 3 "is_one_way" ["m", "pairs"] bR:=hV.T9 F5 (PySem.W.mg_of X G a5) (ph F5 T C3 C4) fun _ _ _ _ _ _ us hl=>by obtain⟨_,_,rfl⟩:=B5 hl;rfl
 have C12:gE l.prog w K mg base 3 "_law_ringed" ["_law_m"] (aA K bC):=Zd.tS (PySem.W.mg_of X G UD) (mQ Zd T C8) fun _ _ _ _ _ _ us hl=>by obtain⟨_,rfl⟩:=Ot hl;rfl
 have C15:gE l.prog w K mg base 4 "_law_asked" ["_law_m", "_law_pairs_here"] (aA K aN):=Zg.tS (PySem.W.mg_of X G UR) (ou Zg T C5) fun _ _ _ _ _ _ us hl=>by obtain⟨_,_,rfl⟩:=B5 hl;rfl
 exact gS' F16 T C9 C11 C13 C14 C15 C10 C12
theorem walk{l:PySem.W.OpenLaw}{q:Program}{loose:List Str}{XP:(Str->Option Value)->Heap->Prop}{YP:World->Heap->Prop}{d:DefRec}{K:Params->PySem.W.Frag}(hn:l.most=some 63)(Nn:d.params.defaults=[])
  (hY:∀ (w:World) (h:Heap),YP w h->(K w.params).In h)
  (F:∀ (w:World) (mg:Str->Option Value) (fa:Addr) (h:Heap),(K w.params).In h->h.Ns mainGlobals mg->mg d.name=some (.ref fa) ->
   ∃ fd:FuncData,(∀ (s:Shared) (u:Value),BindsTo s fd ⟨[u],[]⟩ [("_law_script",u)])/\∀ base:Heap,(K w.params).In base->base.Ns mainGlobals mg->hJ l.prog w (K w.params) mg base kE 5 fa fd ["_law_script"] (aA (K w.params) LD)) :
  PySem.W.WalkO q loose XP YP l.row.toRowW d [] (fun f vs=>PySem.call f vs) :=
 L2.cw' (n:=63) (k:=5) (x := "_law_script") (CX:=fun _=>kE) (sp:=fun w=>aA (K w.params) LD) hn (by decide) Nn ⟨rfl,by decide,by decide⟩ hY F (fun w H a ns hl hO hS=>Ba hl hS) fun _ _ _ _ _ z=>z
end L2.Q.Ul
open PySem PySem.W PyProof.Rows
namespace PySem.W.Fast
def tw18176415137770097727:=0
def tw16681645103118265898:=0
def tw3793466683467828085:=0
def tw4428861260404127642:=0
def tw9134383575254550891:=0
def tw8404984020078127168:=0
def tw9476011385767658070:=0
def tw16777201213845136796:=0
def tw16549375880345115541:=0
def tw2478386497428307273:=0
def tw6658872029962380921:=0
def tw9233394225655008830:=0
def tw6675286771380827075:=0
def tw7529247240266398105:=0
def tw8593861606659868079:=0
def tw9197006880228036011:=0
def tw8831349350815814440:=0
def tw9221515146563110947:=0
def tw15553531732661949525:=0
def tw4995341620578471660:=0
def tw13558173214711771912:=0
def tw5677338262925472056:=0
end PySem.W.Fast
set_option maxRecDepth 100000 in
set_option maxHeartbeats 0 in
theorem PySem.Challenge.cw_kinlook_k53_what_is_a_one_way_table_holds : PySem.Challenge.rw_kinlook_k53_what_is_a_one_way_table.Holds := by
 w_on;o_law;k_head;(case hw=>w_witness2)
 k_fill
 refine L2.Q.Ul.walk (l:=PySem.Challenge.rw_kinlook_k53_what_is_a_one_way_table) rfl rfl (fun w h Y=>PySem.W.kIn_of Y) ?F
 case F =>
  intro w mg fa h KX G Np
  refine' L2.Q.Ul.all_mk KX G Np ?a0 ?l0 ?c0 ?k0 ?a1 ?l1 ?c1 ?k1 ?a2 ?l2 ?c2 ?k2 ?a3 ?l3 ?c3 ?k3 ?a4 ?l4 ?c4 ?k4 ?a5 ?l5 ?c5 ?k5 ?a6 ?l6 ?c6 ?k6 ?a7 ?l7 ?c7 ?k7 ?a8 ?l8 ?c8 ?k8 ?a9 ?l9 ?c9 ?k9 ?Uw ?l10 ?Ux ?Uy ?Uz ?UA ?UB ?UC ?UD ?UE ?UG ?UH ?UI ?UJ ?UK ?UL ?UM ?UN ?UO ?UQ ?UR ?UT ?UU ?UW ?UX ?UY ?c16 ?UZ ?Oi ?Oj ?Ol ?Om ?sj ?B4 ?AH ?wm ?Oo ?Oq ?D4 ?D5 ?U0 ?U4 ?U5 ?U6 ?U7 ?U8 ?U9 ?U_ ?Va ?Vb ?Vc ?Vd ?Ve ?Vf ?Vg ?Vh ?Vi ?Vj ?Vk ?Vl ?Vm ?Vn ?Vo ?Vp ?Vq ?Vr ?Vs ?Vt ?Vu ?Vv ?Vw
  (case a0=>k_is)
  (case l0=>k_is)
  (case c0=>k_is)
  (case k0=>k_is)
  (case a1=>k_is)
  (case l1=>k_is)
  (case c1=>k_is)
  (case k1=>k_is)
  (case a2=>k_is)
  (case l2=>k_is)
  (case c2=>k_is)
  (case k2=>k_is)
  (case a3=>k_is)
  (case l3=>k_is)
  (case c3=>k_is)
  (case k3=>k_is)
  (case a4=>k_is)
  (case l4=>k_is)
  (case c4=>k_is)
  (case k4=>k_is)
  (case a5=>k_is)
  (case l5=>k_is)
  (case c5=>k_is)
  (case k5=>k_is)
  (case a6=>k_is)
  (case l6=>k_is)
  (case c6=>k_is)
  (case k6=>k_is)
  (case a7=>k_is)
  (case l7=>k_is)
  (case c7=>k_is)
  (case k7=>k_is)
  (case a8=>k_is)
  (case l8=>k_is)
  (case c8=>k_is)
  (case k8=>k_is)
  (case a9=>k_is)
  (case l9=>k_is)
  (case c9=>k_is)
  (case k9=>k_is)
  (case Uw=>k_is)
  (case l10=>k_is)
  (case Ux=>k_is)
  (case Uy=>k_is)
  (case Uz=>k_is)
  (case UA=>k_is)
  (case UB=>k_is)
  (case UC=>k_is)
  (case UD=>k_is)
  (case UE=>k_is)
  (case UG=>k_is)
  (case UH=>k_is)
  (case UI=>k_is)
  (case UJ=>k_is)
  (case UK=>k_is)
  (case UL=>k_is)
  (case UM=>k_is)
  (case UN=>k_is)
  (case UO=>k_is)
  (case UQ=>k_is)
  (case UR=>k_is)
  (case UT=>k_is)
  (case UU=>k_is)
  (case UW=>k_is)
  (case UX=>k_is)
  (case UY=>k_is)
  (case c16=>k_is)
  (case UZ=>k_is)
  (case Oi=>k_is)
  (case Oj=>k_is)
  (case Ol=>k_is)
  (case Om=>k_is)
  (case sj=>k_is)
  (case B4=>k_is)
  (case AH=>k_is)
  (case wm=>k_is)
  (case Oo=>k_is)
  (case Oq=>k_is)
  (case D4=>k_is)
  (case D5=>k_is)
  (case U0=>k_is)
  (case U4=>k_is)
  (case U5=>k_is)
  (case U6=>k_is)
  (case U7=>k_is)
  (case U8=>k_is)
  (case U9=>k_is)
  (case U_=>k_is)
  (case Va=>k_is)
  (case Vb=>k_is)
  (case Vc=>k_exc)
  (case Vd=>k_is)
  (case Ve=>k_is)
  (case Vf=>k_is)
  (case Vg=>k_is)
  (case Vh=>k_exc)
  (case Vi=>k_is)
  (case Vj=>k_is)
  (case Vk=>k_is)
  (case Vl=>k_is)
  (case Vm=>k_is)
  (case Vn=>kit_is)
  (case Vo=>kit_is)
  (case Vp=>kit_is)
  (case Vq=>kit_is)
  (case Vr=>kit_is)
  (case Vs=>kit_is)
  (case Vt=>kit_is)
  (case Vu=>kit_is)
  (case Vv=>kit_is)
  (case Vw=>kit_is)
