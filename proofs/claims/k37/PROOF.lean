import PyProof.Rows.All
import Wide.All
import OpenK.AllK
import Wide.FinOn
import Lean
import PyProof.EqAt
import PyProof.EqKinds
import PyProof.TupleCall
import PyProof.CompUse
import PyProof.NeData
import PyProof.WalksEnum
import PyProof.EnumMake
import PyProof.ZipIter
import PyProof.Rows.EnumRows
import PyProof.Rows.FactsT2
import KE.KDictList
import PyProof.Rows.SortRuns
import PyProof.Rows.SortWalk
import KE.KSortTup
import PyProof.Rows.SortStr
import PyProof.ListRange
import PyProof.StrOps2
import PyProof.StrBlock2
import PyProof.AutoIntG3
import PyProof.ListMulRight
import PyProof.Rows.ListMulArg
import PyProof.Rows.CallKwBuiltin
import PyProof.Rows.StrMul
import KE.KMinBuiltin
import PyProof.TupleKey
import PyProof.SetKind
import PyProof.Rows.SetFrom
import PyProof.DictWalks
import KE.KRevIter
import PyProof.NsDelKeeps
import PyProof.AutoSeq1
import PyProof.P3Eq
import PyProof.MeetsSeq3
import PyProof.FactsAll.list_2
import PyProof.FactsAll.tuple_2
import PyProof.Rows.RowHeap
import PyProof.FactsAll.list_3
import PySem.Challenge.RW_kinlook_k37_parted_at
open PySem renaming wpAny_bind->ai,wpAny_pure->aS,wpAny_mono->pj
open List renaming mem_cons_of_mem->cc,mem_cons_self->cf,length_map->cK,mem_append_right->fh,mem_cons->cS,getElem?_eq_some_iff->hV,mem_append->dy,mem_map->dn,mem_append_left->kc,getElem?_eq_getElem->mz,map_cons->fz,nodup_append->i7,mem_singleton->kC,size_toArray->kf,sublist_append_right->px,mem_of_getElem?->mB,getElem?_map->kN,nodup_cons->ly,length_take->nv,map_map->kg,drop_eq_getElem_cons->xk,getElem?_eq_none->tP,append_nil->nL,getElem?_append_right->y6,pairwise_map->rp,length_append->tS,nodup_nil->oq,length_cons->sv,mem_range->rq,pairwise_iff_getElem->CF,zip_cons_cons->xl,filterMap_cons->y8,replicate_succ->y9,append_assoc->xo,getElem?_append_left->EG,flatten_cons->AU,eraseIdx_cons_succ->GN,ext_getElem?->CH,map_append->AV,nil_append->AW,getD_eq_getElem?_getD->LM,length_drop->CL,take_length->CM,getElem_mem->CY,sublist_append_left->LN,getElem?_set_ne->GO,mem_filter->Dp,take_add_one->EH,all_cons->AX,any_cons->AY,not_mem_nil->EI,append_eq_nil_iff->LP,any_eq_true->EJ,nodup_iff_pairwise_ne->Oa,mem_iff_getElem?->LV,find?_cons->EK,pairwise_append->LW,all_eq_true->GP,nil_sublist->GU,length_eq_zero_iff->Ob,getElem?_set_self->Oc,take_of_length_le->Od,take_append_drop->Oe,mem_of_mem_take->Og,length_eraseIdx->Oh,map_fst_zip->LZ,extract_eq_drop_take->QH,map_congr_left->Oi,getElem?_replicate->QJ,drop_of_length_le->QK,length_replicate->QL,perm_append_comm->QM,countP_cons->Oj,cons_ne_nil->Ol,mem_of_mem_drop->QN,mem_iff_getElem->QQ,length_zip->Om,mem_filterMap->QR,filterMap_map->QV,contains_cons->QX,length_range->QY,lookup_cons->QZ,drop_length->Q0,all_map->Oo
open PySem.Heap renaming get?_push_of_some->eW,lt_size->dk,get?_push_size->i9,get?_update_self->GV,get?_update_other->L4,get?_push_ne->GW,size_update->GY
open Nat renaming le_refl->bT,ne_of_lt->eI,zero_le->dz,lt_of_lt_of_le->kP,le_trans->iN,le_of_lt->kD,lt_succ_of_lt->ot,le_of_not_lt->pz,add_sub_of_le->sA,lt_irrefl->pE,lt_succ_of_le->vS,le_add_right->xt,lt_of_succ_lt->AZ,zero_add->sC,succ_pos->tT,lt_or_ge->xv,not_lt_zero->Dx,pow_succ->zh,lt_of_not_le->L5,add_assoc->EL,le_succ_of_le->L6,one_pos->DB,le_of_lt_succ->L7,lt_succ_self->L8,sub_lt->DC,mul_assoc->G0,ne_of_gt->He,le_of_eq->HC,add_sub_cancel_left->Q5,add_zero->HG,add_comm->L9,mod_lt->HK,lt_of_le_of_lt->YD,lt_trichotomy->Q6,sub_le->Oq,lt_trans->Q7,min_self->Ot,mul_comm->Ou
open Bool renaming false_eq_true->gu,false_ne_true->gV,and_eq_true->lI,eq_iff_iff->xA,not_eq_true'->Q8,not_true->Ov,and_true->Ow
open Array renaming getElem?_toList->mE,toList_push->nS,getElem?_eq_getElem->zi,getD_eq_getD_getElem?->DE,getElem?_eq_none->DF,length_toList->A3,getElem?_eq_some_iff->HL,size_extract->ER,eq_empty_of_size_eq_zero->Ox,append_assoc->Mb,getElem?_extract->Oy,toArray_toList->Oz,perm_iff_toList_perm->Q9,toList_inj->OB,toList_extract->Q_,append_empty->Ra
open Int renaming toNat_of_nonneg->zk,le_trans->vT,le_refl->sD,le_of_lt->zo,toNat_natCast->HM,emod_nonneg->OD,mul_nonneg->OG,emod_lt_of_pos->Rb,not_lt->OJ
open Option renaming map_eq_some_iff->OL
local macro_rules | `(command| def $i:declId $s:optDeclSig $v:declVal)=>`(command| noncomputable def $i:declId $s:optDeclSig $v:declVal)
local macro_rules | `(command| abbrev $i:declId $s:optDeclSig $v:declVal)=>`(command| noncomputable abbrev $i:declId $s:optDeclSig $v:declVal)
set_option compiler.extract_closed false
local macro_rules | `(tactic| walk_at "l") => `(tactic| first | lia | omega)
local macro_rules | `(tactic| walk_at "s1") => `(tactic| solve_by_elim (maxDepth := 4) [Nat.lt_of_lt_of_le, Nat.lt_of_le_of_lt, Nat.le_trans, Nat.lt_trans, Nat.le_of_lt, Nat.le_of_not_lt])
local macro_rules | `(tactic| walk_at "s2") => `(tactic| solve_by_elim (maxDepth := 5) [Nat.lt_of_lt_of_le, Nat.lt_of_le_of_lt, Nat.le_trans, Nat.le_of_lt, Nat.le_of_not_lt, Nat.lt_of_not_le, Nat.lt_of_succ_lt, Nat.le_of_succ_le])
local macro_rules | `(tactic| walk_at "s3") => `(tactic| solve_by_elim (maxDepth := 5) [Int.lt_of_lt_of_le, Int.lt_of_le_of_lt, Int.le_trans, Int.le_of_lt, Int.not_lt.mp, Int.not_le.mp])
local macro_rules | `(tactic| walk_at "s4") => `(tactic| solve_by_elim (maxDepth := 5) [Nat.le_trans, Nat.lt_of_lt_of_le, Nat.le_of_lt, Nat.le_add_right, Nat.le_add_left, Nat.add_le_add_left, Nat.add_lt_add_left, Nat.succ_le_succ, Nat.sub_le])
theorem L2.gv{α β:Type _}{A B C:α->β->Prop}{G:Prop}(x:∃ a b,A a b/\B a b/\C a b)(k:∀ a b,A a b->B a b->C a b->G):G :=
 let ⟨a,b,p,q,r⟩:=x
 k a b p q r
set_option Elab.async false
set_option linter.all false
set_option maxRecDepth 100000
namespace L2
open PySem PySem.Spec PyProof.Rows
abbrev Key:=Sum Int Str
def HP:Key->Value->Bool
 |.inl k,v=>Value.isInt k v
 |.inr x,v=>Value.isStrOf x v
def YF(w:World):Key->Int
 |.inl k=>hashInt k
 |.inr x=>hashStr w x
theorem zt:∀ {k:Key} {v:Value},HP k v=true->(∃ i t,k=Sum.inl i/\v=Value.int i t)\/(∃ x t,k=Sum.inr x/\v=Value.str x t)
 |.inl i,v,h=>by
  obtain⟨t,e⟩:=Value.isInt_shape (k:=i) (v:=v) h
  exact .inl ⟨i,t,rfl,e⟩
 |.inr x,v,h=>by
  obtain⟨t,e⟩:=Value.isStrOf_shape (x:=x) (v:=v) h
  exact .inr ⟨x,t,rfl,e⟩
theorem YG(i:Int)(t:Tok):HP (.inl i) (.int i t)=true:=by simp[HP,Value.isInt]
theorem YH(x:Str)(t:Tok):HP (.inr x) (.str x t)=true:=by simp[HP,Value.isStrOf]
theorem U8(a b:Int):decide ((Sum.inl a:Key)=Sum.inl b)=(a == b):=by
 by_cases e:a=b
 ·subst e;simp
 ·have h:¬ (Sum.inl a:Key)=Sum.inl b:=fun q=>e (Sum.inl.inj q)
  rw[decide_eq_false h]
  exact(beq_eq_false_iff_ne.mpr e).symm
theorem U9(a b:Str):decide ((Sum.inr a:Key)=Sum.inr b)=decide (a=b):=by
 by_cases e:a=b
 ·subst e;simp
 ·have h:¬ (Sum.inr a:Key)=Sum.inr b:=fun q=>e (Sum.inr.inj q)
  rw[decide_eq_false h,decide_eq_false e]
theorem YJ(a:Int)(b:Str):decide ((Sum.inl a:Key)=Sum.inr b)=false:=decide_eq_false (fun q=>nomatch q)
theorem YK(a:Str)(b:Int):decide ((Sum.inr a:Key)=Sum.inl b)=false:=decide_eq_false (fun q=>nomatch q)
def kQ(prog:Program)(w:World):PySem.KeyKind prog w Key where
 is:=HP
 hash:=YF w
 inj:=fun v a b ha hb=>by
  rcases zt ha with⟨i,t,rfl,rfl⟩|⟨x,t,rfl,rfl⟩
  ·rcases zt hb with⟨j,u,rfl,e⟩|⟨y,u,rfl,e⟩
   ·injection e with e1 _;rw[e1]
   ·exact nomatch e
  ·rcases zt hb with⟨j,u,rfl,e⟩|⟨y,u,rfl,e⟩
   ·exact nomatch e
   ·injection e with e1 _;rw[e1]
 byValue:=fun k v h=>by
  rcases zt h with⟨i,t,rfl,rfl⟩|⟨x,t,rfl,rfl⟩<;>rfl
 pyHash:=fun hv h=>by
  rcases zt hv with⟨i,t,rfl,rfl⟩|⟨x,t,rfl,rfl⟩
  ·exact wpAny_pyHash_int h
  ·exact wpAny_pyHash_str h
 eqBool:=fun hu hv h=>by
  rcases zt hu with⟨i,t,rfl,rfl⟩|⟨x,t,rfl,rfl⟩
  ·rcases zt hv with⟨j,u,rfl,rfl⟩|⟨y,u,rfl,rfl⟩
   ·rw[U8] at h;exact wpAny_eqBool_int h
   ·rw[YJ] at h;exact SeqAt.EqAt.int_str i t y u _ _ _ _ h
  ·rcases zt hv with⟨j,u,rfl,rfl⟩|⟨y,u,rfl,rfl⟩
   ·rw[YK] at h;exact SeqAt.EqAt.str_int x t j u _ _ _ _ h
   ·rw[U9] at h;exact wpAny_eqBool_str h
 «strs» := fun k x t v h=>by
  rcases zt h with⟨i,u,rfl,e⟩|⟨y,u,rfl,e⟩
  ·exact nomatch e
  ·injection e with e1 _
   subst e1
   cases v<;>rfl
theorem YL(prog:Program)(w:World)(i:Int)(t:Tok):(kQ prog w).is (.inl i) (.int i t)=true:=YG i t
theorem YM(prog:Program)(w:World)(x:Str)(t:Tok):(kQ prog w).is (.inr x) (.str x t)=true:=YH x t
inductive V where
 |non|bl (b:Bool)|int (i:Int)|str (x:Str)|ua (b:Array UInt8)|A4 (b:UInt64)|ref (a:Addr)|ty (n:String)
 deriving DecidableEq
def RelV:V->Value->Prop
 |.non,u=>u=Value.none
 |.bl b,u=>u=Value.bool b
 |.int i,u=>∃ t,u=Value.int i t
 |.str x,u=>∃ t,u=Value.str x t
 |.ua b,u=>∃ t,u=Value.bytes b t
 |.A4 b,u=>∃ t,u=Value.float b t
 |.ref a,u=>u=Value.ref a
 |.ty n,u=>u=Value.type n
abbrev Vals:List V->List Value->Prop:=Paired RelV
theorem Vals.length{xs:List V}{us:List Value}(r:Vals xs us):xs.length=us.length:=Paired.length r
theorem Vals.get:∀ {xs:List V} {us:List Value} {i:Nat} {x:V},Vals xs us->xs[i]? = some x->∃ u,us[i]? = some u/\RelV x u
 |_,_,_,_,.nil,e=>by simp at e
 |_,_,0,_,.cons r _,e=>by simp at e;subst e;exact⟨_,rfl,r⟩
 |_,_,i+1,x,.cons _ t,e=>by
  obtain⟨u,h1,h2⟩:=Vals.get (i:=i) (x:=x) t (by simpa using e)
  exact⟨u,by simpa using h1,h2⟩
theorem Vals.append:∀ {xs ys:List V} {us ws:List Value},Vals xs us->Vals ys ws->Vals (xs++ys) (us++ws)
 |_,_,_,_,.nil,s=>s
 |_,_,_,_,.cons r t,s=>.cons r (Vals.append t s)
theorem Vals.take:∀ {xs:List V} {us:List Value} (n:Nat),Vals xs us->Vals (xs.take n) (us.take n)
 |_,_,0,_=>.nil
 |_,_,_+1,.nil=>.nil
 |_,_,n+1,.cons r t=>.cons r (Vals.take n t)
theorem Vals.drop:∀ {xs:List V} {us:List Value} (n:Nat),Vals xs us->Vals (xs.drop n) (us.drop n)
 |_,_,0,r=>r
 |_,_,_+1,.nil=>.nil
 |_,_,n+1,.cons _ t=>Vals.drop n t
def ub:Option V->Option Value->Prop
 |some v,some u=>RelV v u
 |none,none=>True
 |_,_=>False
def KV{κ:Type}:List (κ × V)->List (κ × Value)->Prop:=Paired fun(p:κ × V) (q:κ × Value)=>p.1=q.1/\RelV p.2 q.2
def kV:Key->V
 |.inl i=>.int i
 |.inr x=>.str x
inductive HO where
 /-- a list -/
 |lst (xs:List V)
 /-- a tuple (never changes) -/
 |tup (xs:List V)
 /-- a dict whose keys are ints and texts;one whose keys are tuples of ints and texts (the empty one is both) -/
 |dK (kvs:List (Key × V))|dT (kvs:List (List Key × V))
 /-- a set of ints: its members,its size -/
 |set (S:Int->Bool) (n:Nat)
 /-- an instance of the class at C,its dict at dx,its attributes -/
 |ins (C dx:Addr) (fs:List (Str × V))
 /-- the dict of the instance at x -/
 |own (x:Addr)
 /-- the dict of an exception -/
 |xd (fs:List (Str × V))
 /-- a bound method,f of x -/
 |met (f x:Addr)
 /-- a range object lo,lo+1,.. below hi -/
 |OO (lo hi:Int)
 /-- a thing that is known to the object (the script;a dict while a loop walks it): read,never written while it is so -/
 |mG (o:Obj) (u:HO)
 /-- a code object's table -/
 |DH (ps:Array Value)
 /-- any other thing,by what is true of its one object (a def of fV' own: fW' a S n:=HO.ext fun h=>..) -/
 |ext (φ:Heap->Prop)
abbrev Hp:=Addr->Option HO
def upd(H:Hp)(a:Addr)(o:HO):Hp:=fun b=>if b=a then some o else H b
theorem ki{H:Hp}{a:Addr}{o:HO}:upd H a o a=some o:=by unfold upd;rw[if_pos rfl]
theorem eJ{H:Hp}{a b:Addr}{o:HO}(h:b≠a):upd H a o b=H b:=by unfold upd;rw[if_neg h]
theorem U_{H:Hp}{a b:Addr}{o u:HO}(h:H a=some o)(h':H b=some u)(d:o≠u):a≠b:=by
 intro e;subst e;rw[h] at h';exact d (Option.some.inj h')
theorem xB{H:Hp}{a b:Addr}{o:HO}(h:H a=some o)(h':H b=none):a≠b:=by
 intro e;subst e;rw[h] at h';cases h'
section
variable (P:Program)(w:World)
def eT(H:Hp)(h:Heap)(a:Addr):HO->Prop
 |.lst xs=>xs.length<=sizeLine/\∃ (its:List Value) (n:Nat),Vals xs its/\h.get? a=some { cls:=.type "list",data:=.seq its.toArray n }
 |.tup xs=>xs.length<=sizeLine/\∃ its:List Value,Vals xs its/\IsTup h a its.toArray
 |.dK kvs=>kvs.length<=sizeLine/\(a == sysModules)=false/\∃ vs,KV kvs vs/\h.DictOf (kQ P w) a vs
 |.dT kvs=>kvs.length<=sizeLine/\(a == sysModules)=false/\∃ xs:List (List Key × Addr × Value),
   Paired (fun(p:List Key × V) (q:List Key × Addr × Value)=>p.1=q.1/\H q.2.1=some (.tup (p.1.map kV))/\RelV p.2 q.2.2) kvs xs /\
   ∃ o es ep,h.get? a=some o/\o.ExactDict/\o.data=.dict es ep/\es.toList=xs.map (entryOfKey (tupleKind (kQ P w)))/\(xs.map (·.1)).Nodup
 |.set S n=>h.SetOf (intKind P w) a S n
 |.ins C dx fs=>H dx=some (.own a)/\fs.length<=1000/\dx≠a/\h.get? a=some (PySem.W.instObj C dx) /\
   ∃ mA,h.Ns1 dx mA/\(∀ f,ub (fs.lookup f) (mA f))/\PySem.Within mA (fs.map (·.1))
 |.own _=>∃ o,h.get? a=some o
 |.xd fs=>∃ mA,h.Ns1 a mA/\∀ f,ub (fs.lookup f) (mA f)
 |.OO lo hi=>∃ t u v,h.get? a=some { cls:=.type "range",data:=.fields #[.int lo t,.int hi u,.int 1 v] }
 |.mG o u=>h.get? a=some o/\eT H h a u
 |.DH ps=>h.get? a=some { cls:=.none,data:=.fields ps }
 |.met f x=>h.get? a=some (PySem.W.methodObj (.ref f) (.ref x))
 |.ext φ=>φ h/\(∃ o,h.get? a=some o)/\∀ h1 h2:Heap,φ h1->(∀ o,h1.get? a=some o->h2.get? a=some o)->φ h2
def fE(H:Hp)(h:Heap):Prop:=∀ a o,H a=some o->eT P w H h a o
end
section
variable {P:Program}{w:World}{H H':Hp}{h h':Heap}{a:Addr}{o:HO}
theorem eT.lt(x:eT P w H h a o):a<h.objs.size:=by
 cases o with
 |lst xs=>obtain⟨_,_,_,_,e⟩:=x;exact dk e
 |tup xs=>obtain⟨_,_,_,p⟩:=x;exact p.lt
 |dK kvs=>obtain⟨_,_,_,_,o,_,_,e,_⟩:=x;exact dk e
 |dT kvs=>obtain⟨_,_,_,_,o,_,_,e,_⟩:=x;exact dk e
 |set S n=>obtain⟨o,_,_,_,e,_⟩:=x;exact dk e
 |ins C dx fs=>obtain⟨_,_,_,e,_⟩:=x;exact dk e
 |own y=>obtain⟨_,e⟩:=x;exact dk e
 |xd fs=>obtain⟨_,⟨_,_,_,e,_⟩,_⟩:=x;exact dk e
 |OO lo hi=>obtain⟨_,_,_,e⟩:=x;exact dk e
 |mG ob u=>obtain⟨e,_⟩:=x;exact dk e
 |DH ps=>exact dk (show h.get? a=some _ from x)
 |met f y=>exact dk (show h.get? a=some _ from x)
 |ext φ=>obtain⟨_,⟨_,e⟩,_⟩:=x;exact dk e
theorem Paired.Rc{α β:Type}{F G:α->β->Prop}:∀ {Va:List α} {Vb:List β},Paired F Va Vb->(∀ a b,F a b->G a b)->Paired G Va Vb
 |_,_,.nil,_=>.nil
 |_,_,.cons r t,f=>.cons (f _ _ r) (Paired.Rc t f)
theorem eT.eM(x:eT P w H h a o)(k:∀ b u,(b=a\/H b=some (.own a))->h.get? b=some u->h'.get? b=some u)
  (ho:∀ b,H b=some (.own a)->H' b=some (.own a)) (ht:∀ b xs,H b=some (.tup xs)->H' b=some (.tup xs)):eT P w H' h' a o:=by
 induction o with
 |lst xs=>obtain⟨z,its,n,r,e⟩:=x;exact⟨z,its,n,r,k _ _ (.inl rfl) e⟩
 |tup xs=>obtain⟨z,its,r,ob,e,c⟩:=x;exact⟨z,its,r,ob,k _ _ (.inl rfl) e,c⟩
 |dK kvs=>obtain⟨z,y,vs,r,ob,es,ep,e,c⟩:=x;exact⟨z,y,vs,r,ob,es,ep,k _ _ (.inl rfl) e,c⟩
 |dT kvs =>
  obtain⟨z,y,xs,r,ob,es,ep,e,c⟩:=x
  exact⟨z,y,xs,Paired.Rc r fun p q z=>⟨z.1,ht _ _ z.2.1,z.2.2⟩,ob,es,ep,k _ _ (.inl rfl) e,c⟩
 |set S n=>obtain⟨ob,es,ep,t,e,c⟩:=x;exact⟨ob,es,ep,t,k _ _ (.inl rfl) e,c⟩
 |ins C dx fs =>
  obtain⟨d,z,ne,e,mA,⟨od,es,ep,e2,c⟩,r⟩:=x
  exact⟨ho _ d,z,ne,k _ _ (.inl rfl) e,mA,⟨od,es,ep,k _ _ (.inr d) e2,c⟩,r⟩
 |own y=>obtain⟨ob,e⟩:=x;exact⟨ob,k _ _ (.inl rfl) e⟩
 |xd fs=>obtain⟨mA,⟨od,es,ep,e,c⟩,r⟩:=x;exact⟨mA,⟨od,es,ep,k _ _ (.inl rfl) e,c⟩,r⟩
 |OO lo hi=>obtain⟨t,u,v,e⟩:=x;exact⟨t,u,v,k _ _ (.inl rfl) e⟩
 |mG ob u ih=>obtain⟨e,q⟩:=x;exact⟨k _ _ (.inl rfl) e,ih q⟩
 |DH ps =>
  have e:h.get? a=some { cls:=.none,data:=.fields ps }:=x
  show h'.get? a=some { cls:=.none,data:=.fields ps }
  exact k a _ (.inl rfl) e
 |met f y =>
  have e:h.get? a=some (PySem.W.methodObj (.ref f) (.ref y)):=x
  show h'.get? a=some (PySem.W.methodObj (.ref f) (.ref y))
  exact k a _ (.inl rfl) e
 |ext φ=>obtain⟨p,⟨o,e⟩,st⟩:=x;exact⟨st _ _ p fun o q=>k _ _ (.inl rfl) q,⟨o,k _ _ (.inl rfl) e⟩,st⟩
theorem fE.lt(x:fE P w H h)(e:H a=some o):a<h.objs.size:=(x a o e).lt
theorem fE.fresh(x:fE P w H h)(e:h.objs.size<=a):H a=none:=by
 cases q:H a with
 |none=>rfl
 |some u=>exact absurd (kP (x.lt q) e) (pE _)
theorem fE.kept(x:fE P w H h)(k:∀ b u,h.get? b=some u->h'.get? b=some u):fE P w H h':=fun a o e =>
 (x a o e).eM (fun b u _ q=>k b u q) (fun _ q=>q) fun _ _ q=>q
theorem fE.laid(x:fE P w H h)(k:∀ b u,h.get? b=some u->h'.get? b=some u)(hp:h.objs.size<=a)(new:eT P w (upd H a o) h' a o):fE P w (upd H a o) h':=fun b u e=>by
 have hn:=x.fresh hp
 by_cases hb:b=a
 ·subst hb;rw[ki] at e;cases e;exact new
 ·rw[eJ hb] at e
  exact(x b u e).eM (fun c v _ q=>k c v q) (fun c q=>by rw[eJ (xB q hn)];exact q) fun c xs q=>by rw[eJ (xB q hn)];exact q
end
def Rd(H:Hp)(a:Addr)(u:HO):Prop:=H a=some u\/∃ o,H a=some (.mG o u)
theorem Rd.ok{P:Program}{w:World}{H:Hp}{h:Heap}{a:Addr}{u:HO}(r:Rd H a u)(x:fE P w H h):eT P w H h a u:=by
 rcases r with r|⟨o,r⟩
 ·exact x a u r
 ·obtain⟨_,q⟩:=x a _ r
  exact q
def Mk:Option HO->Prop
 |some (.lst _)=>True
 |some (.dK _)=>True
 |some (.dT _)=>True
 |some (.set _ _)=>True
 |some (.ins _ _ _)=>True
 |some (.ext _)=>True
 |_=>False
section
variable {P:Program}{w:World}{H:Hp}{h h':Heap}{x e:Addr}{o':HO}
theorem fE.write(ok:fE P w H h)(mu:Mk (H x))(he:e=x\/H e=some (.own x))(k:∀ b u,b≠e->h.get? b=some u->h'.get? b=some u)(HV:∃ u,h'.get? e=some u)
  (new:eT P w (upd H x o') h' x o'):fE P w (upd H x o') h':=fun b u q=>by
 have Vc:∀ c y,H c=some (.own y)->c≠x:=fun c y r z=>by subst z;rw[r] at mu;exact mu
 have YN:∀ c xs,H c=some (.tup xs)->c≠x:=fun c xs r z=>by subst z;rw[r] at mu;exact mu
 by_cases hb:b=x
 ·subst hb;rw[ki] at q;cases q;exact new
 ·rw[eJ hb] at q
  by_cases EV:b=e
  ·have q':H b=some (.own x):=by
    rcases he with z|z
    ·exact absurd (EV.trans z) hb
    ·rw[EV];exact z
   rw[q] at q';cases q'
   obtain⟨v,hv⟩:=HV
   exact⟨v,by rw[EV];exact hv⟩
  ·refine(ok b u q).eM (fun c v hc r=>k c v ?_ r) (fun c r=>by rw[eJ (Vc c b r)];exact r) fun c xs r=>by rw[eJ (YN c xs r)];exact r
   rcases hc with rfl|hc
   ·exact EV
   ·rintro rfl
    rcases he with z|z
    ·exact Vc c b hc z
    ·rw[hc] at z;cases z;exact hb rfl
end
structure Un(fs ex:List Addr)(H H':Hp)(h h':Heap):Prop where
 keep:∀ b o,h.get? b=some o->H b=none->b∉fs->b∉ex->h'.get? b=some o
 slot:∀ b o,h.get? b=some o->H b=none->b∈fs->b∉ex->∃ sl,h'.get? b=some { o with slots:=sl }
 free:∀ b o,h.get? b=some o->H b=none->b∉ex->H' b=none
 there:∀ b o,h.get? b=some o->b∉ex->∃ o',h'.get? b=some o'
 ja:∀ b xs,H b=some (.tup xs)->H' b=some (.tup xs)
 sF:∀ b o u,H b=some (.mG o u)->H' b=some (.mG o u)
 ui:∀ b ps,H b=some (.DH ps)->∃ more,H' b=some (.DH (ps++more))
section
variable {fs ex:List Addr}{H H1:Hp}{h h1 h':Heap}{a x e:Addr}{o:HO}
theorem Un.any(u:Un fs ex H H1 h h1){b:Addr}{ob:Obj}(q:h.get? b=some ob)(n:H b=none)(hx:b∉ex):∃ sl,h1.get? b=some { ob with slots:=sl }:=by
 by_cases hb:b∈fs
 ·exact u.slot b ob q n hb hx
 ·exact⟨ob.slots,u.keep b ob q n hb hx⟩
theorem Un.kept(k:∀ b u,h.get? b=some u->h'.get? b=some u):Un fs ex H H h h' :=
 ⟨fun b ob q _ _ _=>k b ob q,fun b ob q _ _ _=>⟨ob.slots,k b ob q⟩,fun _ _ _ n _=>n,fun b ob q _=>⟨ob,k b ob q⟩,fun _ _ q=>q,fun _ _ _ q=>q,fun _ ps q=>⟨#[],by rw[q];simp⟩⟩
theorem Un.refl:Un fs ex H H h h:=Un.kept fun _ _ q=>q
theorem Un.laid(k:∀ b u,h.get? b=some u->h'.get? b=some u)(hp:h.objs.size<=a)(hn:H a=none):Un fs ex H (upd H a o) h h' where
 keep:=fun b u q _ _ _=>k b u q
 slot:=fun b u q _ _ _=>⟨u.slots,k b u q⟩
 free:=fun b u q n _=>by rw[eJ (eI (kP (dk q) hp))];exact n
 there:=fun b u q _=>⟨u,k b u q⟩
 ja:=fun b xs q=>by rw[eJ (xB q hn)];exact q
 sF:=fun b u xs q=>by rw[eJ (xB q hn)];exact q
 ui:=fun b ps q=>⟨#[],by rw[eJ (xB q hn),q];simp⟩
theorem Un.write(mu:Mk (H x))(he:e=x\/H e=some (.own x))(k:∀ b u,b≠e->h.get? b=some u->h'.get? b=some u)(HV:∃ u,h'.get? e=some u):Un fs ex H (upd H x o) h h':=by
 have hx:∀ b,H b=none->b≠x:=fun b n z=>by subst z;rw[n] at mu;exact mu
 have hb:∀ b,H b=none->b≠e:=fun b n z=>by
  subst z
  rcases he with r|r
  ·exact hx b n r
  ·rw[n] at r;cases r
 have hm:∀ b u,H b=some u->¬ Mk (some u)->b≠x:=fun b u q nm z=>by subst z;rw[q] at mu;exact nm mu
 refine⟨fun b u q n _ _=>k b u (hb b n) q,fun b u q n _ _=>⟨u.slots,k b u (hb b n) q⟩,fun b u q n _=>by rw[eJ (hx b n)];exact n,fun b u q _=>?_,
  fun b xs q=>by rw[eJ (hm b _ q fun z=>z)];exact q,fun b u xs q=>by rw[eJ (hm b _ q fun z=>z)];exact q,fun b ps q=>⟨#[],by rw[eJ (hm b _ q fun z=>z),q];simp⟩⟩
 by_cases EV:b=e
 ·subst EV;exact HV
 ·exact⟨u,k b u EV q⟩
end
def OQ(h:Heap)(H:Hp):List Addr:=(List.range h.objs.size).filter fun a=>(H a).isSome
def A5(h:Heap)(H:Hp):Heap:=PySem.W.hideAll h (OQ h H)
theorem YQ(h:Heap)(H:Hp):(A5 h H).objs.size=h.objs.size:=PySem.W.hideAll_size _ _
theorem YR{h:Heap}{H:Hp}{b:Addr}{o:Obj}(e:h.get? b=some o)(n:H b=none):(A5 h H).get? b=some o :=
 PySem.W.hideAll_get _ e fun hm=>by
  have q:(H b).isSome=true:=(Dp.mp hm).2
  rw[n] at q;simp at q
theorem YS{h:Heap}{H:Hp}{b:Addr}{o:Obj}(e:(A5 h H).get? b=some o):h.get? b=some o/\H b=none:=by
 have e':h.get? b=some o:=PySem.W.of_hideAll (OQ h H) e
 refine⟨e',?_⟩
 cases q:H b with
 |none=>rfl
 |some x =>
  have hm:b∈OQ h H:=Dp.mpr ⟨rq.mpr (dk e'),by simp[q]⟩
  have z:(A5 h H).get? b=none:=PySem.W.hideAll_none (OQ h H) hm
  rw[z] at e;cases e
def YT(g h:Heap)(L:Addr):List (Addr × Obj):=(List.range h.objs.size).filterMap fun a=>if a=L\/(g.get? a).isSome=true then none else (h.get? a).map fun o=>(a,o)
def rest(g h:Heap)(L d:Addr):List (Addr × Obj):=(YT g h L).filter fun p=>decide (p.1≠d)
structure Mod(K:PySem.W.Frag)(mg:Str->Option Value)(base:Heap):Prop where
 OS:K.In base
 glob:base.Ns mainGlobals mg
 blt:∃ mb,base.Ns builtinsNs mb/\∀ x:Str,x ≠ "__name__"->mb x=bootBuiltins x
 nolimit:base.NoLimit
structure Cx where
 prog:Program
 w:World
 K:PySem.W.Frag
 mg:Str->Option Value
 base:Heap
 A:Around
 N:List Str
 eK:Shared
 xC:Hp
 env:Env
 outer:List Env
 stack:List Env
 ex:List Addr
 fn:Str->Bool
 calm:Bool
 pn:List (Addr × Obj)
 xe:Value->Shared->Prop
def fe(l:List Env):List Addr:=l.filterMap (·.frame)
abbrev Cx.fs(X:Cx):List Addr:=fe X.outer
def My(sc:Scope)(x:Str):Prop:=sc.names.lookup x=some .local\/sc.names.lookup x=some .cell\/sc.names.lookup x=some .free
def Loc(sc:Scope)(x:Str):Prop:=sc.names.lookup x=some .local\/sc.names.lookup x=some .cell
def Look(env:Env)(h:Heap)(m:Str->Option Value)(x:Str)(u:Value):Prop :=
 (env.kindOf x=some .local/\m x=some u)\/((env.kindOf x=some .cell\/env.kindOf x=some .free)/\∃ c,env.cells.lookup x=some c/\h.IsCell c (some u))
structure Cx.Ok(X:Cx):Prop where
 mod:Mod X.K X.mg X.base
 kind:X.env.scope.kind=.function
 glob:X.env.globals=mainGlobals
 blt:X.env.builtins=builtinsNs
 above:X.eK.heap.objs.size<=X.env.locals
 inj:∀ x y c,X.env.cells.lookup x=some c->X.env.cells.lookup y=some c->x=y
 has:∀ x,(X.env.kindOf x=some .cell\/X.env.kindOf x=some .free)->∃ c,X.env.cells.lookup x=some c
 zv:∀ x c,X.fn x=true->X.env.cells.lookup x=some c->X.eK.heap.objs.size<=c
 hd:X.calm=true->X.A.handled=none
 frames:X.A.frames=some X.stack
 A6:X.stack=X.outer\/(X.stack=X.env :: X.outer/\X.env.frame=some X.env.locals)
 A7:∀ b∈X.ex,b≠X.env.locals/\∀ x c,X.env.cells.lookup x=some c->c≠b
 bs:∀ b o,X.base.get? b=some o->X.eK.heap.get? b=some o/\X.xC b=none
 uj:X.base.objs.size<=X.eK.heap.objs.size
 zC:∀ b o,X.base.get? b=some o->b∉X.ex
 zD:∀ b∈X.ex,b∉X.fs
 pS:X.eK.heap.FunFrames X.base X.outer
 xD:∀ b∈X.fs,X.xC b=none
structure Inv(X:Cx)(pins:List (Addr × Obj))(σ:List (Option V))(H:Hp)(s:Shared):Prop where
 ok:X.Ok
 os:s.os=X.eK.os
 bare:AllBare s.gens
 base:Un X.fs X.ex X.xC H X.eK.heap s.heap
 loc:∃ m,s.heap.Ns X.env.locals m/\∀ (i:Nat) (x:Str) (v:V),X.N[i]? = some x->σ[i]? = some (some v)->My X.env.scope x->∃ u,RelV v u/\Look X.env s.heap m x u
 cell:∀ x c,X.env.cells.lookup x=some c->∃ v,s.heap.IsCell c v
 free:H X.env.locals=none
 nV:∀ x c,X.env.cells.lookup x=some c->H c=none
 pin:∀ p∈X.pn++pins,s.heap.get? p.1=some p.2/\H p.1=none/\p.1≠X.env.locals/\p.1∉X.fs/\∀ v,p.2.data≠.cell v
 aT:fE X.prog X.w H s.heap
 len:σ.length=X.N.length
section
variable {X:Cx}{pins:List (Addr × Obj)}{σ:List (Option V)}{H H':Hp}{s:Shared}{h':Heap}
theorem Cx.Ok.YV(ok:X.Ok){b:Addr}{o:Obj}(e:X.base.get? b=some o):b∉X.fs:=fun hb=>by
 have:=(ok.pS.mem hb).1
 rw[e] at this;cases this
theorem Inv.bs(I:Inv X pins σ H s):∀ b o,X.base.get? b=some o->s.heap.get? b=some o/\H b=none:=fun b o e =>
 ⟨I.base.keep b o (I.ok.bs b o e).1 (I.ok.bs b o e).2 (I.ok.YV e) (I.ok.zC b o e),I.base.free b o (I.ok.bs b o e).1 (I.ok.bs b o e).2 (I.ok.zC b o e)⟩
theorem Inv.bk(I:Inv X pins σ H s):∀ b o,X.base.get? b=some o->s.heap.get? b=some o:=fun b o e=>(I.bs b o e).1
theorem Inv.mod(I:Inv X pins σ H s):Mod X.K X.mg X.base:=I.ok.mod
theorem Inv.kr(I:Inv X pins σ H s):X.K.In s.heap:=I.ok.mod.OS.keeps I.bk
theorem Inv.lt(I:Inv X pins σ H s):X.env.locals<s.heap.objs.size:=let ⟨_,hn,_⟩:=I.loc;hn.lt
theorem Inv.sz(I:Inv X pins σ H s):X.eK.heap.objs.size<=s.heap.objs.size:=iN I.ok.above (kD I.lt)
theorem Inv.YW(I:Inv X pins σ H s){a:Addr}(h:s.heap.objs.size<=a):a∉X.fs:=fun hb=>by
 obtain⟨_,o,ho,_⟩:=I.ok.pS.mem hb
 exact absurd (kP (dk ho) (iN I.sz h)) (pE _)
theorem Inv.A8(I:Inv X pins σ H s):∀ x c,X.env.cells.lookup x=some c->c≠X.env.locals:=fun x c e z=>by
 obtain⟨v,o,ho,hd⟩:=I.cell x c e
 obtain⟨m,⟨o',es,ep,mI,Rf,_⟩,_⟩:=I.loc
 rw[z,mI] at ho;cases ho;rw[Rf] at hd;cases hd
theorem Inv.pS(I:Inv X pins σ H s):s.heap.FunFrames X.base X.outer:=by
 have all:∀ (l:List Env),(∀ b∈fe l,b∈X.fs)->X.eK.heap.FunFrames X.base l->s.heap.FunFrames X.base l:=by
  intro l
  induction l with
  |nil=>intro _ _;trivial
  |cons env r ih =>
   intro hs hl
   obtain⟨hk,⟨L,o,hf,hn,ho,hd⟩,hr⟩:=hl
   have hL:L∈X.fs:=hs L (by unfold fe;rw[y8,hf];exact cf)
   obtain⟨sl,e⟩:=I.base.slot L o ho (I.ok.xD L hL) hL fun z=>I.ok.zD L z hL
   exact⟨hk,⟨L,_,hf,hn,e,hd⟩,ih (fun b hb=>hs b (by unfold fe;rw[y8,hf];exact cc _ hb)) hr⟩
 exact all X.outer (fun _ hb=>hb) I.ok.pS
theorem Inv.stack(I:Inv X pins σ H s):s.heap.FunFrames X.base X.stack:=by
 rcases I.ok.A6 with e|⟨e,hf⟩
 ·rw[e];exact I.pS
 ·rw[e]
  obtain⟨m,hn,_⟩:=I.loc
  refine .cons (by rw[I.ok.kind];decide) hf hn ?_ I.pS
  exact Heap.get?_none_of_le (iN I.ok.uj I.ok.above)
theorem Inv.Rg(I:Inv X pins σ H s):∀ b∈fe X.stack,b∈X.env.locals :: X.fs:=fun b hb=>by
 rcases I.ok.A6 with e|⟨e,hf⟩
 ·rw[e] at hb;exact cc _ hb
 ·rw[e] at hb
  unfold fe at hb
  rw[y8,hf] at hb
  exact hb
theorem Inv.Rh(I:Inv X pins σ H s):∀ b∈fe X.stack,H b=none:=fun b hb=>by
 rcases cS.mp (I.Rg b hb) with e|hb
 ·rw[e];exact I.free
 ·obtain⟨_,o,ho,_⟩:=I.ok.pS.mem hb
  exact I.base.free b o ho (I.ok.xD b hb) fun z=>I.ok.zD b z hb
theorem Inv.step{g':Array GenState}{t':Nat}{d':Drawn}{ch:List Addr}(I:Inv X pins σ H s)
  (wa:∀ b∈ch,(b∈X.ex\/X.eK.heap.objs.size<=b)/\b≠X.env.locals/\(∀ x c,X.env.cells.lookup x=some c->c≠b)/\∀ p∈X.pn++pins,p.1≠b)
  (keep:∀ b o,b≠X.env.locals->b∉X.fs->b∉ch->s.heap.get? b=some o->H b=none->h'.get? b=some o)
  (slot:∀ b o,b≠X.env.locals->b∈X.fs->b∉ch->s.heap.get? b=some o->H b=none->∃ sl,h'.get? b=some { o with slots:=sl }) (free:∀ b o,b∉ch->s.heap.get? b=some o->H b=none->H' b=none)
  (there:∀ b o,b∉ch->s.heap.get? b=some o->∃ o',h'.get? b=some o')
  (ja:∀ b xs,H b=some (.tup xs)->H' b=some (.tup xs)) (sF:∀ b o u,H b=some (.mG o u)->H' b=some (.mG o u)) (ui:∀ b ps,H b=some (.DH ps)->∃ more,H' b=some (.DH (ps++more)))
  (ns:∀ m,s.heap.Ns X.env.locals m->h'.Ns X.env.locals m) (aT:fE X.prog X.w H' h') (hg:AllBare g') :
  Inv X pins σ H' { s with heap:=h',gens:=g',drawn:=d',toks:=t' }:=by
 have MA:∀ b o,X.eK.heap.get? b=some o->b≠X.env.locals:=fun b o e=>eI (kP (dk e) I.ok.above)
 have OU:∀ b o,X.eK.heap.get? b=some o->b∉X.ex->b∉ch:=fun b o e hx hb=>by
  rcases (wa b hb).1 with z|z
  ·exact hx z
  ·exact absurd (kP (dk e) z) (pE _)
 have cellK:∀ x c,X.env.cells.lookup x=some c->∀ v,s.heap.IsCell c v->h'.IsCell c v:=fun x c e v dc=>by
  obtain⟨o,ho,hd⟩:=dc
  have MB:c∉ch:=fun z=>(wa c z).2.2.1 x c e rfl
  by_cases hc:c∈X.fs
  ·obtain⟨sl,q⟩:=slot c o (I.A8 x c e) hc MB ho (I.nV x c e)
   exact⟨_,q,hd⟩
  ·exact⟨o,keep c o (I.A8 x c e) hc MB ho (I.nV x c e),hd⟩
 refine⟨I.ok,I.os,hg,⟨fun b o e n hb hx=>?_,fun b o e n hb hx=>?_,fun b o e n hx=>?_,fun b o e hx=>?_,fun b xs e=>ja b xs (I.base.ja b xs e),fun b o xs e=>sF b o xs (I.base.sF b o xs e),fun b ps e=>?_⟩,?_,fun x c e=>?_,?_,fun x c e=>?_,fun p hp=>?_,aT,I.len⟩
 ·exact keep b o (MA b o e) hb (OU b o e hx) (I.base.keep b o e n hb hx) (I.base.free b o e n hx)
 ·obtain⟨sl,e1⟩:=I.base.slot b o e n hb hx
  obtain⟨YX,e2⟩:=slot b _ (MA b o e) hb (OU b o e hx) e1 (I.base.free b o e n hx)
  exact⟨YX,e2⟩
 ·obtain⟨o',e1⟩:=I.base.there b o e hx
  exact free b o' (OU b o e hx) e1 (I.base.free b o e n hx)
 ·obtain⟨o',e1⟩:=I.base.there b o e hx
  exact there b o' (OU b o e hx) e1
 ·obtain⟨m1,e1⟩:=I.base.ui b ps e
  obtain⟨m2,e2⟩:=ui b _ e1
  exact⟨m1++m2,by rw[e2,Mb]⟩
 ·obtain⟨m,hn,hl⟩:=I.loc
  refine⟨m,ns m hn,fun i x v e1 e2 e3=>?_⟩
  obtain⟨u,r,l⟩:=hl i x v e1 e2 e3
  refine⟨u,r,?_⟩
  rcases l with l|⟨k,c,e,z⟩
  ·exact .inl l
  ·exact .inr ⟨k,c,e,cellK x c e _ z⟩
 ·obtain⟨v,z⟩:=I.cell x c e
  exact⟨v,cellK x c e v z⟩
 ·obtain⟨m,⟨o,_,_,ho,_⟩,_⟩:=I.loc
  exact free _ o (fun z=>(wa _ z).2.1 rfl) ho I.free
 ·obtain⟨v,o,ho,hd⟩:=I.cell x c e
  exact free c o (fun z=>(wa c z).2.2.1 x c e rfl) ho (I.nV x c e)
 ·obtain⟨e,n,ne,nf,d⟩:=I.pin p hp
  have MB:p.1∉ch:=fun z=>(wa p.1 z).2.2.2 p hp rfl
  exact⟨keep p.1 p.2 ne nf MB e n,free p.1 p.2 MB e n,ne,nf,d⟩
theorem Inv.un{t':Nat}(I:Inv X pins σ H s)(u:Un X.fs [] H H' s.heap h')(aT:fE X.prog X.w H' h'):Inv X pins σ H' { s with heap:=h',toks:=t' }:=by
 obtain⟨m,⟨o,es,ep,ho,r⟩,_⟩:=id I.loc
 obtain⟨sl,hL⟩:=u.any ho I.free (by simp)
 exact I.step (g':=s.gens) (d':=s.drawn) (ch:=[]) (fun _ z=>nomatch z) (fun b o _ hb _ e n=>u.keep b o e n hb (by simp)) (fun b o _ hb _ e n=>u.slot b o e n hb (by simp)) (fun b o _ e n=>u.free b o e n (by simp)) (fun b o _ e=>u.there b o e (by simp)) u.ja u.sF u.ui (fun m' hm=>by
  obtain⟨o',Ri,Rj,mI,r'⟩:=hm
  rw[ho] at mI;cases mI
  exact⟨_,Ri,Rj,hL,r'⟩) aT I.bare
theorem Inv.call{g':Array GenState}{t':Nat}{d':Drawn}{ch:List Addr}(I:Inv X pins σ H s)(u:Un (fe X.stack) ch H H' s.heap h')(aT:fE X.prog X.w H' h')(hg:AllBare g')
  (wa:∀ b∈ch,(b∈X.ex\/X.eK.heap.objs.size<=b)/\b≠X.env.locals/\(∀ x c,X.env.cells.lookup x=some c->c≠b)/\∀ p∈X.pn++pins,p.1≠b) :
  Inv X pins σ H' { s with heap:=h',gens:=g',drawn:=d',toks:=t' }:=by
 obtain⟨m,⟨o,es,ep,ho,r⟩,_⟩:=id I.loc
 obtain⟨sl,hL⟩:=u.any ho I.free fun z=>(wa _ z).2.1 rfl
 exact I.step (ch:=ch) wa (fun b o hL hb hc e n=>u.keep b o e n (fun z=>(cS.mp (I.Rg b z)).elim hL hb) hc) (fun b o _ _ hc e n=>u.any e n hc) (fun b o hc e n=>u.free b o e n hc) (fun b o hc e=>u.there b o e hc) u.ja u.sF u.ui (fun m' hm=>by
  obtain⟨o',Ri,Rj,mI,r'⟩:=hm
  rw[ho] at mI;cases mI
  exact⟨_,Ri,Rj,hL,r'⟩) aT hg
theorem Inv.turned{t':Nat}{it:Addr}(I:Inv X pins σ H s)(k:∀ b o,b≠it->s.heap.get? b=some o->h'.get? b=some o)(hn:H it=none)(hL:it≠X.env.locals)
  (h1:it∈X.ex\/X.eK.heap.objs.size<=it) (h2:∀ x c,X.env.cells.lookup x=some c->c≠it) (h3:∀ p∈X.pn++pins,p.1≠it):Inv X pins σ H { s with heap:=h',toks:=t' }:=by
 have DI:∀ b u,H b=some u->b≠it:=fun b u e z=>by rw[z,hn] at e;cases e
 refine I.step (g':=s.gens) (d':=s.drawn) (ch:=[it]) (fun b hb=>?_) (fun b o _ _ hc e _=>k b o (fun z=>hc (by simp[z])) e) (fun b o _ _ hc e _=>⟨o.slots,k b o (fun z=>hc (by simp[z])) e⟩) (fun _ _ _ _ n=>n)
  (fun b o hc e=>⟨o,k b o (fun z=>hc (by simp[z])) e⟩) (fun _ _ e=>e) (fun _ _ _ e=>e) (fun b ps e=>⟨#[],by rw[e];simp⟩) (fun m hm=>?_) (fun b u e=>?_) I.bare
 ·have e:b=it:=by simpa using hb
  subst e
  exact⟨h1,hL,h2,h3⟩
 ·obtain⟨o,es,ep,ho,r⟩:=hm
  exact⟨o,es,ep,k _ o (Ne.symm hL) ho,r⟩
 ·refine(I.aT b u e).eM (fun c v hc q=>k c v ?_ q) (fun _ q=>q) fun _ _ q=>q
  rcases hc with z|z
  ·rw[z];exact DI b u e
  ·exact DI c _ z
theorem Inv.tok(I:Inv X pins σ H s)(t:Nat):Inv X pins σ H { s with toks:=t }:=I.un (h':=s.heap) (t':=t) Un.refl I.aT
theorem Inv.kept{t':Nat}(I:Inv X pins σ H s)(k:∀ b u,s.heap.get? b=some u->h'.get? b=some u):Inv X pins σ H { s with heap:=h',toks:=t' }:=I.un (Un.kept k) (I.aT.kept k)
theorem Inv.laid{a:Addr}{o:HO}{t':Nat}(I:Inv X pins σ H s)(k:∀ b u,s.heap.get? b=some u->h'.get? b=some u)(hp:s.heap.objs.size<=a)(new:eT X.prog X.w (upd H a o) h' a o) :
  Inv X pins σ (upd H a o) { s with heap:=h',toks:=t' }:=I.un (Un.laid k hp (I.aT.fresh hp)) (I.aT.laid k hp new)
theorem Inv.write{x e:Addr}{o:HO}{t':Nat}(I:Inv X pins σ H s)(mu:Mk (H x))(he:e=x\/H e=some (.own x))(k:∀ b u,b≠e->s.heap.get? b=some u->h'.get? b=some u)(HV:∃ u,h'.get? e=some u)
  (new:eT X.prog X.w (upd H x o) h' x o):Inv X pins σ (upd H x o) { s with heap:=h',toks:=t' }:=I.un (Un.write mu he k HV) (I.aT.write mu he k HV new)
theorem Inv.Vd{mM:List (Addr × Obj)}(I:Inv X pins σ H s)(h:∀ p∈mM,s.heap.get? p.1=some p.2/\H p.1=none/\p.1≠X.env.locals/\p.1∉X.fs/\∀ v,p.2.data≠.cell v):Inv X mM σ H s :=
 ⟨I.ok,I.os,I.bare,I.base,I.loc,I.cell,I.free,I.nV,fun p hp=>(dy.mp hp).elim (fun z=>I.pin p (kc _ z)) (h p),I.aT,I.len⟩
theorem Ve{N:List Str}(hN:N.Nodup){i j:Nat}{x:Str}(a:N[i]? = some x)(b:N[j]? = some x):i=j:=by
 obtain⟨h1,e1⟩:=hV.mp a
 obtain⟨h2,e2⟩:=hV.mp b
 exact(List.getElem_inj hN).mp (e1.trans e2.symm)
theorem Rk{M:Model}{A:Around}{E:Value->Shared->Prop}{i:Nat}{x:Str}{v:V}{u:Value}{Q:Unit->Shared->Prop}(I:Inv X pins σ H s)(hN:X.N.Nodup)(hi:X.N[i]? = some x)(hx:Loc X.env.scope x)(r:RelV v u)
  (h:∀ s',Inv X pins (σ.set i (some v)) H s'->(∃ a,Heap.SameBut a s.heap s'.heap/\(a=X.env.locals\/X.env.cells.lookup x=some a))->Q () s') (hf:X.fn x=true\/X.env.scope.names.lookup x=some .local:=by first|exact .inl rfl|exact .inr rfl|assumption):wpAny M A (storeName X.env x u) Q E s:=by
 obtain⟨m,hn,hl⟩:=id I.loc
 have Rl:(X.env.scope.kind == .class || (X.env.scope.kind == .module && X.env.locals != X.env.globals))=false:=by rw[I.ok.kind];rfl
 have Vf:i<σ.length:=by rw[I.len];exact(hV.mp hi).1
 have A8:=I.A8
 have tracked:∀ {a:Addr} {h':Heap},(∃ o,s.heap.get? a=some o/\H a=none)->Heap.SameBut a s.heap h'->fE X.prog X.w H h':=fun {a h'} ha hs b ob e=>by
  obtain⟨_,_,Vg⟩:=ha
  refine(I.aT b ob e).eM (fun c w' hc q=>(hs.2 c ?_).trans q) (fun _ q=>q) fun _ _ q=>q
  rintro rfl
  rcases hc with rfl|hc
  ·rw[Vg] at e;cases e
  ·rw[Vg] at hc;cases hc
 rcases hx with hk|hk
 ·refine wpAny_storeName_local hk hn (fun h' Rm hs=>?_) Rl
  obtain⟨oL,_,_,wc,_⟩:=id hn
  refine h _ ⟨I.ok,I.os,I.bare,⟨fun b o e n hb hx=>?_,fun b o e n hb hx=>?_,I.base.free,fun b o e hx=>?_,I.base.ja,I.base.sF,I.base.ui⟩,⟨_,Rm,fun j y v' e1 e2 e3=>?_⟩,fun y c e=>?_,I.free,I.nV,fun p hp=>?_,tracked ⟨oL,wc,I.free⟩ hs,by simpa using I.len⟩ ⟨_,hs,.inl rfl⟩
  ·exact(hs.2 b (eI (kP (dk e) I.ok.above))).trans (I.base.keep b o e n hb hx)
  ·obtain⟨sl,e1⟩:=I.base.slot b o e n hb hx
   exact⟨sl,(hs.2 b (eI (kP (dk e) I.ok.above))).trans e1⟩
  ·obtain⟨o',e1⟩:=I.base.there b o e hx
   exact⟨o',(hs.2 b (eI (kP (dk e) I.ok.above))).trans e1⟩
  ·by_cases hj:j=i
   ·subst hj
    rw[hi] at e1;cases e1
    rw[Oc Vf] at e2
    cases e2
    exact⟨u,r,.inl ⟨hk,by simp⟩⟩
   ·rw[GO (Ne.symm hj)] at e2
    obtain⟨u',r',q⟩:=hl j y v' e1 e2 e3
    refine⟨u',r',?_⟩
    rcases q with⟨k,e⟩|⟨k,c,e,z⟩
    ·refine .inl ⟨k,?_⟩
     have:y≠x:=fun e=>hj (Ve hN e1 (e ▸ hi))
     simp[this,e]
    ·exact .inr ⟨k,c,e,z.sameBut hs (A8 y c e)⟩
  ·obtain⟨w',z⟩:=I.cell y c e
   exact⟨w',z.sameBut hs (A8 y c e)⟩
  ·obtain⟨e,n,ne,nf,d⟩:=I.pin p hp
   exact⟨(hs.2 p.1 ne).trans e,n,ne,nf,d⟩
 ·have Rn:X.fn x=true:=by
   rcases hf with z|z
   ·exact z
   ·rw[z] at hk;cases hk
  obtain⟨c,hc⟩:=I.ok.has x (.inl hk)
  obtain⟨w',z⟩:=I.cell x c hc
  refine wpAny_storeName_cell I.ok.kind hk hc z (fun h' EW hs=>?_)
  obtain⟨oc,OV,YY⟩:=id z
  refine h { s with heap:=h' } ⟨I.ok,I.os,I.bare,⟨fun b o e n hb hx=>?_,fun b o e n hb hx=>?_,I.base.free,fun b o e hx=>?_,I.base.ja,I.base.sF,I.base.ui⟩,⟨m,hn.sameBut hs (Ne.symm (A8 x c hc)),fun j y v' e1 e2 e3=>?_⟩,fun y c' e=>?_,I.free,I.nV,fun p hp=>?_,tracked ⟨oc,OV,I.nV x c hc⟩ hs,by simpa using I.len⟩ ⟨c,hs,.inr hc⟩
  ·exact(hs.2 b (eI (kP (dk e) (I.ok.zv x c Rn hc)))).trans (I.base.keep b o e n hb hx)
  ·obtain⟨sl,e1⟩:=I.base.slot b o e n hb hx
   exact⟨sl,(hs.2 b (eI (kP (dk e) (I.ok.zv x c Rn hc)))).trans e1⟩
  ·obtain⟨o',e1⟩:=I.base.there b o e hx
   exact⟨o',(hs.2 b (eI (kP (dk e) (I.ok.zv x c Rn hc)))).trans e1⟩
  ·by_cases hj:j=i
   ·subst hj
    rw[hi] at e1;cases e1
    rw[Oc Vf] at e2
    cases e2
    exact⟨u,r,.inr ⟨.inl hk,c,hc,EW⟩⟩
   ·rw[GO (Ne.symm hj)] at e2
    obtain⟨u',r',q⟩:=hl j y v' e1 e2 e3
    refine⟨u',r',?_⟩
    rcases q with q|⟨k,c',e,z'⟩
    ·exact .inl q
    ·refine .inr ⟨k,c',e,z'.sameBut hs ?_⟩
     rintro rfl
     exact hj (Ve hN e1 (I.ok.inj _ _ _ e hc ▸ hi))
  ·by_cases HZ:c'=c
   ·subst HZ;exact⟨_,EW⟩
   ·obtain⟨w2,z2⟩:=I.cell y c' e
    exact⟨w2,z2.sameBut hs HZ⟩
  ·obtain⟨e,n,ne,nf,d⟩:=I.pin p hp
   refine⟨(hs.2 p.1 ?_).trans e,n,ne,nf,d⟩
   intro q
   rw[q,OV] at e
   have q':oc=p.2:=Option.some.inj e
   exact d w' (by rw[<- q'];exact YY)
theorem Vh{M:Model}{A:Around}{E:Value->Shared->Prop}{i:Nat}{x:Str}{v:V}{u:Value}{Q:Unit->Shared->Prop}(I:Inv X pins σ H s)(hN:X.N.Nodup)(hi:X.N[i]? = some x)(hx:Loc X.env.scope x)(r:RelV v u)
  (h:∀ s',Inv X pins (σ.set i (some v)) H s'->Q () s') (hf:X.fn x=true\/X.env.scope.names.lookup x=some .local:=by first|exact .inl rfl|exact .inr rfl|assumption):wpAny M A (storeName X.env x u) Q E s :=
 Rk I hN hi hx r (fun s' I' _=>h s' I') hf
theorem Inv.YZ{s':Shared}{ch:List Addr}(I:Inv X pins σ H s)(ho:s'.os=s.os)(u:Un (fe X.stack) ch H H' s.heap s'.heap)(aT:fE X.prog X.w H' s'.heap)(hg:AllBare s'.gens)
  (wa:∀ b∈ch,(b∈X.ex\/X.eK.heap.objs.size<=b)/\b≠X.env.locals/\(∀ x c,X.env.cells.lookup x=some c->c≠b)/\∀ p∈X.pn++pins,p.1≠b):Inv X pins σ H' s':=by
 obtain⟨h',g',d',t',o'⟩:=s'
 have e:o'=s.os:=ho
 subst e
 exact I.call (g':=g') (t':=t') (d':=d') u aT hg wa
end
abbrev XK:=Value->Option Addr->Hp->Prop
abbrev St:=List (Option V)
abbrev VK:=V->Hp->Prop
abbrev TE:=St->Hp->VK->Prop
abbrev TT:=St->Hp->(Bool->Hp->Prop)->Prop
abbrev TA:=St->Hp->(List V->Hp->Prop)->Prop
structure Ends where
 nx:St->Hp->Prop
 rt:VK
 bk:St->Hp->Prop:=fun _ _=>False
 ct:St->Hp->Prop:=fun _ _=>False
abbrev TS:=Ends->St->Hp->Prop
def EP(X:Cx)(pins:List (Addr × Obj))(σ:St)(Q:VK)(u:Value)(s':Shared):Prop:=∃ v H',Inv X pins σ H' s'/\RelV v u/\Q v H'
def TP(X:Cx)(pins:List (Addr × Obj))(σ:St)(Q:Bool->Hp->Prop)(b:Bool)(s':Shared):Prop:=∃ H',Inv X pins σ H' s'/\Q b H'
def AP(X:Cx)(pins:List (Addr × Obj))(σ:St)(Q:List V->Hp->Prop)(us:List Value)(s':Shared):Prop:=∃ vs H',Inv X pins σ H' s'/\Vals vs us/\Q vs H'
def SP(X:Cx)(pins:List (Addr × Obj))(D:Ends)(f:Flow)(s':Shared):Prop :=
 match f with
 |.next=>∃ bp H',Inv X pins bp H' s'/\D.nx bp H'
 |.brk=>∃ bp H',Inv X pins bp H' s'/\D.bk bp H'
 |.cont=>∃ bp H',Inv X pins bp H' s'/\D.ct bp H'
 |.ret u=>∃ v bp H',Inv X pins bp H' s'/\RelV v u/\D.rt v H'
def PE(X:Cx)(e:Expr)(t:TE):Prop :=
 ∀ (pins:List (Addr × Obj)) (s:Shared) (σ:St) (H:Hp) (Q:VK),Inv X pins σ H s->t σ H Q->wpAny (model X.prog X.w) X.A (eval e X.env) (EP X pins σ Q) X.xe s
def PT(X:Cx)(e:Expr)(t:TT):Prop :=
 ∀ (pins:List (Addr × Obj)) (s:Shared) (σ:St) (H:Hp) (Q:Bool->Hp->Prop),Inv X pins σ H s->t σ H Q->wpAny (model X.prog X.w) X.A (isTrue e X.env (eval e X.env)) (TP X pins σ Q) X.xe s
def PW(X:Cx)(e:Expr)(t:TT):Prop :=
 ∀ (whole:Sem Value) (pins:List (Addr × Obj)) (s:Shared) (σ:St) (H:Hp) (Q:Bool->Hp->Prop),Inv X pins σ H s->t σ H Q->wpAny (model X.prog X.w) X.A (isTrue e X.env whole) (TP X pins σ Q) X.xe s
def PA(X:Cx)(es:List Expr)(t:TA):Prop :=
 ∀ (pos:Pos) (pins:List (Addr × Obj)) (s:Shared) (σ:St) (H:Hp) (Q:List V->Hp->Prop),Inv X pins σ H s->t σ H Q->wpAny (model X.prog X.w) X.A (spliced (backTo pos (starEach es X.env))) (AP X pins σ Q) X.xe s
def PS(X:Cx)(st:Stmt)(t:TS):Prop :=
 ∀ (pins:List (Addr × Obj)) (s:Shared) (σ:St) (H:Hp) (D:Ends),Inv X pins σ H s->t D σ H->wpAny (model X.prog X.w) X.A (exec st X.env) (SP X pins D) X.xe s
def mP(X:Cx)(st:List Stmt)(t:TS):Prop :=
 ∀ (pins:List (Addr × Obj)) (s:Shared) (σ:St) (H:Hp) (D:Ends),Inv X pins σ H s->t D σ H->wpAny (model X.prog X.w) X.A (execs st X.env) (SP X pins D) X.xe s
theorem cq{α:Type}{t:Sem α}{Q Q':α->Shared->Prop}{M:Model}{A:Around}{E:Value->Shared->Prop}{s:Shared}(h:wpAny M A t Q E s)(hQ:∀ a s,Q a s->Q' a s):wpAny M A t Q' E s:=pj h hQ fun _ _ x=>x
section
variable {X:Cx}
def DJ(i:Nat):TE:=fun σ H Q=>∃ v,σ[i]? = some (some v)/\Q v H
def tC(v:V):TE:=fun _ H Q=>Q v H
theorem Ro {i:Nat} {x:Str} {pos:Pos} (hN:X.N[i]? = some x) (hv:My X.env.scope x) (hd:(x == ("__debug__" : Str))=false:=by decide) (ox:(x == ("__classdict__" : Str))=false:=by decide):PE X (.Name x pos) (DJ i):=by
 intro pins s σ H Q I h
 obtain⟨v,e,h⟩:=h
 obtain⟨m,hn,hl⟩:=I.loc
 obtain⟨u,r,l⟩:=hl i x v hN e hv
 have fin:EP X pins σ Q u s:=⟨v,H,I,r,h⟩
 rcases l with⟨hk,hm⟩|⟨hk,c,hc,Vi⟩
 ·exact wpAny_Name (wpAny_loadName_local I.ok.kind hk hn hm fin) hd
 ·rcases hk with hk|hk
  ·exact wpAny_Name (wpAny_loadName_cell I.ok.kind hk hc Vi fin) hd
  ·exact wpAny_Name (wpAny_loadName_free I.ok.kind hk hc Vi fin ox) hd
theorem Y0{i j pos}:PE X (.Constant (.int i) j pos) (tC (.int i)):=fun _ _ _ H _ I h=>wpAny_Constant_int ⟨.int i,H,I.tok _,⟨_,rfl⟩,h⟩
theorem Y1{b j pos}:PE X (.Constant (.bool b) j pos) (tC (.bl b)):=fun _ _ _ H _ I h=>Constant_bool ⟨.bl b,H,I,rfl,h⟩
theorem Y2{j pos}:PE X (.Constant .none j pos) (tC .non):=fun _ _ _ H _ I h=>Constant_none ⟨.non,H,I,rfl,h⟩
theorem Y3{x j pos}:PE X (.Constant (.str x) j pos) (tC (.str x)):=fun _ _ _ H _ I h=>Calls.Constant_str ⟨.str x,H,I.tok _,⟨_,rfl⟩,h⟩
def Gl(X:Cx)(x:Str):Prop:=X.env.kindOf x=some .globalImplicit
theorem OW{E:Value->Shared->Prop}{pins:List (Addr × Obj)}{s:Shared}{σ:St}{H:Hp}{x:Str}{u:Value}{pos:Pos}{Q:Value->Shared->Prop}(I:Inv X pins σ H s)(hg:Gl X x)(hm:X.mg x=some u)(h:Q u s)
  (hd:(x == ("__debug__" : Str))=false:=by decide):wpAny (model X.prog X.w) X.A (eval (.Name x pos) X.env) Q E s :=
 Calls.Name_function_global I.ok.kind hg (Calls.loadGlobal_global (by rw[I.ok.glob];exact I.mod.glob.keeps I.bk) hm h) hd
theorem EX{E:Value->Shared->Prop}{pins:List (Addr × Obj)}{s:Shared}{σ:St}{H:Hp}{x:Str}{u:Value}{pos:Pos}{Q:Value->Shared->Prop}(I:Inv X pins σ H s)(hg:Gl X x)(hm:X.mg x=none)(hv:bootBuiltins x=some u)(h:Q u s)
  (hn:x ≠ "__name__" := by decide) (hd:(x == ("__debug__" : Str))=false:=by decide):wpAny (model X.prog X.w) X.A (eval (.Name x pos) X.env) Q E s:=by
 obtain⟨mb,h1,h2⟩:=I.mod.blt
 exact Calls.Name_function_global I.ok.kind hg (Calls.loadGlobal_builtin (by rw[I.ok.glob];exact I.mod.glob.keeps I.bk) hm (by rw[I.ok.blt];exact h1.keeps I.bk) ((h2 x hn).trans hv) h) hd
theorem Y4 {x:Str} {v:V} {u:Value} {pos:Pos} (hg:Gl X x) (hm:X.mg x=some u) (r:RelV v u) (hd:(x == ("__debug__" : Str))=false:=by decide):PE X (.Name x pos) (tC v) :=
 fun _ _ _ H _ I h=>OW I hg hm ⟨v,H,I,r,h⟩ hd
theorem Y5 {x:Str} {v:V} {u:Value} {pos:Pos} (hg:Gl X x) (hm:X.mg x=none) (hv:bootBuiltins x=some u) (r:RelV v u) (hn:x ≠ "__name__" := by decide) (hd:(x == ("__debug__" : Str))=false:=by decide):PE X (.Name x pos) (tC v) :=
 fun _ _ _ H _ I h=>EX I hg hm hv ⟨v,H,I,r,h⟩ hn hd
variable {a b:Expr}{ta tb:TE}{pos:Pos}
def tB(t:TE):TT:=fun σ H Q=>t σ H fun x H1=>∃ c,x=.bl c/\Q c H1
theorem Y6{e:Expr}{t:TE}(h:PE X e t)(he:∀ whole,isTrue e X.env whole=(do let v <- whole;standAt e.pos;holding [v] (truthy v)):=by intro _;rfl):PT X e (tB t):=by
 intro pins s σ H Q I hw
 refine isTrue_plain (cq (h pins s σ H _ I hw) fun v s1 cx=>L2.gv cx fun x H1 I1 r1 q1=>?_) (he _)
 obtain⟨d,rfl,q⟩:=q1
 cases r1
 exact wpAny_truthy_bool ⟨H1,I1,q⟩
variable {tA OX:TT}{rest:List Expr}
def Y7(t u:TT):TT:=fun σ H Q=>t σ H fun c H1=>if c=true then u σ H1 Q else Q false H1
def Y8(t u:TT):TT:=fun σ H Q=>t σ H fun c H1=>if c=true then Q true H1 else u σ H1 Q
def Y9(t:TT):TT:=fun σ H Q=>t σ H fun c H1=>Q (!c) H1
theorem pw_and1(ha:PT X a tA):PW X (.BoolOp .And [a] pos) tA:=by
 intro wh pins s σ H Q I h
 refine isTrue_and (cq (ha pins s σ H Q I h) fun c s1 e=>?_)
 cases c with
 |true=>exact isTrue_and_nil e
 |false=>exact e
theorem pw_or1(ha:PT X a tA):PW X (.BoolOp .Or [a] pos) tA:=by
 intro wh pins s σ H Q I h
 refine isTrue_or (cq (ha pins s σ H Q I h) fun c s1 e=>?_)
 cases c with
 |false=>exact isTrue_or_nil e
 |true=>exact e
theorem pw_and(ha:PT X a tA)(hb:PW X (.BoolOp .And (b :: rest) pos) OX):PW X (.BoolOp .And (a :: b :: rest) pos) (Y7 tA OX):=by
 intro wh pins s σ H Q I h
 refine isTrue_and (cq (ha pins s σ H _ I h) fun c s1 dc=>?_)
 obtain⟨H1,I1,q1⟩:=dc
 cases c with
 |true=>exact hb wh pins s1 σ H1 Q I1 q1
 |false=>exact⟨H1,I1,q1⟩
theorem pw_or(ha:PT X a tA)(hb:PW X (.BoolOp .Or (b :: rest) pos) OX):PW X (.BoolOp .Or (a :: b :: rest) pos) (Y8 tA OX):=by
 intro wh pins s σ H Q I h
 refine isTrue_or (cq (ha pins s σ H _ I h) fun c s1 dc=>?_)
 obtain⟨H1,I1,q1⟩:=dc
 cases c with
 |true=>exact⟨H1,I1,q1⟩
 |false=>exact hb wh pins s1 σ H1 Q I1 q1
theorem Y_(ha:PT X a tA):PT X (.UnaryOp .Not a pos) (Y9 tA):=by
 intro pins s σ H Q I h
 exact isTrue_not (ha pins s σ H (fun c H1=>Q (!c) H1) I h)
def Za(ta tb:TE):TE:=fun σ H Q=>ta σ H fun x H1=>∃ c,x=.bl c/\if c=true then tb σ H1 Q else Q (.bl false) H1
def Zb(ta:TE):TE:=fun σ H Q=>ta σ H fun x H1=>∃ c,x=.bl c/\Q (.bl (!c)) H1
theorem Zc{op}{t:TE}(h:PE X a t):PE X (.BoolOp op [a] pos) t:=fun pins s σ H Q I hw=>BoolOp_one (h pins s σ H Q I hw)
theorem Zd(ha:PE X a ta)(hb:PE X (.BoolOp .And (b :: rest) pos) tb):PE X (.BoolOp .And (a :: b :: rest) pos) (Za ta tb):=by
 intro pins s σ H Q I h
 refine BoolOp_and (cq (ha pins s σ H _ I h) fun v s1 cx=>L2.gv cx fun x H1 I1 r1 q1=>?_)
 obtain⟨c,rfl,q1⟩:=q1
 cases r1
 refine wpAny_truthy_bool ?_
 cases c with
 |true=>exact hb pins s1 σ H1 Q I1 q1
 |false=>exact⟨.bl false,H1,I1,rfl,q1⟩
theorem Ze(ha:PE X a ta):PE X (.UnaryOp .Not a pos) (Zb ta):=by
 intro pins s σ H Q I h
 refine UnaryOp_ (cq (ha pins s σ H _ I h) fun v s1 cx=>L2.gv cx fun x H1 I1 r1 q1=>?_)
 obtain⟨c,rfl,q1⟩:=q1
 cases r1
 exact not_of (wpAny_truthy_bool ⟨.bl (!c),H1,I1,rfl,q1⟩)
end
def dQ(K:PySem.W.Frag)(H:Hp)(a:Addr)(xs:List V):Prop :=
 Rd H a (.lst xs) \/
  ∃ (o:Obj) (its:Array Value) (n:Nat),K.lookup a=some o/\o.cls=.type "list"/\o.dict=none/\o.data=.seq its n/\its.size<=sizeLine/\Vals xs its.toList
def oy(K:PySem.W.Frag)(H:Hp)(a:Addr)(xs:List V):Prop :=
 Rd H a (.tup xs) \/
  ∃ (o:Obj) (its:Array Value) (n:Nat),K.lookup a=some o/\o.cls=.type "tuple"/\o.data=.seq its n/\its.size<=sizeLine/\Vals xs its.toList
def Zf:Value->Option V
 |.none=>some .non
 |.bool b=>some (.bl b)
 |.int i _=>some (.int i)
 |.str x _=>some (.str x)
 |.bytes b _=>some (.ua b)
 |.float b _=>some (.A4 b)
 |.ref a=>some (.ref a)
 |.type n=>some (.ty n)
 |_=>none
theorem RelV.abs{x:V}{u:Value}(r:RelV x u):Zf u=some x:=by
 cases x with
 |non=>cases r;rfl
 |bl _=>cases r;rfl
 |int _=>obtain⟨t,rfl⟩:=r;rfl
 |str _=>obtain⟨t,rfl⟩:=r;rfl
 |ua _=>obtain⟨t,rfl⟩:=r;rfl
 |A4 _=>obtain⟨t,rfl⟩:=r;rfl
 |ref _=>cases r;rfl
 |ty _=>cases r;rfl
theorem RelV.inj{x y:V}{u:Value}(r:RelV x u)(q:RelV y u):x=y:=Option.some.inj (r.abs.symm.trans q.abs)
theorem Vals.inj:∀ {xs ys:List V} {us:List Value},Vals xs us->Vals ys us->xs=ys
 |_,_,_,.nil,.nil=>rfl
 |_,_,_,.cons r t,.cons r' t'=>by rw[r.inj r',Vals.inj t t']
section
variable {X:Cx}{pins:List (Addr × Obj)}{σ:St}{H:Hp}{s:Shared}{a:Addr}{xs ys:List V}
theorem Inv.list(I:Inv X pins σ H s)(h:dQ X.K H a xs):∃ its:List Value,Vals xs its/\PlainL s.heap a its.toArray/\xs.length<=sizeLine:=by
 rcases h with h|⟨o,its,n,hk,hc,hd,hs,hz,r⟩
 ·obtain⟨z,its,n,r,e⟩:=h.ok I.aT
  exact⟨its,r,⟨_,n,e,rfl,rfl,rfl⟩,z⟩
 ·refine⟨its.toList,r,⟨o,n,I.kr a o hk,hc,hd,by simpa using hs⟩,?_⟩
  have e:=r.length
  simp only[A3] at e
  lia
theorem Inv.tuple(I:Inv X pins σ H s)(h:oy X.K H a xs):∃ its:List Value,Vals xs its/\IsTup s.heap a its.toArray/\xs.length<=sizeLine:=by
 rcases h with h|⟨o,its,n,hk,hc,hs,hz,r⟩
 ·obtain⟨z,its,r,p⟩:=h.ok I.aT
  exact⟨its,r,p,z⟩
 ·refine⟨its.toList,r,⟨o,I.kr a o hk,hc,n,by simpa using hs⟩,?_⟩
  have e:=r.length
  simp only[A3] at e
  lia
theorem Inv.Vj(I:Inv X pins σ H s)(h:dQ X.K H a xs)(h':dQ X.K H a ys):xs=ys:=by
 obtain⟨its,r,⟨o,n,e,_,_,d⟩,_⟩:=I.list h
 obtain⟨its',r',⟨o',n',e',_,_,d'⟩,_⟩:=I.list h'
 rw[e] at e';cases e'
 rw[d] at d'
 injection d' with d1 _
 have:its=its':=by simpa using congrArg Array.toList d1
 subst this
 exact r.inj r'
end
abbrev Cx.wish(X:Cx)(E:Value->Shared->Prop):Cx:={ X with xe:=E }
abbrev Cx.MD(X:Cx):Cx:=X.wish fun _ _=>False
theorem Cx.Ok.wish{X:Cx}(ok:X.Ok)(E:Value->Shared->Prop):(X.wish E).Ok :=
 ⟨ok.mod,ok.kind,ok.glob,ok.blt,ok.above,ok.inj,ok.has,ok.zv,ok.hd,ok.frames,ok.A6,ok.A7,ok.bs,ok.uj,ok.zC,ok.zD,ok.pS,ok.xD⟩
theorem Cx.Ok.DL{X:Cx}{E:Value->Shared->Prop}(ok:(X.wish E).Ok):X.Ok :=
 ⟨ok.mod,ok.kind,ok.glob,ok.blt,ok.above,ok.inj,ok.has,ok.zv,ok.hd,ok.frames,ok.A6,ok.A7,ok.bs,ok.uj,ok.zC,ok.zD,ok.pS,ok.xD⟩
section
variable {X:Cx}{pins:List (Addr × Obj)}{σ:St}{H:Hp}{s:Shared}{E:Value->Shared->Prop}
theorem Inv.wish(I:Inv X pins σ H s)(E:Value->Shared->Prop):Inv (X.wish E) pins σ H s:=⟨I.ok.wish E,I.os,I.bare,I.base,I.loc,I.cell,I.free,I.nV,I.pin,I.aT,I.len⟩
theorem Inv.DL(I:Inv (X.wish E) pins σ H s):Inv X pins σ H s:=⟨I.ok.DL,I.os,I.bare,I.base,I.loc,I.cell,I.free,I.nV,I.pin,I.aT,I.len⟩
theorem SP.DL{D:Ends}{f:Flow}{s':Shared}(h:SP (X.wish E) pins D f s'):SP X pins D f s':=by
 cases f with
 |next=>obtain⟨bp,H',I,q⟩:=h;exact⟨bp,H',I.DL,q⟩
 |brk=>obtain⟨bp,H',I,q⟩:=h;exact⟨bp,H',I.DL,q⟩
 |cont=>obtain⟨bp,H',I,q⟩:=h;exact⟨bp,H',I.DL,q⟩
 |ret u=>obtain⟨v,bp,H',I,r,q⟩:=h;exact⟨v,bp,H',I.DL,r,q⟩
theorem mP.MD{st:List Stmt}{t:TS}(h:mP X.MD st t):mP X st t:=fun pins s σ H D I hw =>
 pj (h pins s σ H D (I.wish _) hw) (fun _ _ q=>q.DL) fun _ _ z=>False.elim z
end
section
variable {X:Cx}{st:Stmt}{rest:List Stmt}{t u:TS}{e:Expr}{te:TE}{pos:Pos}
def Zg:TS:=fun D σ H=>D.nx σ H
def Vk(t u:TS):TS:=fun D σ H=>t { D with nx:=u D } σ H
theorem Zh:mP X [] Zg:=fun _ _ σ H _ I h=>wpAny_execs_nil ⟨σ,H,I,h⟩
theorem Vl(h1:PS X st t)(h2:mP X rest u):mP X (st :: rest) (Vk t u):=by
 intro pins s σ H D I h
 refine wpAny_execs_cons (cq (h1 pins s σ H { D with nx:=u D } I h) fun f s1 q=>?_)
 cases f with
 |next =>
  obtain⟨bp,H',I',q⟩:=q
  exact h2 pins s1 bp H' D I' q
 |ret v=>exact q
 |brk=>exact q
 |cont=>exact q
theorem Rp(h1:PS X st t):mP X [st] t:=by
 intro pins s σ H D I h
 refine wpAny_execs_cons (cq (h1 pins s σ H D I h) fun f s1 q=>?_)
 cases f with
 |next=>exact wpAny_execs_nil q
 |ret v=>exact q
 |brk=>exact q
 |cont=>exact q
theorem Inv.quiet{pins:List (Addr × Obj)}{σ:St}{H:Hp}{s:Shared}(I:Inv X pins σ H s):interactive X.env=false:=by simp[interactive,I.ok.kind]
def Zi(te:TE):TS:=fun D σ H=>te σ H fun _ H1=>D.nx σ H1
theorem OY(he:PE X e te)(hs:swapsWith e none pos.line X.env=pure false:=by rfl):PS X (.Expr e pos) (Zi te):=by
 intro pins s σ H D I h
 exact wpAny_Expr_any (cq (he pins s σ H _ I h) fun v s1 cx=>L2.gv cx fun x H1 I1 r1 q1=>⟨σ,H1,I1,q1⟩) I.quiet hs
def Zj(te:TE):TS:=fun D σ H=>te σ H D.rt
theorem Vm(he:PE X e te):PS X (.Return (some e) pos) (Zj te):=by
 intro pins s σ H D I h
 exact wpAny_Return_some (cq (he pins s σ H _ I h) fun v s1 cx=>L2.gv cx fun x H1 I1 r1 q1=>⟨x,σ,H1,I1,r1,q1⟩)
def Zk(c:TT)(t u:TS):TS:=fun D σ H=>c σ H fun b H1=>if b=true then t D σ H1 else u D σ H1
theorem Zm{c:Expr}{a b:List Stmt}{tc:TT}(hc:PT X c tc)(ha:mP X a t)(hb:mP X b u):PS X (.If c a b pos) (Zk tc t u):=by
 intro pins s σ H D I h
 refine wpAny_If (cq (hc pins s σ H _ I h) fun d s1 dc=>?_)
 obtain⟨H1,I1,q1⟩:=dc
 cases d with
 |true=>exact ha pins s1 σ H1 D I1 q1
 |false=>exact hb pins s1 σ H1 D I1 q1
end
abbrev TG:=V->St->Hp->(St->Hp->Prop)->Prop
abbrev A9:=List V->St->Hp->(St->Hp->Prop)->Prop
def PG(X:Cx)(target:Expr)(t:TG):Prop :=
 ∀ (pins:List (Addr × Obj)) (s:Shared) (σ:St) (H:Hp) (v:V) (u:Value) (Q:St->Hp->Prop),Inv X pins σ H s->RelV v u->t v σ H Q ->
  wpAny (model X.prog X.w) X.A (assign target X.env u) (fun _ s'=>∃ bp H',Inv X pins bp H' s'/\Q bp H') X.xe s
def zI(X:Cx)(ts:List Expr)(t:A9):Prop :=
 ∀ (pins:List (Addr × Obj)) (s:Shared) (σ:St) (H:Hp) (vs:List V) (us:List Value) (Q:St->Hp->Prop),Inv X pins σ H s->Vals vs us->t vs σ H Q ->
  wpAny (model X.prog X.w) X.A (assignInOrder ((assignEach ts X.env).map (·.2)) us) (fun _ s'=>∃ bp H',Inv X pins bp H' s'/\Q bp H') X.xe s
section
variable {X:Cx}{pos:Pos}
def Rq(i:Nat):TG:=fun v σ H Q=>Q (σ.set i (some v)) H
theorem Rr{i:Nat}{x:Str}(hN:X.N.Nodup)(hi:X.N[i]? = some x)(hx:Loc X.env.scope x)(hf:X.fn x=true\/X.env.scope.names.lookup x=some .local:=by first|exact .inl rfl|exact .inr rfl|assumption):PG X (.Name x pos) (Rq i):=by
 intro pins s σ H v u Q I r h
 exact wpAny_assign_Name (Vh I hN hi hx r (fun s' I'=>⟨_,H,I',h⟩) hf)
def Zn:A9:=fun vs σ H Q=>vs=[]/\Q σ H
def Zo(t:TG)(u:A9):A9:=fun vs σ H Q=>∃ v r,vs=v :: r/\t v σ H fun bp H'=>u r bp H' Q
theorem Vn:zI X [] Zn:=by
 intro pins s σ H vs us Q I r h
 obtain⟨e,h⟩:=h
 subst e
 cases r
 exact assignInOrder_nil ⟨σ,H,I,h⟩
theorem Rt{e:Expr}{es:List Expr}{t:TG}{u:A9}(h1:PG X e t)(h2:zI X es u)
  (hs:(assignEach (e :: es) X.env).map (·.2)=assign e X.env :: (assignEach es X.env).map (·.2):=by rfl):zI X (e :: es) (Zo t u):=by
 intro pins s σ H vs us Q I r h
 obtain⟨v,vr,e1,h⟩:=h
 subst e1
 cases r with
 |cons r rr =>
  rw[hs]
  refine assignInOrder_cons (cq (h1 pins s σ H _ _ _ I r h) fun _ s1 dc=>?_)
  obtain⟨Ic,H1,I1,q1⟩:=dc
  exact h2 pins s1 Ic H1 _ _ Q I1 rr q1
def Zq(K:PySem.W.Frag)(n:Nat)(t:A9):TG:=fun v σ H Q=>∃ a xs,v=.ref a/\oy K H a xs/\xs.length=n/\t xs σ H Q
theorem Vo{es:List Expr}{k:Nat}{t:A9}{n:Nat}(hc:X.calm=true)(h:zI X es t)
  (hn:(assignEach es X.env).length=n:=by rfl) (kE:(assignEach es X.env).findIdx? (·.1)=none:=by rfl):PG X (.Tuple es k pos) (Zq X.K n t):=by
 intro pins s σ H v u Q I r hw
 obtain⟨a,xs,e1,hq,hl,hw⟩:=hw
 subst e1
 cases r
 obtain⟨its,rv,ht,hz⟩:=I.tuple hq
 refine assign_Tuple_tuple (I.ok.hd hc) ht (by simp[hn,<- hl,rv.length]) kE fun h' hx=>?_
 have I1:Inv X pins σ H { s with heap:=h' }:=I.kept (t':=s.toks) fun b o e=>hx b o (eI (dk e)) e
 exact h pins _ σ H xs _ Q I1 (by simpa using rv) hw
def Ru(te:TE)(g:TG):TS:=fun D σ H=>te σ H fun x H1=>g x σ H1 D.nx
theorem Zr{tg e:Expr}{te:TE}{g:TG}(he:PE X e te)(hg:PG X tg g)(hs:swapsWithSole [tg] e pos.line X.env=pure false:=by rfl)(hw:swappedStores [tg] e X.env=pure none:=by rfl)
  (h1:(assignEach [tg] X.env).map (·.2)=[assign tg X.env]:=by rfl):PS X (.Assign [tg] e pos) (Ru te g):=by
 intro pins s σ H D I h
 refine wpAny_Assign_stores (cq (he pins s σ H _ I h) fun v s1 cx=>L2.gv cx fun x H1 I1 r1 q1=>?_) hs hw
 rw[h1]
 exact cq (hg pins s1 σ H1 x v _ I1 r1 q1) fun _ s2 q=>q
theorem Rv{i:Nat}{x:Str}{e:Expr}{te:TE}{pos':Pos}(hN:X.N.Nodup)(hi:X.N[i]? = some x)(hx:Loc X.env.scope x)(he:PE X e te)(hs:swapsWith e (some (.Name x pos')) pos.line X.env=pure false:=by rfl)(hf:X.fn x=true\/X.env.scope.names.lookup x=some .local:=by first|exact .inl rfl|exact .inr rfl|assumption) :
  PS X (.Assign [.Name x pos'] e pos) (Ru te (Rq i)):=by
 intro pins s σ H D I h
 refine wpAny_Assign_Name (cq (he pins s σ H _ I h) fun v s1 cx=>L2.gv cx fun y H1 I1 r1 q1=>?_) hs
 exact Vh I1 hN hi hx r1 (fun s2 I2=>⟨_,H1,I2,q1⟩) hf
def Zt(c:TT)(tb:TS):TS:=fun D σ H=>∃ W:Nat->St->Hp->Prop,(∃ m,W m σ H)/\∀ m σ H,W m σ H ->
 c σ H fun b H1=>if b=true then ∃ N:St->Hp->Prop,(∀ bp H',N bp H'->∃ m',m'<m/\W m' bp H')/\tb { D with nx:=N,ct:=N,bk:=D.nx } σ H1 else D.nx σ H1
theorem Zu{c:Expr}{body:List Stmt}{tc:TT}{tb:TS}(hp:PassesOwn (model X.prog X.w) X.A X.env X.xe)(hc:PT X c tc)(hb:mP X body tb):PS X (.While c body [] pos) (Zt tc tb):=by
 intro pins s σ H D I h
 obtain⟨W,⟨m0,w0⟩,turn⟩:=h
 refine wpAny_While (codeAny_whileLoop (fun n s'=>∃ bp H',Inv X pins bp H' s'/\W n bp H') ?_ m0 ⟨σ,H,I,w0⟩)
 rintro n s1 ⟨Ic,H1,I1,w1⟩
 refine wpAny_passesOwn hp (cq (hc pins s1 Ic H1 _ I1 (turn n Ic H1 w1)) fun b s2 dc=>?_)
 obtain⟨H2,I2,q2⟩:=dc
 cases b with
 |true =>
  obtain⟨N,hN,q2⟩:=q2
  rw[if_pos rfl]
  refine wpAny_passesOwn hp (cq (hb pins s2 Ic H2 _ I2 q2) fun f s3 q3=>?_)
  cases f with
  |next =>
   obtain⟨pT,H3,I3,n3⟩:=q3
   obtain⟨m',hm,w3⟩:=hN pT H3 n3
   exact⟨m',hm,pT,H3,I3,w3⟩
  |cont =>
   obtain⟨pT,H3,I3,n3⟩:=q3
   obtain⟨m',hm,w3⟩:=hN pT H3 n3
   exact⟨m',hm,pT,H3,I3,w3⟩
  |brk=>exact q3
  |ret v=>exact q3
 |false =>
  rw[if_neg gV]
  exact wpAny_execs_nil ⟨Ic,H2,I2,q2⟩
end
structure It where
 go:Nat->Hp->Prop
 ny:Nat->Hp->V->Hp->Prop
 stop:Nat->Hp->Prop
def wd(X:Cx)(pins:List (Addr × Obj))(H:Hp)(b:Addr):Prop :=
 H b=none/\b≠X.env.locals/\b∉X.fs/\(b∈X.ex\/X.eK.heap.objs.size<=b)/\(∀ x c,X.env.cells.lookup x=some c->c≠b)/\∀ p∈X.pn++pins,p.1≠b
theorem Inv.OZ{X:Cx}{pins:List (Addr × Obj)}{σ:St}{H H':Hp}{s:Shared}{b:Addr}(I:Inv X pins σ H s)(hb:s.heap.objs.size<=b)(hn:H' b=none):wd X pins H' b:=by
 refine⟨hn,He (kP I.lt hb),I.YW hb,.inr (iN I.sz hb),fun x c e z=>?_,fun p hp z=>?_⟩
 ·obtain⟨v,q⟩:=I.cell x c e
  exact absurd (kP q.lt (by rw[z];exact hb)) (pE _)
 ·exact absurd (kP (dk (I.pin p hp).1) (by rw[z];exact hb)) (pE _)
structure Turn(P:Program)(w:World)(K:PySem.W.Frag)(tg:Expr)(J:It)(fp:List Addr)(it:Addr)(tn:Nat->Heap->Prop):Prop where
 mem:it∈fp
 obj:∀ i h,tn i h->∀ b∈fp,∃ o,h.get? b=some o/\∀ v,o.data≠.cell v
 keep:∀ i h h',tn i h->(∀ b∈fp,∀ o,h.get? b=some o->h'.get? b=some o)->tn i h'
 item:∀ (X:Cx),X.prog=P->X.w=w->X.K=K->X.calm=true->∀ (i:Nat) (pins:List (Addr × Obj)) (s:Shared) (σ:St) (H:Hp) (E:Value->Shared->Prop),Inv X pins σ H s->(∀ b∈fp,wd X pins H b)->tn i s.heap->J.go i H ->
  wpAny (model P w) X.A (pyNext (.ref it)) (fun r s1=>∃ u,r=some u /\
   wpAny (model P w) X.A (letOwnedTupleGo tg (.ref it) u) (fun _ s2=>∃ x H',Inv X pins σ H' s2/\RelV x u/\J.ny i H x H'/\tn (i+1) s2.heap/\∀ b∈fp,H' b=none) E s1) E s
 done:∀ (X:Cx),X.prog=P->X.w=w->X.K=K->X.calm=true->∀ (i:Nat) (pins:List (Addr × Obj)) (s:Shared) (σ:St) (H:Hp) (E:Value->Shared->Prop),Inv X pins σ H s->(∀ b∈fp,wd X pins H b)->tn i s.heap->J.stop i H ->
  wpAny (model P w) X.A (pyNext (.ref it)) (fun r s1=>r=none/\Inv X pins σ H s1) E s
 self:∀ (A:Around) (i:Nat) (s:Shared) (Q:Value->Shared->Prop) (E:Value->Shared->Prop),tn i s.heap->Q (.ref it) s->wpAny (model P w) A (pyIter (.ref it)) Q E s
abbrev TI:=St->Hp->(It->Hp->Prop)->Prop
def Vp(X:Cx)(pins:List (Addr × Obj))(σ:St)(tg:Expr)(R:It->Hp->Prop)(Rw:Value)(s2:Shared):Prop :=
 ∃ (it:Addr) (fp:List Addr) (tn:Nat->Heap->Prop) (J:It) (H':Hp),Rw=.ref it/\Inv X pins σ H' s2/\Turn X.prog X.w X.K tg J fp it tn/\tn 0 s2.heap/\(∀ b∈fp,wd X pins H' b)/\R J H'
def PI(X:Cx)(tg iter:Expr)(wi:TI):Prop :=
 ∀ (pins:List (Addr × Obj)) (s:Shared) (σ:St) (H:Hp) (R:It->Hp->Prop),Inv X pins σ H s->wi σ H R ->
  wpAny (model X.prog X.w) X.A (eval iter X.env) (fun v s1=>wpAny (model X.prog X.w) X.A (pyIter v) (Vp X pins σ tg R) X.xe s1) X.xe s
theorem Vq{M:Model}{A:Around}{E:Value->Shared->Prop}{s:Shared}{tg:Expr}{it:Addr}{u:Value}{o:Obj}{n:String}{vs:Array Value}{Q:Unit->Shared->Prop}(ho:s.heap.get? it=some o)(hc:o.cls=.type n)(hd:o.data=.fields vs)
  (hn:["enumerate", "zip", "dict_itemiterator", "dict_reverseitemiterator", "odict_iterator", "itertools.zip_longest", "itertools.pairwise"].contains n=false) (hQ:Q () s):wpAny M A (letOwnedTupleGo tg (.ref it) u) Q E s:=by
 unfold letOwnedTupleGo
 cases tg<;>first
  |exact aS hQ
  | (cases u<;>first
     |exact aS hQ
     | (refine ai (wpAny_load ho ?_)
        rw[hc,hd]
        show wpAny M A (if (["enumerate", "zip", "dict_itemiterator", "dict_reverseitemiterator", "odict_iterator", "itertools.zip_longest", "itertools.pairwise"].contains n && vs[0]? == some (rawInt _))=true then _ else _) Q E s
        rw[if_neg (by intro h;rw[hn,Bool.false_and] at h;cases h)]
        exact aS hQ))
def O0(K:PySem.W.Frag)(a:Addr):It :=
 ⟨fun i H=>∃ xs x,dQ K H a xs/\xs[i]? = some x,fun i H x H'=>H'=H/\∀ xs,dQ K H a xs->xs[i]? = some x,fun i H=>∃ xs,dQ K H a xs/\xs.length<=i⟩
def pV(lo:Int)(n:Nat):It:=⟨fun i _=>i<n,fun i H x H'=>H'=H/\x=.int (lo+i),fun i _=>n<=i⟩
theorem Zv{P:Program}{w:World}{K:PySem.W.Frag}{tg:Expr}(a it:Addr):Turn P w K tg (O0 K a) [it] it (fun i h=>h.IsListIter it a i) where
 mem:=by simp
 obj:=fun i h st b hb=>by
  have e:b=it:=by simpa using hb
  subst e
  obtain⟨o,e,c,d⟩:=st
  exact⟨o,e,fun v z=>by rw[d] at z;cases z⟩
 keep:=fun i h h' st k=>st.at fun o e=>k it (by simp) o e
 item:=by
  intro X hP hw hK hc i pins s σ H E I hf st hg
  subst hP hw hK
  obtain⟨xs,x,hq,hx⟩:=hg
  obtain⟨its,rv,p,hz⟩:=I.list hq
  obtain⟨u,hu,ru⟩:=rv.get hx
  obtain⟨f0,f1,f2,f3,f4,f5⟩:=hf it (by simp)
  refine wpAny_pyNext_list_item st p.isList (x:=u) (by simpa using hu) fun h' ag sb=>?_
  have I1:Inv X pins σ H { s with heap:=h' }:=I.turned (t':=s.toks) (fun b o hb e=>(sb.2 b hb).trans e) f0 f1 f3 f4 f5
  obtain⟨o,e,c,d⟩:=id ag
  exact⟨u,rfl,Vq (s:={ s with heap:=h' }) e c d (by decide) ⟨x,H,I1,ru,⟨rfl,fun ys hy=>by rw[I.Vj hy hq];exact hx⟩,ag,fun b hb=>(hf b hb).1⟩⟩
 done:=by
  intro X hP hw hK hc i pins s σ H E I hf st hg
  subst hP hw hK
  obtain⟨xs,hq,hx⟩:=hg
  obtain⟨its,rv,p,hz⟩:=I.list hq
  obtain⟨f0,f1,f2,f3,f4,f5⟩:=hf it (by simp)
  have hl:=rv.length
  exact wpAny_pyNext_list_end (I.ok.hd hc) st p.isList (by simp;lia) fun h' eb=>⟨rfl,I.turned (t':=s.toks) (fun b o hb e=>eb b o hb e) f0 f1 f3 f4 f5⟩
 self:=fun _ _ _ _ _ st h=>wpAny_pyIter_listiter st h
theorem Zw{P:Program}{w:World}{K:PySem.W.Frag}{tg:Expr}(it:Addr)(lo:Int)(n:Nat):Turn P w K tg (pV lo n) [it] it (fun i h=>IsRangeIter h it (lo+(i:Nat)*1) ((n:Int)-(i:Nat)) 1) where
 mem:=by simp
 obj:=fun i h st b hb=>by
  have e:b=it:=by simpa using hb
  subst e
  exact⟨_,st,fun v z=>by
   have z':Data.fields _=Data.cell v:=z
   cases z'⟩
 keep:=fun i h h' st k=>k it (by simp) _ st
 item:=by
  intro X hP hw hK hc i pins s σ H E I hf st hg
  subst hP hw hK
  obtain⟨f0,f1,f2,f3,f4,f5⟩:=hf it (by simp)
  have W:=Walks.range (prog:=X.prog) (w:=X.w) (I.ok.hd hc) it lo 1 n
  refine W.item i s _ _ hg st fun v h' tk hv ag kk=>?_
  obtain⟨t,rfl⟩:=hv
  have I1:Inv X pins σ H { s with heap:=h',toks:=tk }:=I.turned (fun b o hb e=>kk b o (by simpa using hb) e) f0 f1 f3 f4 f5
  refine⟨_,rfl,Vq (s:={ s with heap:=h',toks:=tk }) (n := "range_iterator") ag rfl rfl (by decide) ⟨.int (lo+i),H,I1,⟨t,?_⟩,⟨rfl,rfl⟩,ag,fun b hb=>(hf b hb).1⟩⟩
  rw[Int.mul_one]
 done:=by
  intro X hP hw hK hc i pins s σ H E I hf st hg
  subst hP hw hK
  obtain⟨f0,f1,f2,f3,f4,f5⟩:=hf it (by simp)
  exact wpAny_pyNext_range_end (I.ok.hd hc) st (by have:n<=i:=hg;lia) fun h' eb=>⟨rfl,I.turned (t':=s.toks) (fun b o hb e=>eb b o hb e) f0 f1 f3 f4 f5⟩
 self:=fun _ _ _ _ _ st h=>wpAny_pyIter_rangeiter st h
section
variable {X:Cx}{tg:Expr}
def Zx(K:PySem.W.Frag)(tl:TE):TI:=fun σ H R=>tl σ H fun x H1=>∃ a,x=.ref a/\(∃ xs,dQ K H1 a xs)/\R (O0 K a) H1
theorem Vr{l:Expr}{tl:TE}(hl:PE X l tl):PI X tg l (Zx X.K tl):=by
 intro pins s σ H R I h
 refine cq (hl pins s σ H _ I h) fun v s1 cx=>L2.gv cx fun x H1 I1 r1 q1=>?_
 obtain⟨a,e,⟨xs,hq⟩,q⟩:=q1
 subst e
 cases r1
 obtain⟨its,rv,p,hz⟩:=I1.list hq
 refine wpAny_pyIter_list p.isList ?_
 refine⟨s1.heap.objs.size,[s1.heap.objs.size],_,_,H1,rfl,I1.kept (t':=s1.toks) fun b o e=>eW _ e,Zv a _,⟨_,i9 _ rfl,rfl,rfl⟩,fun b hb=>?_,q⟩
 have e:b=s1.heap.objs.size:=by simpa using hb
 subst e
 exact I1.OZ (bT _) (I1.aT.fresh (bT _))
theorem Zy{pins:List (Addr × Obj)}{σ:St}{H:Hp}{s:Shared}{R:It->Hp->Prop}{E:Value->Shared->Prop}{lo hi:Int}{t u v:Tok}{tk:Nat}(I:Inv X pins σ H s)(h1:-(2 ^ 62)<=lo)(h2:lo<2 ^ 62)(h3:-(2 ^ 62)<=hi)(h4:hi<2 ^ 62)
  (q:R (pV lo (hi-lo).toNat) H):wpAny (model X.prog X.w) X.A (pyIter (.ref s.heap.objs.size)) (Vp X pins σ tg R) E { s with heap:=s.heap.push { cls:=.type "range",data:=.fields #[.int lo t,.int hi u,.int 1 v] },toks:=tk }:=by
 refine wpAny_pyIter_range (IsRange.new ..) (small_one h1 h2 h3 h4) ?_
 have I1:Inv X pins σ H { s with heap:=s.heap.push { cls:=.type "range",data:=.fields #[.int lo t,.int hi u,.int 1 v] },toks:=tk }:=I.kept fun b o e=>eW _ e
 refine⟨(s.heap.push { cls:=.type "range",data:=.fields #[.int lo t,.int hi u,.int 1 v] }).objs.size,[(s.heap.push { cls:=.type "range",data:=.fields #[.int lo t,.int hi u,.int 1 v] }).objs.size],_,_,H,rfl,
  I1.kept (t':=tk) fun b o e=>eW _ e,Zw _ lo (hi-lo).toNat,?_,fun b hb=>?_,q⟩
 ·have e1:lo+((0:Nat):Int)*1=lo:=by simp
  have e2:(((hi-lo).toNat:Nat):Int)-((0:Nat):Int)=Builtin.Range.rangeSize lo hi 1:=by rw[rangeSize_one];split<;>lia
  show IsRangeIter _ _ (lo+((0:Nat):Int)*1) ((((hi-lo).toNat:Nat):Int)-((0:Nat):Int)) 1
  rw[e1,e2]
  exact i9 _ rfl
 ·have e:b=(s.heap.push { cls:=.type "range",data:=.fields #[.int lo t,.int hi u,.int 1 v] }).objs.size:=by simpa using hb
  subst e
  exact I1.OZ (bT _) (I1.aT.fresh (bT _))
def Zz(ta:TA):TI:=fun σ H R=>ta σ H fun vs H1=>∃ j:Int,vs=[.int j]/\-(2 ^ 62)<=j/\j<2 ^ 62/\R (pV 0 j.toNat) H1
theorem ZC {a:Expr} {ta:TA} {p pos:Pos} (hg:Gl X "range") (hm:X.mg "range" = none) (ha:PA X [a] ta) (hs:starEach [a] X.env=[(false,eval a X.env)]:=by rfl):PI X tg (.Call (.Name "range" p) [a] [] pos) (Zz ta):=by
 intro pins s σ H R I h
 refine Call_ (EX I hg hm boot_range (PyProof.Rows.callWith_type1 (cq (ha pos pins s σ H _ I h) fun us s1 cx=>L2.gv cx fun vs H1 I1 r1 q1=>?_) hs rfl))
 obtain⟨j,e,q1,q2,q⟩:=q1
 subst e
 cases r1 with
 |cons r rr =>
  cases rr
  obtain⟨t,rfl⟩:=r
  exact call_range_1 (Zy I1 (by decide) (by decide) q1 q2 (by simpa using q))
def Vs(wi:TI)(g:TG)(tb:TS):TS:=fun D σ H=>wi σ H fun J H1=>∃ W:Nat->Nat->St->Hp->Prop,(∃ m,W 0 m σ H1)/\∀ i m σ H,W i m σ H ->
 (J.stop i H/\D.nx σ H)\/(J.go i H/\∃ N:St->Hp->Prop,(∀ bp H',N bp H'->∃ m',m'<m/\W (i+1) m' bp H')/\∀ x H',J.ny i H x H'->g x σ H' fun gy H2=>tb { D with nx:=N,ct:=N,bk:=D.nx } gy H2)
def MG(fp:List Addr)(h:Heap):List (Addr × Obj):=fp.filterMap fun b=>(h.get? b).map fun o=>(b,o)
theorem O1{fp:List Addr}{h:Heap}{b:Addr}{o:Obj}(hb:b∈fp)(e:h.get? b=some o):(b,o)∈MG fp h:=QR.mpr ⟨b,hb,by rw[e];rfl⟩
theorem ZD{fp:List Addr}{h:Heap}{p:Addr × Obj}(hp:p∈MG fp h):p.1∈fp/\h.get? p.1=some p.2:=by
 obtain⟨b,hb,e⟩:=QR.mp hp
 cases q:h.get? b with
 |none=>rw[q] at e;cases e
 |some o =>
  rw[q] at e
  have e':(b,o)=p:=Option.some.inj e
  subst e'
  exact⟨hb,q⟩
theorem Inv.pinned{pins:List (Addr × Obj)}{σ:St}{H:Hp}{s:Shared}{fp:List Addr}(I:Inv X pins σ H s)(hf:∀ b∈fp,wd X pins H b)(ho:∀ b∈fp,∃ o,s.heap.get? b=some o/\∀ v,o.data≠.cell v):Inv X (pins++MG fp s.heap) σ H s :=
 I.Vd fun p hp=>(dy.mp hp).elim (fun z=>I.pin p (fh _ z)) fun z=>by
  obtain⟨hb,e⟩:=ZD z
  obtain⟨f0,f1,f2,_⟩:=hf p.1 hb
  obtain⟨o,e',d⟩:=ho p.1 hb
  rw[e] at e';cases e'
  exact⟨e,f0,f1,f2,d⟩
theorem Inv.O3{pins pl:List (Addr × Obj)}{σ:St}{H:Hp}{s:Shared}(I:Inv X (pins++pl) σ H s):Inv X pins σ H s:=I.Vd fun p hp=>I.pin p (fh _ (kc _ hp))
theorem ZE{iter:Expr}{body:List Stmt}{wi:TI}{g:TG}{tb:TS}{pos:Pos}(hp:PassesOwn (model X.prog X.w) X.A X.env X.xe)(hc:X.calm=true)(hi:PI X tg iter wi)(hg:PG X tg g)(hb:mP X body tb)
  (hs:∀ x,foldedSetIterable iter X.env x=pure x:=by intro _;rfl):PS X (.For tg iter body [] pos) (Vs wi g tb):=by
 intro pins s σ H D I h
 refine wpAny_For (cq (hi pins s σ H _ I h) fun v s1 h1=>cq h1 fun Rw s2 h2=>?_) hs
 obtain⟨it,fp,tn,J,H2,e,I2,T,wm,f2,W,⟨m0,w0⟩,turn⟩:=h2
 subst e
 -- what stays true of the iterator's objects through the loop
 have stat:∀ {H':Hp},(∀ b∈fp,H' b=none)->∀ b∈fp,wd X pins H' b:=fun hn b hb=>⟨hn b hb,(f2 b hb).2⟩
 refine codeAny_forLoop_any (fun n s'=>∃ i bp H',Inv X pins bp H' s'/\tn i s'.heap/\(∀ b∈fp,H' b=none)/\W i n bp H') ?_ m0 ⟨0,σ,H2,I2,wm,fun b hb=>(f2 b hb).1,w0⟩
 rintro n s3 ⟨i,pT,H3,I3,wo,Vt,w3⟩
 rcases turn i n pT H3 w3 with⟨stop,qn⟩|⟨go,N,hN,step⟩
 ·refine wpAny_passesOwn hp (cq (T.done X rfl rfl rfl hc i pins s3 pT H3 X.xe I3 (stat Vt) wo stop) fun r s4 dc=>?_)
  obtain⟨hr,I4⟩:=dc
  subst hr
  exact wpAny_execs_nil ⟨pT,H3,I4,qn⟩
 ·refine wpAny_passesOwn hp (cq (T.item X rfl rfl rfl hc i pins s3 pT H3 X.xe I3 (stat Vt) wo go) fun r s4 dc=>?_)
  obtain⟨u,hr,h4⟩:=dc
  subst hr
  refine wpAny_passesOwn hp (cq h4 fun _ s5 dc=>?_)
  obtain⟨x,H5,I5,r5,y5,EZ,O4⟩:=dc
  have ZF:=I5.pinned (stat O4) (T.obj _ _ EZ)
  refine wpAny_passesOwn hp (cq (hg _ s5 pT H5 x u _ ZF r5 (step x H5 y5)) fun _ s6 dc=>?_)
  obtain⟨ZG,H6,I6,q6⟩:=dc
  refine wpAny_passesOwn hp (cq (hb _ s6 ZG H6 _ I6 q6) fun f s7 q7=>?_)
  have again:∀ {xE:St} {H7:Hp},Inv X (pins++MG fp s5.heap) xE H7 s7->N xE H7->∃ m,m<n/\∃ i bp H',Inv X pins bp H' s7/\tn i s7.heap/\(∀ b∈fp,H' b=none)/\W i m bp H':=fun {xE H7} I7 n7=>by
   obtain⟨m',hm,w7⟩:=hN xE H7 n7
   refine⟨m',hm,i+1,xE,H7,I7.O3,T.keep _ _ _ EZ fun b hb o e=>(I7.pin (b,o) (fh _ (fh _ (O1 hb e)))).1,fun b hb=>?_,w7⟩
   obtain⟨o,e,d⟩:=T.obj _ _ EZ b hb
   exact(I7.pin (b,o) (fh _ (fh _ (O1 hb e)))).2.1
  cases f with
  |next=>obtain⟨xE,H7,I7,n7⟩:=q7;exact again I7 n7
  |cont=>obtain⟨xE,H7,I7,n7⟩:=q7;exact again I7 n7
  |brk=>obtain⟨xE,H7,I7,q7⟩:=q7;exact⟨xE,H7,I7.O3,q7⟩
  |ret v=>obtain⟨x7,xE,H7,I7,r7,q7⟩:=q7;exact⟨x7,xE,H7,I7.O3,r7,q7⟩
end
abbrev R2:=V->V->Hp->VK->Prop
def cE(X:Cx)(f:Value->Value->Sem Value)(r:R2):Prop :=
 ∀ (pins:List (Addr × Obj)) (s:Shared) (σ:St) (H:Hp) (x y:V) (v u:Value) (Q:VK),Inv X pins σ H s->RelV x v->RelV y u->r x y H Q ->
  wpAny (model X.prog X.w) X.A (f v u) (EP X pins σ Q) X.xe s
def O5(X:Cx)(f:Value->Sem Value)(r:V->Hp->VK->Prop):Prop :=
 ∀ (pins:List (Addr × Obj)) (s:Shared) (σ:St) (H:Hp) (x:V) (v:Value) (Q:VK),Inv X pins σ H s->RelV x v->r x H Q ->
  wpAny (model X.prog X.w) X.A (f v) (EP X pins σ Q) X.xe s
def iO(X:Cx)(f:Value)(r:List V->Hp->VK->Prop):Prop :=
 ∀ (pins:List (Addr × Obj)) (s:Shared) (σ:St) (H:Hp) (xs:List V) (us:List Value) (Q:VK),Inv X pins σ H s->Vals xs us->r xs H Q ->
  wpAny (model X.prog X.w) X.A (call f us) (EP X pins σ Q) X.xe s
def MK(r:R2)(ta tb:TE):TE:=fun σ H Q=>ta σ H fun x H1=>tb σ H1 fun y H2=>r x y H2 Q
def Vu(r:V->Hp->VK->Prop)(ta:TE):TE:=fun σ H Q=>ta σ H fun x H1=>r x H1 Q
def rI(C:Int->Int->Prop)(g:Int->Int->V):R2:=fun x y H Q=>∃ i j,x=.int i/\y=.int j/\C i j/\Q (g i j) H
def E2(g:Int->Int->V):R2:=fun x y H Q=>∃ i j,x=.int i/\y=.int j/\Q (g i j) H
def rU(g:Int->V):V->Hp->VK->Prop:=fun x H Q=>∃ i,x=.int i/\Q (g i) H
section
variable {X:Cx}{a b:Expr}{ta tb:TE}{pos:Pos}
theorem Rx(ha:PE X a ta)(hb:PE X b tb){pins:List (Addr × Obj)}{s:Shared}{σ:St}{H:Hp}{R:V->V->Hp->Prop}(I:Inv X pins σ H s)
  (h:ta σ H fun x H1=>tb σ H1 fun y H2=>R x y H2) {Q:Value->Shared->Prop} {f:Value->Value->Sem Value}
  (hf:∀ v u s2 x y H2,Inv X pins σ H2 s2->RelV x v->RelV y u->R x y H2->wpAny (model X.prog X.w) X.A (f v u) Q X.xe s2) :
  wpAny (model X.prog X.w) X.A (eval a X.env) (fun v dS=>wpAny (model X.prog X.w) X.A (eval b X.env) (fun u E3=>wpAny (model X.prog X.w) X.A (f v u) Q X.xe E3) X.xe dS) X.xe s:=by
 refine cq (ha pins s σ H _ I h) fun v s1 cx=>L2.gv cx fun x H1 I1 r1 q1=>?_
 refine cq (hb pins s1 σ H1 _ I1 q1) fun u s2 cx=>L2.gv cx fun y H2 I2 r2 q2=>?_
 exact hf v u s2 x y H2 I2 r1 r2 q2
theorem ZH{op:Operator}{r:R2}(ho:cE X (binaryOp op) r)(ha:PE X a ta)(hb:PE X b tb):PE X (.BinOp a op b pos) (MK r ta tb):=by
 intro pins s σ H Q I h
 exact wpAny_BinOp (Rx ha hb I h fun v u s2 x y H2 I2 rx ry q=>ho pins s2 σ H2 x y v u Q I2 rx ry q)
theorem ZI{op:UnaryOp}{r:V->Hp->VK->Prop}(ho:O5 X (unaryOp op) r)(ha:PE X a ta):PE X (.UnaryOp op a pos) (Vu r ta):=by
 intro pins s σ H Q I h
 exact UnaryOp_ (cq (ha pins s σ H _ I h) fun v s1 cx=>L2.gv cx fun x H1 I1 r1 q1=>ho pins s1 σ H1 x v Q I1 r1 q1)
theorem O6{f:Value->Value->Sem Value}{C:Int->Int->Prop}{g:Int->Int->Int}
  (rule:∀ (i j:Int) (t u:Tok) (s:Shared) (Q:Value->Shared->Prop) (E:Value->Shared->Prop),C i j->Q (.int (g i j) s.toks) { s with toks:=s.toks+1 }->wpAny (model X.prog X.w) X.A (f (.int i t) (.int j u)) Q E s) :
  cE X f (rI C fun i j=>.int (g i j)):=by
 intro pins s σ H x y v u Q I rx ry h
 obtain⟨i,j,rfl,rfl,hc,q⟩:=h
 obtain⟨t,rfl⟩:=rx
 obtain⟨t',rfl⟩:=ry
 exact rule i j t t' s _ _ hc ⟨.int (g i j),H,I.tok _,⟨_,rfl⟩,q⟩
theorem Vv{f:Value->Value->Sem Value}{g:Int->Int->Int}
  (rule:∀ (i j:Int) (t u:Tok) (s:Shared) (Q:Value->Shared->Prop) (E:Value->Shared->Prop),Q (.int (g i j) s.toks) { s with toks:=s.toks+1 }->wpAny (model X.prog X.w) X.A (f (.int i t) (.int j u)) Q E s) :
  cE X f (E2 fun i j=>.int (g i j)):=by
 intro pins s σ H x y v u Q I rx ry h
 obtain⟨i,j,rfl,rfl,q⟩:=h
 obtain⟨t,rfl⟩:=rx
 obtain⟨t',rfl⟩:=ry
 exact rule i j t t' s _ _ ⟨.int (g i j),H,I.tok _,⟨_,rfl⟩,q⟩
theorem Ry{f:Value->Value->Sem Value}{g:Int->Int->Bool}
  (rule:∀ (i j:Int) (t u:Tok) (s:Shared) (Q:Value->Shared->Prop) (E:Value->Shared->Prop),Q (.bool (g i j)) s->wpAny (model X.prog X.w) X.A (f (.int i t) (.int j u)) Q E s) :
  cE X f (E2 fun i j=>.bl (g i j)):=by
 intro pins s σ H x y v u Q I rx ry h
 obtain⟨i,j,rfl,rfl,q⟩:=h
 obtain⟨t,rfl⟩:=rx
 obtain⟨t',rfl⟩:=ry
 exact rule i j t t' s _ _ ⟨.bl (g i j),H,I,rfl,q⟩
def ZJ(i j:Int):Prop:=0<j/\j<1073741824
def Iq(i j:Int):Prop:=0<=j/\j<=1000000/\i.natAbs<2 ^ 64
def zS(i j:Int):Prop:=(-(2 ^ 64)<i/\i<2 ^ 64)\/(-(2 ^ 64)<j/\j<2 ^ 64)
theorem zS.ok{i j:Int}(h:zS i j):IntMulOk i j:=by
 rcases h with⟨h1,h2⟩|⟨h1,h2⟩
 ·exact .of_left (intBits_le_64 h1 h2)
 ·exact .of_right (intBits_le_64 h1 h2)
theorem ZK:cE X (binaryOp .Add) (E2 fun i j=>.int (i+j)):=Vv fun _ _ _ _ _ _ _ q=>add_int q
theorem ZL:cE X (binaryOp .Sub) (E2 fun i j=>.int (i-j)):=Vv fun _ _ _ _ _ _ _ q=>sub_int q
theorem ZM:cE X (binaryOp .Mult) (rI zS fun i j=>.int (i*j)):=O6 fun _ _ _ _ _ _ _ hc q=>mul_int q hc.ok
theorem ZN:cE X (binaryOp .FloorDiv) (rI ZJ fun i j=>.int (i / j)):=O6 fun i j _ _ _ _ _ hc q=>by
 have h1:(0:Int)<j:=hc.1
 have h2:j<1073741824:=hc.2
 exact floordiv_int (by lia) (by rw[Int.fdiv_eq_ediv_of_nonneg i (by exact zo ‹_›)];exact q) (.inl (PyProof.noPylong_small (by lia)))
theorem ZO:cE X (binaryOp .Mod) (rI (fun _ j=>0<j) fun i j=>.int (i % j)):=O6 fun i j _ _ _ _ _ hc q=>by
 have h1:(0:Int)<j:=hc
 exact mod_int' (by lia) (by rw[Int.fmod_eq_emod_of_nonneg i (by exact zo ‹_›)];exact q)
theorem ZP:cE X (binaryOp .Pow) (rI Iq fun i j=>.int (i ^ j.toNat)):=O6 fun _ _ _ _ _ _ _ hc q=>pow_int_small hc.1 hc.2.1 hc.2.2 q
theorem ZQ{f:Value->Sem Value}{g:Int->Int}
  (rule:∀ (i:Int) (t:Tok) (s:Shared) (Q:Value->Shared->Prop) (E:Value->Shared->Prop),Q (.int (g i) s.toks) { s with toks:=s.toks+1 }->wpAny (model X.prog X.w) X.A (f (.int i t)) Q E s) :
  O5 X f (rU fun i=>.int (g i)):=by
 intro pins s σ H x v Q I rx h
 obtain⟨i,rfl,q⟩:=h
 obtain⟨t,rfl⟩:=rx
 exact rule i t s _ _ ⟨.int (g i),H,I.tok _,⟨_,rfl⟩,q⟩
theorem ZR:O5 X (unaryOp .USub) (rU fun i=>.int (-i)):=ZQ fun _ _ _ _ _ q=>neg_int q
end
def Vw:V->V->Bool
 |.non,.non=>true|.non,.int _=>true|.int _,.non=>true|.non,.bl _=>true|.bl _,.non=>true|.non,.str _=>true|.str _,.non=>true
 |.int _,.int _=>true|.bl _,.bl _=>true|.str _,.str _=>true|.ua _,.ua _=>true
 |.int _,.str _=>true|.str _,.int _=>true|.bl _,.str _=>true|.str _,.bl _=>true
 |_,_=>false
def ZS:R2:=fun x y H Q=>Vw x y=true/\Q (.bl (decide (x=y))) H
def ZT:R2:=fun x y H Q=>Vw x y=true/\Q (.bl (!decide (x=y))) H
theorem Vx{i j:Int}:decide (V.int i=V.int j)=(i == j):=by
 rw[xA]
 simp
theorem Vy{i j:Bool}:decide (V.bl i=V.bl j)=(i == j):=by
 rw[xA]
 simp
theorem Vz{i j:Str}:decide (V.str i=V.str j)=(i == j):=by
 rw[xA]
 simp
theorem VA{i j:Array UInt8}:decide (V.ua i=V.ua j)=(i.toList == j.toList):=by
 rw[xA]
 cases i
 cases j
 simp
section
variable {X:Cx}{a b c:Expr}{ta tb tc:TE}{pos:Pos}
theorem gd{pins:List (Addr × Obj)}{σ:St}{H:Hp}{s:Shared}{Q:VK}{k k':Bool}(I:Inv X pins σ H s)(q:Q (.bl k) H)(e:k=k'):EP X pins σ Q (.bool k') s:=by
 subst e
 exact⟨.bl k,H,I,rfl,q⟩
theorem ZU:cE X (compareOp .Eq) ZS:=by
 intro pins s σ H x y v u Q I rx ry h
 obtain⟨hs,q⟩:=h
 cases x with
 |non =>
  cases rx
  cases y with
  |non=>cases ry;exact PySem.EqNone.eq_none_none (gd I q (by simp))
  |bl j=>cases ry;exact PySem.EqNone.eq_none_bool (gd I q (by simp))
  |int j=>obtain⟨t',rfl⟩:=ry;exact PySem.EqNone.eq_none_int (gd I q (by simp))
  |str j=>obtain⟨t',rfl⟩:=ry;exact PySem.EqNone.eq_none_str (gd I q (by simp))
  |_=>exact absurd (show false=true from hs) gV
 |bl i =>
  cases rx
  cases y with
  |non=>cases ry;exact PySem.EqNone.eq_bool_none (gd I q (by simp))
  |bl j=>cases ry;exact eq_bool (gd I q Vy)
  |str j=>obtain⟨t',rfl⟩:=ry;exact PySem.EqMixed.eq_bool_str (gd I q (by simp))
  |_=>exact absurd (show false=true from hs) gV
 |int i =>
  obtain⟨t,rfl⟩:=rx
  cases y with
  |non=>cases ry;exact PySem.EqNone.eq_int_none (gd I q (by simp))
  |int j=>obtain⟨t',rfl⟩:=ry;exact eq_int (gd I q Vx)
  |str j=>obtain⟨t',rfl⟩:=ry;exact PySem.EqMixed.eq_int_str (gd I q (by simp))
  |_=>exact absurd (show false=true from hs) gV
 |str i =>
  obtain⟨t,rfl⟩:=rx
  cases y with
  |non=>cases ry;exact PySem.EqNone.eq_str_none (gd I q (by simp))
  |bl j=>cases ry;exact PySem.EqMixed.eq_str_bool (gd I q (by simp))
  |int j=>obtain⟨t',rfl⟩:=ry;exact PySem.EqMixed.eq_str_int (gd I q (by simp))
  |str j=>obtain⟨t',rfl⟩:=ry;exact eq_str (gd I q Vz)
  |_=>exact absurd (show false=true from hs) gV
 |ua i =>
  obtain⟨t,rfl⟩:=rx
  cases y with
  |ua j=>obtain⟨t',rfl⟩:=ry;exact PySem.W.eq_bytes (gd I q VA)
  |_=>exact absurd (show false=true from hs) gV
 |_=>cases y<;>exact absurd (show false=true from hs) gV
theorem ZV:cE X (compareOp .NotEq) ZT:=by
 intro pins s σ H x y v u Q I rx ry h
 obtain⟨hs,q⟩:=h
 cases x with
 |non =>
  cases rx
  cases y with
  |non=>cases ry;exact PySem.EqNone.ne_none_none (gd I q (by simp))
  |bl j=>cases ry;exact PySem.EqNone.ne_none_bool (gd I q (by simp))
  |int j=>obtain⟨t',rfl⟩:=ry;exact PySem.EqNone.ne_none_int (gd I q (by simp))
  |str j=>obtain⟨t',rfl⟩:=ry;exact PySem.EqNone.ne_none_str (gd I q (by simp))
  |_=>exact absurd (show false=true from hs) gV
 |bl i =>
  cases rx
  cases y with
  |non=>cases ry;exact PySem.EqNone.ne_bool_none (gd I q (by simp))
  |bl j=>cases ry;exact ne_bool (gd I q (congrArg not Vy))
  |str j=>obtain⟨t',rfl⟩:=ry;exact PySem.EqMixed.ne_bool_str (gd I q (by simp))
  |_=>exact absurd (show false=true from hs) gV
 |int i =>
  obtain⟨t,rfl⟩:=rx
  cases y with
  |non=>cases ry;exact PySem.EqNone.ne_int_none (gd I q (by simp))
  |int j=>obtain⟨t',rfl⟩:=ry;exact ne_int (gd I q (congrArg not Vx))
  |str j=>obtain⟨t',rfl⟩:=ry;exact PySem.EqMixed.ne_int_str (gd I q (by simp))
  |_=>exact absurd (show false=true from hs) gV
 |str i =>
  obtain⟨t,rfl⟩:=rx
  cases y with
  |non=>cases ry;exact PySem.EqNone.ne_str_none (gd I q (by simp))
  |bl j=>cases ry;exact PySem.EqMixed.ne_str_bool (gd I q (by simp))
  |int j=>obtain⟨t',rfl⟩:=ry;exact PySem.EqMixed.ne_str_int (gd I q (by simp))
  |str j=>obtain⟨t',rfl⟩:=ry;exact ne_str (gd I q (congrArg not Vz))
  |_=>exact absurd (show false=true from hs) gV
 |ua i =>
  obtain⟨t,rfl⟩:=rx
  cases y with
  |ua j=>obtain⟨t',rfl⟩:=ry;exact PySem.W.ne_bytes (gd I q (congrArg not VA))
  |_=>exact absurd (show false=true from hs) gV
 |_=>cases y<;>exact absurd (show false=true from hs) gV
theorem ZW:cE X (compareOp .Lt) (E2 fun i j=>.bl (decide (i<j))):=Ry fun _ _ _ _ _ _ _ q=>lt_int q
theorem ZX:cE X (compareOp .LtE) (E2 fun i j=>.bl (decide (i<=j))):=Ry fun _ _ _ _ _ _ _ q=>le_int q
theorem ZY:cE X (compareOp .Gt) (E2 fun i j=>.bl (decide (j<i))):=Ry fun _ _ _ _ _ _ _ q=>gt_int q
theorem ZZ:cE X (compareOp .Lt) (fun x y H Q=>∃ i j,x=.str i/\y=.str j/\Q (.bl (decide (i.cps.toList<j.cps.toList))) H):=by
 intro pins s σ H x y v u Q I rx ry h
 obtain⟨i,j,rfl,rfl,q⟩:=h
 obtain⟨t,rfl⟩:=rx
 obtain⟨t',rfl⟩:=ry
 exact lt_str (gd I q rfl)
theorem Z0:cE X (compareOp .In) (fun x y H Q=>∃ i j,x=.str i/\y=.str j/\Q (.bl (!(Builtin.Str.occurrences j i 0 j.length 1).isEmpty)) H):=by
 intro pins s σ H x y v u Q I rx ry h
 obtain⟨i,j,rfl,rfl,q⟩:=h
 obtain⟨t,rfl⟩:=rx
 obtain⟨t',rfl⟩:=ry
 exact in_str (gd I q rfl)
theorem VB:cE X (compareOp .Is) (fun x y H Q=>y=.non/\Q (.bl (decide (x=.non))) H):=by
 intro pins s σ H x y v u Q I rx ry h
 obtain⟨rfl,q⟩:=h
 cases ry
 refine is_none_gen (gd I q ?_)
 cases x<;>first
  | (cases rx;rfl)
  | (obtain⟨t,rfl⟩:=rx;rfl)
theorem cE.or{f:Value->Value->Sem Value}{r r':R2}(h:cE X f r)(h':cE X f r'):cE X f (fun x y H Q=>r x y H Q\/r' x y H Q):=by
 intro pins s σ H x y v u Q I rx ry q
 rcases q with q|q
 ·exact h pins s σ H x y v u Q I rx ry q
 ·exact h' pins s σ H x y v u Q I rx ry q
theorem lP(b:Expr){op:CmpOp}(h:op≠.In:=by decide)(h2:op≠.NotIn:=by decide):behindInMarks op b=false:=by
 have e1:(op == CmpOp.In)=false:=by cases op<;>first|rfl|exact absurd rfl h
 have e2:(op == CmpOp.NotIn)=false:=by cases op<;>first|rfl|exact absurd rfl h2
 cases b<;>simp[behindInMarks,e1,e2]
theorem Z1{op:CmpOp}{r:R2}(ho:cE X (compareOp op) r)(ha:PE X a ta)(hb:PE X b tb)(hm:behindInMarks op b=false):PE X (.Compare a [op] [b] pos) (MK r ta tb):=by
 intro pins s σ H Q I h
 exact wpAny_Compare1 (Rx ha hb I h fun v u s2 x y H2 I2 rx ry q=>ho pins s2 σ H2 x y v u Q I2 rx ry q) hm
def Rz(t:TE):TT:=fun σ H Q=>t σ H fun x H'=>∃ k,x=.bl k/\Q k H'
theorem Z2{op:CmpOp}{r:R2}(ho:cE X (compareOp op) r)(ha:PE X a ta)(hb:PE X b tb)(hm:behindInMarks op b=false):PT X (.Compare a [op] [b] pos) (Rz (MK r ta tb)):=by
 intro pins s σ H Q I h
 refine wpAny_isTrue_Compare1 (cq (ha pins s σ H _ I h) fun v s1 cx=>L2.gv cx fun x H1 I1 r1 q1=>cq (hb pins s1 σ H1 _ I1 q1) fun u s2 cx=>L2.gv cx fun y H2 I2 r2 q2 =>
  cq (ho pins s2 σ H2 x y v u _ I2 r1 r2 q2) fun c s3 ⟨z,H3,I3,r3,k,e,q3⟩=>?_) hm
 subst e
 cases r3
 exact wpAny_truthy_bool ⟨H3,I3,q3⟩
def VC(r r':R2)(ta tb tc:TE):TE:=fun σ H Q=>ta σ H fun x H1=>tb σ H1 fun y H2=>r x y H2 fun z H3=>∃ k,z=.bl k /\
 (if k=true then tc σ H3 fun w' H4=>r' y w' H4 Q else Q (.bl false) H3)
theorem Z3{op op':CmpOp}{r r':R2}(ho:cE X (compareOp op) r)(mI:cE X (compareOp op') r')(ha:PE X a ta)(hb:PE X b tb)(hc:PE X c tc)
  (hm:lastMarks [op,op'] [b,c]=false:=by with_unfolding_all rfl):PT X (.Compare a [op,op'] [b,c] pos) (Rz (VC r r' ta tb tc)):=by
 intro pins s σ H Q I h
 refine isTrue_chain (cq (ha pins s σ H _ I h) fun v s1 cx=>L2.gv cx fun x H1 I1 r1 q1=>test_link (cq (hb pins s1 σ H1 _ I1 q1) fun u s2 cx=>L2.gv cx fun y H2 I2 r2 q2 =>
  cq (ho pins s2 σ H2 x y v u _ I2 r1 r2 q2) fun d s3 ⟨z,H3,I3,r3,k,e,q3⟩=>?_)) hm
 subst e
 cases r3
 refine wpAny_truthy_bool ?_
 cases k with
 |false =>
  obtain⟨k',e',q'⟩:=q3
  cases e'
  exact ite_ff ⟨H3,I3,q'⟩
 |true =>
  refine ite_tt (test_last (cq (hc pins s3 σ H3 _ I3 q3) fun w' s4 ⟨z',H4,I4,r4,q4⟩=>cq (mI pins s4 σ H4 y z' u w' _ I4 r2 r4 q4) fun d' s5 dc=>?_))
  obtain⟨z2,H5,I5,r5,k2,e2,q5⟩:=dc
  subst e2
  cases r5
  exact wpAny_truthy_bool ⟨H5,I5,q5⟩
theorem O7:(sizeLine:Nat)<2 ^ 63:=by rw[sizeLine_eq];decide
theorem Z4:cE X (binaryOp .Add) (fun x y H Q=>∃ i j,x=.str i/\y=.str j/\i.length+j.length<=sizeLine/\Q (.str (i++j)) H):=by
 intro pins s σ H x y v u Q I rx ry h
 obtain⟨i,j,rfl,rfl,hz,q⟩:=h
 obtain⟨t,rfl⟩:=rx
 obtain⟨t',rfl⟩:=ry
 exact add_str (fun t' tk=>⟨.str (i++j),H,I.tok _,⟨_,rfl⟩,q⟩) hz
theorem vals1{x:V}{us:List Value}(r:Vals [x] us):∃ u,us=[u]/\RelV x u:=by
 cases r with
 |cons r1 r2=>cases r2;exact⟨_,rfl,r1⟩
theorem vals2{x y:V}{us:List Value}(r:Vals [x,y] us):∃ u w',us=[u,w']/\RelV x u/\RelV y w':=by
 cases r with
 |cons r1 r2 =>
  cases r2 with
  |cons r3 r4=>cases r4;exact⟨_,_,rfl,r1,r3⟩
theorem Z5 (hc:X.calm=true):iO X (.builtin "min") (fun xs H Q=>∃ i j,xs=[.int i,.int j]/\Q (.int (if j<i then j else i)) H):=by
 intro pins s σ H xs us Q I r h
 obtain⟨i,j,rfl,q⟩:=h
 obtain⟨u,w',rfl,⟨t,rfl⟩,⟨t',rfl⟩⟩:=vals2 r
 refine min_two_ints (I.ok.hd hc) fun h' tk k=>⟨_,H,I.kept k,?_,q⟩
 by_cases hj:j<i
 ·rw[if_pos hj,if_pos hj];exact⟨_,rfl⟩
 ·rw[if_neg hj,if_neg hj];exact⟨_,rfl⟩
theorem Z6:iO X (.type "int") (fun xs H Q=>(∃ i,xs=[.int i]/\Q (.int i) H)\/∃ k,xs=[.bl k]/\Q (.int (if k then 1 else 0)) H):=by
 intro pins s σ H xs us Q I r h
 rcases h with⟨i,rfl,q⟩|⟨k,rfl,q⟩
 ·obtain⟨u,rfl,t,rfl⟩:=vals1 r
  exact call_int_int ⟨.int i,H,I,⟨_,rfl⟩,q⟩
 ·obtain⟨u,rfl,r1⟩:=vals1 r
  cases r1
  exact call_int_bool ⟨.int (if k then 1 else 0),H,I.tok _,⟨_,rfl⟩,q⟩
def Z7(K:PySem.W.Frag)(x:V)(H:Hp)(n:Nat):Prop :=
 match x with
 |.str y=>y.length<=sizeLine/\n=y.length
 |.ua y=>y.size<=sizeLine/\n=y.size
 |.ref p=>(∃ xs,dQ K H p xs/\n=xs.length)\/∃ xs,oy K H p xs/\n=xs.length
 |_=>False
theorem RA:iO X (.builtin "len") (fun xs H Q=>∃ x n,xs=[x]/\Z7 X.K x H n/\Q (.int n) H):=by
 intro pins s σ H xs us Q I r h
 obtain⟨x,n,rfl,e,q⟩:=h
 obtain⟨u,rfl,rx⟩:=vals1 r
 have hl:=O7
 have hs:sizeLine=16777216:=sizeLine_eq
 cases x with
 |str y =>
  obtain⟨t,rfl⟩:=rx
  obtain⟨hy,e'⟩:y.length<=sizeLine/\n=y.length:=e
  subst e'
  exact len_str (by lia) ⟨.int _,H,I.tok _,⟨_,rfl⟩,q⟩
 |ua y =>
  obtain⟨t,rfl⟩:=rx
  obtain⟨hy,e'⟩:y.size<=sizeLine/\n=y.size:=e
  subst e'
  exact PySem.W.len_bytes (by walk_at "s4") ⟨.int _,H,I.tok _,⟨_,rfl⟩,q⟩
 |ref p =>
  cases rx
  have e':(∃ xs,dQ X.K H p xs/\n=xs.length)\/∃ xs,oy X.K H p xs/\n=xs.length:=e
  rcases e' with⟨xs,hx,e'⟩|⟨xs,hx,e'⟩
  ·subst e'
   obtain⟨its,r',pl,hz⟩:=I.list hx
   have hlen:=r'.length
   exact Calls.call_len_list pl.isList (by simp only[kf];lia) ⟨.int xs.length,H,I.tok _,⟨_,by simp only[kf];rw[hlen]⟩,q⟩
  ·subst e'
   obtain⟨its,r',pl,hz⟩:=I.tuple hx
   have hlen:=r'.length
   exact len_tuple pl (by simp only[kf];lia) ⟨.int xs.length,H,I.tok _,⟨_,by simp only[kf];rw[hlen]⟩,q⟩
 |_=>exact(show False from e).elim
end
structure RC(h:Heap)(x dx C:Addr)(mA:Str->Option Value):Prop where
 obj:h.get? x=some (PySem.W.instObj C dx)
 ns:h.Ns1 dx mA
 ne:dx≠x
theorem lookIn_ns{h:Heap}{dx:Addr}{mA:Str->Option Value}(n:h.Ns1 dx mA):∃ od,h.get? dx=some od/\∀ name,PySem.W.lookIn name od=some (mA name):=by
 obtain⟨o,es,ep,ho,hd,hk,_,hm⟩:=n
 refine⟨o,ho,fun name=>?_⟩
 have e:=hm name
 unfold nsFind findBy at e
 rw[<- Array.find?_toList] at e
 unfold PySem.W.lookIn
 rw[hd]
 dsimp only
 split
 ·rename_i y q
  rw[q] at e
  exact congrArg some e
 ·rename_i q
  rw[q] at e
  have a:es.toList.any (·.refKey)=false:=by
   rw[List.any_eq_false]
   intro y hy
   obtain⟨z,t,RD⟩:=hk y (Array.mem_toList_iff.mp hy)
   simp[DictEntry.refKey,RD]
  have a':¬ es.toList.any (·.refKey)=true:=by rw[a];exact gV
  rw[if_neg a']
  exact congrArg some e
theorem RC.look{h:Heap}{x dx C:Addr}{mA:Str->Option Value}(I:RC h x dx C mA):∃ od,PySem.W.InstAt h x (PySem.W.instObj C dx) C (some od)/\∀ name,PySem.W.lookIn name od=some (mA name) :=
 let ⟨od,ho,hl⟩:=lookIn_ns I.ns
 ⟨od,⟨I.obj,rfl,rfl,ho⟩,hl⟩
theorem ub.some_of{v:V}{o:Option Value}(r:ub (some v) o):∃ u,o=some u/\RelV v u:=by
 cases o with
 |none=>exact(show False from r).elim
 |some u=>exact⟨u,rfl,r⟩
section
variable {P:Program}{w:World}{H:Hp}{h:Heap}{a C dx:Addr}{fs:List (Str × V)}
theorem O8(aT:fE P w H h)(e:H a=some (.ins C dx fs)):∃ mA,RC h a dx C mA/\(∀ f,ub (fs.lookup f) (mA f))/\PySem.Within mA (fs.map (·.1))/\fs.length<=1000/\H dx=some (.own a):=by
 obtain⟨d,z,ne,ob,mA,n,r,q⟩:=(show eT P w H h a (.ins C dx fs) from aT a _ e)
 exact⟨mA,⟨ob,n,ne⟩,r,q,z,d⟩
end
structure RG(K:PySem.W.Frag)(C:Addr):Prop where
 pg:PySem.W.plainGet K C Str.empty=true
 hd:PySem.W.hasDictIn K C=true
 po:PySem.W.plainOver K C=true
 sa:PySem.W.findIn K (.ref C) "__setattr__" = some (some (.builtin "object.__setattr__"))
theorem RG.get{K:PySem.W.Frag}{C:Addr}(c:RG K C)(f:Str):PySem.W.plainGet K C f=true:=c.pg
section
variable {X:Cx}{pins:List (Addr × Obj)}{σ:St}{H:Hp}{s:Shared}{A:Around}{E:Value->Shared->Prop}{Q:Value->Shared->Prop}{c:Value}{b:Bool}
inductive wq(K:PySem.W.Frag)(H:Hp):V->Value->Prop where
 |non:wq K H .non (.type "NoneType")
 |bl (x:Bool):wq K H (.bl x) (.type "bool")
 |int (i:Int):wq K H (.int i) (.type "int")
 |str (x:Str):wq K H (.str x) (.type "str")
 |A4 (x:UInt64):wq K H (.A4 x) (.type "float")
 |lst {a:Addr} {xs:List V} (e:H a=some (.lst xs)):wq K H (.ref a) (.type "list")
 |mG {a:Addr} {o:Obj} {xs:List V} (e:H a=some (.mG o (.lst xs))):wq K H (.ref a) (.type "list")
 |tup {a:Addr} {xs:List V} (e:H a=some (.tup xs)):wq K H (.ref a) (.type "tuple")
 |dK {a:Addr} {kvs:List (Key × V)} (e:H a=some (.dK kvs)):wq K H (.ref a) (.type "dict")
 |dT {a:Addr} {kvs:List (List Key × V)} (e:H a=some (.dT kvs)):wq K H (.ref a) (.type "dict")
 |ins {a C dx:Addr} {fs:List (Str × V)} (e:H a=some (.ins C dx fs)) (cl:RG K C) (ha:PySem.W.findIn K (.ref C) "__class__" = some (some (.builtin "object.__class__")))
   (hn:PySem.W.specialIn K (.builtin "object.__class__") "__get__" = some (some (.builtin "getset_descriptor.__get__"))) (VD:PySem.W.takesIn K (.builtin "object.__class__")=some true)
   (hm:PySem.W.mroIn K C (.type "object")=some true):wq K H (.ref a) (.ref C)
theorem ML{x:V}{u t:Value}(I:Inv X pins σ H s)(rx:RelV x u)(ty:wq X.K H x t)(e:PySem.W.kitOne X.K t c=some b)(h:∀ tk,Q (.bool b) { s with toks:=tk }) :
  wpAny (model X.prog X.w) A (call (.builtin "isinstance") [u,c]) Q E s:=by
 cases ty with
 |non=>cases (show u=Value.none from rx);exact PySem.W.kia_one PySem.W.kitx_none I.kr True.intro e (fun z=>nomatch z) h
 |bl y=>cases (show u=Value.bool y from rx);exact PySem.W.kia_one PySem.W.kitx_bool I.kr True.intro e (fun z=>nomatch z) h
 |int i=>obtain⟨t,q⟩:=(show ∃ t,u=Value.int i t from rx);cases q;exact PySem.W.kia_one PySem.W.kitx_int I.kr True.intro e (fun z=>nomatch z) h
 |str y=>obtain⟨t,q⟩:=(show ∃ t,u=Value.str y t from rx);cases q;exact PySem.W.kia_one PySem.W.kitx_str I.kr True.intro e (fun z=>nomatch z) h
 |A4 y=>obtain⟨t,q⟩:=(show ∃ t,u=Value.float y t from rx);cases q;exact PySem.W.kia_one PySem.W.kitx_float I.kr True.intro e (fun z=>nomatch z) h
 |@lst a xs ea =>
  cases (show u=Value.ref a from rx)
  obtain⟨_,_,n,_,h1⟩:=(show eT X.prog X.w H s.heap a (.lst xs) from I.aT a _ ea)
  exact PySem.W.kia_one PySem.W.kitx_list I.kr ⟨_,h1,rfl⟩ e (fun z=>nomatch z) h
 |@mG a ob xs ea =>
  cases (show u=Value.ref a from rx)
  obtain⟨_,_,_,n,_,h1⟩:=(show eT X.prog X.w H s.heap a (.mG ob (.lst xs)) from I.aT a _ ea)
  exact PySem.W.kia_one PySem.W.kitx_list I.kr ⟨_,h1,rfl⟩ e (fun z=>nomatch z) h
 |@tup a xs ea =>
  cases (show u=Value.ref a from rx)
  obtain⟨_,_,_,p⟩:=(show eT X.prog X.w H s.heap a (.tup xs) from I.aT a _ ea)
  obtain⟨o,h1,h2,_⟩:=p
  exact PySem.W.kia_one PySem.W.kitx_tuple I.kr ⟨o,h1,h2⟩ e (fun z=>nomatch z) h
 |@dK a kvs ea =>
  cases (show u=Value.ref a from rx)
  obtain⟨_,_,vs,_,p⟩:=(show eT X.prog X.w H s.heap a (.dK kvs) from I.aT a _ ea)
  obtain⟨o,es,ep,h1,h2,_⟩:=p
  exact PySem.W.kia_one PySem.W.kitx_dict I.kr ⟨o,h1,h2.1⟩ e (fun z=>nomatch z) h
 |@dT a kvs ea =>
  cases (show u=Value.ref a from rx)
  obtain⟨_,_,xs,_,o,es,ep,h1,h2,_⟩:=(show eT X.prog X.w H s.heap a (.dT kvs) from I.aT a _ ea)
  exact PySem.W.kia_one PySem.W.kitx_dict I.kr ⟨o,h1,h2.1⟩ e (fun z=>nomatch z) h
 |@ins a C dx fs ea cl ha hn VD hm =>
  cases (show u=Value.ref a from rx)
  obtain⟨mA,O,_⟩:=O8 I.aT ea
  obtain⟨od,J,_⟩:=O.look
  exact PySem.W.kia_one (PySem.W.kitx_own (cl.get _) cl.hd ha hn VD hm) I.kr J e (fun z=>nomatch z) h
end
structure ku(k:Nat)(A:Around):Prop where
 hd:A.handled=none
 dp:A.depth+3*k+5<recursionLimit
 un:A.units+16*k+200<cLine
theorem ku.mono{j k:Nat}{A:Around}(r:ku k A)(h:j<=k):ku j A:=⟨r.hd,by have:=r.dp;lia,by have:=r.un;lia⟩
theorem ku.deeper{k:Nat}{A:Around}(r:ku (k+1) A)(env:Env):ku k (A.deeper env) :=
 ⟨r.hd,by have:=r.dp;show A.depth+1+3*k+5<_;lia,by have:=r.un;show A.units+3+16*k+200<_;lia⟩
theorem ku.depth{k:Nat}{A:Around}(r:ku k A):A.depth<recursionLimit:=by have:=r.dp;lia
theorem ku.units{k:Nat}{A:Around}(r:ku k A):A.units+64<cLine:=by have:=r.un;lia
def VF:TA:=fun _ H Q=>Q [] H
def VG(ta:TE)(tr:TA):TA:=fun σ H Q=>ta σ H fun x H1=>tr σ H1 fun xs H2=>Q (x :: xs) H2
section
variable {X:Cx}{e:Expr}{es:List Expr}{te:TE}{t:TA}{pos:Pos}
theorem sL:PA X [] VF:=fun _ _ _ _ H Q I h=>Calls.spliced_nil ⟨[],H,I,.nil,h⟩
theorem oz(ha:PE X e te)(hr:PA X es t)(hs:starEach (e :: es) X.env=(false,eval e X.env) :: starEach es X.env:=by rfl):PA X (e :: es) (VG te t):=by
 intro pos pins s σ H Q I h
 rw[hs]
 show wpAny _ _ (spliced ((false,eval e X.env) :: backTo pos (starEach es X.env))) _ _ s
 refine Calls.spliced_cons (cq (ha pins s σ H _ I h) fun u s1 cx=>L2.gv cx fun x H1 I1 r1 q1=>?_)
 exact cq (hr pos pins s1 σ H1 _ I1 q1) fun us s2 cx=>L2.gv cx fun xs H2 I2 r2 q2=>⟨x :: xs,H2,I2,.cons r1 r2,q2⟩
def Z8(t:TA):TE:=fun σ H Q=>t σ H fun xs H1=>xs.length<=sizeLine/\∀ p,H1 p=none->Q (.ref p) (upd H1 p (.tup xs))
def Z9(t:TA):TE:=fun σ H Q=>t σ H fun xs H1=>xs.length<=sizeLine/\∀ p,H1 p=none->Q (.ref p) (upd H1 p (.lst xs))
theorem Z_{x1}(h:PA X es t):PE X (.Tuple es x1 pos) (Z8 t):=by
 intro pins s σ H Q I hq
 refine wpAny_Tuple_spliced (cq (h pos pins s σ H _ I hq) fun us s1 ⟨xs,H1,I1,r,z,q⟩=>⟨by rw[<- r.length];exact z,?_⟩)
 have hf:H1 s1.heap.objs.size=none:=I1.aT.fresh (bT _)
 refine⟨.ref s1.heap.objs.size,upd H1 s1.heap.objs.size (.tup xs),I1.laid (t':=s1.toks) (fun b u e=>eW _ e) (bT _) ?_,rfl,q _ hf⟩
 exact⟨z,us,r,⟨_,i9 _ rfl,rfl,_,rfl⟩⟩
theorem aa'(h:PA X es t):PE X (.List es pos) (Z9 t):=by
 intro pins s σ H Q I hq
 refine wpAny_List_spliced (cq (h pos pins s σ H _ I hq) fun us s1 ⟨xs,H1,I1,r,z,q⟩=>⟨by rw[<- r.length];exact z,?_⟩)
 have hf:H1 s1.heap.objs.size=none:=I1.aT.fresh (bT _)
 refine⟨.ref s1.heap.objs.size,upd H1 s1.heap.objs.size (.lst xs),I1.laid (t':=s1.toks) (fun b u e=>eW _ e) (bT _) ?_,rfl,q _ hf⟩
 exact⟨z,us,0,r,i9 _ rfl⟩
end
abbrev Sp:=List V->Hp->VK->XK->Prop
abbrev xI:=List Env->Hp->Shared->XK->Value->Shared->Prop
structure O9(P:Program)(w:World)(K:PySem.W.Frag)(mg:Str->Option Value)(base:Heap)(A:Around)(outer:List Env)(s:Shared)(H:Hp):Prop where
 frames:A.frames=some outer
 mod:Mod K mg base
 bs:∀ b o,base.get? b=some o->s.heap.get? b=some o/\H b=none
 uj:base.objs.size<=s.heap.objs.size
 pS:s.heap.FunFrames base outer
 xD:∀ b∈fe outer,H b=none
 aT:fE P w H s.heap
 bare:AllBare s.gens
def CE(outer:List Env)(P:Program)(w:World)(H:Hp)(s:Shared)(Q:VK)(u:Value)(s':Shared):Prop :=
 ∃ v H',s'.os=s.os/\AllBare s'.gens/\Un (fe outer) [] H H' s.heap s'.heap/\fE P w H' s'.heap/\RelV v u/\Q v H'
def CR(CX:xI)(outer:List Env)(P:Program)(w:World)(H:Hp)(s:Shared)(Q:VK)(E:XK)(r:Result)(s':Shared):Prop :=
 match r with
 |.ok (.ret u)=>CE outer P w H s Q u s'
 |.ok _=>False
 |.error e=>CX outer H s E e s'
structure gE(P:Program)(w:World)(K:PySem.W.Frag)(mg:Str->Option Value)(base:Heap)(CX:xI)(k:Nat)(f:Addr)(fd:FuncData)(ps:List Str)(sp:Sp):Prop where
 len:∀ vs H Q E,sp vs H Q E->vs.length=ps.length
 run:∀ (A:Around) (outer:List Env) (s:Shared) (H:Hp) (args:Args) (us:List Value) (vs:List V) (Q:VK) (E:XK),ku k A->O9 P w K mg base A outer s H->BindsTo s fd args (ps.zip us)->Vals vs us->sp vs H Q E ->
  codeAny (model P w) A (.call (.ref f) args) (CR CX outer P w H s Q E) s
section
variable {X:Cx}{pins:List (Addr × Obj)}{σ:St}{H:Hp}{s s':Shared}
theorem Inv.ab'(I:Inv X pins σ H s):O9 X.prog X.w X.K X.mg X.base X.A X.stack s H :=
 ⟨I.ok.frames,I.ok.mod,I.bs,iN I.ok.uj I.sz,I.stack,I.Rh,I.aT,I.bare⟩
theorem Inv.after{Q:VK}{u:Value}(I:Inv X pins σ H s)(h:CE X.stack X.prog X.w H s Q u s'):EP X pins σ Q u s':=by
 obtain⟨v,H',os,bare,un,aT,r,q⟩:=h
 obtain⟨hh,g,d,t,RH⟩:=s'
 obtain rfl:RH=s.os:=os
 exact⟨v,H',I.call (h':=hh) (g':=g) (d':=d) (t':=t) (ch:=[]) un aT bare (fun b z=>absurd z (by simp)),r,q⟩
end
def MN(sp:Sp)(DM:List V)(E:XK)(t:TA):TE:=fun σ H Q=>t σ H fun vs H1=>sp (vs++DM) H1 Q E
def Binds(K:PySem.W.Frag)(fd:FuncData)(ps:List Str)(ds:List Value):Prop :=
 ∀ (s:Shared) (us:List Value),K.In s.heap->(us++ds).length=ps.length->BindsTo s fd ⟨us,[]⟩ (ps.zip (us++ds))
theorem Binds.all{K:PySem.W.Frag}{fd:FuncData}{ps:List Str}(h:∀ us:List Value,us.length=ps.length->bindArgs fd ⟨us,[]⟩=pure (ps.zip us)):Binds K fd ps []:=fun s us _ hl=>by
 rw[nL] at hl ⊢
 exact .of_eq (h us hl)
def Passes(CX:xI)(X:Cx)(E:XK):Prop:=∀ (pins:List (Addr × Obj)) (σ:St) (H:Hp) (s:Shared) (e:Value) (s':Shared),Inv X pins σ H s->CX X.stack H s E e s'->X.xe e s'
section
variable {X:Cx}{CX:xI}{k:Nat}{f:Addr}{fd:FuncData}{ps:List Str}{sp:Sp}{DM:List V}{ds:List Value}{E:XK}{x:Str}{p pos:Pos}{e:Expr}{es:List Expr}{t:TA}
theorem ac'{pins:List (Addr × Obj)}{σ:St}{H:Hp}{s:Shared}{Q:VK}{us:List Value}{vs:List V}(F:gE X.prog X.w X.K X.mg X.base CX k f fd ps sp)(hr:ku k X.A)(hb:Binds X.K fd ps ds)(hd:Vals DM ds)(hx:Passes CX X E)
  (I:Inv X pins σ H s) (r:Vals vs us) (h:sp (vs++DM) H Q E):wpAny (model X.prog X.w) X.A (call (.ref f) us) (EP X pins σ Q) X.xe s:=by
 have r2:Vals (vs++DM) (us++ds):=r.append hd
 have hl:(us++ds).length=ps.length:=by rw[<- r2.length];exact F.len _ _ _ _ h
 refine wpAny_call (codeAny_mono (F.run X.A X.stack s H ⟨us,[]⟩ (us++ds) (vs++DM) Q E hr I.ab' (hb s us I.kr hl) r2 h) fun r s' hq=>?_)
 cases r with
 |error e=>exact hx pins σ H s e s' I hq
 |ok fl =>
  cases fl with
  |ret u=>exact I.after hq
  |next=>exact False.elim hq
  |brk=>exact False.elim hq
  |cont=>exact False.elim hq
theorem VH(F:gE X.prog X.w X.K X.mg X.base CX k f fd ps sp)(hr:ku k X.A)(hg:Gl X x)(hm:X.mg x=some (.ref f))(hk:PySem.W.keepIn X.K (.ref f)=true)(hb:Binds X.K fd ps ds)(hd:Vals DM ds)(hx:Passes CX X E)
  (ha:PA X (e :: es) t) (iP:(x == ("__debug__" : Str))=false:=by decide) (he:starEach (e :: es) X.env=(false,eval e X.env) :: starEach es X.env:=by rfl) (gI:(backTo pos (starEach es X.env)).any (·.1)=false:=by rfl) :
  PE X (.Call (.Name x p) (e :: es) [] pos) (MN sp DM E t):=by
 intro pins s σ H Q I h
 refine wpAny_Call_Name_kw (OW I hg hm ?_ iP)
 refine PySem.W.callWith_K (h₀:=X.base) I.ok.mod.OS hk (cq (ha pos pins s σ H _ I h) fun us s1 cx=>L2.gv cx fun vs H1 I1 r q=>⟨I1.kr,?_⟩) he gI
 exact ac' F hr hb hd hx I1 r q
end
structure kK(N P:List Str)(sc:Scope):Prop where
 kind:sc.kind=.function
 co:sc.isCoroutine=false
 gen:sc.isGenerator=false
 nd:N.Nodup
 pre:N.take P.length=P
 par:∀ x∈P,sc.names.lookup x=some .local\/sc.names.lookup x=some .cell
 ad':∀ y∈sc.names,y.2≠.free
theorem VJ{kindOf:Str->Option NameKind}{x:Str}:∀ {binds:List (Str × Value)} {m:Str->Option Value},(∀ v,(x,v)∉binds)->bindL kindOf binds m x=m x
 |[],_,_=>rfl
 | (n,v) :: r,m,h=>by
  unfold bindL
  rw[VJ fun w hw=>h w (cc _ hw)]
  split
  ·have:x≠n:=by rintro rfl;exact h v cf
   simp[this]
  ·rfl
theorem VL{kindOf:Str->Option NameKind}{x:Str}:∀ {binds:List (Str × Value)} {m:Str->Option Value},(∀ v,(x,v)∉binds)->bindC kindOf binds m x=m x
 |[],_,_=>rfl
 | (n,v) :: r,m,h=>by
  unfold bindC
  rw[VL fun w hw=>h w (cc _ hw)]
  split
  ·rfl
  ·have:x≠n:=by rintro rfl;exact h v cf
   simp[this]
theorem VM{kindOf:Str->Option NameKind}{x:Str}{v:Value}:∀ {P:List Str} {vs:List Value} {i:Nat} {m:Str->Option Value},P.Nodup->P[i]? = some x->vs[i]? = some v->kindOf x=some .local ->
  bindL kindOf (P.zip vs) m x=some v
 |[],_,_,_,_,h,_,_=>by simp at h
 |_ :: _,[],_,_,_,_,h,_=>by simp at h
 |p :: P,w :: vs,0,m,nd,h1,h2,hk=>by
  simp at h1 h2;subst h1;subst h2
  show bindL kindOf ((p,w) :: P.zip vs) m p=_
  unfold bindL
  rw[VJ fun v hv=>(ly.mp nd).1 (List.of_mem_zip hv).1,if_pos hk]
  simp
 |p :: P,w :: vs,i+1,m,nd,h1,h2,hk=>by
  show bindL kindOf ((p,w) :: P.zip vs) m x=_
  unfold bindL
  exact VM (i:=i) (ly.mp nd).2 (by simpa using h1) (by simpa using h2) hk
theorem VN{kindOf:Str->Option NameKind}{x:Str}{v:Value}:∀ {P:List Str} {vs:List Value} {i:Nat} {m:Str->Option Value},P.Nodup->P[i]? = some x->vs[i]? = some v->kindOf x≠some .local ->
  bindC kindOf (P.zip vs) m x=some v
 |[],_,_,_,_,h,_,_=>by simp at h
 |_ :: _,[],_,_,_,_,h,_=>by simp at h
 |p :: P,w :: vs,0,m,nd,h1,h2,hk=>by
  simp at h1 h2;subst h1;subst h2
  show bindC kindOf ((p,w) :: P.zip vs) m p=_
  unfold bindC
  rw[VL fun v hv=>(ly.mp nd).1 (List.of_mem_zip hv).1,if_neg hk]
  simp
 |p :: P,w :: vs,i+1,m,nd,h1,h2,hk=>by
  show bindC kindOf ((p,w) :: P.zip vs) m x=_
  unfold bindC
  exact VN (i:=i) (ly.mp nd).2 (by simpa using h1) (by simpa using h2) hk
def start(N:List Str)(vs:List V):St:=vs.map some++List.replicate (N.length-vs.length) none
def sM(CX:xI)(P:Program)(w:World)(K:PySem.W.Frag)(mg:Str->Option Value)(base:Heap)(N:List Str)(qual:Str)(scope:Scope)(f:Addr)(cd:Value)(A:Around)(outer:List Env)(s:Shared)(H:Hp)(E:XK):Cx where
 prog:=P
 w:=w
 K:=K
 mg:=mg
 base:=base
 A:=A.deeper (envOfC qual scope s.heap.objs.size f cd)
 N:=N
 eK:=s
 xC:=H
 env:=envOfC qual scope s.heap.objs.size f cd
 outer:=outer
 stack:=envOfC qual scope s.heap.objs.size f cd :: outer
 ex:=[]
 calm:=true
 fn:=fun _=>true
 pn:=[]
 xe:=fun e s'=>wpAny (model P w) (A.deeper (envOfC qual scope s.heap.objs.size f cd)) (leaving (envOfC qual scope s.heap.objs.size f cd) e) (fun _ DS=>CX outer H s E e DS) (fun e' DS=>CX outer H s E e' DS) s'
theorem VP{sc:Scope}{n:Nat}{x:Str}(h:sc.names.lookup x=some .cell):∃ c,(cellsFrom n sc.names []).lookup x=some c:=by
 have q:=PySem.W.cellsFrom_some sc.names n [] (.inl h)
 exact Option.isSome_iff_exists.mp q
theorem ae'{CX:xI}{P:Program}{w:World}{K:PySem.W.Frag}{mg:Str->Option Value}{base:Heap}{N ps:List Str}{qual:Str}{scope:Scope}{f:Addr}{cd:Value}{A:Around}{outer:List Env}{s s1:Shared}{H:Hp}{E:XK}{us:List Value}{vs:List V}
  (S:kK N ps scope) (hd:A.handled=none) (e0:O9 P w K mg base A outer s H) (hl:vs.length=ps.length) (r:Vals vs us)
  (x:InCallC s s.heap.objs.size (bindL (envOfC qual scope s.heap.objs.size f cd).kindOf (ps.zip us) fun _=>none) (cellsFrom (s.heap.objs.size+1) scope.names []) (bindC (envOfC qual scope s.heap.objs.size f cd).kindOf (ps.zip us) fun _=>none) s1) :
  Inv (sM CX P w K mg base N qual scope f cd A outer s H E) [] (start N vs) H s1:=by
 have gI:ps.length<=N.length:=by have:=congrArg List.length S.pre;rw[nv] at this;lia
 obtain⟨h1,tk,rfl,hk⟩:=x.done
 have MP:∀ b:Addr,b∉(sM CX P w K mg base N qual scope f cd A outer s H E).ex:=fun b z=>absurd (show b∈([]:List Addr) from z) (by simp)
 refine⟨⟨e0.mod,S.kind,rfl,rfl,bT _,fun y z c h1 h2=>?_,fun y hy=>?_,fun y c _ h=>?_,fun _=>hd,Around.frames_deeper e0.frames,.inr ⟨rfl,rfl⟩,fun b z=>absurd z (MP b),e0.bs,e0.uj,fun b _ _=>MP b,fun b z=>absurd z (MP b),e0.pS,e0.xD⟩,
  rfl,e0.bare,Un.kept hk,⟨_,x.toInCall.ns,fun i y v h1 h2 h3=>?_⟩,fun y c h=>⟨_,x.cell y c h⟩,e0.aT.fresh (bT _),fun y c h=>?_,fun p hp=>absurd (show p∈([]:List (Addr × Obj)) from hp) (by simp),e0.aT.kept hk,?_⟩
 ·exact name_of_addr x.apart (PySem.mem_of_lookup h1) (PySem.mem_of_lookup h2)
 ·have hy:scope.names.lookup y=some .cell\/scope.names.lookup y=some .free:=hy
  rcases hy with hy|hy
  ·exact VP hy
  ·exact absurd rfl (S.ad' _ (PySem.mem_of_lookup hy))
 ·exact kD (x.above y c (PySem.mem_of_lookup h))
 ·have hi:i<vs.length:=by
   unfold start at h2
   by_cases hi:i<vs.length
   ·exact hi
   ·rw[y6 (by simpa using hi)] at h2
    rw[QJ] at h2
    split at h2<;>cases h2
  have ha:vs[i]? = some v:=by
   unfold start at h2
   rw[EG (by simpa using hi),kN] at h2
   cases e:vs[i]? with
   |none=>rw[e] at h2;cases h2
   |some a=>rw[e] at h2;cases h2;rfl
  obtain⟨u,hu,rv⟩:=r.get ha
  have hp:ps[i]? = some y:=by
   rw[<- S.pre,List.getElem?_take_of_lt (by lia)];exact h1
  have VQ:ps.Nodup:=by rw[<- S.pre];exact S.nd.sublist (List.take_sublist _ _)
  refine⟨u,rv,?_⟩
  rcases S.par y (mB hp) with k|k
  ·exact .inl ⟨k,VM VQ hp hu k⟩
  ·obtain⟨c,e⟩:=VP (n:=s.heap.objs.size+1) k
   refine .inr ⟨.inl k,c,e,?_⟩
   have q:=x.cell y c e
   rw[VN VQ hp hu (by show scope.names.lookup y≠_;rw[k];decide)] at q
   exact q
 ·exact e0.aT.fresh (kD (x.above y c (PySem.mem_of_lookup h)))
 ·unfold start
  show _=N.length
  rw[tS,cK,QL]
  lia
theorem VR{CX:xI}{P:Program}{w:World}{K:PySem.W.Frag}{mg:Str->Option Value}{base:Heap}{k:Nat}{f:Addr}{name qual:Str}{params:Arguments}{body:List Stmt}{scope:Scope}{dV kV doc pm cy ct oc:Value}{an od:Option Addr}
  {Bi:Array (Option Value)} {N ps:List Str} {sp:Sp} (lk:K.lookup f=some ⟨oc,od,.func (PySem.W.fnOf name qual params body scope dV kV doc pm an cy ct),Bi⟩) (ox:PySem.W.codeIn K cy qual=true) (S:kK N ps scope)
  (len:∀ vs H Q E,sp vs H Q E->vs.length=ps.length)
  (Bn:∀ (A:Around) (outer:List Env) (s:Shared) (H:Hp) (vs:List V) (Q:VK) (E:XK),ku k (A.deeper (envOfC qual scope s.heap.objs.size f cy))->sp vs H Q E ->
   ∃ t,mP (sM CX P w K mg base N qual scope f cy A outer s H E) body t/\t { nx:=fun _ H'=>Q .non H',rt:=Q } (start N vs) H) :
  gE P w K mg base CX (k+1) f (PySem.W.fnOf name qual params body scope dV kV doc pm an cy ct) ps sp:=by
 refine⟨len,fun A outer s H args us vs Q E hr e0 hb r z5=>?_⟩
 have hl:=len _ _ _ _ z5
 have KX:K.In s.heap:=e0.mod.OS.keeps fun b o e=>(e0.bs b o e).1
 have lim:s.heap.NoLimit:=e0.mod.nolimit.keeps fun b o e=>(e0.bs b o e).1
 have af':∀ y∈ps.zip us,scope.names.lookup y.1=some .local\/(scope.names.lookup y.1=some .cell/\((cellsFrom (s.heap.objs.size+1) scope.names []).lookup y.1).isSome=true):=fun⟨n,v⟩ hy=>by
  rcases S.par n (List.of_mem_zip hy).1 with q|q
  ·exact .inl q
  ·exact .inr ⟨q,PySem.W.cellsFrom_some _ _ _ (.inl q)⟩
 refine codeAny_call_function hr.depth (KX _ _ lk) rfl S.co S.gen rfl (PySem.W.codeRec_of KX ox) (hb _ _ _ _ ?_)
 refine wpAny_newFunctionEnv_cells S.kind af' fun env he s1 x=>?_
 subst he
 refine⟨lim.keeps x.toInCall.keep,codeAny_func ?_⟩
 obtain⟨t,ht,hq⟩:=Bn A outer s H vs Q E (hr.deeper _) z5
 have I:Inv (sM CX P w K mg base N qual scope f cy A outer s H E) [] (start N vs) H s1:=ae' S hr.hd e0 hl r x
 refine pj (ht [] s1 (start N vs) H _ I hq) (fun fl s' hs=>?_) fun e s' hs=>hs
 have fin:∀ {bp:St} {H':Hp} {v:V} {u:Value},Inv (sM CX P w K mg base N qual scope f cy A outer s H E) [] bp H' s'->RelV v u->Q v H'->CE outer P w H s Q u s' :=
  fun {bp H' v u} J rv q=>⟨v,H',J.os,J.bare,J.base,J.aT,rv,q⟩
 cases fl with
 |ret u =>
  obtain⟨v,bp,H',J,rv,q⟩:=hs
  exact fin J rv q
 |next =>
  obtain⟨bp,H',J,q⟩:=hs
  exact fin (v:=V.non) (u:=Value.none) J rfl q
 |brk =>
  obtain⟨_,_,_,q⟩:=hs
  exact False.elim q
 |cont =>
  obtain⟨_,_,_,q⟩:=hs
  exact False.elim q
section
variable {X:Cx}{x:Str}{p pos:Pos}{e:Expr}{es:List Expr}{t:TA}{id T:String}{r:List V->Hp->VK->Prop}
def RJ(r:List V->Hp->VK->Prop)(t:TA):TE:=fun σ H Q=>t σ H fun vs H1=>r vs H1 Q
theorem O_ (hc:iO X (.builtin id) r) (hg:Gl X x) (hm:X.mg x=none) (hv:bootBuiltins x=some (.builtin id)) (ha:PA X (e :: es) t) (hn:x ≠ "__name__" := by decide) (iP:(x == ("__debug__" : Str))=false:=by decide)
  (he:starEach (e :: es) X.env=(false,eval e X.env) :: starEach es X.env:=by rfl) (gI:(backTo pos (starEach es X.env)).any (·.1)=false:=by rfl):PE X (.Call (.Name x p) (e :: es) [] pos) (RJ r t):=by
 intro pins s σ H Q I h
 refine wpAny_Call_Name_kw (EX I hg hm hv ?_ hn iP)
 exact PyProof.Rows.callWith_builtin1 (cq (ha pos pins s σ H _ I h) fun us s1 cx=>L2.gv cx fun vs H1 I1 r1 q1=>hc pins s1 σ H1 vs us Q I1 r1 q1) he gI
theorem ag' (hc:iO X (.type T) r) (hg:Gl X x) (hm:X.mg x=none) (hv:bootBuiltins x=some (.type T)) (ha:PA X (e :: es) t) (hn:x ≠ "__name__" := by decide) (iP:(x == ("__debug__" : Str))=false:=by decide)
  (he:starEach (e :: es) X.env=(false,eval e X.env) :: starEach es X.env:=by rfl) (gI:(backTo pos (starEach es X.env)).any (·.1)=false:=by rfl):PE X (.Call (.Name x p) (e :: es) [] pos) (RJ r t):=by
 intro pins s σ H Q I h
 refine wpAny_Call_Name_kw (EX I hg hm hv ?_ hn iP)
 exact PyProof.Rows.callWith_type1 (cq (ha pos pins s σ H _ I h) fun us s1 cx=>L2.gv cx fun vs H1 I1 r1 q1=>hc pins s1 σ H1 vs us Q I1 r1 q1) he gI
end
end L2
namespace HT
open PySem PyProof.Rows
section
open PySem.SeqAt
open PySem.AutoSeq1 (wpAny_loadPart')
open PySem.MeetsSeq PySem.MeetsSeq2 PySem.MeetsSeq3
end
section
variable {prog:Program}{w:World}{A:Around}{E:Value->Shared->Prop}{s:Shared}
theorem ah'{t b:Addr}{vs ws:List Value}{Q:Value->Shared->Prop}(ht:IsTup s.heap t vs.toArray)(hb:IsTup s.heap b ws.toArray)(hv:vs≠[])
  (h1:ws=[]->Q (.ref t) s) (h2:ws≠[]->Q (.ref s.heap.objs.size) { s with heap:=s.heap.push { cls:=.type "tuple",data:=.seq (vs++ws).toArray } })
  (hsz:vs.length+ws.length<=sizeLine):wpAny (model prog w) A (binaryOp .Add (.ref t) (.ref b)) Q E s:=by
 obtain⟨⟨cls,dd,data,sl⟩,ho,hc,n,hd⟩:=id ht
 obtain⟨⟨RK,rz,data2,rL⟩,qa,xS,n2,hd2⟩:=id hb
 simp only at hc hd xS hd2
 subst hc hd xS hd2
 have e:vs.toArray++ws.toArray=(vs++ws).toArray:=by simp
 by_cases hw:ws=[]
 ·exact concat_meets ⟨_,ho,rfl⟩ ⟨_,qa,rfl⟩ noFill_tuple_add seq_tuple_add PySem.F.slot_tuple_add PySem.F.entry_tuple_add (PySem.F.args_tuple_add_2 _ _)
   (tuple_addW1 t b vs.toArray ws.toArray n n2 dd rz sl rL (by simpa using hv) (by simp[hw])) ⟨ho,qa,h1 hw⟩
 ·refine concat_meets ⟨_,ho,rfl⟩ ⟨_,qa,rfl⟩ noFill_tuple_add seq_tuple_add PySem.F.slot_tuple_add PySem.F.entry_tuple_add (PySem.F.args_tuple_add_2 _ _)
   (tuple_addW2 t b vs.toArray ws.toArray n n2 dd rz sl rL (by simpa using hv) (by simpa using hw) (by rw[kf,kf];exact hsz)) ⟨ho,qa,?_⟩
  rw[e]
  exact h2 hw
def bG(n d:Nat):Option Int->Nat
 |none=>d
 |some v=>if v<0 then (v+(n:Int)).toNat else min v.toNat n
theorem ai'(n d:Nat)(hd:d<=n)(o:Option Int):bG n d o<=n:=by
 cases o with
 |none=>exact hd
 |some v =>
  show(if v<0 then (v+(n:Int)).toNat else min v.toNat n)<=n
  by_cases hv:v<0
  ·rw[if_pos hv];lia
  ·rw[if_neg hv];exact Nat.min_le_right _ _
theorem VS(v:Int)(n d:Nat):(if v<0 then max (v+(n:Int)) 0 else min v (n:Int))=((bG n d (some v):Nat):Int):=by
 show(if v<0 then max (v+(n:Int)) 0 else min v (n:Int))=(((if v<0 then (v+(n:Int)).toNat else min v.toNat n):Nat):Int)
 by_cases hv:v<0
 ·simp only[if_pos hv];lia
 ·simp only[if_neg hv];lia
theorem aj'(lo hi:Option Int)(n:Nat):Builtin.Slice.sliceAdjust lo hi 1 (n:Int)=(((bG n 0 lo:Nat):Int),((bG n n hi:Nat):Int)):=by
 have h1:¬ ((1:Int)<0):=by decide
 unfold Builtin.Slice.sliceAdjust
 simp only[h1,if_false]
 refine Prod.ext ?_ ?_
 ·cases lo with
  |none=>rfl
  |some v=>exact VS v n 0
 ·cases hi with
  |none=>rfl
  |some v=>exact VS v n n
theorem ak'(i j:Nat):Builtin.Slice.slicePlaces (i:Int) (j:Int) 1=j-i:=by
 unfold Builtin.Slice.slicePlaces
 have h1:(1:Int)>0:=by exact sD _
 simp only[h1,if_true,Int.ediv_one]
 split<;>lia
theorem VW{v:Value}{o:Option Int}{Q:Option Int->Shared->Prop}(p:IsPart v o)(h:Q o s):wpAny (model prog w) A (Builtin.Slice.slicePartIndex v) Q E s:=by
 cases p with
 |none=>exact slicePart_none h
 |int i t=>exact slicePart_int h
theorem al'{sl:Addr}{vl vu:Value}{lo hi:Option Int}{n:Nat}{Q:Int × Int × Nat->Shared->Prop}(hs:s.heap.IsSliceOf sl vl vu .none)(pl:IsPart vl lo)(pu:IsPart vu hi)
  (h:Q (((bG n 0 lo:Nat):Int),1,bG n n hi-bG n 0 lo) s):wpAny (model prog w) A (Builtin.Slice.sliceApplied (.ref sl) (pure (n:Int))) Q E s:=by
 obtain⟨os,MQ,oB,Pa⟩:=id hs
 unfold Builtin.Slice.sliceApplied Builtin.Slice.sliceFields
 refine ai (ai (wpAny_field MQ Pa (x:=vl) rfl (ai (wpAny_field MQ Pa (x:=vu) rfl (ai (wpAny_field MQ Pa (x:=.none) rfl (aS ?_)))))))
 refine ai (slicePart_none ?_)
 show wpAny _ _ (if ((1:Int) == 0)=true then _ else _) _ _ s
 rw[if_neg (by decide)]
 refine ai (VW pl (ai (VW pu (ai (aS ?_)))))
 show wpAny _ _ (match Builtin.Slice.sliceAdjust lo hi 1 (n:Int) with|(lo,hi)=>pure (lo,(1:Int),Builtin.Slice.slicePlaces lo hi 1)) _ _ s
 rw[aj' lo hi n]
 show wpAny _ _ (pure (((bG n 0 lo:Nat):Int),(1:Int),Builtin.Slice.slicePlaces ((bG n 0 lo:Nat):Int) ((bG n n hi:Nat):Int) 1)) _ _ s
 rw[ak']
 exact aS h
theorem am'(xs:Array Value)(i k:Nat):((List.range k).filterMap fun(m:Nat)=>xs[((i:Int)+(m:Int)*1).toNat]?).toArray=((xs.toList.drop i).take k).toArray:=by
 have e:(fun(m:Nat)=>xs[((i:Int)+(m:Int)*1).toNat]?)=fun m=>xs[i+m]? := by
  funext m
  have:((i:Int)+(m:Int)*1).toNat=i+m:=by exact(EL ..).symm
  rw[this]
 rw[e]
 have:=pick_run xs i k
 rw[QV] at this
 have e2:((fun x=>xs[x]?) ∘ fun x=>i+x)=fun m=>xs[i+m]? := rfl
 rw[e2] at this
 rw[this]
theorem an'{t sl:Addr}{items:Array Value}{vl vu:Value}{lo hi:Option Int}{Q:Value->Shared->Prop}(ht:IsTup s.heap t items)(hs:s.heap.IsSliceOf sl vl vu .none)(pl:IsPart vl lo)(pu:IsPart vu hi)
  (hw:¬ (bG items.size 0 lo=0/\bG items.size items.size hi=items.size))
  (h:Q (.ref s.heap.objs.size) { s with heap:=s.heap.push { cls:=.type "tuple",data:=.seq ((items.toList.drop (bG items.size 0 lo)).take (bG items.size items.size hi-bG items.size 0 lo)).toArray } })
  (hsz:items.size<=sizeLine):wpAny (model prog w) A (getItem (.ref t) (.ref sl)) Q E s:=by
 have Pb:sizeOk (.seq ((items.toList.drop (bG items.size 0 lo)).take (bG items.size items.size hi-bG items.size 0 lo)).toArray):=by
  show((items.toList.drop (bG items.size 0 lo)).take (bG items.size items.size hi-bG items.size 0 lo)).toArray.size<=sizeLine
  rw[kf,nv,CL,A3]
  lia
 have hj:bG items.size items.size hi<=items.size:=ai' _ _ (bT _) hi
 obtain⟨os,MQ,oB,Pa⟩:=id hs
 have hTs:s.TypeIs (.ref sl) "slice" := ⟨os,MQ,oB⟩
 unfold getItem
 try with_reducible refine wpAny_holding ?_
 first|refine ai (aS ?_)|skip
 refine ai (wpAny_sequenceKey ht.typeIs (by decide) ?_)
 refine ai (wpAny_callSpecial?_slot (name:=Str.ofString "__getitem__") ht.typeIs PyProof.Rows.slot_tuple_getitem
  (wpAny_call_entry PyProof.Rows.slot_tuple_getitem ht.typeIs entry_tuple_getitem ?_ (args_tuple_getitem _ _)))
 show wpAny _ _ (Builtin.Tuple.tupleItemsOf (.ref t) >>= _) _ _ s
 refine ai (tupleItemsOf_ ht ?_)
 refine ai (wpAny_typeOf hTs ?_)
 rw[if_pos (by decide)]
 refine ai (al' hs pl pu ?_)
 have DT:¬ ((((bG items.size 0 lo:Nat):Int) == 0 && (1:Int) == 1 && (bG items.size items.size hi-bG items.size 0 lo) == items.size)=true):=by
  intro q
  rw[lI,lI] at q
  have q1:((bG items.size 0 lo:Nat):Int)=0:=eq_of_beq q.1.1
  have q2:bG items.size items.size hi-bG items.size 0 lo=items.size:=eq_of_beq q.2
  exact hw ⟨by lia,by lia⟩
 show wpAny _ _ (if (((bG items.size 0 lo:Nat):Int) == 0 && (1:Int) == 1 && (bG items.size items.size hi-bG items.size 0 lo) == items.size)=true then _ else _) _ _ s
 rw[if_neg DT,am']
 first
  |exact ai (m:=Builtin.Tuple.tupleExact _) (wpAny_newObj_type (aS ⟨_,rfl,aS h⟩) Pb)
  |exact ai (m:=Builtin.Tuple.tupleExact _) (wpAny_newObj_type (ai (aS (aS ⟨_,rfl,aS h⟩))) Pb)
  |exact ai (ai (m:=Builtin.Tuple.tupleExact _) (wpAny_newObj_type (aS (aS ⟨_,rfl,aS h⟩)) Pb))
  |exact ai (ai (m:=Builtin.Tuple.tupleExact _) (wpAny_newObj_type (aS ⟨_,rfl,aS h⟩) Pb))
end
end HT
namespace L2
open PySem PySem.Spec PyProof.Rows
abbrev TO:=St->Hp->(Option Int->Hp->Prop)->Prop
def PO(X:Cx)(e:Option Expr)(t:TO):Prop :=
 ∀ (pins:List (Addr × Obj)) (s:Shared) (σ:St) (H:Hp) (Q:Option Int->Hp->Prop),Inv X pins σ H s->t σ H Q ->
  wpAny (model X.prog X.w) X.A (evalPart e X.env) (fun u s'=>∃ o H',Inv X pins σ H' s'/\IsPart u o/\Q o H') X.xe s
def ap'(t:TE):TO:=fun σ H Q=>t σ H fun x H1=>∃ i,x=.int i/\Q (some i) H1
section
variable {X:Cx}{e:Expr}{te:TE}{lo hi:Option Expr}{tl th:TO}{pos p2:Pos}
theorem aq'(h:PE X e te):PO X (some e) (ap' te):=by
 intro pins s σ H Q I hw
 rw[evalPart_some]
 refine cq (h pins s σ H _ I hw) fun u s1 cx=>L2.gv cx fun x H1 I1 r1 q1=>?_
 obtain⟨i,rfl,q⟩:=q1
 obtain⟨t,rfl⟩:=r1
 exact⟨some i,H1,I1,.int i t,q⟩
def Iy(X:Cx)(r:V->Option Int->Option Int->Hp->VK->Prop):Prop :=
 ∀ (pins:List (Addr × Obj)) (s:Shared) (σ:St) (H:Hp) (x:V) (v vl vu:Value) (lo hi:Option Int) (sl:Addr) (Q:VK),Inv X pins σ H s->RelV x v->s.heap.IsSliceOf sl vl vu .none->IsPart vl lo->IsPart vu hi->r x lo hi H Q ->
  ∃ T id,typeLookup (.type T) "__getitem__" = pure (some (.builtin id))/\s.TypeIs v T/\wpAny (model X.prog X.w) X.A (getItem v (.ref sl)) (EP X pins σ Q) X.xe s
def tSl(r:V->Option Int->Option Int->Hp->VK->Prop)(te:TE)(tl th:TO):TE:=fun σ H Q=>te σ H fun x H1=>tl σ H1 fun l H2=>th σ H2 fun u H3=>r x l u H3 Q
theorem au'{r:V->Option Int->Option Int->Hp->VK->Prop}(hr:Iy X r)(he:PE X e te)(hl:PO X lo tl)(hu:PO X hi th):PE X (.Subscript e (.Slice lo hi none p2) pos) (tSl r te tl th):=by
 intro pins s σ H Q I h
 refine Subscript_ (cq (he pins s σ H _ I h) fun v s1 cx=>L2.gv cx fun x H1 I1 r1 q1=>?_)
 refine wpAny_Slice (cq (hl pins s1 σ H1 _ I1 q1) fun vl s2 cx=>L2.gv cx fun l H2 I2 pl q2=>cq (hu pins s2 σ H2 _ I2 q2) fun vu s3 cx=>L2.gv cx fun u H3 I3 pu q3=>?_)
 rw[evalPart_none]
 refine aS ?_
 have I4:Inv X pins σ H3 { s3 with heap:=s3.heap.push { cls:=.type "slice",data:=.fields #[vl,vu,.none] } }:=I3.kept (t':=s3.toks) fun b ob q=>eW _ q
 obtain⟨T,id,hT,ht,hg⟩:=hr pins { s3 with heap:=s3.heap.push { cls:=.type "slice",data:=.fields #[vl,vu,.none] } } σ H3 x v vl vu l u s3.heap.objs.size Q I4 r1 (Heap.IsSliceOf.new ..) pl pu q3
 show wpAny (model X.prog X.w) X.A (subscriptTail e (.Slice lo hi none p2) v (.ref s3.heap.objs.size)) (EP X pins σ Q) X.xe { s3 with heap:=s3.heap.push { cls:=.type "slice",data:=.fields #[vl,vu,.none] } }
 exact tail_any (ops:=[.ref s3.heap.objs.size,v]) ht hT hg (by with_unfolding_all rfl)
def Bz(xs:List V)(lo hi:Option Int):List V:=(xs.drop (HT.bG xs.length 0 lo)).take (HT.bG xs.length xs.length hi-HT.bG xs.length 0 lo)
theorem VX(xs:List V)(lo hi:Option Int):(Bz xs lo hi).length<=xs.length:=by
 unfold Bz
 rw[nv,CL]
 lia
def VY(K:PySem.W.Frag):V->Option Int->Option Int->Hp->VK->Prop:=fun x lo hi H Q=>∃ a xs,x=.ref a/\oy K H a xs /\
 ¬ (HT.bG xs.length 0 lo=0/\HT.bG xs.length xs.length hi=xs.length)/\∀ p,H p=none->Q (.ref p) (upd H p (.tup (Bz xs lo hi)))
theorem av':Iy X (VY X.K):=by
 intro pins s σ H x v vl vu lo hi sl Q I rx hs pl pu h
 obtain⟨a,xs,rfl,hx,hw,q⟩:=h
 cases rx
 obtain⟨its,r,ht,hz⟩:=I.tuple hx
 have hlen:its.toArray.size=xs.length:=by rw[kf];exact r.length.symm
 refine⟨"tuple",_,PyProof.Rows.slot_tuple_getitem.lookup,ht.typeIs,?_⟩
 refine HT.an' ht hs pl pu (by rw[hlen];exact hw) ?_ (by rw[hlen];exact hz)
 rw[hlen]
 refine⟨.ref s.heap.objs.size,_,I.laid (t':=s.toks) (o:=.tup (Bz xs lo hi)) (fun b ob q=>eW _ q) (bT _) ?_,rfl,q _ (I.aT.fresh (bT _))⟩
 exact⟨iN (VX xs lo hi) hz,_,(r.drop (HT.bG xs.length 0 lo)).take (HT.bG xs.length xs.length hi-HT.bG xs.length 0 lo),IsTup.new _ _⟩
def RL(K:PySem.W.Frag):R2:=fun x y H Q=>∃ a b xs ys,x=.ref a/\y=.ref b/\oy K H a xs/\oy K H b ys/\xs≠[]/\xs.length+ys.length<=sizeLine /\
 (ys=[]->Q (.ref a) H)/\(ys≠[]->∀ p,H p=none->Q (.ref p) (upd H p (.tup (xs++ys))))
theorem Vals.RN{xs:List V}{us:List Value}(r:Vals xs us):us=[]↔xs=[]:=by
 cases r with
 |nil=>simp
 |cons _ _=>simp
theorem aw':cE X (binaryOp .Add) (RL X.K):=by
 intro pins s σ H x y v u Q I rx ry h
 obtain⟨a,b,xs,ys,rfl,rfl,ha,hb,hx,hz,q1,q2⟩:=h
 cases rx
 cases ry
 obtain⟨its,r1,p1,_⟩:=I.tuple ha
 obtain⟨Pg,r2,p2,_⟩:=I.tuple hb
 refine HT.ah' p1 p2 (fun z=>hx (r1.RN.mp z)) (fun z=>⟨.ref a,H,I,rfl,q1 (r2.RN.mp z)⟩) (fun z=>?_) (by rw[<- r1.length,<- r2.length];exact hz)
 refine⟨.ref s.heap.objs.size,_,I.laid (t':=s.toks) (o:=.tup (xs++ys)) (fun b ob q=>eW _ q) (bT _) ?_,rfl,q2 (fun w=>z (r2.RN.mpr w)) _ (I.aT.fresh (bT _))⟩
 exact⟨by rw[tS];exact hz,_,r1.append r2,IsTup.new _ _⟩
end
def oC(n:Nat)(i:Int):Option Nat:=if 0<=i then (if i<n then some i.toNat else none) else if -(n:Int)<=i then some (i+n).toNat else none
def fq{α:Type}(xs:List α)(i:Int):Option α:=(oC xs.length i).bind fun j=>xs[j]?
theorem ax'{n:Nat}{i:Int}{j:Nat}(h:oC n i=some j):seqIndex? i n=some j/\j<n/\-(n:Int)<=i/\i<n:=by
 unfold oC at h
 by_cases h0:0<=i
 ·rw[if_pos h0] at h
  by_cases h1:i<n
  ·rw[if_pos h1] at h
   have e:i.toNat=j:=Option.some.inj h
   exact⟨by rw[seqIndex_of h0 h1,e],by lia,by lia,h1⟩
  ·rw[if_neg h1] at h;cases h
 ·rw[if_neg h0] at h
  by_cases h1:-(n:Int)<=i
  ·rw[if_pos h1] at h
   have e:(i+n).toNat=j:=Option.some.inj h
   exact⟨by rw[seqIndex_neg (by exact Int.not_le.mp ‹_›) h1,e],by lia,h1,by lia⟩
  ·rw[if_neg h1] at h;cases h
theorem RP{α:Type}{xs:List α}{i:Int}{v:α}(h:fq xs i=some v):∃ j,seqIndex? i xs.length=some j/\xs[j]? = some v/\j<xs.length/\-(xs.length:Int)<=i/\i<xs.length:=by
 unfold fq at h
 cases e:oC xs.length i with
 |none=>rw[e] at h;cases h
 |some j =>
  rw[e] at h
  obtain⟨h1,h2,h3,h4⟩:=ax' e
  exact⟨j,h1,h,h2,h3,h4⟩
theorem E4{α:Type}{xs:List α}{j:Nat}{v:α}(h:xs[j]? = some v):fq xs (j:Int)=some v:=by
 have hj:j<xs.length:=(hV.mp h).1
 have e:oC xs.length (j:Int)=some j:=by
  unfold oC
  rw[if_pos (by walk_at "s1"),if_pos (by lia)];simp
 unfold fq;rw[e];exact h
theorem ay'{α:Type}(xs:List α)(v:α):fq (xs++[v]) (-1)=some v:=by
 have hl:(xs++[v]).length=xs.length+1:=by simp
 have e:oC (xs++[v]).length (-1)=some xs.length:=by
  unfold oC
  rw[hl,if_neg (by decide),if_pos (by lia)]
  congr 1
  lia
 unfold fq
 rw[e]
 show(xs++[v])[xs.length]? = some v
 simp
def RQ(b:Expr):Prop:=∀ o i,subscripted b false o i=operate [o,i] (getItem o i)
def wt(X:Cx)(r:R2):Prop :=
 ∀ (value slice:Expr) (pins:List (Addr × Obj)) (s:Shared) (σ:St) (H:Hp) (x y:V) (v u:Value) (Q:VK),Inv X pins σ H s->RelV x v->RelV y u->r x y H Q ->
  subscripted slice false v u=operate [v,u] (getItem v u)->wpAny (model X.prog X.w) X.A (subscriptTail value slice v u) (EP X pins σ Q) X.xe s
def Ph(X:Cx)(id:String)(r:V->List V->Hp->VK->Prop):Prop :=
 ∀ (pins:List (Addr × Obj)) (s:Shared) (σ:St) (H:Hp) (x:V) (xs:List V) (v:Value) (us:List Value) (Q:VK),Inv X pins σ H s->RelV x v->Vals xs us->r x xs H Q ->
  wpAny (model X.prog X.w) X.A (call (.builtin id) (v :: us)) (EP X pins σ Q) X.xe s
section
variable {X:Cx}{a b:Expr}{ta tb:TE}{pos:Pos}
theorem wt.or{r r':R2}(h:wt X r)(h':wt X r'):wt X (fun x y H Q=>r x y H Q\/r' x y H Q):=by
 intro value slice pins s σ H x y v u Q I rx ry q hs
 rcases q with q|q
 ·exact h value slice pins s σ H x y v u Q I rx ry q hs
 ·exact h' value slice pins s σ H x y v u Q I rx ry q hs
theorem VZ{r:R2}(hr:wt X r)(ha:PE X a ta)(hb:PE X b tb)(hs:RQ b):PE X (.Subscript a b pos) (MK r ta tb):=by
 intro pins s σ H Q I h
 exact Subscript_ (Rx ha hb I h fun v u s2 x y H2 I2 rx ry q=>hr a b pins s2 σ H2 x y v u Q I2 rx ry q (hs _ _))
def V0(K:PySem.W.Frag):R2:=fun x y H Q=>∃ p xs i v,x=.ref p/\y=.int i/\dQ K H p xs/\fq xs i=some v/\Q v H
def V1(K:PySem.W.Frag):R2:=fun x y H Q=>∃ p xs i v,x=.ref p/\y=.int i/\oy K H p xs/\fq xs i=some v/\Q v H
def V2:R2:=fun x y H Q=>∃ z i c,x=.str z/\y=.int i/\z.length<=sizeLine/\fq z.cps.toList i=some c/\Q (.str ⟨#[c]⟩) H
theorem az':wt X (V0 X.K):=by
 intro value slice pins s σ H x y v u Q I rx ry h hs
 obtain⟨p,xs,i,z,rfl,rfl,hq,he,q⟩:=h
 cases rx
 obtain⟨t,rfl⟩:=ry
 obtain⟨its,r,pl,hz⟩:=I.list hq
 obtain⟨j,h1,h2,h3,h4,h5⟩:=RP he
 obtain⟨w,ew,oD⟩:=r.get h2
 have hl:=r.length
 have hn:=O7
 have fin:EP X pins σ Q w s:=⟨z,H,I,oD,q⟩
 by_cases h0:0<=i
 ·have hj:i.toNat=j:=by
   rw[seqIndex_of h0 h5] at h1
   exact Option.some.inj h1
  exact item_listR pl.isList h0 (by lia) (by rw[hj];simpa using ew) fin hs
 ·have hj:(i+(its.toArray.size:Int)).toNat=j:=by
   rw[seqIndex_neg (by exact Int.not_le.mp ‹_›) h4] at h1
   rw[kf,<- hl]
   exact Option.some.inj h1
  exact subscriptTail_builtinR (x:=w) pl.isList.typeIs slot_list_getitem.lookup
   (wpAny_getItem_list_neg (Q:=fun r s'=>r=w/\EP X pins σ Q r s') pl.isList (by exact Int.not_le.mp ‹_›) (by rw[kf]<;>lia) (by lia) (by rw[hj];simpa using ew) ⟨rfl,fin⟩) hs
theorem aA':wt X (V1 X.K):=by
 intro value slice pins s σ H x y v u Q I rx ry h hs
 obtain⟨p,xs,i,z,rfl,rfl,hq,he,q⟩:=h
 cases rx
 obtain⟨t,rfl⟩:=ry
 obtain⟨its,r,pl,hz⟩:=I.tuple hq
 obtain⟨j,h1,h2,h3,h4,h5⟩:=RP he
 obtain⟨w,ew,oD⟩:=r.get h2
 have hl:=r.length
 have hn:=O7
 have fin:EP X pins σ Q w s:=⟨z,H,I,oD,q⟩
 exact subscriptTail_builtinR (x:=w) pl.typeIs slot_tuple_getitem.lookup
  (getItem_tuple (j:=j) (Q:=fun r s'=>r=w/\EP X pins σ Q r s') pl (by lia) (by lia) (by rw[kf,<- hl];exact h1) (by simpa using ew) ⟨rfl,fin⟩) hs
theorem aB':wt X V2:=by
 intro value slice pins s σ H x y v u Q I rx ry h hs
 obtain⟨z,i,c,rfl,rfl,hz,he,q⟩:=h
 obtain⟨t,rfl⟩:=rx
 obtain⟨t',rfl⟩:=ry
 obtain⟨j,h1,h2,h3,h4,h5⟩:=RP he
 have hl:z.cps.toList.length=z.length:=by simp[Str.length]
 rw[hl] at h1 h4 h5
 have hn:=O7
 exact tail_any (typeIs_str s z t) slot_str_getitem.lookup (getItem_str (c:=c) (by
  have e1:decide (i < -(2 ^ 63:Int))=false:=decide_eq_false (by lia)
  have e2:decide (i >= 2 ^ 63)=false:=decide_eq_false (by lia)
  rw[e1,e2,Bool.or_false]) (by rw[h1];simpa using h2) ⟨.str ⟨#[c]⟩,H,I.tok _,⟨_,rfl⟩,q⟩) hs
def rIx(K:PySem.W.Frag):R2:=fun x y H Q=>V0 K x y H Q\/V1 K x y H Q\/V2 x y H Q
theorem aD':wt X (rIx X.K):=az'.or (aA'.or aB')
theorem aE'(lo hi:Option Int)(n:Nat):(sliceBounds lo hi none n).1=((HT.bG n 0 lo:Nat):Int)/\(sliceBounds lo hi none n).2.1=((HT.bG n n hi:Nat):Int)/\(sliceBounds lo hi none n).2.2=1:=by
 refine⟨?_,?_,rfl⟩
 ·cases lo with
  |none=>simp[sliceBounds,HT.bG]
  |some i =>
   simp only[sliceBounds,HT.bG,Option.getD_none,show(1:Int)>0 by decide,if_true]
   by_cases h:i<0
   ·simp only[h,if_true]<;>lia
   ·simp only[h,if_false]<;>lia
 ·cases hi with
  |none=>simp[sliceBounds,HT.bG]
  |some i =>
   simp only[sliceBounds,HT.bG,Option.getD_none,show(1:Int)>0 by decide,if_true]
   by_cases h:i<0
   ·simp only[h,if_true]<;>lia
   ·simp only[h,if_false]<;>lia
theorem aF'(its:List Value)(lo hi:Option Int):slicePick its.toArray lo hi none=((its.drop (HT.bG its.length 0 lo)).take (HT.bG its.length its.length hi-HT.bG its.length 0 lo)).toArray:=by
 obtain⟨h1,h2,h3⟩:=aE' lo hi its.toArray.size
 unfold slicePick
 rw[h1,h2,h3]
 simp only[sliceRange_one,pick_run,kf]<;>rfl
def aG'(K:PySem.W.Frag):V->Option Int->Option Int->Hp->VK->Prop:=fun x lo hi H Q=>∃ a xs,x=.ref a/\dQ K H a xs/\∀ p,H p=none->Q (.ref p) (upd H p (.lst (Bz xs lo hi)))
theorem aH':Iy X (aG' X.K):=by
 intro pins s σ H x v vl vu lo hi sl Q I rx hs pl pu h
 obtain⟨a,xs,rfl,hx,q⟩:=h
 cases rx
 obtain⟨its,r,ht,hz⟩:=I.list hx
 have hlen:=r.length
 refine⟨"list",_,slot_list_getitem.lookup,ht.isList.typeIs,?_⟩
 refine wpAny_getItem_list_slice ht.isList hs pl pu .none (by simp) ?_ (by rw[kf]<;>lia)
 rw[aF',<- hlen]
 refine⟨.ref s.heap.objs.size,_,I.laid (t':=s.toks) (o:=.lst (Bz xs lo hi)) (fun b ob q=>eW _ q) (bT _) ?_,rfl,q _ (I.aT.fresh (bT _))⟩
 exact⟨iN (VX xs lo hi) hz,_,0,(r.drop (HT.bG xs.length 0 lo)).take (HT.bG xs.length xs.length hi-HT.bG xs.length 0 lo),i9 _ rfl⟩
def An:V->Bool
 |.non=>true
 |.bl _=>true
 |.int _=>true
 |.str _=>true
 |_=>false
def BD:V->V->Bool
 |.non,.non=>true
 |.bl a,.bl b=>a == b
 |.bl a,.int b=>(if a then 1 else 0) == b
 |.int a,.bl b=>a == (if b then 1 else 0)
 |.int a,.int b=>a == b
 |.str a,.str b=>a == b
 |_,_=>false
theorem aI'{A:Around}{s:Shared}{y x:V}{u v:Value}(ry:RelV y u)(rx:RelV x v)(fy:An y=true)(fx:An x=true):SeqAt.EqAt A s u v (BD y x):=by
 cases y with
 |non =>
  cases ry
  cases x with
  |non=>cases rx;exact SeqAt.EqAt.same _
  |bl b=>cases rx;exact SeqAt.EqAt.none_bool b
  |int b=>obtain⟨t,rfl⟩:=rx;exact SeqAt.EqAt.none_int b t
  |str b=>obtain⟨t,rfl⟩:=rx;exact SeqAt.EqAt.none_str b t
  |_=>exact absurd (show false=true from fx) gV
 |bl a =>
  cases ry
  cases x with
  |non=>cases rx;exact SeqAt.EqAt.bool_none a
  |bl b=>cases rx;exact SeqAt.EqAt.bool_bool a b
  |int b=>obtain⟨t,rfl⟩:=rx;exact SeqAt.EqAt.bool_int a b t
  |str b=>obtain⟨t,rfl⟩:=rx;exact SeqAt.EqAt.bool_str a b t
  |_=>exact absurd (show false=true from fx) gV
 |int a =>
  obtain⟨t',rfl⟩:=ry
  cases x with
  |non=>cases rx;exact SeqAt.EqAt.int_none a t'
  |bl b=>cases rx;exact SeqAt.EqAt.int_bool a t' b
  |int b=>obtain⟨t,rfl⟩:=rx;exact SeqAt.EqAt.int_int a t' b t
  |str b=>obtain⟨t,rfl⟩:=rx;exact SeqAt.EqAt.int_str a t' b t
  |_=>exact absurd (show false=true from fx) gV
 |str a =>
  obtain⟨t',rfl⟩:=ry
  cases x with
  |non=>cases rx;exact SeqAt.EqAt.str_none a t'
  |bl b=>cases rx;exact SeqAt.EqAt.str_bool a t' b
  |int b=>obtain⟨t,rfl⟩:=rx;exact SeqAt.EqAt.str_int a t' b t
  |str b=>obtain⟨t,rfl⟩:=rx;exact SeqAt.EqAt.str_str a t' b t
  |_=>exact absurd (show false=true from fx) gV
 |_=>exact absurd (show false=true from fy) gV
def BE(x:V)(u:Value):Bool:=match u with
 |.none=>BD .non x
 |.bool b=>BD (.bl b) x
 |.int i _=>BD (.int i) x
 |.str z _=>BD (.str z) x
 |_=>false
theorem V3{x y:V}{u:Value}(r:RelV y u)(f:An y=true):BE x u=BD y x:=by
 cases y with
 |non=>cases r;rfl
 |bl b=>cases r;rfl
 |int i=>obtain⟨t,rfl⟩:=r;rfl
 |str z=>obtain⟨t,rfl⟩:=r;rfl
 |_=>exact absurd (show false=true from f) gV
theorem RT{x:V}:∀ {xs:List V} {us:List Value},Vals xs us->xs.all An=true->us.any (BE x)=xs.any fun y=>BD y x
 |_,_,.nil,_=>rfl
 |y :: xs,u :: us,.cons r t,f=>by
  rw[AX,lI] at f
  rw[AY,AY,V3 r f.1,RT t f.2]
theorem RV{A:Around}{s:Shared}{x:V}{v:Value}(rx:RelV x v)(fx:An x=true):∀ {xs:List V} {us:List Value},Vals xs us->xs.all An=true->∀ u∈us,SeqAt.EqAt A s u v (BE x u)
 |_,_,.nil,_=>fun u hu=>by cases hu
 |y :: xs,u :: us,.cons r t,f=>fun u' hu=>by
  rw[AX,lI] at f
  rcases cS.mp hu with rfl|hu
  ·rw[V3 r f.1];exact aI' r rx f.1 fx
  ·exact RV rx fx t f.2 u' hu
def Pj(x:V)(xs:List V):Bool:=xs.any fun y=>BD y x
def Pk(K:PySem.W.Frag)(neg:Bool):R2:=fun x y H Q=>∃ p xs,y=.ref p/\(dQ K H p xs\/oy K H p xs)/\An x=true/\xs.all An=true/\Q (.bl (if neg then !Pj x xs else Pj x xs)) H
theorem aJ':cE X (compareOp .In) (Pk X.K false):=by
 intro pins s σ H x y v u Q I rx ry h
 obtain⟨p,xs,rfl,hq,fx,fs,q⟩:=h
 cases ry
 rcases hq with hq|hq
 ·obtain⟨its,r,pl,hz⟩:=I.list hq
  refine SeqAt.in_listAt (BE x) pl.isList (fun w hw=>RV rx fx r fs w (by simpa using hw)) ⟨.bl _,H,I,rfl,?_⟩
  rw[show its.toArray.any (BE x)=its.any (BE x) by simp,RT r fs]
  exact q
 ·obtain⟨its,r,pl,hz⟩:=I.tuple hq
  refine SeqAt.in_tupleAt (BE x) pl (fun w hw=>RV rx fx r fs w (by simpa using hw)) ⟨.bl _,H,I,rfl,?_⟩
  rw[show its.toArray.any (BE x)=its.any (BE x) by simp,RT r fs]
  exact q
theorem iO.or{f:Value}{r r':List V->Hp->VK->Prop}(h:iO X f r)(h':iO X f r'):iO X f (fun xs H Q=>r xs H Q\/r' xs H Q):=by
 intro pins s σ H xs us Q I rs q
 rcases q with q|q
 ·exact h pins s σ H xs us Q I rs q
 ·exact h' pins s σ H xs us Q I rs q
theorem aK':iO X (.type "list") (fun xs H Q=>∃ p ys,xs=[.ref p]/\(dQ X.K H p ys\/oy X.K H p ys)/\∀ l,H l=none->Q (.ref l) (upd H l (.lst ys))):=by
 intro pins s σ H xs us Q I r h
 obtain⟨p,ys,rfl,hq,q⟩:=h
 obtain⟨u,rfl,rx⟩:=vals1 r
 cases rx
 have fin:∀ (its:List Value),Vals ys its->ys.length<=sizeLine->∀ (h':Heap) (c':Nat),(∀ b o',s.heap.get? b=some o'->h'.get? b=some o') ->
   h'.get? s.heap.objs.size=some { cls:=.type "list",dict:=none,data:=.seq its.toArray c',slots:=#[] }->EP X pins σ Q (.ref s.heap.objs.size) { s with heap:=h' }:=fun its r' hz h' c' kp e =>
  ⟨.ref s.heap.objs.size,_,I.laid (t':=s.toks) kp (bT _) (show eT X.prog X.w _ h' _ (.lst ys) from⟨hz,its,c',r',e⟩),rfl,q _ (I.aT.fresh (bT _))⟩
 rcases hq with hq|hq
 ·obtain⟨its,r',pl,hz⟩:=I.list hq
  have hlen:=r'.length
  obtain⟨o,ho,hc,n,hd⟩:=pl.isList
  exact call_list_seq p (.inl rfl) ho hc hd (fun h' c' kp e=>fin its r' hz h' c' kp e) (by simp only[kf]<;>lia)
 ·obtain⟨its,r',pl,hz⟩:=I.tuple hq
  have hlen:=r'.length
  obtain⟨o,ho,hc,n,hd⟩:=pl
  exact call_list_seq p (.inr rfl) ho hc hd (fun h' c' kp e=>fin its r' hz h' c' kp e) (by simp only[kf]<;>lia)
def V4(K:PySem.W.Frag)(T:String)(x:V)(H:Hp):Prop:=match x with
 |.str _=>T = "str"
 |.int _=>T = "int"
 |.ref p=>(T = "list"/\∃ xs,dQ K H p xs)\/(T = "tuple"/\∃ o,K.lookup p=some o/\o.cls=.type "tuple"/\o.dict=none) \/
   (T = "dict"/\((∃ kvs,H p=some (.dK kvs))\/∃ kvs,H p=some (.dT kvs)))\/(T = "set"/\∃ S n,H p=some (.set S n))
 |_=>False
theorem aL'{pins:List (Addr × Obj)}{σ:St}{H:Hp}{s:Shared}{T:String}{x:V}{v:Value}(I:Inv X pins σ H s)(r:RelV x v)(ty:V4 X.K T x H) :
  s.TypeIs v T/\∀ a,v=.ref a->∃ ob,s.heap.get? a=some ob/\ob.dict=none:=by
 cases x with
 |str z =>
  obtain⟨t,rfl⟩:=r
  cases (show T = "str" from ty)
  exact⟨typeIs_str s z t,fun _ e=>nomatch e⟩
 |int i =>
  obtain⟨t,rfl⟩:=r
  cases (show T = "int" from ty)
  exact⟨typeIs_int s i t,fun _ e=>nomatch e⟩
 |ref p =>
  cases r
  rcases ty with⟨rfl,xs,hq⟩|⟨rfl,o,hk,hc,hd⟩|⟨rfl,hk⟩|⟨rfl,S,n,hk⟩
  ·obtain⟨its,_,pl,_⟩:=I.list hq
   refine⟨pl.isList.typeIs,fun a e=>?_⟩
   cases e
   obtain⟨o,n,e,c,hd,_⟩:=pl
   exact⟨o,e,hd⟩
  ·refine⟨⟨o,I.kr p o hk,hc⟩,fun a e=>?_⟩
   cases e
   exact⟨o,I.kr _ o hk,hd⟩
  ·have z:∃ o,s.heap.get? p=some o/\o.ExactDict:=by
    rcases hk with⟨kvs,hk⟩|⟨kvs,hk⟩
    ·obtain⟨_,_,_,_,o,_,_,e,ex,_⟩:=I.aT p _ hk
     exact⟨o,e,ex⟩
    ·obtain⟨_,_,_,_,o,_,_,e,ex,_⟩:=I.aT p _ hk
     exact⟨o,e,ex⟩
   obtain⟨o,e,ex⟩:=z
   refine⟨⟨o,e,ex.1⟩,fun a e2=>?_⟩
   cases e2
   exact⟨o,e,ex.2.1⟩
  ·obtain⟨o,_,_,_,e,ex,_⟩:=I.aT p _ hk
   refine⟨⟨o,e,ex.1⟩,fun a e2=>?_⟩
   cases e2
   exact⟨o,e,ex.2.1⟩
 |_=>exact False.elim ty
def tBM(K:PySem.W.Frag)(T:String)(r:V->List V->Hp->VK->Prop)(to:TE)(t:TA):TE:=fun σ H Q=>to σ H fun x H1=>V4 K T x H1/\t σ H1 fun xs H2=>r x xs H2 Q
variable {o e:Expr}{es:List Expr}{to:TE}{t:TA}{name:Str}{apos dr:Pos}{T id:String}{r:V->List V->Hp->VK->Prop}
theorem MR (pa:PlainAttrs T) (slot:Slot T name id) (hty:typeOf (.builtin id)=pure (.type "method_descriptor")) (hm:Ph X id r) (ho:PE X o to) (ha:PA X (e :: es) t)
  (BF:attributeBase o name X.env (eval o X.env)=eval o X.env:=by rfl)
  (x3:((backTo dr (starEach (e :: es) X.env)).all (fun x=>!x.1) && (backToKw dr (keywordEach [] X.env)).all (fun x=>x.1.isSome)
   && decide ((e :: es).length+([]:List Keyword).length+(if ([]:List Keyword).isEmpty then 0 else 1)<30))=true:=by rfl)
  (hline:(apos.endLine == dr.line)=true:=by rfl) (hs:starEach (e :: es) X.env=(false,eval e X.env) :: starEach es X.env:=by rfl) (BG:(backTo dr (starEach es X.env)).any (·.1)=false:=by rfl) :
  PE X (.Call (.Attribute o name apos) (e :: es) [] dr) (tBM X.K T r to t):=by
 intro pins s σ H Q I h
 refine wpAny_Call_method_late BF x3 hline rfl (cq (ho pins s σ H _ I h) fun v s1 dc=>?_)
 obtain⟨x,H1,I1,r1,ty,q1⟩:=dc
 obtain⟨h1,h2⟩:=aL' I1 r1 ty
 refine⟨T,id,pa,slot,hty,h1,h2,?_⟩
 have hA:=ha dr pins s1 σ H1 _ I1 q1
 rw[hs] at hA ⊢
 refine Calls.callWith_builtin (by show(false || (backTo dr (starEach es X.env)).any (·.1))=false;rw[BG]<;>rfl) (Calls.evalArgs_plain ?_)
 exact cq hA fun us s2 cx=>L2.gv cx fun vs H2 I2 r2 q2=>hm pins s2 σ H2 x vs v us Q I2 r1 r2 q2
end
def MtM(X:Cx)(id:String)(r:V->List V->Hp->VK->Prop):Prop :=
 ∀ (pins:List (Addr × Obj)) (s:Shared) (σ:St) (H:Hp) (x:V) (xs:List V) (v:Value) (us:List Value) (Q:VK),Inv X pins σ H s->RelV x v->Vals xs us->r x xs H Q ->
  wpAny (model X.prog X.w) X.A (call (.builtin id) (v :: us)) (EP X pins σ Q) X.xe s
theorem Vals.one{x:V}{us:List Value}(h:Vals [x] us):∃ u,us=[u]/\RelV x u:=by
 cases h
 rename_i r h
 cases h
 exact⟨_,rfl,‹_›⟩
theorem Vals.two{x y:V}{us:List Value}(h:Vals [x,y] us):∃ u v,us=[u,v]/\RelV x u/\RelV y v:=by
 cases h
 rename_i r h
 cases h
 rename_i q h
 cases h
 exact⟨_,_,rfl,‹_›,‹_›⟩
theorem Vals.eraseIdx:∀ {xs:List V} {us:List Value} (i:Nat),Vals xs us->Vals (xs.eraseIdx i) (us.eraseIdx i)
 |_,_,_,.nil=>.nil
 |_,_,0,.cons _ t=>t
 |_,_,i+1,.cons r t=>.cons r (Vals.eraseIdx i t)
theorem Vals.rep{xs:List V}{us:List Value}(h:Vals xs us):∀ k:Nat,Vals (List.replicate k xs).flatten (List.replicate k us).flatten
 |0=>.nil
 |k+1=>by
  rw[y9,y9,AU,AU]
  exact Vals.append h (Vals.rep h k)
section
variable {X:Cx}{pins:List (Addr × Obj)}{σ:St}{H:Hp}{s:Shared}{l:Addr}{xs ys:List V}
theorem Inv.aP'{its its':List Value}{n:Nat}{f:Array Value->Array Value}{t':Nat}(I:Inv X pins σ H s)(hH:H l=some (.lst xs))
  (e:s.heap.get? l=some { cls:=.type "list",data:=.seq its.toArray n }) (hf:f its.toArray=its'.toArray) (hv:Vals ys its') (hz:ys.length<=sizeLine) :
  Inv X pins σ (upd H l (.lst ys)) { s with heap:=s.heap.update l (Obj.mapSeq f),toks:=t' }:=by
 have q:=PySem.IsL.update e f
 rw[hf] at q
 refine I.write (x:=l) (e:=l) (by rw[hH];exact trivial) (.inl rfl) (fun b' u hb hu=>(L4 s.heap (Obj.mapSeq f) (Ne.symm hb)).trans hu) ⟨_,q⟩ ?_
 exact⟨hz,its',_,hv,q⟩
theorem Inv.RW{its:List Value}{t':Nat}(I:Inv X pins σ H s)(hv:Vals ys its)(hz:ys.length<=sizeLine) :
  Inv X pins σ (upd H s.heap.objs.size (.lst ys)) { s with heap:=s.heap.push { cls:=.type "list",data:=.seq its.toArray },toks:=t' } :=
 I.laid (fun _ _ q=>eW _ q) (bT _) ⟨hz,its,0,hv,i9 _ rfl⟩
theorem Inv.fresh(I:Inv X pins σ H s):H s.heap.objs.size=none:=I.aT.fresh (bT _)
theorem Inv.aQ' (I:Inv X pins σ H s) (hH:H l=some (.lst xs)):xs.length<=sizeLine/\∃ (its:List Value) (n:Nat),Vals xs its/\xs.length=its.length/\s.heap.get? l=some { cls:=.type "list",data:=.seq its.toArray n }:=by
 obtain⟨z,its,n,r,e⟩:=I.aT l _ hH
 exact⟨z,its,n,r,r.length,e⟩
end
section
variable {X:Cx}
def aR':V->List V->Hp->VK->Prop:=fun x vs H Q=>∃ l xs y,x=.ref l/\vs=[y]/\H l=some (.lst xs)/\xs.length<sizeLine/\Q .non (upd H l (.lst (xs++[y])))
theorem RX:MtM X "list.append" aR':=by
 intro pins s σ H x vs v us Q I rx rv h
 obtain⟨l,xs,y,rfl,rfl,hH,hz,q⟩:=h
 cases rx
 obtain⟨u,rfl,ru⟩:=rv.one
 obtain⟨z,its,n,r,hl,e⟩:=I.aQ' hH
 refine call_meets F.slot_list_append ⟨_,e,rfl⟩ F.entry_list_append (F.args_list_append_2 _ _) (PySem.list_append l its.toArray n u (by rw[kf];lia)) ⟨e,?_⟩
 refine⟨.non,_,I.aP' (its':=its++[u]) hH e (by simp) (r.append (.cons ru .nil)) ?_,rfl,q⟩
 rw[tS,List.length_singleton]
 assumption
end
section
set_option maxRecDepth 100000 in
end
section
variable {κ:Type}[DecidableEq κ]
def nX(kvs:List (κ × V))(k:κ):Option V:=(kvs.find? fun kv=>decide (kv.1=k)).map (·.2)
def putK(kvs:List (κ × V))(k:κ)(v:V):List (κ × V) :=
 if (kvs.any fun kv=>decide (kv.1=k))=true then kvs.map (fun kv=>if kv.1=k then (kv.1,v) else kv) else kvs++[(k,v)]
theorem Pl{p:κ × V}{r:List (κ × V)}{k:κ}(e:p.1=k):nX (p :: r) k=some p.2:=by simp[nX,EK,e]
theorem Pm{p:κ × V}{r:List (κ × V)}{k:κ}(e:¬ p.1=k):nX (p :: r) k=nX r k:=by simp[nX,EK,e]
theorem RZ(k:κ):∀ kvs:List (κ × V),(kvs.any fun kv=>decide (kv.1=k))=(nX kvs k).isSome
 |[]=>rfl
 |p :: r=>by
  rw[AY]
  by_cases e:p.1=k
  ·simp only[Pl e,decide_eq_true e,Bool.true_or,Option.isSome_some]
  ·rw[Pm e,decide_eq_false e,Bool.false_or];exact RZ k r
theorem V5(kvs:List (κ × V))(k:κ)(v:V):(putK kvs k v).length<=kvs.length+1:=by
 unfold putK
 split
 ·rw[cK];exact xt _ _
 ·rw[tS,sv,List.length_nil];exact bT _
theorem ub.R0{o:Option V}{u:Option Value}(r:ub o u):o.isSome=u.isSome:=by
 cases o with
 |none=>cases u with
  |none=>rfl
  |some _=>exact(show False from r).elim
 |some _=>cases u with
  |none=>exact(show False from r).elim
  |some _=>rfl
theorem ub.getD{o:Option V}{u:Option Value}{d:V}{d':Value}(r:ub o u)(rd:RelV d d'):RelV (o.getD d) (u.getD d'):=by
 cases o with
 |none=>cases u with
  |none=>exact rd
  |some _=>exact(show False from r).elim
 |some _=>cases u with
  |none=>exact(show False from r).elim
  |some _=>exact r
theorem KV.val{kvs:List (κ × V)}{vs:List (κ × Value)}(r:KV kvs vs)(k:κ):ub (nX kvs k) (valueAt vs k):=by
 unfold KV at r
 induction r with
 |nil=>exact True.intro
 |@cons p q ps qs h t ih =>
  obtain⟨h1,h2⟩:=h
  by_cases e:p.1=k
  ·have e':q.1=k:=h1.symm.trans e
   have b:valueAt (q :: qs) k=some q.2:=by simp[valueAt,EK,e']
   rw[Pl e,b];exact h2
  ·have e':¬ q.1=k:=fun z=>e (h1.trans z)
   have b:valueAt (q :: qs) k=valueAt qs k:=by simp[valueAt,EK,e']
   rw[Pm e,b];exact ih
theorem KV.any{kvs:List (κ × V)}{vs:List (κ × Value)}(r:KV kvs vs)(k:κ):(kvs.any fun kv=>decide (kv.1=k))=vs.any fun kv=>decide (kv.1=k):=by
 unfold KV at r
 induction r with
 |nil=>rfl
 |cons h t ih=>rw[AY,AY,ih,h.1]
theorem KV.repl{kvs:List (κ × V)}{vs:List (κ × Value)}(r:KV kvs vs)(k:κ){y:V}{u:Value}(ry:RelV y u) :
  KV (kvs.map fun kv=>if kv.1=k then (kv.1,y) else kv) (vs.map fun kv=>if kv.1=k then (kv.1,u) else kv):=by
 unfold KV at r ⊢
 induction r with
 |nil=>exact .nil
 |@cons p q ps qs h t ih =>
  rw[fz,fz]
  refine .cons ?_ ih
  obtain⟨h1,h2⟩:=h
  by_cases e:p.1=k
  ·rw[if_pos e,if_pos (h1.symm.trans e)];exact⟨h1,ry⟩
  ·rw[if_neg e,if_neg (fun z=>e (h1.trans z))];exact⟨h1,h2⟩
theorem KV.put{kvs:List (κ × V)}{vs:List (κ × Value)}(r:KV kvs vs)(k:κ){y:V}{u:Value}(ry:RelV y u):KV (putK kvs k y) (stored vs k u):=by
 unfold putK stored
 rw[r.any k]
 by_cases e:(vs.any fun kv=>decide (kv.1=k))=true
 ·rw[if_pos e,if_pos e];exact r.repl k ry
 ·rw[if_neg e,if_neg e];exact Paired.snoc r ⟨rfl,ry⟩
theorem KV.length{kvs:List (κ × V)}{vs:List (κ × Value)}(r:KV kvs vs):kvs.length=vs.length:=Paired.length r
end
theorem MS{P:Program}{w:World}{k:Key}{u:Value}(r:RelV (kV k) u):(kQ P w).is k u=true:=by
 cases k with
 |inl i=>obtain⟨t,e⟩:=(show ∃ t,u=Value.int i t from r);subst e;exact YL P w i t
 |inr x=>obtain⟨t,e⟩:=(show ∃ t,u=Value.str x t from r);subst e;exact YM P w x t
theorem R1{P:Program}{w:World}:∀ {ks:List Key} {us:List Value},Vals (ks.map kV) us->ItemsAre (kQ P w) ks us
 |[],_,r=>by rw[List.map_nil] at r;cases r;exact .nil
 |k :: ks,_,r=>by
  rw[fz] at r
  cases r with
  |cons h t=>exact .cons (MS h) (R1 t)
abbrev KT(H:Hp):List (List Key × V)->List (List Key × Addr × Value)->Prop:=Paired fun p q=>p.1=q.1/\H q.2.1=some (.tup (p.1.map kV))/\RelV p.2 q.2.2
theorem KT.val{H:Hp}{kvs:List (List Key × V)}{xs:List (List Key × Addr × Value)}(r:KT H kvs xs)(k:List Key):ub (nX kvs k) ((atKey xs k).map (·.2)):=by
 induction r with
 |nil=>exact True.intro
 |@cons p q ps qs h t ih =>
  obtain⟨h1,_,h2⟩:=h
  by_cases e:p.1=k
  ·have e':q.1=k:=h1.symm.trans e
   have b:atKey (q :: qs) k=some q.2:=by simp[atKey,EK,e']
   rw[Pl e,b];exact h2
  ·have e':¬ q.1=k:=fun z=>e (h1.trans z)
   have b:atKey (q :: qs) k=atKey qs k:=by simp[atKey,EK,e']
   rw[Pm e,b];exact ih
theorem KT.repl{H:Hp}{kvs:List (List Key × V)}{xs:List (List Key × Addr × Value)}(r:KT H kvs xs)(k:List Key){y:V}{u:Value}(ry:RelV y u) :
  KT H (kvs.map fun kv=>if kv.1=k then (kv.1,y) else kv) (xs.map (putAt k u)):=by
 induction r with
 |nil=>exact .nil
 |@cons p q ps qs h t ih =>
  rw[fz,fz]
  refine .cons ?_ ih
  obtain⟨h1,h2,h3⟩:=h
  unfold putAt
  by_cases e:p.1=k
  ·rw[if_pos e,if_pos (h1.symm.trans e)];exact⟨h1,h2,ry⟩
  ·rw[if_neg e,if_neg (fun z=>e (h1.trans z))];exact⟨h1,h2,h3⟩
theorem KT.put{H:Hp}{kvs:List (List Key × V)}{xs:List (List Key × Addr × Value)}(r:KT H kvs xs)(k:List Key){b:Addr}{y:V}{u:Value}(hb:H b=some (.tup (k.map kV)))(ry:RelV y u) :
  KT H (putK kvs k y) (storedH xs k b u):=by
 have e:(kvs.any fun kv=>decide (kv.1=k))=(atKey xs k).isSome:=by
  rw[RZ,(r.val k).R0,Option.isSome_map]
 unfold putK storedH
 rw[e]
 by_cases q:(atKey xs k).isSome=true
 ·rw[if_pos q,if_pos q];exact r.repl k ry
 ·rw[if_neg q,if_neg q];exact Paired.snoc r ⟨rfl,hb,ry⟩
theorem KT.keeps{H H':Hp}{kvs:List (List Key × V)}{xs:List (List Key × Addr × Value)}(r:KT H kvs xs)(ht:∀ b ys,H b=some (.tup ys)->H' b=some (.tup ys)):KT H' kvs xs :=
 Paired.Rc r fun _ _ z=>⟨z.1,ht _ _ z.2.1,z.2.2⟩
section
variable {P:Program}{w:World}{H:Hp}{h:Heap}{a:Addr}
theorem V6{u:HO}(ok:fE P w H h)(e:Rd H a u):eT P w H h a u:=e.ok ok
theorem E5{kvs:List (Key × V)}(ok:fE P w H h)(e:Rd H a (.dK kvs)):kvs.length<=sizeLine/\(a == sysModules)=false/\∃ vs,KV kvs vs/\h.DictOf (kQ P w) a vs :=
 show eT P w H h a (.dK kvs) from V6 ok e
theorem aS'{kvs:List (Key × V)}(ok:fE P w H h)(e:H a=some (.dK kvs)):kvs.length<=sizeLine/\(a == sysModules)=false/\∃ vs,KV kvs vs/\h.DictOf (kQ P w) a vs:=E5 ok (.inl e)
theorem IA{ks:List Key}(ok:fE P w H h)(e:H a=some (.tup (ks.map kV))):(tupleKind (kQ P w)).is h ks a:=by
 obtain⟨_,its,r,o,h1,h2,n,h3⟩:=(show eT P w H h a (.tup (ks.map kV)) from ok a _ e)
 exact⟨o,its.toArray,n,h1,h2,h3,by simpa using R1 r⟩
theorem IB{kvs:List (List Key × V)}(ok:fE P w H h)(e:Rd H a (.dT kvs)):kvs.length<=sizeLine/\(a == sysModules)=false /\
  ∃ xs,KT H kvs xs/\h.DictOfH (tupleKind (kQ P w)) a xs:=by
 obtain⟨z,y,xs,r,o,es,ep,h1,h2,h3,h4,h5⟩:=(show eT P w H h a (.dT kvs) from V6 ok e)
 refine⟨z,y,xs,r,o,es,ep,h1,h2,h3,h4,fun x hx=>?_,h5⟩
 have all:∀ {l:List (List Key × V)} {m:List (List Key × Addr × Value)},KT H l m->∀ x∈m,(tupleKind (kQ P w)).is h x.1 x.2.1:=by
  intro l m q
  induction q with
  |nil=>intro x hx;exact nomatch hx
  |@cons p q ps qs hq t ih =>
   intro x hx
   rcases cS.mp hx with e|hx
   ·subst e
    exact IA ok (by rw[<- hq.1];exact hq.2.1)
   ·exact ih x hx
 exact all r x hx
theorem V7{kvs:List (List Key × V)}(ok:fE P w H h)(e:H a=some (.dT kvs)):kvs.length<=sizeLine/\(a == sysModules)=false /\
  ∃ xs,KT H kvs xs/\h.DictOfH (tupleKind (kQ P w)) a xs:=IB ok (.inl e)
end
def kL(H:Hp)(a:Addr)(y:V)(r:Option V):Prop :=
 (∃ kvs k,Rd H a (.dK kvs)/\y=kV k/\r=nX kvs k)\/∃ kvs k b,Rd H a (.dT kvs)/\y=.ref b/\H b=some (.tup (k.map kV))/\r=nX kvs k
def DU(H:Hp)(a:Addr)(y v:V)(H':Hp):Prop :=
 (∃ kvs k,H a=some (.dK kvs)/\y=kV k/\kvs.length<sizeLine/\H'=upd H a (.dK (putK kvs k v))) \/
 ∃ kvs k b,H a=some (.dT kvs)/\y=.ref b/\H b=some (.tup (k.map kV))/\kvs.length<sizeLine/\H'=upd H a (.dT (putK kvs k v))
theorem kL.k{H:Hp}{a:Addr}{kvs:List (Key × V)}{k:Key}(e:H a=some (.dK kvs)):kL H a (kV k) (nX kvs k):=.inl ⟨kvs,k,.inl e,rfl,rfl⟩
theorem kL.t{H:Hp}{a b:Addr}{kvs:List (List Key × V)}{k:List Key}(e:H a=some (.dT kvs))(eb:H b=some (.tup (k.map kV))):kL H a (.ref b) (nX kvs k):=.inr ⟨kvs,k,b,.inl e,rfl,eb,rfl⟩
theorem DU.k{H:Hp}{a:Addr}{kvs:List (Key × V)}{k:Key}{v:V}(e:H a=some (.dK kvs))(hl:kvs.length<sizeLine):DU H a (kV k) v (upd H a (.dK (putK kvs k v))):=.inl ⟨kvs,k,e,rfl,hl,rfl⟩
theorem DU.t{H:Hp}{a b:Addr}{kvs:List (List Key × V)}{k:List Key}{v:V}(e:H a=some (.dT kvs))(eb:H b=some (.tup (k.map kV)))(hl:kvs.length<sizeLine) :
  DU H a (.ref b) v (upd H a (.dT (putK kvs k v))):=.inr ⟨kvs,k,b,e,rfl,eb,hl,rfl⟩
section
variable {X:Cx}{pins:List (Addr × Obj)}{σ:St}{H:Hp}{s:Shared}{a:Addr}{y v:V}{u r:Value}{o:Option V}{A:Around}{E:Value->Shared->Prop}
theorem Inv.big(I:Inv X pins σ H s):sysModules<s.heap.objs.size:=by
 have h:mainGlobals<s.heap.objs.size:=(I.mod.glob.keeps I.bk).lt
 exact Q7 (by decide) h
theorem aT'{Q:Value->Shared->Prop}(hu:A.units+1<cLine)(I:Inv X pins σ H s)(g:kL H a y (some v))(ry:RelV y u)(h:∀ w' s',Inv X pins σ H s'->RelV v w'->Q w' s') :
  wpAny (model X.prog X.w) A (getItem (.ref a) u) Q E s:=by
 rcases g with⟨kvs,k,e,ey,l⟩|⟨kvs,k,b,e,ey,eb,l⟩
 ·subst ey
  obtain⟨z,hd,vs,rel,dd⟩:=E5 I.aT e
  obtain⟨w',hw,oD⟩:=ub.some_of (v:=v) (o:=valueAt vs k) (by rw[l];exact rel.val k)
  exact wpAny_getItem_of (MS ry) dd.mapOf hw (h w' _ (I.tok _) oD)
 ·subst ey
  cases (show u=Value.ref b from ry)
  obtain⟨z,hd,xs,rel,dd⟩:=IB I.aT e
  obtain⟨w',hw,oD⟩:=ub.some_of (v:=v) (o:=(atKey xs k).map (·.2)) (by rw[l];exact rel.val k)
  obtain⟨p,hp,hp2⟩:=OL.mp hw
  refine wpAny_getItem_heap (tupleKind_room_in1 hu) (IA I.aT eb) dd hp ?_
  rw[hp2]
  exact h w' _ (I.tok _) oD
theorem aV'{Q:Value->Shared->Prop}(hu:A.units+1<cLine)(I:Inv X pins σ H s)(g:kL H a y o)(ry:RelV y u)(h:∀ s',Inv X pins σ H s'->Q (.bool o.isSome) s') :
  wpAny (model X.prog X.w) A (compareOp .In u (.ref a)) Q E s:=by
 rcases g with⟨kvs,k,e,ey,l⟩|⟨kvs,k,b,e,ey,eb,l⟩
 ·subst ey
  obtain⟨z,hd,vs,rel,dd⟩:=E5 I.aT e
  refine wpAny_in_of (MS ry) hd dd.mapOf ?_
  rw[<- (rel.val k).R0,<- l]
  exact h _ (I.tok _)
 ·subst ey
  cases (show u=Value.ref b from ry)
  obtain⟨z,hd,xs,rel,dd⟩:=IB I.aT e
  refine wpAny_in_heap (tupleKind_room_in1 hu) (IA I.aT eb) hd dd ?_
  have q:=(rel.val k).R0
  rw[Option.isSome_map] at q
  rw[<- q,<- l]
  exact h _ (I.tok _)
theorem R3{h':Heap}{t':Nat}{ob:HO}(I:Inv X pins σ H s)(mu:Mk (H a))(hs:Heap.SameBut a s.heap h')(he:∃ q,h'.get? a=some q)(new:eT X.prog X.w (upd H a ob) h' a ob) :
  Inv X pins σ (upd H a ob) { s with heap:=h',toks:=t' } :=
 I.write (x:=a) (e:=a) mu (.inl rfl) (fun b q hb z=>(hs.2 b hb).trans z) he new
theorem aW'{P:Program}{w:World}{H':Hp}{h':Heap}{kvs:List (Key × V)}{vs:List (Key × Value)}(z:kvs.length<=sizeLine)(hd:(a == sysModules)=false)(rel:KV kvs vs)(dd:h'.DictOf (kQ P w) a vs) :
  eT P w H' h' a (.dK kvs):=⟨z,hd,vs,rel,dd⟩
theorem aX'{H':Hp}{Q:Unit->Shared->Prop}(hu:A.units+1<cLine)(I:Inv X pins σ H s)(g:DU H a y v H')(ry:RelV y u)(rv:RelV v r)(h:∀ s',Inv X pins σ H' s'->Q () s') :
  wpAny (model X.prog X.w) A (setItem (.ref a) u r) Q E s:=by
 rcases g with⟨kvs,k,e,ey,l,eH⟩|⟨kvs,k,b,e,ey,eb,l,eH⟩
 ·subst ey eH
  obtain⟨z,hd,vs,rel,dd⟩:=aS' I.aT e
  have hz:vs.length<=sizeLine:=by rw[<- rel.length];exact z
  have hl:(putK kvs k v).length<=sizeLine:=by have:=V5 kvs k v;walk_at "s1"
  refine wpAny_setItem_pairs (hsz:=hz) (MS ry) dd fun h' IC hs=>h _ ?_
  have he:∃ q,h'.get? a=some q:=let ⟨q,_,_,hq,_⟩:=IC;⟨q,hq⟩
  exact R3 I (by rw[e];exact True.intro) hs he (aW' hl hd (rel.put k rv) IC)
 ·subst ey eH
  cases (show u=Value.ref b from ry)
  obtain⟨z,hd,xs,rel,dd⟩:=V7 I.aT e
  have hz:xs.length<=sizeLine:=by rw[<- Paired.length rel];exact z
  have hl:(putK kvs k v).length<=sizeLine:=by have:=V5 kvs k v;walk_at "s1"
  refine wpAny_setItem_heap (hsz:=hz) (tupleKind_room_in1 hu) (IA I.aT eb) dd fun h' IC hs=>h _ ?_
  obtain⟨q,es,ep,hq,h2,h3,h4,_,h5⟩:=IC
  refine R3 I (by rw[e];exact True.intro) hs ⟨q,hq⟩ ⟨hl,hd,_,(rel.put k eb rv).keeps fun c ys ec=>?_,q,es,ep,hq,h2,h3,h4,h5⟩
  rw[eJ (U_ ec e (fun z=>nomatch z))]
  exact ec
end
section
variable {X:Cx}{pins:List (Addr × Obj)}{σ:St}{H:Hp}{s:Shared}{a:Addr}{kvs:List (Key × V)}{A:Around}{E:Value->Shared->Prop}
theorem aY' {Q:Value->Shared->Prop} (I:Inv X pins σ H s) (e:Rd H a (.dK kvs)) (h:∀ t s',Inv X pins σ H s'->Q (.int kvs.length t) s'):wpAny (model X.prog X.w) A (call (.builtin "len") [.ref a]) Q E s:=by
 obtain⟨z,hd,vs,rel,dd⟩:=E5 I.aT e
 refine call_len_dict hd dd (by rw[<- rel.length];rw[sizeLine_eq] at z;lia) ?_
 rw[<- rel.length]
 exact h _ _ (I.tok _)
end
theorem aZ' {X:Cx} {pins:List (Addr × Obj)} {σ:St} {H:Hp} {s:Shared} {a:Addr} {y:V} {o:Option V} (I:Inv X pins σ H s) (g:kL H a y o):s.TypeIs (.ref a) "dict" := by
 rcases g with⟨kvs,k,e,_,_⟩|⟨kvs,k,b,e,_,_,_⟩
 ·obtain⟨_,_,vs,_,dd⟩:=E5 I.aT e
  exact dd.typeIs
 ·obtain⟨_,_,xs,_,dd⟩:=IB I.aT e
  exact dd.typeIs
def ba'(td ty tv:TE):TS:=fun D σ H=>tv σ H fun v H1=>td σ H1 fun x H2=>ty σ H2 fun y H3=>∃ a H4,x=.ref a/\DU H3 a y v H4/\D.nx σ H4
section
variable {X:Cx}{o i value:Expr}{pos pos':Pos}{td ty tv:TE}
theorem bb'(hu:X.A.units+1<cLine)(ho:PE X o td)(hi:PE X i ty)(hv:PE X value tv)(hs:swapsWith value (some (.Subscript o i pos')) pos.line X.env=pure false) :
  PS X (.Assign [.Subscript o i pos'] value pos) (ba' td ty tv):=by
 intro pins s σ H D I h
 refine wpAny_Assign_Subscript (cq (hv pins s σ H _ I h) fun r s1 cx=>L2.gv cx fun v H1 I1 rv q1=>cq (ho pins s1 σ H1 _ I1 q1) fun u s2 cx=>L2.gv cx fun x H2 I2 rx q2=>cq (hi pins s2 σ H2 _ I2 q2) fun iv s3 dc=>?_) hs
 obtain⟨y,H3,I3,ry,a,H4,ex,g,q3⟩:=dc
 subst ex
 obtain rfl:u=Value.ref a:=rx
 exact aX' hu I3 g ry rv fun s4 I4=>⟨σ,H4,I4,q3⟩
end
theorem bc' {P:Program} {w:World} {H:Hp} (h:Heap) (hb:sysModules<h.objs.size):eT P w H (h.push { cls:=.type "dict",data:=.dict #[] }) h.objs.size (.dT []) :=
 ⟨dz _,beq_eq_false_iff_ne.mpr (Ne.symm (eI hb)),[],.nil,_,#[],0,i9 _ rfl,⟨rfl,rfl,rfl⟩,rfl,rfl,oq⟩
def bd':TE:=fun _ H Q=>∀ p,H p=none->Q (.ref p) (upd H p (.dT []))
section
variable {X:Cx}{pos:Pos}
theorem be':PE X (.Dict [] [] pos) bd':=fun pins s σ H Q I h =>
 wpAny_Dict_empty ⟨.ref s.heap.objs.size,_,I.laid (a:=s.heap.objs.size) (o:=.dT []) (t':=s.toks) (fun _ _ q=>eW _ q) (bT _) (bc' s.heap I.big),rfl,h _ (I.aT.fresh (bT _))⟩
end
structure M1(X:Cx)(o:Expr)(m:Str)(apos:Pos)(e:Expr)(dr:Pos):Prop where
 base:attributeBase o m X.env (eval o X.env)=eval o X.env
 few:((backTo dr (starEach [e] X.env)).all (fun x=>!x.1) && (backToKw dr (keywordEach [] X.env)).all (fun x=>x.1.isSome)
  && decide (([e]:List Expr).length+([]:List Keyword).length+(if ([]:List Keyword).isEmpty then 0 else 1)<30))=true
 line:(apos.endLine == dr.line)=true
 trees:backTo dr (starEach [e] X.env)=[(false,eval e X.env)]
def Pn(H:Hp)(a:Addr):Prop:=(∃ kvs,Rd H a (.dK kvs))\/∃ kvs,Rd H a (.dT kvs)
theorem bf'{X:Cx}{pins:List (Addr × Obj)}{σ:St}{H:Hp}{s:Shared}{a:Addr}(I:Inv X pins σ H s)(d:Pn H a) :
  s.TypeIs (.ref a) "dict"/\(∀ b,Value.ref a=.ref b->∃ ob,s.heap.get? b=some ob/\ob.dict=none)/\(a == sysModules)=false:=by
 rcases d with⟨kvs,e⟩|⟨kvs,e⟩
 ·obtain⟨_,hd,vs,_,dd⟩:=E5 I.aT e
  refine⟨dd.typeIs,fun b q=>?_,hd⟩
  cases q
  obtain⟨ob,_,_,h1,h2,_⟩:=dd
  exact⟨ob,h1,h2.2.1⟩
 ·obtain⟨_,hd,xs,_,dd⟩:=IB I.aT e
  refine⟨dd.typeIs,fun b q=>?_,hd⟩
  cases q
  obtain⟨ob,_,_,h1,h2,_⟩:=dd
  exact⟨ob,h1,h2.2.1⟩
section
variable {X:Cx}{pins:List (Addr × Obj)}{σ:St}{H:Hp}{s:Shared}{a:Addr}{y:V}{u:Value}{o:Option V}{A:Around}{E:Value->Shared->Prop}
theorem bg'{Q:Value->Shared->Prop}(hu:A.units+1<cLine)(I:Inv X pins σ H s)(g:kL H a y o)(ry:RelV y u)(h:∀ w' s',Inv X pins σ H s'->RelV (o.getD .non) w'->Q w' s') :
  wpAny (model X.prog X.w) A (call (.builtin "dict.get") [.ref a,u]) Q E s:=by
 rcases g with⟨kvs,k,e,ey,l⟩|⟨kvs,k,b,e,ey,eb,l⟩
 ·subst ey
  obtain⟨z,hd,vs,rel,dd⟩:=E5 I.aT e
  refine call_meetsIn PySem.F.slot_dict_get dd.typeIs PySem.F.entry_dict_get (PySem.F.args_dict_get_2 _ _) (meets_dict_get (kQ X.prog X.w) a (MS ry) hd) ⟨_,dd.mapOf,h _ _ (I.tok _) ?_⟩
  rw[l]
  exact(rel.val k).getD rfl
 ·subst ey
  cases (show u=Value.ref b from ry)
  obtain⟨z,hd,xs,rel,dd⟩:=IB I.aT e
  refine call_meetsIn PySem.F.slot_dict_get dd.typeIs PySem.F.entry_dict_get (PySem.F.args_dict_get_2 _ _) (meetsH_dict_get (tupleKind (kQ X.prog X.w)) a b hd) ⟨tupleKind_room_in1 hu,k,xs,IA I.aT eb,dd,h _ _ (I.tok _) ?_⟩
  rw[l]
  exact(rel.val k).getD rfl
end
def bh'(td ty:TE):TE:=fun σ H Q=>td σ H fun x H1=>∃ a,x=.ref a/\Pn H1 a/\ty σ H1 fun y H2=>∃ o,kL H2 a y o/\Q (o.getD .non) H2
def bi'(td ty tx:TE):TE:=fun σ H Q=>td σ H fun x H1=>∃ a,x=.ref a/\Pn H1 a/\ty σ H1 fun y H2=>tx σ H2 fun z H3=>∃ o,kL H3 a y o/\Q (o.getD z) H3
section
variable {X:Cx}{o e:Expr}{apos dr:Pos}{td ty:TE}
theorem bj' (hu:X.A.units+1<cLine) (ho:PE X o td) (he:PE X e ty) (m:M1 X o "get" apos e dr):PE X (.Call (.Attribute o "get" apos) [e] [] dr) (bh' td ty):=by
 intro pins s σ H Q I h
 refine wpAny_Call_method m.base m.few m.line PySem.F.plainAttrs_dict PySem.F.slot_dict_get PySem.F.type_dict_get (cq (ho pins s σ H _ I h) fun u s1 dc=>?_)
 obtain⟨x,H1,I1,rx,a,ex,d,q1⟩:=dc
 subst ex
 obtain rfl:u=Value.ref a:=rx
 obtain⟨t1,t2,_⟩:=bf' I1 d
 refine⟨t1,t2,?_⟩
 rw[m.trees]
 refine Calls.callWith_builtin rfl (Calls.evalArgs_plain (Calls.spliced_cons (cq (he pins s1 σ H1 _ I1 q1) fun iv s2 ⟨y,H2,I2,ry,ov,g,q2⟩=>Calls.spliced_nil ?_)))
 exact bg' hu I2 g ry fun w' s3 I3 oD=>⟨_,H2,I3,oD,q2⟩
end
end L2
namespace V8
open PySem PySem.W PySem.Calls PyProof.Rows
theorem bk'{P:Params}{h:Heap}:∀ (ns:List Int) (vs:List Value),WellAll P h vs (ns.map WData.int)->IntsAre vs ns:=by
 intro ns
 induction ns with
 |nil =>
  intro vs w
  rw[List.map_nil] at w
  cases w
  exact .nil
 |cons n ns ih =>
  intro vs w
  rw[fz] at w
  cases w with
  |cons a b =>
   cases a
   exact .cons _ _ (ih _ b)
theorem bl'{l:OpenLaw}{n:Nat}(hn:l.most=some n){P:Params}{h:Heap}{args:List WData}{vals:List Value}
  (DV:l.row.toRowW.claim.pre args=true) (R4:WellAll P h vals args) :
  ∃ a vs ns,vals=[Value.ref a]/\args=[WData.list (ns.map WData.int)]/\h.get? a=some { cls:=.type "list",data:=.seq vs.toArray }/\IntsAre vs ns/\ns.length<=n:=by
 have IE:WShape.hasAll [] args [.list .int]=true:=(pre_splitW DV).1
 have hc:l.pre.holds [] { args:=args }=true:=(pre_splitW DV).2
 obtain⟨d,r,rfl,h1,h2⟩:=hasAllW_cons IE
 obtain rfl:=hasAllW_nil h2
 obtain⟨xs,rfl,h3⟩:=hasW_list h1
 obtain⟨ns,rfl⟩:=items_int h3
 have hlen:ns.length<=n:=by
  unfold OpenLaw.pre at hc
  have h4:(WTm.not (.lt (.lit (.int (n:Int))) (.len (.arg 0)))).holds [] { args:=[.list (ns.map .int)] }=true:=by
   have h4:=(holds_andW hc).1
   rw[hn] at h4
   exact h4
  have h5:=condW_of h4 (w_not (w_lt w_lit (w_len_list (w_arg rfl))))
  rw[cK] at h5
  refine pz fun q=>?_
  have q':(n:Int)<((ns.length:Nat):Int):=by lia
  first
   | (rw[decide_eq_true q'] at h5;exact absurd h5 (by decide))
   | (simp at h5;lia)
 cases R4 with
 |cons w1 w2 =>
  cases w2
  cases w1 with
  |list ho oI=>exact⟨_,_,ns,rfl,rfl,ho,bk' ns _ oI,hlen⟩
theorem bm'(l:OpenLaw)(args:List WData):l.row.toRowW.claim.post args (.bool true) args=true :=
 postW_of (r:=l.row.toRowW) (X:=(true == true))
  (show WShape.has [] (.bool true) .bool=true by first|rfl|decide|simp[WShape.has,WShape.arms,WShape.armsAll])
  (show(WTm.eq .res (.lit (.bool true))).value [] { args:=args,res:=some (.bool true),after:=args }=some (.bool (true == true)) from w_eq_bool (w_res rfl) w_lit) rfl
theorem bn'{l:OpenLaw}{n:Nat}{q:Program}{loose:List Str}{XP:(Str->Option Value)->Heap->Prop}{YP:World->Heap->Prop}{d:DefRec}
  (hn:l.most=some n) (MT:d.params.defaults=[])
  (call:∀ (w:World) (eK dS:Shared) (mg mb:Str->Option Value) (fa:Addr) (o:Obj) (pm cd doc:Value) (a:Addr) (vs:List Value) (ns:List Int),
   Ground q loose [] XP w eK mg mb dS.heap->YP w dS.heap ->
   dS.heap.get? fa=some o->o.data=.func (docDef d.name d.params d.body d.scope pm cd doc)->dS.heap.CodeRec cd d.name->mg d.name=some (.ref fa) ->
   dS.heap.get? a=some { cls:=.type "list",data:=.seq vs.toArray }->IntsAre vs ns->ns.length<=n->dS.gens = #[] ->
   codeAny (model l.prog w) callerA (.call (.ref fa) ⟨[.ref a],[]⟩) (fun r s'=>r=.ok (.ret (.bool true))/\OldK dS.heap s'.heap/\s'.os=dS.os/\AllBare s'.gens) dS) :
  WalkO q loose XP YP l.row.toRowW d [] (fun f vs=>PySem.call f vs):=by
 intro w eK dS mg mb G Y fa o pm cd doc dV kV ho hd ox hD MV hg args vals as DV hlay hrd R4 DZ
 obtain rfl:dV=.none:=Dflts.none hD MT
 obtain rfl:kV=.none:=Dflts.noKw hD
 obtain⟨a,vs,ns,rfl,rfl,R5,hints,hlen⟩:=bl' hn DV R4
 refine enter_call (codeAny_mono (call w eK dS mg mb fa o pm cd doc a vs ns G Y ho (fd_plain hd) ox MV R5 hints hlen hg) fun r s' hq=>?_)
 obtain⟨rfl,h2,h3,h4⟩:=hq
 exact⟨.inl ⟨.bool true,.bool true,[],rfl,fun _=>rfl,.bool true,bm' l _,fun _=>⟨List.Pairwise.nil,fun _ hm=>(nomatch hm)⟩⟩,h2,h3,h4⟩
end V8
namespace L2
open PySem PySem.Spec PyProof.Rows
theorem V9:∀ {vs:List Value} {ns:List Int},IntsAre vs ns->Vals (ns.map V.int) vs
 |_,_,.nil=>.nil
 |_,_,.cons n t h=>.cons ⟨t,rfl⟩ (V9 h)
def Only(H:Hp):Prop:=∀ b,H b=none\/∃ o xs,H b=some (.mG o (.lst xs))
theorem bo'{P:Program}{w:World}{K:PySem.W.Frag}{mg mb:Str->Option Value}{CX:xI}{k:Nat}{fa a:Addr}{fd:FuncData}{x:Str}{sp:Sp}{dS:Shared}{vs:List Value}{ns:List Int}
  (KX:K.In dS.heap) (V_:dS.heap.Ns mainGlobals mg) (hb:dS.heap.Ns builtinsNs mb) (Ap:∀ x:Str,x ≠ "__name__"->mb x=bootBuiltins x) (bp':dS.heap.NoLimit) (hg:dS.gens = #[])
  (ha:dS.heap.get? a=some { cls:=.type "list",data:=.seq vs.toArray }) (hi:IntsAre vs ns) (hl:ns.length<=sizeLine) (hr:ku k callerA)
  (F:∀ base:Heap,K.In base->base.Ns mainGlobals mg->gE P w K mg base CX k fa fd [x] sp) (bq':∀ (s:Shared) (u:Value),BindsTo s fd ⟨[u],[]⟩ [(x,u)])
  (z5:∀ H:Hp,Only H->dQ K H a (ns.map V.int)->sp [.ref a] H (fun v _=>v=.bl true) fun _ _ _=>False)
  (R6:∀ H e s',CX [] H dS (fun _ _ _=>False) e s'->False) :
  codeAny (model P w) callerA (.call (.ref fa) ⟨[.ref a],[]⟩) (fun r s'=>r=.ok (.ret (.bool true))/\OldK dS.heap s'.heap/\s'.os=dS.os/\AllBare s'.gens) dS:=by
 have rv:=V9 hi
 have bs':=hi.length
 -- from an abstract heap in which nothing but the script may be tracked
 have core:∀ H:Hp,Only H->dQ K H a (ns.map V.int)->fE P w H dS.heap->(∀ b,H b≠none->b=a)->(H a≠none->K.lookup a=none) ->
   codeAny (model P w) callerA (.call (.ref fa) ⟨[.ref a],[]⟩) (fun r s'=>r=.ok (.ret (.bool true))/\OldK dS.heap s'.heap/\s'.os=dS.os/\AllBare s'.gens) dS:=by
  intro H hO hS aT hA hK
  have Wa:∀ {b:Addr} {o:Obj},dS.heap.get? b=some o->H b=none->(A5 dS.heap H).get? b=some o:=fun e n=>YR e n
  have MP:∀ {b:Addr} {o:Obj} {es:Array DictEntry} {ep:Nat},dS.heap.get? b=some o->o.data=.dict es ep->H b=none:=fun {b o es ep} e d=>by
   cases q:H b with
   |none=>rfl
   |some u =>
    have e':b=a:=hA b (by rw[q];simp)
    subst e'
    rw[ha] at e;cases e
    have d':Data.seq vs.toArray _=Data.dict es ep:=d
    cases d'
  have Pp:∀ {b:Addr} {m:Str->Option Value},dS.heap.Ns b m->(A5 dS.heap H).Ns b m:=fun {b m} ⟨o,es,ep,e,d,r⟩=>⟨o,es,ep,Wa e (MP e d),d,r⟩
  have Wb:K.In (A5 dS.heap H):=fun b o e=>Wa (KX b o e) (by
   cases q:H b with
   |none=>rfl
   |some u =>
    have e':b=a:=hA b (by rw[q];simp)
    subst e'
    rw[hK (by rw[q];simp)] at e;cases e)
  have hM:Mod K mg (A5 dS.heap H):=⟨Wb,Pp V_,⟨mb,Pp hb,Ap⟩,let ⟨mc,h1,h2⟩:=bp';⟨mc,Pp h1,h2⟩⟩
  have e0:O9 P w K mg (A5 dS.heap H) callerA [] dS H:=⟨rfl,hM,fun b o e=>YS e,HC (YQ _ _),trivial,fun b hb=>absurd (show b∈([]:List Addr) from hb) (by simp),aT,.of_eq hg⟩
  refine codeAny_mono ((F _ Wb (Pp V_)).run callerA [] dS H ⟨[.ref a],[]⟩ [.ref a] [.ref a] _ _ hr e0 (bq' dS (.ref a)) (.cons rfl .nil) (z5 H hO hS)) fun r s' h=>?_
  cases r with
  |error e=>exact(R6 H e s' h).elim
  |ok fl =>
   cases fl with
   |next=>exact False.elim h
   |brk=>exact False.elim h
   |cont=>exact False.elim h
   |ret u =>
    obtain⟨v,H',os,bare,un,bt',r',q⟩:=h
    have q':v=.bl true:=q
    subst q'
    obtain rfl:u=Value.bool true:=r'
    refine⟨rfl,OldK.of_keep fun b o e=>?_,os,bare⟩
    cases q:H b with
    |none=>exact un.keep b o e q (by intro z;exact absurd (show b∈([]:List Addr) from z) (by simp)) (by simp)
    |some u =>
     rcases hO b with z|⟨ob,xs,z⟩
     ·rw[q] at z;cases z
     ·have z2:=un.sF b ob _ z
      obtain⟨e1,_⟩:=aT b _ z
      obtain⟨e2,_⟩:=bt' b _ z2
      rw[e] at e1;cases e1
      exact e2
 cases hk:K.lookup a with
 |some o =>
  -- the script is one of the module's own objects
  have e:=KX a o hk
  rw[ha] at e
  cases e
  refine core (fun _=>none) (fun _=>.inl rfl) (.inr ⟨_,vs.toArray,_,hk,rfl,rfl,rfl,by rw[kf,bs'];exact hl,by simpa using rv⟩) (fun b u z=>by have z':(none:Option HO)=some u:=z;cases z') (fun b z=>absurd rfl z) fun z=>absurd rfl z
 |none =>
  refine core (fun b=>if b=a then some (.mG { cls:=.type "list",data:=.seq vs.toArray } (.lst (ns.map V.int))) else none) (fun b=>?_) (.inl (.inr ⟨{ cls:=.type "list",data:=.seq vs.toArray },if_pos rfl⟩)) (fun b u z=>?_) (fun b z=>?_) fun _=>hk
  ·by_cases hb:b=a
   ·exact .inr ⟨_,_,if_pos hb⟩
   ·exact .inl (if_neg hb)
  ·by_cases hb:b=a
   ·have z':=(if_pos hb).symm.trans z
    cases z'
    subst hb
    exact⟨ha,by rw[cK];exact hl,vs,_,rv,ha⟩
   ·have z':=(if_neg hb).symm.trans z
    cases z'
  ·by_cases hb:b=a
   ·exact hb
   ·exact absurd (if_neg hb) z
theorem bu'{l:PySem.W.OpenLaw}{n k:Nat}{q:Program}{loose:List Str}{XP:(Str->Option Value)->Heap->Prop}{YP:World->Heap->Prop}{d:DefRec}{K:Params->PySem.W.Frag}{CX:World->xI}{sp:World->Sp}{x:Str}
  (hn:l.most=some n) (IG:n<=sizeLine) (MT:d.params.defaults=[]) (hr:ku k callerA)
  (hY:∀ (w:World) (h:Heap),YP w h->(K w.params).In h)
  (F:∀ (w:World) (mg:Str->Option Value) (fa:Addr) (h:Heap),(K w.params).In h->h.Ns mainGlobals mg->mg d.name=some (.ref fa) ->
   ∃ fd:FuncData,(∀ (s:Shared) (u:Value),BindsTo s fd ⟨[u],[]⟩ [(x,u)]) /\
    ∀ base:Heap,(K w.params).In base->base.Ns mainGlobals mg->gE l.prog w (K w.params) mg base (CX w) k fa fd [x] (sp w))
  (z5:∀ (w:World) (H:Hp) (a:Addr) (ns:List Int),ns.length<=n->Only H->dQ (K w.params) H a (ns.map V.int)->sp w [.ref a] H (fun v _=>v=.bl true) fun _ _ _=>False)
  (R6:∀ (w:World) (H:Hp) (s:Shared) (e:Value) (s':Shared),CX w [] H s (fun _ _ _=>False) e s'->False) :
  PySem.W.WalkO q loose XP YP l.row.toRowW d [] (fun f vs=>PySem.call f vs):=by
 refine V8.bn' hn MT fun w eK dS mg mb fa o pm cd doc a vs ns G Y ho hd ox MV R5 hints hlen hg=>?_
 have KX:=hY w _ Y
 obtain⟨fd,hb,hF⟩:=F w mg fa _ KX G.T.g MV
 exact bo' KX G.T.g G.T.b G.T.builtins G.T.nolimit hg R5 hints (iN hlen IG) hr hF hb (fun H hO hS=>z5 w H a ns hlen hO hS) fun H e s'=>R6 w H dS e s'
def kz(s:Stmt):Arguments:=match s with
 |.FunctionDef _ a _ _ _ _ _ _ _ _=>a
 |_=>{ posonlyargs:=[],args:=[],vararg:=none,kwonlyargs:=[],kw_defaults:=[],kwarg:=none,defaults:=[] }
def hJ(s:Stmt):List Stmt:=match s with
 |.FunctionDef _ _ b _ _ _ _ _ _ _=>b
 |_=>[]
def b6(s:Stmt):Scope:=match s with
 |.FunctionDef _ _ _ _ _ _ sc _ _ _=>sc
 |_=>{ kind:=.function,names:=[],isGenerator:=false,isCoroutine:=false }
abbrev js:xI:=fun _ _ _ _ _ _=>False
abbrev E0:XK:=fun _ _ _=>False
theorem bv'{X:Cx}:Passes js X E0:=fun _ _ _ _ _ _ _ h=>h.elim
structure gX(K:PySem.W.Frag)(x qual:Str)(st:Stmt)(f:Addr)(fd:FuncData):Prop where
 ex:∃ (oc:Value) (od:Option Addr) (kV doc pm:Value) (an:Option Addr) (cy ct:Value) (Bi:Array (Option Value)),
  fd=PySem.W.fnOf x qual (kz st) (hJ st) (b6 st) .none kV doc pm an cy ct/\K.lookup f=some ⟨oc,od,.func fd,Bi⟩/\PySem.W.codeIn K cy qual=true
 kp:PySem.W.keepIn K (.ref f)=true
section
variable {P:Program}{w:World}{K:PySem.W.Frag}{mg:Str->Option Value}{base:Heap}
theorem gX.ok{x qual:Str}{st:Stmt}{f:Addr}{fd:FuncData}{N ps:List Str}{k:Nat}{sp:Sp}(F:gX K x qual st f fd)(S:kK N ps (b6 st))(len:∀ vs H Q E,sp vs H Q E->vs.length=ps.length)
  (Bn:∀ (cy:Value) (A:Around) (outer:List Env) (s:Shared) (H:Hp) (vs:List V) (Q:VK) (E:XK),ku k (A.deeper (envOfC qual (b6 st) s.heap.objs.size f cy))->sp vs H Q E ->
   ∃ t,mP (sM js P w K mg base N qual (b6 st) f cy A outer s H E).MD (hJ st) t/\t { nx:=fun _ H'=>Q .non H',rt:=Q } (start N vs) H):gE P w K mg base js (k+1) f fd ps sp:=by
 obtain⟨oc,od,kV,doc,pm,an,cy,ct,Bi,rfl,lk,ox⟩:=F.ex
 refine VR lk ox S len fun A outer s H vs Q E hr z5=>?_
 obtain⟨t,h,q⟩:=Bn cy A outer s H vs Q E hr z5
 exact⟨t,h.MD,q⟩
theorem gX.binds{x qual:Str}{st:Stmt}{f:Addr}{fd:FuncData}{ps:List Str}(F:gX K x qual st f fd)
  (h:∀ (kV doc pm:Value) (an:Option Addr) (cy ct:Value) (us:List Value),us.length=ps.length->bindArgs (PySem.W.fnOf x qual (kz st) (hJ st) (b6 st) .none kV doc pm an cy ct) ⟨us,[]⟩=pure (ps.zip us)):Binds K fd ps []:=by
 obtain⟨oc,od,kV,doc,pm,an,cy,ct,Bi,rfl,lk,ox⟩:=F.ex
 exact .all (h kV doc pm an cy ct)
theorem n4{x qual:Str}{st:Stmt}{f:Addr}{oc:Value}{od an:Option Addr}{Bi:Array (Option Value)}{kV doc pm cy ct:Value}(l:K.lookup f=some ⟨oc,od,.func (PySem.W.fnOf x qual (kz st) (hJ st) (b6 st) .none kV doc pm an cy ct),Bi⟩)
  (c:PySem.W.codeIn K cy qual=true) (k:PySem.W.keepIn K (.ref f)=true):gX K x qual st f (PySem.W.fnOf x qual (kz st) (hJ st) (b6 st) .none kV doc pm an cy ct):=⟨⟨oc,od,kV,doc,pm,an,cy,ct,Bi,rfl,l,c⟩,k⟩
end
section
variable {X:Cx}
theorem pv (i:Nat) {x:Str} {pos:Pos} (hN:X.N[i]? = some x:=by rfl) (hv:My X.env.scope x:=by first|exact Or.inl rfl|exact Or.inr (Or.inl rfl)|exact Or.inr (Or.inr rfl)) (hd:(x == ("__debug__" : Str))=false:=by decide)
  (ox:(x == ("__classdict__" : Str))=false:=by decide):PE X (.Name x pos) (DJ i):=Ro hN hv hd ox
end
def aC(H H':Hp):Prop:=∀ b o,H b=some o->H' b=some o
theorem aC.refl(H:Hp):aC H H:=fun _ _ h=>h
theorem aC.trans{H H1 H2:Hp}(a:aC H H1)(b:aC H1 H2):aC H H2:=fun c o h=>b c o (a c o h)
theorem aC.free{H H':Hp}(e:aC H H'){l:Addr}(h:H' l=Option.none):H l=Option.none:=by
 cases q:H l with
 |none=>rfl
 |some o =>
  rw[e l o q] at h
  cases h
theorem aC.seq{K:PySem.W.Frag}{H H':Hp}{a:Addr}{xs:List V}(e:aC H H')(h:dQ K H a xs):dQ K H' a xs:=by
 rcases h with(h|⟨o,h⟩)|h
 ·exact .inl (.inl (e _ _ h))
 ·exact .inl (.inr ⟨o,e _ _ h⟩)
 ·exact .inr h
end L2
set_option maxHeartbeats 4000000
namespace L2
open PySem PySem.Spec PyProof.Rows
def rS(env:Env):List (Str × NameKind)->List (Str × Addr)->List (Str × Addr)
 |[],cs=>cs
 | (n,k) :: r,cs=>rS env r (if k == NameKind.free then (n,(env.cells.lookup n).getD 0) :: cs else cs)
theorem h_(env:Env):∀ (names:List (Str × NameKind)) (cs:List (Str × Addr)),(∀ y∈names,y.2=.free->∃ c,env.cells.lookup y.1=some c) ->
  (forIn names cs fun x r=>match x with
   | (name,kind)=>if (kind == NameKind.free)=true then do let a <- cellOf env name;pure (ForInStep.yield ((name,a) :: r)) else pure (ForInStep.yield r):Sem (List (Str × Addr)))=pure (rS env names cs)
 |[],cs,_=>rfl
 | (n,k) :: r,cs,h=>by
  rw[List.forIn_cons]
  have ih:=h_ env r
  by_cases hk:k=.free
  ·subst hk
   obtain⟨c,e⟩:=h (n,.free) cf rfl
   have e:env.cells.lookup n=some c:=e
   have e2:cellOf env n=pure c:=by unfold cellOf;rw[e]
   have e3:rS env ((n,.free) :: r) cs=rS env r ((n,c) :: cs):=by
    show rS env r (if (NameKind.free == NameKind.free)=true then (n,(env.cells.lookup n).getD 0) :: cs else cs)=_
    rw[e];rfl
   rw[e3,<- ih ((n,c) :: cs) fun y hy=>h y (cc _ hy)]
   simp only[beq_self_eq_true,if_true,e2]
   rfl
  ·have hb:(k == NameKind.free)=false:=by simpa using hk
   have e3:rS env ((n,k) :: r) cs=rS env r cs:=by
    show rS env r (if (k == NameKind.free)=true then _ else cs)=_
    rw[hb];rfl
   rw[e3,<- ih cs fun y hy=>h y (cc _ hy)]
   simp only[hb,gu,if_false]
   rfl
theorem oM{scope:Scope}{env:Env}(h:∀ y∈scope.names,y.2=.free->∃ c,env.cells.lookup y.1=some c):closureFor scope env=pure (rS env scope.names []):=by
 have:=h_ env scope.names [] h
 unfold closureFor
 rw[<- bind_pure (forIn scope.names [] _)] at this
 exact this
theorem oK{env:Env}{x:Str}{c:Addr}:∀ {names:List (Str × NameKind)} {cs:List (Str × Addr)},(∀ y∈names,y.2=.free->∃ c,env.cells.lookup y.1=some c)->(∀ y d,cs.lookup y=some d->env.cells.lookup y=some d) ->
  (rS env names cs).lookup x=some c->env.cells.lookup x=some c
 |[],cs,_,h,e=>h x c e
 | (n,k) :: r,cs,hf,h,e=>by
  refine oK (names:=r) (fun y hy=>hf y (cc _ hy)) ?_ e
  intro y d hd
  by_cases hk:k=.free
  ·subst hk
   obtain⟨c',e'⟩:=hf (n,.free) cf rfl
   have e':env.cells.lookup n=some c':=e'
   simp only[beq_self_eq_true,if_true,e',Option.getD_some,QZ] at hd
   cases hb:y == n with
   |true=>rw[hb] at hd;have:y=n:=eq_of_beq hb;subst this;rw[e'];exact hd
   |false=>rw[hb] at hd;exact h y d hd
  ·have hb:(k == NameKind.free)=false:=by simpa using hk
   simp only[hb,gu,if_false] at hd
   exact h y d hd
theorem jQ{env:Env}{x:Str}:∀ {names:List (Str × NameKind)} {cs:List (Str × Addr)},((x,NameKind.free)∈names\/∃ c,cs.lookup x=some c)->∃ c,(rS env names cs).lookup x=some c
 |[],cs,h=>by
  rcases h with h|h
  ·exact nomatch h
  ·exact h
 | (n,k) :: r,cs,h=>by
  refine jQ (names:=r) ?_
  rcases h with h|⟨c,h⟩
  ·rcases cS.mp h with e|h
   ·cases e
    refine .inr ⟨(env.cells.lookup x).getD 0,?_⟩
    simp only[beq_self_eq_true,if_true,QZ]
   ·exact .inl h
  ·refine .inr ?_
   by_cases hk:(k == NameKind.free)=true
   ·simp only[hk,if_true,QZ]
    cases hb:x == n with
    |true=>exact⟨_,rfl⟩
    |false=>exact⟨c,h⟩
   ·simp only[hk,if_false]
    exact⟨c,h⟩
def bj(X:Cx)(scope:Scope)(C:Addr)(N:List Str)(fp:List Addr)(fI:Shared)(g0:Hp):Cx :=
 { X with N:=N,eK:=fI,xC:=g0,env:=compEnvC scope (rS X.env scope.names []) C X.env,outer:=X.stack,stack:=X.stack,ex:=fp,fn:=fun _=>false,pn:=[],xe:=fun _ _=>False }
def Au(X:Cx)(ifs:List Expr)(t:TT):Prop :=
 ∀ (pins:List (Addr × Obj)) (s:Shared) (σ:St) (H:Hp) (Q:Bool->Hp->Prop),Inv X pins σ H s->t σ H Q ->
  wpAny (model X.prog X.w) X.A (forIn ifs true fun c r=>if r=true then do let ok <- isTrue c X.env (eval c X.env);pure (ForInStep.yield ok) else pure (ForInStep.yield r)) (TP X pins σ Q) X.xe s
def bw':TT:=fun _ H Q=>Q true H
theorem Ex{X:Cx}:Au X [] bw':=fun _ _ _ H _ I h=>wpAny_tests_nil ⟨H,I,h⟩
theorem Dn{X:Cx}{c:Expr}{t:TT}(h:PT X c t):Au X [c] t:=fun pins s σ H Q I hw=>wpAny_tests_one (h pins s σ H Q I hw)
theorem fZ{prog:Program}{w:World}{A:Around}{R:Result->Shared->Prop}{s:Shared}{elt target iter:Expr}{ifs:List Expr}{scope:Scope}{pos:Pos}{it acc:Value}{env:Env}(I:Nat->Shared->Prop)(E:Value->Shared->Prop)
  (turn:∀ n s,I n s->wpAny (model prog w) A (pyNext it) (fun r dS=>match r with
   |none=>R (.ok .next) dS
   |some v=>wpAny (model prog w) A (letOwnedTupleGo target it v) (fun _ eK=>wpAny (model prog w) A (assign target env v) (fun _ E3 =>
     wpAny (model prog w) A (forIn ifs true fun c r=>if r=true then do let ok <- isTrue c env (eval c env);pure (ForInStep.yield ok) else pure (ForInStep.yield r)) (fun ok fI =>
      if ok=true then wpAny (model prog w) A (eval elt env) (fun x Wc =>
       wpAny (model prog w) A (call (.builtin "list.append") [acc,x]) (fun _ Wd=>∃ m,m<n/\I m Wd) E Wc) E fI
      else ∃ m,m<n/\I m fI) E E3) E eK) E dS) E s)
  (hE:∀ e s',E e s'->notedBy (model prog w) A env (fun e s'=>R (.error e) s') e s')
  (n:Nat) (h:I n s) :
  codeAny (model prog w) A (.compLoop (.ListComp elt [⟨target,iter,ifs,0⟩] scope pos) 0 it acc env) R s:=by
 refine codeAny_loop rfl I (fun n s hI=>?_) n h
 show wpAny _ A ((compTurn (.ListComp elt [⟨target,iter,ifs,0⟩] scope pos) 0 it acc env).onRaise (fun x=>do noteFrame x env;theTreesLotGoes x)) _ _ s
 refine wpAny_noted ?_
 rw[compTurn_list]
 refine pj (Q:=_) (E:=E) ?_ (fun _ _ q=>q) hE
 refine ai (wpAny_standAt (ai (pj (turn n s hI) (fun r dS MX=>?_) fun _ _ h'=>h')))
 cases r with
 |none=>exact aS MX
 |some v =>
  refine ai (pj MX (fun _ eK h₀=>?_) fun _ _ h'=>h')
  refine ai (pj h₀ (fun _ E3 bx'=>ai (pj bx' (fun ok fI Wg=>?_) fun _ _ h'=>h')) fun _ _ h'=>h')
  cases ok with
  |false=>exact aS ⟨rfl,Wg⟩
  |true =>
   exact ai (ai (pj Wg (fun x Wc by'=>ai (pj by' (fun _ Wd bz'=>aS (aS ⟨rfl,bz'⟩)) fun _ _ h'=>h')) fun _ _ h'=>h'))
def n_(tn:Nat)(ix:List Nat)(σ:St):St:=List.replicate tn none++ix.map fun j=>(σ[j]?).join
def yl(wi:TI)(g:TG)(tc:TT)(te:TE)(tn:Nat)(ix:List Nat):TE:=fun σ H Q=>wi σ H fun J H1=>∀ D,H1 D=none ->
 ∃ W:Nat->Nat->St->Hp->Prop,(∃ m,W 0 m (n_ tn ix σ) (upd H1 D (.lst [])))/\∀ i m τ H,W i m τ H ->
  (J.stop i H/\Q (.ref D) H)\/(J.go i H/\∃ (N1:St->V->Hp->Prop) (N2:St->Hp->Prop),
   (∀ lS v H4,N1 lS v H4->∃ ys m',H4 D=some (.lst ys)/\ys.length<sizeLine/\m'<m/\W (i+1) m' lS (upd H4 D (.lst (ys++[v])))) /\
   (∀ lS H3,N2 lS H3->∃ m',m'<m/\W (i+1) m' lS H3) /\
   ∀ x H',J.ny i H x H'->g x τ H' fun lS H2=>tc lS H2 fun b H3=>if b=true then te lS H3 (N1 lS) else N2 lS H3)
section
variable {X:Cx}{tg iter elt:Expr}{ifs:List Expr}{scope:Scope}{pos:Pos}{wi:TI}{g:TG}{tc:TT}{te:TE}{tn cn:List Str}{ix:List Nat}
structure bY(X:Cx)(scope:Scope)(tn cn:List Str)(ix:List Nat):Prop where
 kind:scope.kind=.function
 bA':∀ y∈scope.names,y.2≠.cell
 free:∀ y∈scope.names,y.2=.free->X.env.scope.names.lookup y.1=some .cell\/X.env.scope.names.lookup y.1=some .free
 names:∀ y∈scope.names,y.2=.local->scope.names.lookup y.1=some .local
 len:ix.length=cn.length
 cap:∀ (k j:Nat),ix[k]? = some j->∃ y,cn[k]? = some y/\X.N[j]? = some y/\(X.env.scope.names.lookup y=some .cell\/X.env.scope.names.lookup y=some .free)/\(y,NameKind.free)∈scope.names /\
  ((relabel scope X.env).names.lookup y=some .cell\/(relabel scope X.env).names.lookup y=some .free)
 all:∀ x,(relabel scope X.env).names.lookup x=some .cell\/(relabel scope X.env).names.lookup x=some .free->(x,NameKind.free)∈scope.names
theorem yr{pins:List (Addr × Obj)}{σ:St}{H:Hp}{s:Shared}{fp:List Addr}{C:Addr}(O:bY X scope tn cn ix)(I:Inv X pins σ H s)(hf:∀ b∈fp,wd X pins H b)(hfs:∀ b∈fp,b<s.heap.objs.size)(hC:s.heap.objs.size<=C) :
  (bj X scope C (tn++cn) fp s H).Ok:=by
 have uk:∀ y∈scope.names,y.2=.free->∃ c,X.env.cells.lookup y.1=some c:=fun y hy hk=>I.ok.has y.1 (O.free y hy hk)
 have sub:∀ x c,(rS X.env scope.names []).lookup x=some c->X.env.cells.lookup x=some c:=fun x c e=>oK uk (fun y d h=>by simp at h) e
 refine⟨I.ok.mod,O.kind,I.ok.glob,I.ok.blt,hC,fun x y c h1 h2=>I.ok.inj x y c (sub x c h1) (sub y c h2),fun x hx=>jQ (.inl (O.all x hx)),(fun x c h _=>nomatch h),I.ok.hd,I.ok.frames,.inl rfl,fun b hb=>⟨?_,fun x c e=>?_⟩,
  I.bs,iN I.ok.uj I.sz,fun b o e hb=>?_,fun b hb=>?_,I.stack,I.Rh⟩
 ·exact eI (kP (hfs b hb) hC)
 ·exact(hf b hb).2.2.2.2.1 x c (sub x c e)
 ·rcases (hf b hb).2.2.2.1 with z|z
  ·exact I.ok.zC b o e z
  ·exact absurd (kP (dk e) (iN I.ok.uj z)) (pE _)
 ·intro hz
  rcases cS.mp (I.Rg b hz) with e|e
  ·exact(hf b hb).2.1 e
  ·exact(hf b hb).2.2.1 e
theorem tL{bC':Pos}{use:Option (Value->Sem Unit)}{P:Value->Shared->Prop}(hc:X.calm=true)(hi:PI X tg iter wi)(O:bY X scope tn cn ix)
  (hg:∀ C fp fI g0,PG (bj X scope C (tn++cn) fp fI g0) tg g) (oB:∀ C fp fI g0,Au (bj X scope C (tn++cn) fp fI g0) ifs tc) (he:∀ C fp fI g0,PE (bj X scope C (tn++cn) fp fI g0) elt te)
  (hs:∀ x,foldedSetIterable iter X.env x=pure x) {pins:List (Addr × Obj)} {s:Shared} {σ:St} {H:Hp} {Q:V->Hp->Prop} (I:Inv X pins σ H s) (h:yl wi g tc te tn.length ix σ H Q)
  (fin:∀ (C D:Addr) (m:Str->Option Value) (H5:Hp) (s6:Shared) (r:Flow),Inv X pins σ H5 s6->s6.heap.Ns C m->H5 C=none->wd X pins H5 C->Q (.ref D) H5->compPost (model X.prog X.w) X.A X.xe use P (.ref D) C (.ok r) s6) :
  wpAny (model X.prog X.w) X.A (comprehension (.ListComp elt [⟨tg,iter,ifs,0⟩] scope pos) scope X.env bC' (newList []) false (eval iter X.env) use) P X.xe s:=by
 have uk:∀ y∈scope.names,y.2=.free->∃ c,X.env.cells.lookup y.1=some c:=fun y hy hk=>I.ok.has y.1 (O.free y hy hk)
 have sub:∀ x c,(rS X.env scope.names []).lookup x=some c->X.env.cells.lookup x=some c:=fun x c e=>oK uk (fun y d h=>by simp at h) e
 refine wpAny_comprehension_free (use:=use) rfl hs (oM uk) O.kind O.names (cq (hi pins s σ H _ I h) fun v s1 h1=>cq h1 fun Rw s2 h2=>?_)
 obtain⟨it,fp,Pq,J,H2,e,I2,T,wm,f2,h2⟩:=h2
 subst e
 obtain⟨W,⟨m0,w0⟩,turn⟩:=h2 s2.heap.objs.size (I2.aT.fresh (bT _))
 refine wpAny_newObj_type ?_
 have I3:Inv X pins σ (upd H2 s2.heap.objs.size (.lst [])) { s2 with heap:=s2.heap.push { cls:=.type "list",data:=.seq ([]:List Value).toArray } }:=I2.RW (its:=[]) (t':=s2.toks) .nil (dz _)
 generalize hD:s2.heap.objs.size=D at *
 generalize Wh:({ s2 with heap:=s2.heap.push { cls:=.type "list",data:=.seq ([]:List Value).toArray } }:Shared)=s3 at *
 have k23:∀ b o,s2.heap.get? b=some o->s3.heap.get? b=some o:=fun b o e=>by rw[<- Wh];exact eW _ e
 have sz3:s3.heap.objs.size=D+1:=by rw[<- Wh,<- hD];exact Heap.size_push ..
 have f3:∀ b∈fp,wd X pins (upd H2 D (.lst [])) b:=fun b hb=>by
  obtain⟨f0,fr⟩:=f2 b hb
  obtain⟨o,ho,_⟩:=T.obj _ _ wm b hb
  refine⟨?_,fr⟩
  rw[eJ (eI (by rw[<- hD];exact dk ho))]
  exact f0
 have wo:Pq 0 s3.heap:=T.keep _ _ _ wm fun b hb o e=>k23 b o e
 have lt3:∀ b∈fp,b<s3.heap.objs.size:=fun b hb=>by
  obtain⟨o,ho,_⟩:=T.obj _ _ wo b hb
  exact dk ho
 refine wpAny_newFunctionEnv O.bA' (by intro y hy;simp at hy) (fun MX bF' bG'=>?_) O.kind
 have E6:∀ b o,s3.heap.get? b=some o->MX.get? b=some o:=fun b o e=>bG'.extBut b o (eI (dk e)) (eW _ e)
 -- the block's context
 have Pt:=yr (C:=s3.heap.objs.size) O I3 f3 lt3 (bT _)
 have I4:Inv (bj X scope s3.heap.objs.size (tn++cn) fp s3 (upd H2 D (.lst []))) [] (n_ tn.length ix σ) (upd H2 D (.lst [])) { s3 with heap:=MX,toks:=s3.toks+([]:List (Str × Value)).length }:=by
  refine⟨Pt,rfl,I3.bare,Un.kept E6,⟨_,bF',fun i x v e1 e2 e3=>?_⟩,fun x c e=>?_,I3.aT.fresh (bT _),fun x c e=>I3.nV x c (sub x c e),fun p hp=>absurd hp (by simp[bj]),I3.aT.kept E6,?_⟩
  ·have kA:tn.length<=i:=by
    by_cases q:i<tn.length
    ·unfold n_ at e2
     rw[EG (by simpa using q),QJ] at e2
     simp[q] at e2
    ·exact pz ‹_›
   unfold n_ at e2
   rw[y6 (by simpa using kA),QL,kN] at e2
   have e1:(tn++cn)[i]? = some x:=e1
   rw[y6 kA] at e1
   cases q:ix[i-tn.length]? with
   |none=>rw[q] at e2;cases e2
   |some j =>
    rw[q] at e2
    obtain⟨y,c1,c2,c3,c4,c5⟩:=O.cap _ _ q
    rw[c1] at e1;cases e1
    have e2:σ[j]?.join=some v:=Option.some.inj e2
    have ej:σ[j]? = some (some v):=by
     cases z:σ[j]? with
     |none=>rw[z] at e2;cases e2
     |some o=>rw[z] at e2;exact congrArg some e2
    obtain⟨m,hn,hl⟩:=I3.loc
    obtain⟨u,r,l⟩:=hl j x v c2 ej (c3.elim (fun z=>.inr (.inl z)) fun z=>.inr (.inr z))
    refine⟨u,r,.inr ⟨c5,?_⟩⟩
    rcases l with⟨hk,_⟩|⟨hk,c,HZ,hce⟩
    ·have hk:X.env.scope.names.lookup x=some .local:=hk
     rcases c3 with z|z
     ·rw[z] at hk;cases hk
     ·rw[z] at hk;cases hk
    ·obtain⟨c',EW⟩:=jQ (env:=X.env) (cs:=[]) (Or.inl c4)
     have:=sub x c' EW
     rw[HZ] at this;cases this
     obtain⟨o,ho,hd⟩:=hce
     exact⟨c,EW,o,E6 _ _ ho,hd⟩
  ·obtain⟨v,o,ho,hd⟩:=I3.cell x c (sub x c e)
   exact⟨v,o,E6 _ _ ho,hd⟩
  ·show(n_ tn.length ix σ).length=(tn++cn).length
   unfold n_
   simp[O.len]
 -- from the block back to the body
 have back:∀ {τ:St} {H':Hp} {s':Shared},Inv (bj X scope s3.heap.objs.size (tn++cn) fp s3 (upd H2 D (.lst []))) [] τ H' s'->Inv X pins σ H' s':=fun {τ H' s'} I' =>
  Inv.YZ (ch:=fp) I3 I'.os I'.base I'.aT I'.bare fun b hb=>by
   obtain⟨_,f1,_,f3',f4,f5⟩:=f3 b hb
   exact⟨f3',f1,f4,f5⟩
 have R7:∀ {H':Hp},(∀ b∈fp,H' b=none)->∀ b∈fp,wd (bj X scope s3.heap.objs.size (tn++cn) fp s3 (upd H2 D (.lst []))) [] H' b:=fun hn b hb =>
  ⟨hn b hb,(Pt.A7 b hb).1,Pt.zD b hb,.inl hb,(Pt.A7 b hb).2,fun p hp=>absurd hp (by simp[bj])⟩
 have loop:∀ s4:Shared,Inv (bj X scope s3.heap.objs.size (tn++cn) fp s3 (upd H2 D (.lst []))) [] (n_ tn.length ix σ) (upd H2 D (.lst [])) s4->Pq 0 s4.heap ->
   codeAny (model X.prog X.w) X.A (.compLoop (.ListComp elt [⟨tg,iter,ifs,0⟩] scope pos) 0 (.ref it) (.ref D) (compEnvC scope (rS X.env scope.names []) s3.heap.objs.size X.env))
    (compPost (model X.prog X.w) X.A X.xe use P (.ref D) s3.heap.objs.size) s4:=by
  intro s4 I4 uS
  refine fZ (fun n s'=>∃ i τ H',Inv (bj X scope s3.heap.objs.size (tn++cn) fp s3 (upd H2 D (.lst []))) [] τ H' s'/\Pq i s'.heap/\(∀ b∈fp,H' b=none)/\W i n τ H') (fun _ _=>False) ?_ (fun _ _ z=>z.elim) m0
   ⟨0,_,_,I4,uS,fun b hb=>(f3 b hb).1,w0⟩
  rintro n s5 ⟨i,τ,H5,I5,EZ,O4,w5⟩
  rcases turn i n τ H5 w5 with⟨stop,qn⟩|⟨go,N1,N2,hN1,oP,step⟩
  ·refine cq (T.done (bj X scope s3.heap.objs.size (tn++cn) fp s3 (upd H2 D (.lst []))) rfl rfl rfl hc i [] s5 τ H5 (fun _ _=>False) I5 (R7 O4) EZ stop) fun r s6 dc=>?_
   obtain⟨hr,I6⟩:=dc
   subst hr
   have J6:=back I6
   obtain⟨m,hn,_⟩:=I6.loc
   exact fin _ D m H5 s6 _ J6 hn I6.free (I3.OZ (b:=s3.heap.objs.size) (H':=H5) (bT _) I6.free) qn
  ·refine cq (T.item (bj X scope s3.heap.objs.size (tn++cn) fp s3 (upd H2 D (.lst []))) rfl rfl rfl hc i [] s5 τ H5 (fun _ _=>False) I5 (R7 O4) EZ go) fun r s6 dc=>?_
   obtain⟨u,hr,h6⟩:=dc
   subst hr
   refine cq h6 fun _ s7 dc=>?_
   obtain⟨x,H7,I7,r7,y7,R8,fr7⟩:=dc
   have I7':=I7.pinned (R7 fr7) (T.obj _ _ R8)
   refine cq (hg _ _ _ _ _ s7 τ H7 x u _ I7' r7 (step x H7 y7)) fun _ s8 dc=>?_
   obtain⟨IH,H8,I8,q8⟩:=dc
   refine cq (oB _ _ _ _ _ s8 IH H8 _ I8 q8) fun ok s9 dc=>?_
   obtain⟨H9,I9,q9⟩:=dc
   have again:∀ {s':Shared} {H':Hp} {m':Nat},Inv (bj X scope s3.heap.objs.size (tn++cn) fp s3 (upd H2 D (.lst []))) ([]++MG fp s7.heap) IH H' s'->m'<n->W (i+1) m' IH H' ->
     ∃ m,m<n/\∃ i τ H',Inv (bj X scope s3.heap.objs.size (tn++cn) fp s3 (upd H2 D (.lst []))) [] τ H' s'/\Pq i s'.heap/\(∀ b∈fp,H' b=none)/\W i m τ H':=fun {s' H' m'} J hm w'=>by
    refine⟨m',hm,i+1,IH,H',J.O3,T.keep _ _ _ R8 fun b hb o e=>(J.pin (b,o) (fh _ (fh _ (O1 hb e)))).1,fun b hb=>?_,w'⟩
    obtain⟨o,e,d⟩:=T.obj _ _ R8 b hb
    exact(J.pin (b,o) (fh _ (fh _ (O1 hb e)))).2.1
   cases ok with
   |false =>
    rw[if_neg gV] at q9 ⊢
    obtain⟨m',hm,w'⟩:=oP _ _ q9
    exact again I9 hm w'
   |true =>
    rw[if_pos rfl] at q9 ⊢
    refine cq (he _ _ _ _ _ s9 IH H9 _ I9 q9) fun x9 Wi cx=>L2.gv cx fun v10 Wj I10 R9 q10=>?_
    obtain⟨ys,m',hH,hz,hm,w'⟩:=hN1 _ _ _ q10
    refine cq (RX _ Wi IH Wj (.ref D) [v10] (.ref D) [x9] (fun _ H'=>H'=upd Wj D (.lst (ys++[v10]))) I10 rfl (.cons R9 .nil) ⟨D,ys,v10,rfl,rfl,hH,hz,rfl⟩) fun _ s11 cx=>L2.gv cx fun _ H11 I11 _ q11=>?_
    subst q11
    exact again I11 hm w'
 exact codeAny_compStart_list (loop _ I4 (T.keep _ _ _ wo fun b hb o e=>E6 b o e)) (T.self _ 0 _ _ _ (T.keep _ _ _ wo fun b hb o e=>E6 b o e) (loop _ I4 (T.keep _ _ _ wo fun b hb o e=>E6 b o e)))
theorem DN(hc:X.calm=true)(hi:PI X tg iter wi)(O:bY X scope tn cn ix)
  (hg:∀ C fp fI g0,PG (bj X scope C (tn++cn) fp fI g0) tg g) (oB:∀ C fp fI g0,Au (bj X scope C (tn++cn) fp fI g0) ifs tc) (he:∀ C fp fI g0,PE (bj X scope C (tn++cn) fp fI g0) elt te)
  (hs:∀ x,foldedSetIterable iter X.env x=pure x:=by intro _;rfl):PE X (.ListComp elt [⟨tg,iter,ifs,0⟩] scope pos) (yl wi g tc te tn.length ix):=by
 intro pins s σ H Q I h
 rw[eval_ListComp]
 refine tL (use:=none) (P:=EP X pins σ Q) hc hi O hg oB he hs I h fun C D m H5 s6 r J6 hn hf ⟨_,g1,_,g3,g4,g5⟩ qn=>⟨m,hn,fun h' R_=>⟨.ref D,H5,?_,rfl,qn⟩⟩
 exact J6.turned (t':=s6.toks) (fun b o hb e=>R_.extBut b o hb e) hf g1 g3 g4 g5
theorem uV{i:Nat}{x:Str}{pos' MY:Pos}(hN:X.N.Nodup)(ve:X.N[i]? = some x)(hx:Loc X.env.scope x)(hc:X.calm=true)(hi:PI X tg iter wi)(O:bY X scope tn cn ix)
  (hg:∀ C fp fI g0,PG (bj X scope C (tn++cn) fp fI g0) tg g) (oB:∀ C fp fI g0,Au (bj X scope C (tn++cn) fp fI g0) ifs tc) (he:∀ C fp fI g0,PE (bj X scope C (tn++cn) fp fI g0) elt te)
  (MZ:swapsWith (.ListComp elt [⟨tg,iter,ifs,0⟩] scope pos) (some (.Name x pos')) MY.line X.env=pure true)
  (hs:∀ x,foldedSetIterable iter X.env x=pure x:=by intro _;rfl) (hf:X.fn x=true\/X.env.scope.names.lookup x=some .local:=by first|exact .inl rfl|exact .inr rfl|assumption) :
  PS X (.Assign [.Name x pos'] (.ListComp elt [⟨tg,iter,ifs,0⟩] scope pos) MY) (Ru (yl wi g tc te tn.length ix) (Rq i)):=by
 intro pins s σ H D0 I h
 rw[exec_Assign_Name_used _ _ _ _ MZ]
 refine ai (wpAny_standAt (ai ?_))
 show wpAny _ _ (do let _ <- comprehension (.ListComp elt [⟨tg,iter,ifs,0⟩] scope pos) scope X.env _ (newList []) false (eval iter X.env) (some (assign (.Name x pos') X.env))) _ _ s
 refine ai (pj (tL (use:=some (assign (.Name x pos') X.env)) (P:=fun _ s'=>SP X pins D0 .next s') hc hi O hg oB he hs I h fun C D m H5 s6 r J6 hn D1 ⟨_,g1,_,g3,g4,g5⟩ qn=>?_) (fun _ s' hq=>aS (aS hq)) fun _ _ e=>e)
 refine(show wpAny _ _ (assign (.Name x pos') X.env (.ref D)) _ _ s6 from wpAny_assign_Name (Rk J6 hN ve hx (v:=.ref D) rfl (fun s7 I7 dc=>?_) hf))
 obtain⟨a,sb,ha⟩:=dc
 have hCa:C≠a:=by
  rcases ha with rfl|ha
  ·exact g1
  ·exact Ne.symm (g4 _ a ha)
 refine⟨m,hn.sameBut sb hCa,fun h' R_=>⟨_,H5,?_,qn⟩⟩
 exact I7.turned (t':=s7.toks) (fun b o hb e=>R_.extBut b o hb e) D1 g1 g3 g4 g5
end
def II (a b:String):Bool:=a == b || (a == "bool" && b == "int")
def Sb (b:String):Bool:=["str", "int", "bool", "list", "tuple", "dict"].contains b
theorem jt (K:PySem.W.Frag) (a b:String) (ha:a∈["NoneType", "bool", "int", "str", "list", "tuple", "dict"]) (hb:b∈["str", "int", "bool", "list", "tuple", "dict"]):PySem.W.kitOne K (.type a) (.type b)=some (II a b):=by
 simp only[cS,EI,or_false] at ha hb
 rcases ha with rfl|rfl|rfl|rfl|rfl|rfl|rfl<;>rcases hb with rfl|rfl|rfl|rfl|rfl|rfl<;>kernel_rfl
section
variable {X:Cx}
theorem cE.imp{f:Value->Value->Sem Value}{r r':R2}(h:cE X f r)(hi:∀ x y H Q,r' x y H Q->r x y H Q):cE X f r' :=
 fun pins s σ H x y v u Q I rx ry q=>h pins s σ H x y v u Q I rx ry (hi x y H Q q)
def Ia(K:PySem.W.Frag):R2:=fun x y H Q=>∃ l b xs zs,x=.ref l/\y=.ref b/\dQ K H l xs/\dQ K H b zs/\xs.length+zs.length<=sizeLine/\∀ p,H p=none->Q (.ref p) (upd H p (.lst (xs++zs)))
theorem Eu:cE X (binaryOp .Add) (Ia X.K):=by
 intro pins s σ H x y v u Q I rx ry h
 obtain⟨l,b,xs,zs,rfl,rfl,hH,hB,hz,q⟩:=h
 cases rx
 cases ry
 obtain⟨its,r,pl,z⟩:=I.list hH
 obtain⟨Pg,r2,pl2,z2⟩:=I.list hB
 have hl:=r.length
 have wx:=r2.length
 obtain⟨⟨cls,dd,data,sl⟩,ho,hc,n,hd⟩:=id pl.isList
 obtain⟨⟨RK,rz,data2,rL⟩,qa,xS,n2,hd2⟩:=id pl2.isList
 simp only at hc hd xS hd2
 subst hc hd xS hd2
 have ea:its.toArray++Pg.toArray=(its++Pg).toArray:=by simp
 refine concat_meets ⟨_,ho,rfl⟩ ⟨_,qa,rfl⟩ noFill_list_add seq_list_add PySem.F.slot_list_add PySem.F.entry_list_add (PySem.F.args_list_add_2 _ _) (list_addW l b its.toArray Pg.toArray n n2 dd rz sl rL (by simp only[kf];lia)) ⟨ho,qa,?_⟩
 rw[ea]
 exact⟨.ref _,_,I.RW (t':=s.toks) (r.append r2) (by rw[tS];lia),rfl,q _ I.fresh⟩
def zU(K:PySem.W.Frag):R2:=fun x y H Q=>match x,y with
 |.int i,.int j=>Q (.int (i+j)) H
 |.str i,.str j=>i.length+j.length<=sizeLine/\Q (.str (i++j)) H
 |.ref a,.ref b=>∃ xs zs,dQ K H a xs/\dQ K H b zs/\xs.length+zs.length<=sizeLine/\∀ p,H p=none->Q (.ref p) (upd H p (.lst (xs++zs)))
 |_,_=>False
theorem Ca:cE X (binaryOp .Add) (zU X.K):=by
 refine(ZK.or (Z4.or Eu)).imp fun x y H Q h=>?_
 unfold zU at h
 split at h
 ·exact .inl ⟨_,_,rfl,rfl,h⟩
 ·exact .inr (.inl ⟨_,_,rfl,rfl,h.1,h.2⟩)
 ·obtain⟨xs,zs,h1,h2,h3,h4⟩:=h
  exact .inr (.inr ⟨_,_,xs,zs,rfl,rfl,h1,h2,h3,h4⟩)
 ·exact h.elim
def Ek:R2:=fun x y H Q=>match x,y with
 |.int i,.int j=>Q (.int (i-j)) H
 |_,_=>False
theorem D_:cE X (binaryOp .Sub) Ek:=ZL.imp fun x y H Q h=>by
 unfold Ek at h
 split at h
 ·exact⟨_,_,rfl,rfl,h⟩
 ·exact h.elim
def Di:R2:=fun x y H Q=>match x,y with
 |.int i,.int j=>zS i j/\Q (.int (i*j)) H
 |_,_=>False
theorem Cq:cE X (binaryOp .Mult) Di:=ZM.imp fun x y H Q h=>by
 unfold Di at h
 split at h
 ·exact⟨_,_,rfl,rfl,h.1,h.2⟩
 ·exact h.elim
def Dv:R2:=fun x y H Q=>match x,y with
 |.int i,.int j=>(0<j/\j<1073741824)/\Q (.int (i / j)) H
 |_,_=>False
theorem DR:cE X (binaryOp .FloorDiv) Dv:=ZN.imp fun x y H Q h=>by
 unfold Dv at h
 split at h
 ·exact⟨_,_,rfl,rfl,h.1,h.2⟩
 ·exact h.elim
def BZ:R2:=fun x y H Q=>match x,y with
 |.int i,.int j=>0<j/\Q (.int (i % j)) H
 |_,_=>False
theorem Dw:cE X (binaryOp .Mod) BZ:=ZO.imp fun x y H Q h=>by
 unfold BZ at h
 split at h
 ·exact⟨_,_,rfl,rfl,h.1,h.2⟩
 ·exact h.elim
def DK:R2:=fun x y H Q=>match x,y with
 |.int i,.int j=>Iq i j/\Q (.int (i ^ j.toNat)) H
 |_,_=>False
theorem Eg:cE X (binaryOp .Pow) DK:=ZP.imp fun x y H Q h=>by
 unfold DK at h
 split at h
 ·exact⟨_,_,rfl,rfl,h.1,h.2⟩
 ·exact h.elim
def qc(x y:Str):Bool:=decide (x.cps.toList<y.cps.toList)
def Sd:R2:=fun x y H Q=>match x,y with
 |.int i,.int j=>Q (.bl (decide (i<j))) H
 |.str i,.str j=>Q (.bl (qc i j)) H
 |_,_=>False
theorem Bg:cE X (compareOp .Lt) Sd:=(ZW.or ZZ).imp fun x y H Q h=>by
 unfold Sd at h
 split at h
 ·exact .inl ⟨_,_,rfl,rfl,h⟩
 ·exact .inr ⟨_,_,rfl,rfl,h⟩
 ·exact h.elim
theorem vO:cE X (compareOp .LtE) (fun x y H Q=>∃ i j,x=.str i/\y=.str j/\Q (.bl (!qc j i)) H):=by
 intro pins s σ H x y v u Q I rx ry h
 obtain⟨i,j,rfl,rfl,q⟩:=h
 obtain⟨t,rfl⟩:=rx
 obtain⟨t',rfl⟩:=ry
 exact PySem.P.le_str ⟨.bl _,H,I,rfl,q⟩
def Se:R2:=fun x y H Q=>match x,y with
 |.int i,.int j=>Q (.bl (decide (i<=j))) H
 |.str i,.str j=>Q (.bl (!qc j i)) H
 |_,_=>False
theorem Fp:cE X (compareOp .LtE) Se:=(ZX.or vO).imp fun x y H Q h=>by
 unfold Se at h
 split at h
 ·exact .inl ⟨_,_,rfl,rfl,h⟩
 ·exact .inr ⟨_,_,rfl,rfl,h⟩
 ·exact h.elim
def Sf:R2:=fun x y H Q=>match x,y with
 |.int i,.int j=>Q (.bl (decide (j<i))) H
 |_,_=>False
theorem Gh:cE X (compareOp .Gt) Sf:=ZY.imp fun x y H Q h=>by
 unfold Sf at h
 split at h
 ·exact⟨_,_,rfl,rfl,h⟩
 ·exact h.elim
theorem Inv.rd{pins:List (Addr × Obj)}{σ:St}{H:Hp}{s:Shared}{a:Addr}{u:HO}(I:Inv X pins σ H s)(e:Rd H a u):eT X.prog X.w H s.heap a u:=e.elim (I.aT a _) fun⟨o,e⟩=>(show eT X.prog X.w H s.heap a (.mG o u) from I.aT a _ e).2
def Pu(K:PySem.W.Frag):List V->Hp->VK->Prop:=fun xs H Q=>match xs with
 |[.str y]=>y.length<=sizeLine/\Q (.int y.length) H
 |[.ref p]=>(∃ ys,dQ K H p ys/\Q (.int ys.length) H)\/(∃ ys,oy K H p ys/\Q (.int ys.length) H)\/∃ kvs,Rd H p (.dK kvs)/\Q (.int kvs.length) H
 |_=>False
theorem vG:iO X (.builtin "len") (Pu X.K):=by
 intro pins s σ H xs us Q I r h
 unfold Pu at h
 split at h
 ·exact RA pins s σ H _ us Q I r ⟨_,_,rfl,⟨h.1,rfl⟩,h.2⟩
 ·rcases h with⟨ys,h1,h2⟩|⟨ys,h1,h2⟩|⟨kvs,h1,h2⟩
  ·exact RA pins s σ H _ us Q I r ⟨_,_,rfl,.inl ⟨ys,h1,rfl⟩,h2⟩
  ·exact RA pins s σ H _ us Q I r ⟨_,_,rfl,.inr ⟨ys,h1,rfl⟩,h2⟩
  ·obtain⟨u,rfl,ru⟩:=vals1 r
   cases ru
   exact aY' I h1 fun t s' I'=>⟨.int kvs.length,H,I',⟨t,rfl⟩,h2⟩
 ·exact h.elim
def Sg(K:PySem.W.Frag):R2:=fun x y H Q=>match x,y with
 |.ref p,.int i=>(∃ xs v,dQ K H p xs/\fq xs i=some v/\Q v H)\/∃ xs v,oy K H p xs/\fq xs i=some v/\Q v H
 |.str z,.int i=>z.length<=sizeLine/\∃ c,fq z.cps.toList i=some c/\Q (.str ⟨#[c]⟩) H
 |_,_=>False
theorem FN:wt X (Sg X.K):=by
 intro value slice pins s σ H x y v u Q I rx ry h hs
 refine aD' value slice pins s σ H x y v u Q I rx ry ?_ hs
 unfold Sg at h
 split at h
 ·rcases h with⟨xs,w,h1,h2,h3⟩|⟨xs,w,h1,h2,h3⟩
  ·exact .inl ⟨_,xs,_,w,rfl,rfl,h1,h2,h3⟩
  ·exact .inr (.inl ⟨_,xs,_,w,rfl,rfl,h1,h2,h3⟩)
 ·obtain⟨h1,c,h2,h3⟩:=h
  exact .inr (.inr ⟨_,_,c,rfl,rfl,h1,h2,h3⟩)
 ·exact h.elim
def x5(z:Str)(lo hi:Option Int):Str:=⟨((z.cps.toList.drop (HT.bG z.length 0 lo)).take (HT.bG z.length z.length hi-HT.bG z.length 0 lo)).toArray⟩
end
theorem vU(l:List Nat)(lo hi:Option Int)(h:((l.drop (HT.bG l.length 0 lo)).take (HT.bG l.length l.length hi-HT.bG l.length 0 lo)).length=l.length) :
  (l.drop (HT.bG l.length 0 lo)).take (HT.bG l.length l.length hi-HT.bG l.length 0 lo)=l:=by
 generalize HT.bG l.length 0 lo=a at *
 generalize HT.bG l.length l.length hi=b at *
 by_cases hl:l.length=0
 ·have:l=[]:=Ob.mp hl
  subst this;simp
 ·rw[nv,CL] at h
  have h1:a=0:=by lia
  subst h1
  rw[List.drop_zero]
  exact Od (by lia)
theorem yc(lo hi:Option Int)(n:Nat):Builtin.Str.strSliceIndices lo hi 1 n=(List.range (HT.bG n n hi-HT.bG n 0 lo)).map (HT.bG n 0 lo + ·):=by
 unfold Builtin.Str.strSliceIndices
 have e1:(match lo with|none=>(0:Int)|some i=>max 0 (min (if i<0 then i+n else i) n))=((HT.bG n 0 lo:Nat):Int):=by
  cases lo with
  |none=>simp[HT.bG]
  |some i =>
   simp only[HT.bG]
   by_cases h:i<0
   ·simp only[h,if_true]<;>lia
   ·simp only[h,if_false]<;>lia
 have e2:(match hi with|none=>(n:Int)|some i=>max 0 (min (if i<0 then i+n else i) n))=((HT.bG n n hi:Nat):Int):=by
  cases hi with
  |none=>simp[HT.bG]
  |some i =>
   simp only[HT.bG]
   by_cases h:i<0
   ·simp only[h,if_true]<;>lia
   ·simp only[h,if_false]<;>lia
 rw[<- sliceRange_one,<- e1,<- e2]
 simp only[show(1:Int)>0 by decide,if_true]
 cases lo<;>cases hi<;>rfl
section
variable {X:Cx}
theorem part_of{v:Value}{o:Option Int}(h:IsPart v o):∃ p:Option (Int × Tok),v=partValue p/\p.map (·.1)=o:=by
 cases h with
 |none=>exact⟨none,rfl,rfl⟩
 |int i t=>exact⟨some (i,t),rfl,rfl⟩
def Sh(K:PySem.W.Frag):V->Option Int->Option Int->Hp->VK->Prop:=fun x lo hi H Q=>match x with
 |.str z=>z.length<=sizeLine/\Q (.str (x5 z lo hi)) H
 |.ref a=>∃ xs,dQ K H a xs/\∀ p,H p=none->Q (.ref p) (upd H p (.lst (Bz xs lo hi)))
 |_=>False
theorem G7:Iy X (fun x lo hi H Q=>∃ z,x=.str z/\z.length<=sizeLine/\Q (.str (x5 z lo hi)) H):=by
 intro pins s σ H x v vl vu lo hi sl Q I rx hs pl pu h
 obtain⟨z,rfl,hz,q⟩:=h
 obtain⟨t,rfl⟩:=rx
 obtain⟨p1,rfl,e1⟩:=part_of pl
 obtain⟨p2,rfl,e2⟩:=part_of pu
 refine⟨"str",_,F.slot_str_getitem.lookup,typeIs_str s z t,wpAny_getItem_str_slice (l:=p1) (u:=p2) (st:=none) hs rfl ?_⟩
 have hl:z.cps.toList.length=z.length:=by simp[Str.length]
 have ep:slicePicked z p1 p2 none=(List.range (HT.bG z.length z.length hi-HT.bG z.length 0 lo)).map (HT.bG z.length 0 lo + ·):=by
  unfold slicePicked
  rw[e1,e2]
  exact yc lo hi z.length
 have ef:(slicePicked z p1 p2 none).filterMap (z.cps[·]?)=(z.cps.toList.drop (HT.bG z.length 0 lo)).take (HT.bG z.length z.length hi-HT.bG z.length 0 lo):=by
  rw[ep];exact pick_run z.cps _ _
 unfold sliceMade
 split
 ·rename_i hc
  have hw:(slicePicked z p1 p2 none).length=z.length:=by simpa using hc
  have:x5 z lo hi=z:=by
   unfold x5
   have e3:((z.cps.toList.drop (HT.bG z.cps.toList.length 0 lo)).take (HT.bG z.cps.toList.length z.cps.toList.length hi-HT.bG z.cps.toList.length 0 lo)).length=z.cps.toList.length:=by
    rw[hl,nv,CL,hl]
    rw[ep,cK,QY] at hw
    have h0:HT.bG z.length 0 lo<=z.length:=by
     cases lo with
     |none=>simp[HT.bG]
     |some i=>simp only[HT.bG];split<;>lia
    have h1:HT.bG z.length z.length hi<=z.length:=by
     cases hi with
     |none=>simp[HT.bG]
     |some i=>simp only[HT.bG];split<;>lia
    lia
   have:=vU z.cps.toList lo hi e3
   rw[hl] at this
   rw[this]
  rw[this] at q
  exact⟨.str z,H,I,⟨t,rfl⟩,q⟩
 ·rw[ef]
  exact⟨by
   show(x5 z lo hi).length<=sizeLine
   unfold x5 Str.length
   simp only[kf,nv,CL,hl]
   have:z.cps.toList.length=z.length:=hl
   lia,⟨.str (x5 z lo hi),H,I.tok _,⟨_,rfl⟩,q⟩⟩
theorem Gj:Iy X (Sh X.K):=by
 intro pins s σ H x v vl vu lo hi sl Q I rx hs pl pu h
 unfold Sh at h
 split at h
 ·exact G7 pins s σ H _ v vl vu lo hi sl Q I rx hs pl pu ⟨_,rfl,h.1,h.2⟩
 ·obtain⟨xs,h1,h2⟩:=h
  exact aH' pins s σ H _ v vl vu lo hi sl Q I rx hs pl pu ⟨_,xs,rfl,h1,h2⟩
 ·exact h.elim
end
structure qQ(J:It)(its:List V)(cond:Hp->Prop):Prop where
 go:∀ i H,cond H->i<its.length->J.go i H
 ny:∀ i H x H',cond H->i<its.length->J.ny i H x H'->H'=H/\its[i]? = some x
 stop:∀ H,cond H->J.stop its.length H
theorem zE(K:PySem.W.Frag)(a:Addr)(xs:List V):qQ (O0 K a) xs (fun H=>dQ K H a xs) where
 go:=fun i H h hi=>⟨xs,xs[i],h,by simp[hi]⟩
 ny:=fun i H x H' h _ y=>⟨y.1,y.2 xs h⟩
 stop:=fun H h=>⟨xs,h,bT _⟩
def wG(lo:Int)(n:Nat):List V:=(List.range n).map fun i=>.int (lo+(i:Nat))
theorem Ey(lo:Int)(n:Nat):qQ (pV lo n) (wG lo n) (fun _=>True) where
 go:=fun i H _ h=>by simpa[wG,pV] using h
 ny:=fun i H x H' _ hi h=>by
  have hi:i<n:=by simpa[wG] using hi
  obtain⟨rfl,rfl⟩:=h
  refine⟨rfl,?_⟩
  simp[wG,hi]
 stop:=fun H _=>by simp[wG,pV]
def bS'(J:It)(g:TG)(tb:TS)(D:Ends)(σ:St)(H:Hp):Prop :=
 ∃ W:Nat->Nat->St->Hp->Prop,(∃ m,W 0 m σ H)/\∀ i m σ H,W i m σ H ->
   (J.stop i H/\D.nx σ H)\/(J.go i H/\∃ N:St->Hp->Prop,(∀ bp H',N bp H'->∃ m',m'<m/\W (i+1) m' bp H')/\∀ x H',J.ny i H x H'->g x σ H' fun gy H2=>tb { D with nx:=N,ct:=N,bk:=D.nx } gy H2)
theorem Dc(wi:TI)(g:TG)(tb:TS)(D:Ends)(σ:St)(H:Hp):Vs wi g tb D σ H=wi σ H fun J H1=>bS' J g tb D σ H1:=rfl
def JC(J:It)(g:TG)(tc:TT)(te:TE)(τ0:St)(H1:Hp)(D:Addr)(Q:VK):Prop :=
 ∃ W:Nat->Nat->St->Hp->Prop,(∃ m,W 0 m τ0 (upd H1 D (.lst [])))/\∀ i m τ H,W i m τ H ->
  (J.stop i H/\Q (.ref D) H)\/(J.go i H/\∃ (N1:St->V->Hp->Prop) (N2:St->Hp->Prop),
   (∀ lS v H4,N1 lS v H4->∃ ys m',H4 D=some (.lst ys)/\ys.length<sizeLine/\m'<m/\W (i+1) m' lS (upd H4 D (.lst (ys++[v])))) /\
   (∀ lS H3,N2 lS H3->∃ m',m'<m/\W (i+1) m' lS H3) /\
   ∀ x H',J.ny i H x H'->g x τ H' fun lS H2=>tc lS H2 fun b H3=>if b=true then te lS H3 (N1 lS) else N2 lS H3)
theorem Ae(wi:TI)(g:TG)(tc:TT)(te:TE)(tn:Nat)(ix:List Nat)(σ:St)(H:Hp)(Q:VK):yl wi g tc te tn ix σ H Q=wi σ H fun J H1=>∀ D,H1 D=none->JC J g tc te (n_ tn ix σ) H1 D Q:=rfl
mutual
inductive Rep(K:PySem.W.Frag)(H:Hp):PyData->V->Prop
 |none:Rep K H .none .non
 |bool (b:Bool):Rep K H (.bool b) (.bl b)
 |int (i:Int):Rep K H (.int i) (.int i)
 |str (x:Str):Rep K H (.str x) (.str x)
 |list {a:Addr} {vs:List V} {ds:List PyData}:dQ K H a vs->aI K H ds vs->Rep K H (.list ds) (.ref a)
 |tuple {a:Addr} {vs:List V} {ds:List PyData}:oy K H a vs->aI K H ds vs->Rep K H (.tuple ds) (.ref a)
inductive aI(K:PySem.W.Frag)(H:Hp):List PyData->List V->Prop
 |nil:aI K H [] []
 |cons {d:PyData} {v:V} {ds:List PyData} {vs:List V}:Rep K H d v->aI K H ds vs->aI K H (d :: ds) (v :: vs)
end
section
variable {X:Cx}{pins:List (Addr × Obj)}{σ:St}{H:Hp}{s:Shared}
mutual
theorem Rep.reads(I:Inv X pins σ H s):∀ {d:PyData} {v:V} {u:Value},Rep X.K H d v->RelV v u->∃ as,Reads s.heap u d as
 |_,_,_,.none,r=>by cases (show _=Value.none from r);exact⟨_,.none⟩
 |_,_,_,.bool b,r=>by cases (show _=Value.bool b from r);exact⟨_,.bool b⟩
 |_,_,_,.int i,r=>by obtain⟨t,e⟩:=r;subst e;exact⟨_,.int i t⟩
 |_,_,_,.str x,r=>by obtain⟨t,e⟩:=r;subst e;exact⟨_,.str x t⟩
 |_,_,_,.list h hs,r=>by
  cases r
  obtain⟨its,rv,pl,_⟩:=I.list h
  obtain⟨o,e,c,n,d⟩:=pl.isList
  obtain⟨as,q⟩:=aI.reads I hs rv
  exact⟨_,.list e c d q⟩
 |_,_,_,.tuple h hs,r=>by
  cases r
  obtain⟨its,rv,⟨o,e,c,n,d⟩,_⟩:=I.tuple h
  obtain⟨as,q⟩:=aI.reads I hs rv
  exact⟨_,.tuple e c d q⟩
theorem aI.reads(I:Inv X pins σ H s):∀ {ds:List PyData} {vs:List V} {us:List Value},aI X.K H ds vs->Vals vs us->∃ as,ReadsAll s.heap us ds as
 |_,_,_,.nil,.nil=>⟨_,.nil⟩
 |_,_,_,.cons h hs,.cons r rs=>by
  obtain⟨as,q⟩:=Rep.reads I h r
  obtain⟨bs,q'⟩:=aI.reads I hs rs
  exact⟨_,.cons q q'⟩
end
def Si(K:PySem.W.Frag):R2:=fun x y H Q=>∃ d e,Rep K H d x/\Rep K H e y/\d.canLay0=true/\e.canLay0=true/\d.depth<=60/\Q (.bl (PyData.eqv d e)) H
def Sj(K:PySem.W.Frag):R2:=fun x y H Q=>∃ d e,Rep K H d x/\Rep K H e y/\d.canLay0=true/\e.canLay0=true/\d.depth<=60/\Q (.bl (!PyData.eqv d e)) H
theorem Gr(hu:X.A.units+64<cLine):cE X (compareOp .Eq) (Si X.K):=by
 intro pins s σ H x y v u Q I rx ry h
 obtain⟨d,e,h1,h2,h3,h4,h5,q⟩:=h
 obtain⟨as,r1⟩:=h1.reads I rx
 obtain⟨bs,r2⟩:=h2.reads I ry
 exact PySem.SeqAt.rcAt_reads r1 r2 h3 h4 (by lia) X.prog X.w X.xe _ ⟨.bl _,H,I,rfl,q⟩
theorem Hb(hu:X.A.units+64<cLine):cE X (compareOp .NotEq) (Sj X.K):=by
 intro pins s σ H x y v u Q I rx ry h
 obtain⟨d,e,h1,h2,h3,h4,h5,q⟩:=h
 obtain⟨as,r1⟩:=h1.reads I rx
 obtain⟨bs,r2⟩:=h2.reads I ry
 exact PySem.SeqAt.rcNeAt_reads r1 r2 h3 h4 (by lia) X.prog X.w X.xe _ ⟨.bl _,H,I,rfl,q⟩
def Pw(K:PySem.W.Frag):R2:=fun x y H Q=>match x,y with
 |.int i,.int j=>Q (.bl (decide (i=j))) H
 |.str i,.str j=>Q (.bl (decide (i=j))) H
 |.bl i,.bl j=>Q (.bl (decide (i=j))) H
 |_,_=>Si K x y H Q
theorem EY(hu:X.A.units+64<cLine):cE X (compareOp .Eq) (Pw X.K):=(ZU.or (Gr hu)).imp fun x y H Q h=>by
 unfold Pw at h
 split at h
 ·refine .inl ⟨rfl,?_⟩;simpa using h
 ·refine .inl ⟨rfl,?_⟩;simpa using h
 ·refine .inl ⟨rfl,?_⟩;simpa using h
 ·exact .inr h
def Px(K:PySem.W.Frag):R2:=fun x y H Q=>match x,y with
 |.int i,.int j=>Q (.bl (!decide (i=j))) H
 |.str i,.str j=>Q (.bl (!decide (i=j))) H
 |.bl i,.bl j=>Q (.bl (!decide (i=j))) H
 |_,_=>Sj K x y H Q
theorem Ft(hu:X.A.units+64<cLine):cE X (compareOp .NotEq) (Px X.K):=(ZV.or (Hb hu)).imp fun x y H Q h=>by
 unfold Px at h
 split at h
 ·refine .inl ⟨rfl,?_⟩;simpa using h
 ·refine .inl ⟨rfl,?_⟩;simpa using h
 ·refine .inl ⟨rfl,?_⟩;simpa using h
 ·exact .inr h
end
end L2
namespace L2
open PySem PySem.Spec PyProof.Rows
section
variable {X:Cx}{pins:List (Addr × Obj)}{σ:St}{H:Hp}{s:Shared}{h':Heap}
theorem Inv.Ja{t':Nat}{fp:List Addr}(I:Inv X pins σ H s)(hf:∀ b∈fp,wd X pins H b)(k:∀ b o,b∉fp->s.heap.get? b=some o->h'.get? b=some o):Inv X pins σ H { s with heap:=h',toks:=t' }:=by
 have DI:∀ b u,H b=some u->b∉fp:=fun b u e z=>by rw[(hf b z).1] at e;cases e
 refine I.step (g':=s.gens) (d':=s.drawn) (ch:=fp) (fun b hb=>?_) (fun b o _ _ hc e _=>k b o hc e) (fun b o _ _ hc e _=>⟨o.slots,k b o hc e⟩) (fun _ _ _ _ n=>n)
  (fun b o hc e=>⟨o,k b o hc e⟩) (fun _ _ e=>e) (fun _ _ _ e=>e) (fun b ps e=>⟨#[],by rw[e];simp⟩) (fun m hm=>?_) (fun b u e=>?_) I.bare
 ·obtain⟨f0,f1,f2,f3,f4,f5⟩:=hf b hb
  exact⟨f3,f1,f4,f5⟩
 ·obtain⟨o,es,ep,ho,r⟩:=hm
  exact⟨o,es,ep,k _ o (fun z=>(hf _ z).2.1 rfl) ho,r⟩
 ·refine(I.aT b u e).eM (fun c v hc q=>k c v ?_ q) (fun _ q=>q) fun _ _ q=>q
  rcases hc with z|z
  ·rw[z];exact DI b u e
  ·exact DI c _ z
theorem Inv.bU'{t':Nat}{fp:List Addr}{p:Addr}{xs:List V}(I:Inv X pins σ H s)(hf:∀ b∈fp,wd X pins H b)(k:∀ b o,b∉fp->s.heap.get? b=some o->h'.get? b=some o)(hp:s.heap.objs.size<=p)
  (new:eT X.prog X.w (upd H p (.tup xs)) h' p (.tup xs)):Inv X pins σ (upd H p (.tup xs)) { s with heap:=h',toks:=t' }:=by
 have hn:=I.aT.fresh hp
 have DI:∀ b u,H b=some u->b∉fp:=fun b u e z=>by rw[(hf b z).1] at e;cases e
 have lt:∀ b o,s.heap.get? b=some o->b≠p:=fun b o e=>eI (kP (dk e) hp)
 refine I.step (g':=s.gens) (d':=s.drawn) (ch:=fp) (fun b hb=>?_) (fun b o _ _ hc e _=>k b o hc e) (fun b o _ _ hc e _=>⟨o.slots,k b o hc e⟩) (fun b o _ e n=>by rw[eJ (lt b o e)];exact n)
  (fun b o hc e=>⟨o,k b o hc e⟩) (fun _ _ e=>by rw[eJ (xB e hn)];exact e) (fun _ _ _ e=>by rw[eJ (xB e hn)];exact e) (fun b ps e=>⟨#[],by rw[eJ (xB e hn),e];simp⟩) (fun m hm=>?_) (fun b u e=>?_) I.bare
 ·obtain⟨f0,f1,f2,f3,f4,f5⟩:=hf b hb
  exact⟨f3,f1,f4,f5⟩
 ·obtain⟨o,es,ep,ho,r⟩:=hm
  exact⟨o,es,ep,k _ o (fun z=>(hf _ z).2.1 rfl) ho,r⟩
 ·by_cases hb:b=p
  ·subst hb;rw[ki] at e;cases e;exact new
  ·rw[eJ hb] at e
   refine(I.aT b u e).eM (fun c v hc q=>k c v ?_ q) (fun c q=>by rw[eJ (xB q hn)];exact q) fun c xs q=>by rw[eJ (xB q hn)];exact q
   rcases hc with z|z
   ·rw[z];exact DI b u e
   ·exact DI c _ z
end
def Sn(K:PySem.W.Frag)(a:Addr):It :=
 ⟨fun i H=>∃ xs x,dQ K H a xs/\xs[i]? = some x,fun i H x H'=>∃ p v,x=.ref p/\H p=none/\H'=upd H p (.tup [.int i,v])/\∀ xs,dQ K H a xs->xs[i]? = some v,fun i H=>∃ xs,dQ K H a xs/\xs.length<=i⟩
theorem Aq:(2:Nat)<=sizeLine:=by rw[sizeLine_eq];decide
theorem vN{P:Program}{w:World}{K:PySem.W.Frag}{elts:List Expr}{k:Nat}{pos:Pos}(a e it:Addr)(Wk:e≠it):Turn P w K (.Tuple elts k pos) (Sn K a) [e,it] e (fun i h=>(∃ old,IsEnum h e it i old)/\h.IsListIter it a i) where
 mem:=by simp
 obj:=fun i h ⟨⟨old,he⟩,st⟩ b hb=>by
  rcases cS.mp hb with rfl|hb
  ·exact⟨_,he,fun v z=>nomatch z⟩
  ·have e:b=it:=by simpa using hb
   subst e
   obtain⟨o,e,c,d⟩:=st
   exact⟨o,e,fun v z=>by rw[d] at z;cases z⟩
 keep:=fun i h h' ⟨⟨old,he⟩,st⟩ k=>⟨⟨old,k e (by simp) _ he⟩,st.at fun o e=>k it (by simp) o e⟩
 item:=by
  intro X hP hw hK hc i pins s σ H E I hf st hg
  subst hP hw hK
  obtain⟨xs,x,hq,hx⟩:=hg
  obtain⟨its,rv,p,hz⟩:=I.list hq
  obtain⟨u,hu,ru⟩:=rv.get hx
  obtain⟨⟨old,he⟩,hit⟩:=st
  refine wpAny_pyNext_enum_item he hit p.isList (x:=u) (by simpa using hu) Wk fun h1 ho bV' hT hsz hk=>⟨_,rfl,?_⟩
  refine wpAny_letOwnedTupleGo_enum (s:={ s with heap:=h1,toks:=s.toks+1 }) ho fun h2 he2 sN=>?_
  have ke:∀ b o,b∉[e,it]->s.heap.get? b=some o->h2.get? b=some o:=fun b o hb q=>(sN.2 b fun z=>hb (by simp[z])).trans (hk b o (fun z=>hb (by simp[z])) (fun z=>hb (by simp[z])) q)
  have da:e<s.heap.objs.size:=dk he
  have hT2:h2.get? s.heap.objs.size=some { cls:=.type "tuple",data:=.seq #[.int i s.toks,u] }:=(sN.2 _ (He da)).trans hT
  have I1:Inv X pins σ (upd H s.heap.objs.size (.tup [.int i,x])) { s with heap:=h2,toks:=s.toks+1 } :=
   I.bU' hf ke (bT _) ⟨Aq,[.int i s.toks,u],.cons ⟨s.toks,rfl⟩ (.cons ru .nil),_,hT2,rfl,_,rfl⟩
  refine⟨.ref s.heap.objs.size,_,I1,rfl,⟨_,x,rfl,I.fresh,rfl,fun ys hy=>by rw[I.Vj hy hq];exact hx⟩,⟨⟨u,by simpa using he2⟩,bV'.at fun o q=>(sN.2 it Wk.symm).trans q⟩,fun b hb=>?_⟩
  rw[eJ]
  ·exact(hf b hb).1
  ·rcases cS.mp hb with rfl|hb
   ·exact eI da
   ·have e:b=it:=by simpa using hb
    subst e
    obtain⟨o,q,_⟩:=hit
    exact eI (dk q)
 done:=by
  intro X hP hw hK hc i pins s σ H E I hf st hg
  subst hP hw hK
  obtain⟨xs,hq,hx⟩:=hg
  obtain⟨its,rv,p,hz⟩:=I.list hq
  obtain⟨⟨old,he⟩,hit⟩:=st
  have hl:=rv.length
  exact wpAny_pyNext_enum_end (I.ok.hd hc) he hit p.isList (by simp;lia) fun h' eb=>⟨rfl,I.Ja (t':=s.toks) hf fun b o hb q=>eb b o (fun z=>hb (by simp[z])) q⟩
 self:=fun _ _ _ _ _ ⟨⟨old,he⟩,_⟩ h=>wpAny_pyIter_enum he h
theorem Hc{n b:Nat}(h:b∈[n+1,n]):n<=b:=by simp at h;lia
section
variable {X:Cx}
def Jy(K:PySem.W.Frag)(ta:TA):TI:=fun σ H R=>ta σ H fun vs H1=>∃ a,vs=[.ref a]/\(∃ xs,dQ K H1 a xs)/\R (Sn K a) H1
theorem Dr {elts:List Expr} {k:Nat} {tp:Pos} {a:Expr} {ta:TA} {p pos:Pos} (hg:Gl X "enumerate") (hm:X.mg "enumerate" = none) (ha:PA X [a] ta) (hs:starEach [a] X.env=[(false,eval a X.env)]:=by rfl) :
  PI X (.Tuple elts k tp) (.Call (.Name "enumerate" p) [a] [] pos) (Jy X.K ta):=by
 intro pins s σ H R I h
 refine Call_ (EX I hg hm boot_enumerate (PyProof.Rows.callWith_type1 (cq (ha pos pins s σ H _ I h) fun us s1 cx=>L2.gv cx fun vs H1 I1 r1 q1=>?_) hs rfl))
 obtain⟨l,e,⟨xs,hq⟩,q⟩:=q1
 subst e
 cases r1 with
 |cons r rr =>
  cases rr
  cases r
  obtain⟨its,rv,pl,hz⟩:=I1.list hq
  refine call_enumerate_list pl.isList fun h2 he hit hsz hk=>?_
  refine wpAny_pyIter_enum (s:={ s1 with heap:=h2 }) he ?_
  refine⟨s1.heap.objs.size+1,[s1.heap.objs.size+1,s1.heap.objs.size],_,_,H1,rfl,I1.kept (t':=s1.toks) hk,vN l _ _ (Nat.succ_ne_self _),⟨⟨_,he⟩,hit⟩,fun b hb=>?_,q⟩
  have e:s1.heap.objs.size<=b:=Hc hb
  exact I1.OZ e (I1.aT.fresh e)
end
def M0(sc:Scope)(names:List (Str × NameKind)):List (Str × NameKind):=names.map fun y=>if (y.2 == NameKind.free && sc.kind == .function && sc.names.lookup y.1 == some .cell)=true then (y.1,NameKind.cell) else (y.1,y.2)
def M6(o:Option NameKind):Bool:=o == some .cell || o == some .free
def G_(sc scope:Scope)(N cn:List Str)(ix:List Nat):Bool :=
 scope.kind == .function && scope.names.all (fun y=>y.2 != .cell) && scope.names.all (fun y=>y.2 != .free || M6 (sc.names.lookup y.1)) && scope.names.all (fun y=>y.2 != .local || scope.names.lookup y.1 == some .local) &&
 ix.length == cn.length && (List.range ix.length).all (fun k=>match ix[k]?,cn[k]? with
  |some j,some y=>N[j]? == some y && M6 (sc.names.lookup y) && scope.names.contains (y,NameKind.free) && M6 ((M0 sc scope.names).lookup y)
  |_,_=>false) &&
 (M0 sc scope.names).all (fun y=>!(y.2 == .cell || y.2 == .free) || scope.names.contains (y.1,NameKind.free))
theorem rY{o:Option NameKind}(h:M6 o=true):o=some .cell\/o=some .free:=by
 unfold M6 at h
 simpa using h
theorem bY.of{X:Cx}{sc scope:Scope}{N tn cn:List Str}{ix:List Nat}(BH:X.env.scope=sc)(hN:X.N=N)(h:G_ sc scope N cn ix=true):bY X scope tn cn ix:=by
 unfold G_ at h
 simp only[lI] at h
 obtain⟨⟨⟨⟨⟨⟨h1,h2⟩,h3⟩,h4⟩,h5⟩,h6⟩,h7⟩:=h
 rw[GP] at h2 h3 h4 h6 h7
 have Wl:(relabel scope X.env).names=M0 sc scope.names:=by
  unfold relabel M0
  rw[<- BH]
  rfl
 refine⟨by simpa using h1,fun y hy=>by simpa using h2 y hy,fun y hy hk=>?_,fun y hy hk=>?_,by simpa using h5,fun k j hk=>?_,fun x hx=>?_⟩
 ·have:=h3 y hy
  rw[hk] at this
  rw[BH]
  exact rY (by simpa using this)
 ·have:=h4 y hy
  rw[hk] at this
  simpa using this
 ·have iS:k<ix.length:=(hV.mp hk).1
  have:=h6 k (rq.mpr iS)
  rw[hk] at this
  cases e:cn[k]? with
  |none=>rw[e] at this;cases this
  |some y =>
   rw[e] at this
   simp only[lI] at this
   obtain⟨⟨⟨a1,a2⟩,a3⟩,a4⟩:=this
   refine⟨y,rfl,by rw[hN];simpa using a1,by rw[BH];exact rY a2,by simpa using a3,by rw[Wl];exact rY a4⟩
 ·rw[Wl] at hx
  have mem:∃ k,(x,k)∈M0 sc scope.names/\(k=.cell\/k=.free):=by
   rcases hx with hx|hx
   ·exact⟨_,PySem.mem_of_lookup hx,.inl rfl⟩
   ·exact⟨_,PySem.mem_of_lookup hx,.inr rfl⟩
  obtain⟨k,hm,hk⟩:=mem
  have:=h7 _ hm
  rcases hk with rfl|rfl<;>simpa using this
structure fi(P:Program)(w:World)(K:PySem.W.Frag)(mg:Str->Option Value)(base:Heap)(k:Nat)(x:Str)(ps:List Str)(sp:Sp):Prop where
 ex:∃ (g:Addr) (fd:FuncData),mg x=some (.ref g)/\PySem.W.keepIn K (.ref g)=true/\Binds K fd ps []/\gE P w K mg base js k g fd ps sp
section
variable {X:Cx}{k:Nat}{x:Str}{ps:List Str}{sp:Sp}{p pos:Pos}{e:Expr}{es:List Expr}{t:TA}
theorem Fo (C:fi X.prog X.w X.K X.mg X.base k x ps sp) (hr:ku k X.A) (ha:PA X (e :: es) t) (hg:Gl X x:=by rfl) (iP:(x == ("__debug__" : Str))=false:=by decide) (he:starEach (e :: es) X.env=(false,eval e X.env) :: starEach es X.env:=by rfl)
  (gI:(backTo pos (starEach es X.env)).any (·.1)=false:=by rfl):PE X (.Call (.Name x p) (e :: es) [] pos) (MN sp [] E0 t):=by
 obtain⟨g,fd,hm,hk,hb,F⟩:=C.ex
 exact VH F hr hg hm hk hb .nil bv' ha iP he gI
end
theorem gX.rV{P:Program}{w:World}{K:PySem.W.Frag}{mg:Str->Option Value}{base:Heap}{k:Nat}{x qual:Str}{st:Stmt}{f:Addr}{fd:FuncData}{ps:List Str}{sp:Sp}(F:gX K x qual st f fd)(hm:mg x=some (.ref f))
  (G:gE P w K mg base js k f fd ps sp)
  (h:∀ (kV doc pm:Value) (an:Option Addr) (cy ct:Value) (us:List Value),us.length=ps.length->bindArgs (PySem.W.fnOf x qual (kz st) (hJ st) (b6 st) .none kV doc pm an cy ct) ⟨us,[]⟩=pure (ps.zip us)):fi P w K mg base k x ps sp :=
 ⟨f,fd,hm,F.kp,F.binds h,G⟩
theorem wU:bootBuiltins "int" = some (.type "int"):=by decide +kernel
theorem DW:bootBuiltins "bool" = some (.type "bool"):=by decide +kernel
theorem xY:bootBuiltins "list" = some (.type "list"):=by decide +kernel
theorem iz:bootBuiltins "isinstance" = some (.builtin "isinstance"):=by decide +kernel
theorem iC:bootBuiltins "len" = some (.builtin "len"):=by decide +kernel
theorem GC {X:Cx} {x:Str} {T:String} {pos:Pos} (hm:X.mg x=none) (hv:bootBuiltins x=some (.type T)) (hg:Gl X x:=by rfl) (hn:x ≠ "__name__" := by decide) (hd:(x == ("__debug__" : Str))=false:=by decide):PE X (.Name x pos) (tC (.ty T)) :=
 Y5 hg hm hv rfl hn hd
def Py(i j:Str):Bool:=!(Builtin.Str.occurrences j i 0 j.length 1).isEmpty
def Pz(K:PySem.W.Frag)(neg:Bool):R2:=fun x y H Q=>match x,y with
 |.str i,.str j=>Q (.bl (if neg then !Py i j else Py i j)) H
 |_,.ref p=>(∃ o,kL H p x o/\Q (.bl (if neg then !o.isSome else o.isSome)) H)\/Pk K neg x y H Q
 |_,_=>False
theorem Gf{X:Cx}(hu:X.A.units+64<cLine):cE X (compareOp .In) (Pz X.K false):=by
 intro pins s σ H x y v u Q I rx ry h
 unfold Pz at h
 split at h
 ·exact Z0 pins s σ H _ _ v u Q I rx ry ⟨_,_,rfl,rfl,h⟩
 ·rcases h with⟨o,g,q⟩|h
  ·cases ry
   exact aV' (by lia) I g rx fun s3 I3=>⟨.bl o.isSome,H,I3,rfl,q⟩
  ·exact aJ' pins s σ H _ _ v u Q I rx ry h
 ·exact h.elim
theorem aC.upd{H H':Hp}{p:Addr}{o:HO}(h:aC H H')(hp:H' p=none):aC H (upd H' p o):=fun b u e=>by
 have e':=h b u e
 rw[eJ (xB e' hp)]
 exact e'
theorem aC.lst{K:PySem.W.Frag}{H H':Hp}{a:Addr}{xs:List V}(e:aC H H')(h:dQ K H a xs):dQ K H' a xs:=e.seq h
theorem aC.tup{K:PySem.W.Frag}{H H':Hp}{a:Addr}{xs:List V}(e:aC H H')(h:oy K H a xs):oy K H' a xs:=by
 rcases h with(h|⟨o,h⟩)|h
 ·exact .inl (.inl (e _ _ h))
 ·exact .inl (.inr ⟨o,e _ _ h⟩)
 ·exact .inr h
mutual
theorem Rep.same{K:PySem.W.Frag}{H H':Hp}(s:aC H H'):∀ {d:PyData} {v:V},Rep K H d v->Rep K H' d v
 |_,_,.none=>.none
 |_,_,.bool b=>.bool b
 |_,_,.int i=>.int i
 |_,_,.str x=>.str x
 |_,_,.list h hs=>.list (s.lst h) (aI.same s hs)
 |_,_,.tuple h hs=>.tuple (s.tup h) (aI.same s hs)
theorem aI.same{K:PySem.W.Frag}{H H':Hp}(s:aC H H'):∀ {ds:List PyData} {vs:List V},aI K H ds vs->aI K H' ds vs
 |_,_,.nil=>.nil
 |_,_,.cons h hs=>.cons (Rep.same s h) (aI.same s hs)
end
section
variable {X:Cx}{K:PySem.W.Frag}
theorem rX(hu:X.A.units+64<cLine)(hK:X.K=K:=by rfl):cE X (compareOp .Eq) (Pw K):=by subst hK;exact EY hu
theorem Wm(hu:X.A.units+64<cLine)(hK:X.K=K:=by rfl):cE X (compareOp .NotEq) (Px K):=by subst hK;exact Ft hu
theorem kr(hu:X.A.units+64<cLine)(hK:X.K=K:=by rfl):cE X (compareOp .In) (Pz K false):=by subst hK;exact Gf hu
end
theorem Ly{α:Type}{a:α}{p:α->Prop}:(∃ v,a=v/\p v)↔p a:=⟨fun⟨_,e,h⟩=>e ▸ h,fun h=>⟨a,rfl,h⟩⟩
end L2
namespace L2
open PySem PySem.Spec PyProof.Rows
abbrev PB:=Array DictEntry
def sP(h:Heap)(d:Addr)(es:PB)(ep:Nat):Prop:=∃ o,h.get? d=some o/\o.ExactDict/\o.data=.dict es ep
theorem sP.typ {s:Shared} {d:Addr} {es:PB} {ep:Nat} (x:sP s.heap d es ep):s.TypeIs (.ref d) "dict" := let ⟨o,e,c,_⟩:=x;⟨o,e,c.1⟩
section
variable {prog:Program}{w:World}{A:Around}{E:Value->Shared->Prop}{s:Shared}{d it:Addr}{es:PB}{ep i:Nat}
theorem z9{Q:Value->Shared->Prop}(lo:(d == sysModules)=false)(x:sP s.heap d es ep)
  (q:Q (.ref s.heap.objs.size) { s with heap:=s.heap.push { cls:=.type "dict_keyiterator",data:=.fields #[.ref d,.int 0 0,.int es.size 0,.int ep 0] } }):wpAny (model prog w) A (pyIter (.ref d)) Q E s:=by
 obtain⟨o,ho,hc,PC⟩:=id x
 refine wpAny_pyIter_slot x.typ F.slot_dict_iter (wpAny_call_entry F.slot_dict_iter x.typ F.entry_dict_iter ?_ (F.args_dict_iter_1 _))
 unfold Builtin.«dict.__iter__»
 refine ai ?_
 unfold Builtin.Dict.dictSlotNone
 refine ai (wpAny_notOrdered_dict x.typ ?_)
 refine(show wpAny _ _ (pure (Value.ref d)) _ _ s from aS ?_)
 refine(show wpAny _ _ (Builtin.Dict.showsAll d >>= _) _ _ s from ?_)
 unfold Builtin.Dict.showsAll
 rw[if_neg (by rw[lo];decide)]
 refine ai (aS (ai (wpAny_dictEntries ho PC (ai (wpAny_dictEpoch ho PC (ai (wpAny_newObj_type (aS ⟨_,rfl, "dict_keyiterator",_,⟨_,i9 _ rfl,rfl⟩,F.slot_dict_keyiterator_next.lookup,?_⟩))))))))
 simpa[rawInt] using q
theorem yS{Q:Option Value->Shared->Prop}(hit:s.heap.IsKeyIter it d i es.size ep)(x:sP s.heap d es ep)(hx:i<es.size)
  (q:∀ h',h'.IsKeyIter it d (i+1) es.size ep->Heap.SameBut it s.heap h'->Q (some es[i].key) { s with heap:=h' }):wpAny (model prog w) A (pyNext (.ref it)) Q E s:=by
 obtain⟨o,ho,hc,hd⟩:=id hit
 obtain⟨od,E7,ox,M7⟩:=id x
 have ty:=hit.typeIs
 unfold pyNext
 refine ai (wpAny_attempt (wpAny_callSpecial?_slot (name:=Str.ofString "__next__") ty F.slot_dict_keyiterator_next (wpAny_call_entry F.slot_dict_keyiterator_next ty F.entry_dict_keyiterator_next ?_ (F.args_dict_keyiterator_next_1 _))))
 refine ai (aS (ai (ai ?_)))
 first|refine ai (wpAny_typeNameOfWhole_keyiter ty (aS ?_))|refine ai (wpAny_typeNameOf_keyiter ty (aS ?_))
 refine ai (wpAny_fieldsOf ho hd ?_)
 simp only[show Builtin.Dict_items.ownsTuple "dict_keyiterator" = false by decide,gu,if_false]
 refine(show wpAny _ _ (if (Value.ref d == Value.none)=true then _ else _) _ _ s from ?_)
 rw[if_neg (show ¬ ((Value.ref d == Value.none)=true) by intro h;cases h)]
 refine ai (aS (ai (wpAny_dictEntries E7 M7 ?_)))
 rw[if_neg (by intro h;simp at h)]
 refine ai (aS (ai (wpAny_dictEpoch E7 M7 ?_)))
 rw[if_neg (by intro h;simp at h)]
 refine aS ?_
 simp only[show ¬ ((i:Int)<0) by lia,if_false,HM,zi hx]
 refine ai ?_
 first|refine ai (wpAny_typeNameOfWhole_keyiter ty (aS ?_))|refine ai (wpAny_typeNameOf_keyiter ty (aS ?_))
 refine ai (wpAny_isOneOf_keyiter ty ?_)
 refine(show wpAny _ _ (setField (.ref it) 1 (rawInt ((i:Int)+1)) >>= _) _ _ s from ai (wpAny_setField ho hd (by simp) ?_))
 have Wn:(s.heap.update it (Obj.mapFields (·.setIfInBounds 1 (rawInt ((i:Int)+1))))).IsKeyIter it d (i+1) es.size ep :=
  ⟨_,GV _ ho (Obj.isFreed_of_fields (Obj.data_mapFields hd _)),(Obj.cls_mapFields ..).trans hc,by rw[Obj.data_mapFields hd];simp[rawInt]⟩
 refine ai (wpAny_holding (ai (wpAny_isOneOf_keyiter (s:={ s with heap:=s.heap.update it (Obj.mapFields (·.setIfInBounds 1 (rawInt ((i:Int)+1)))) }) Wn.typeIs ?_)))
 refine(show wpAny _ _ (pure es[i].key) _ _ _ from aS (aS ⟨_,rfl,aS (q _ Wn (Heap.SameBut.update ..))⟩))
theorem zp{Q:Option Value->Shared->Prop}(hh:A.handled=none)(hit:s.heap.IsKeyIter it d es.size es.size ep)(x:sP s.heap d es ep)(q:∀ h',Heap.ExtBut it s.heap h'->Q none { s with heap:=h' }) :
  wpAny (model prog w) A (pyNext (.ref it)) Q E s:=by
 obtain⟨o,ho,hc,hd⟩:=id hit
 obtain⟨od,E7,ox,M7⟩:=id x
 have ty:=hit.typeIs
 unfold pyNext
 refine ai (wpAny_attempt (wpAny_callSpecial?_slot (name:=Str.ofString "__next__") ty F.slot_dict_keyiterator_next (wpAny_call_entry F.slot_dict_keyiterator_next ty F.entry_dict_keyiterator_next ?_ (F.args_dict_keyiterator_next_1 _))))
 refine ai (aS (ai (ai ?_)))
 first|refine ai (wpAny_typeNameOfWhole_keyiter ty (aS ?_))|refine ai (wpAny_typeNameOf_keyiter ty (aS ?_))
 refine ai (wpAny_fieldsOf ho hd ?_)
 simp only[show Builtin.Dict_items.ownsTuple "dict_keyiterator" = false by decide,gu,if_false]
 refine(show wpAny _ _ (if (Value.ref d == Value.none)=true then _ else _) _ _ s from ?_)
 rw[if_neg (show ¬ ((Value.ref d == Value.none)=true) by intro h;cases h)]
 refine ai (aS (ai (wpAny_dictEntries E7 M7 ?_)))
 rw[if_neg (by intro h;simp at h)]
 refine ai (aS (ai (wpAny_dictEpoch E7 M7 ?_)))
 rw[if_neg (by intro h;simp at h)]
 refine aS ?_
 simp only[show ¬ ((es.size:Int)<0) by lia,if_false,HM,DF (bT es.size)]
 refine ai ?_
 first|refine ai (wpAny_typeNameOfWhole_keyiter ty (aS ?_))|refine ai (wpAny_typeNameOf_keyiter ty (aS ?_))
 refine(show wpAny _ _ (setField (.ref it) 0 .none >>= _) _ _ s from ai (wpAny_setField ho hd (by simp) ?_))
 refine(show wpAny _ _ (newExc (.type "StopIteration") [] >>= _) _ _ _ from ai ?_)
 simp only[newExc,newTuple]
 refine ai (wpAny_newObj_type ?_ (by size_fits))
 refine ai (m:=firstArgMember _ _) (wpAny_of_eq (a:=Value.none) (by first|rfl|(simp only[firstArgMember];rfl)) (wpAny_newObj_type ?_ (by size_fits)))
 simp only[raiseNew]
 refine ai (wpAny_handled ?_)
 rw[show A.in1.handled=none from hh]
 refine ai (aS (wpAny_throw ?_))
 refine ai (wpAny_isInstance (b:=true) (T := "StopIteration") ⟨_,i9 _ rfl,rfl⟩ isSubtype_stop ?_)
 exact aS (q _ (((Heap.SameBut.update ..).extBut.push _).push _))
theorem sP.at{h h':Heap}(x:sP h d es ep)(e:∀ o,h.get? d=some o->h'.get? d=some o):sP h' d es ep:=let ⟨o,ho,r⟩:=x;⟨o,e o ho,r⟩
theorem sP.lt{h:Heap}(x:sP h d es ep):d<h.objs.size:=let ⟨_,e,_⟩:=x;dk e
theorem yp(hh:A.handled=none)(I:Addr)(jv:d≠I):Walks prog w A I [I,d] [I] es.size (fun i v=>∃ e,es[i]? = some e/\v=e.key) (fun i h=>h.IsKeyIter I d i es.size ep/\sP h d es ep) where
 sub:=fun b hb=>by simp at hb;simp[hb]
 frame:=fun _ _ _ st hk=>⟨st.1.at fun o e=>hk I (by simp) o e,st.2.at fun o e=>hk d (by simp) o e⟩
 item:=fun i s Q E hi st hQ=>yS st.1 st.2 hi fun h' a b=>hQ _ h' s.toks ⟨es[i],by simp[hi],rfl⟩ ⟨a,st.2.at fun o e=>b.extBut d o jv e⟩ fun c o hb e=>b.extBut c o (fun h=>hb (by simp[h])) e
 done:=fun s Q E st hQ=>zp hh st.1 st.2 fun h' PD=>hQ h' s.toks fun b o hb e=>PD b o (fun h=>hb (by simp[h])) e
 self:=fun _ _ _ _ st hQ=>wpAny_pyIter_keyiter st.1 hQ
theorem yf (lo:(d == sysModules)=false):PySem.W.KdlSrc prog w "dict" d d es.size (fun i v=>∃ e,es[i]? = some e/\v=e.key) (fun h=>sP h d es ep) where
 type:=fun _ x=>x.typ
 there:=fun _ x=>⟨x.lt,x.lt⟩
 keep:=fun _ _ x hk=>x.at fun o e=>hk d (.inl rfl) o e
 notList:=by decide
 notTuple:=by decide
 hint:=fun _ _ _ _ x hq=>PySem.W.kdl_hint_dict x.typ hq
 iter:=fun _ _ hh x=>⟨_,_,(fun _ _ hq=>z9 lo x hq),yp hh _ (eI x.lt),⟨⟨_,i9 _ rfl,rfl,rfl⟩,x.at fun o e=>eW _ e⟩⟩
end
theorem Paired.n0{α β:Type}{R:α->β->Prop}{bs:List β}(h:Paired R [] bs):bs=[]:=by cases h;rfl
theorem Paired.c{α β:Type}{R:α->β->Prop}{a:α}{as:List α}{bs:List β}(h:Paired R (a :: as) bs):∃ b cs,bs=b :: cs/\R a b/\Paired R as cs:=by
 cases h with
 |cons r t=>exact⟨_,_,rfl,r,t⟩
def cT(H:Hp)(ys:List V)(ks:List (List Key)):Prop:=Paired (fun(v:V) (k:List Key)=>∃ b,v=.ref b/\H b=some (.tup (k.map kV))) ys ks
section
variable {X:Cx}
def tG:List V->Hp->VK->Prop:=fun xs H Q=>match xs with
 |[.ref p]=>∃ kvs,Rd H p (.dT kvs)/\∀ ys l,cT H ys (kvs.map (·.1))->H l=none->Q (.ref l) (upd H l (.lst ys))
 |_=>False
theorem wA{prog:Program}{w:World}{H:Hp}{kvs:List (List Key × V)}{xs:List (List Key × Addr × Value)}
  (h:Paired (fun(p:List Key × V) (q:List Key × Addr × Value)=>p.1=q.1/\H q.2.1=some (.tup (p.1.map kV))/\RelV p.2 q.2.2) kvs xs) :
  cT H (xs.map fun q=>.ref q.2.1) (kvs.map (·.1))/\Vals (xs.map fun q=>.ref q.2.1) ((xs.map (entryOfKey (tupleKind (kQ prog w)))).map (·.key)):=by
 induction h with
 |nil=>exact⟨.nil,.nil⟩
 |cons r t ih=>exact⟨.cons ⟨_,rfl,r.2.1⟩ ih.1,.cons rfl ih.2⟩
theorem uY (hc:X.calm=true):iO X (.type "list") tG:=by
 intro pins s σ H xs us Q I r h
 unfold tG at h
 split at h
 ·rename_i p
  obtain⟨kvs,e,q⟩:=h
  obtain⟨u,rfl,ru⟩:=Vals.one r
  cases ru
  obtain⟨z,y,ps,rel,o,es,ep,h1,h2,h3,h4,h5⟩:=(show eT X.prog X.w H s.heap p (.dT kvs) from I.rd e)
  obtain⟨ta,va⟩:=wA (prog:=X.prog) (w:=X.w) rel
  have hlen:es.size=kvs.length:=by
   have:=congrArg List.length h4
   rw[A3,cK] at this
   rw[this];exact rel.length.symm
  refine PySem.W.kdl_call (yf (es:=es) (ep:=ep) y) (I.ok.hd hc) ⟨o,h1,h2,h3⟩ (by lia) fun h' tk acc c kp eo BI=>?_
  have hv:acc.toList=(ps.map (entryOfKey (tupleKind (kQ X.prog X.w)))).map (·.key):=by
   apply CH
   intro i
   by_cases hi:i<es.size
   ·have hX:i<acc.size:=by rw[BI.1];exact hi
    obtain⟨en,e1,e2⟩:=BI.2 i acc[i] (by simp[hX])
    rw[<- h4,kN,mE,mE,e1]
    simp[hX,e2]
   ·rw[<- h4,kN,mE,mE,DF (by rw[BI.1];lia),DF (by lia)]
    rfl
  refine⟨.ref s.heap.objs.size,_,I.laid (t':=tk) kp (bT _) (show eT X.prog X.w _ h' _ (.lst (ps.map fun q=>.ref q.2.1)) from⟨?_,acc.toList,c,?_,?_⟩),rfl,q _ _ ta (I.aT.fresh (bT _))⟩
  ·rw[cK,<- rel.length];exact z
  ·rw[hv];exact va
  ·rw[Oz];exact eo
 ·exact h.elim
end
end L2
namespace x6
open PySem PyProof.Rows
def R(r:Value->Int)(xs:Array Keyed)(i:Nat):Int:=match xs[i]? with
 |some p=>r p.1
 |none=>0
theorem dD{r:Value->Int}{xs ys:Array Keyed}{i j:Nat}(h:xs[i]? = ys[j]?):R r xs i=R r ys j:=by unfold R;rw[h]
def lT(prog:Program)(w:World)(A:Around)(s:Shared)(κ:SortKind)(r:Value->Int)(P:Value->Prop):Prop :=
 ∀ x y,P x->P y->∀ (Q:Bool->Shared->Prop) (E:Value->Shared->Prop),Q (decide (r x<r y)) s->wpAny (model prog w) A (keyLt' κ x y) Q E s
def AllP(P:Value->Prop)(xs:Array Keyed):Prop:=∀ p∈xs.toList,P p.1
theorem AllP.perm{P:Value->Prop}{xs ys:Array Keyed}(h:AllP P xs)(hp:ys.Perm xs):AllP P ys:=fun p hm=>h p ((Q9.mp hp).mem_iff.mp hm)
theorem AllP.at{P:Value->Prop}{xs:Array Keyed}(h:AllP P xs){i:Nat}{p:Keyed}(e:xs[i]? = some p):P p.1:=h p (by
 obtain⟨hi,rfl⟩:=HL.mp e
 simp)
structure kR(lo hi:Nat)(st ag:SortSt):Prop where
 kind:kindOf ag=kindOf st
 failed:failedOf ag=failedOf st
 pend:pendingOf ag=pendingOf st
 perm:(arrOf ag).Perm (arrOf st)
 out:∀ k,k<lo\/hi<=k->(arrOf ag)[k]? = (arrOf st)[k]?
theorem kR.refl(lo hi:Nat)(st:SortSt):kR lo hi st st:=⟨rfl,rfl,rfl,Array.Perm.refl _,fun _ _=>rfl⟩
theorem kR.trans{lo hi:Nat}{a b c:SortSt}(h:kR lo hi a b)(g:kR lo hi b c):kR lo hi a c :=
 ⟨g.kind.trans h.kind,g.failed.trans h.failed,g.pend.trans h.pend,g.perm.trans h.perm,fun k hk=>(g.out k hk).trans (h.out k hk)⟩
theorem kR.mono{lo hi E8 kA:Nat}{a b:SortSt}(h:kR lo hi a b)(h1:E8<=lo)(h2:hi<=kA):kR E8 kA a b :=
 ⟨h.kind,h.failed,h.pend,h.perm,fun k hk=>h.out k (by lia)⟩
theorem kR.size{lo hi:Nat}{a b:SortSt}(h:kR lo hi a b):(arrOf b).size=(arrOf a).size:=h.perm.size_eq
def Up(r:Value->Int)(xs:Array Keyed)(lo hi:Nat):Prop:=∀ i j,lo<=i->i<=j->j<hi->R r xs i<=R r xs j
def Down(r:Value->Int)(xs:Array Keyed)(lo hi:Nat):Prop:=∀ i j,lo<=i->i<=j->j<hi->R r xs j<=R r xs i
theorem tW{r:Value->Int}{xs:Array Keyed}{src d:Nat}(hs:src<xs.size)(hd:d<=src)(k:Nat) :
  R r (bubble xs src d) k=if k=src-d then R r xs src else if src-d<k/\k<=src then R r xs (k-1) else R r xs k:=by
 have e:=getElem?_bubble hs d hd k
 by_cases h1:k=src-d
 ·rw[if_pos h1] at e ⊢;exact dD e
 ·rw[if_neg h1] at e ⊢
  by_cases h2:src-d<k/\k<=src
  ·rw[if_pos h2] at e ⊢;exact dD e
  ·rw[if_neg h2] at e ⊢;exact dD e
theorem nO{r:Value->Int}{xs:Array Keyed}{i j:Nat}(hj:j<=xs.size)(k:Nat) :
  R r (mirror xs i j ((j-i) / 2)) k=if i<=k/\k<j then R r xs (i+j-1-k) else R r xs k:=by
 have e:=getElem?_mirror_all (i:=i) hj k
 by_cases h1:i<=k/\k<j
 ·rw[if_pos h1] at e ⊢;exact dD e
 ·rw[if_neg h1] at e ⊢;exact dD e
theorem b7{r:Value->Int}{xs:Array Keyed}{i j:Nat}(hj:j<=xs.size)(heq:∀ k,i<=k->k<j->R r xs k=R r xs (j-1))(k:Nat) :
  R r (mirror xs i j ((j-i) / 2)) k=R r xs k:=by
 rw[nO hj]
 split
 ·rw[heq _ (by lia) (by lia),heq k (by lia) (by lia)]
 ·rfl
section
variable {prog:Program}{w:World}{A:Around}{E:Value->Shared->Prop}{s:Shared}{κ:SortKind}{r:Value->Int}{P:Value->Prop}
theorem pR{st:SortSt}{x y:Keyed}{Q:Option Bool->SortSt->Prop}(C:lT prog w A s κ r P)(hk:kindOf st=κ)(hx:P x.1)(hy:P y.1)(h:Q (some (decide (r x.1<r y.1))) st) :
  wpS (model prog w) A E s (lt' x y) Q st:=by
 rw[lt'_eq]
 refine wpS_bind (wpS_get ?_)
 rw[hk]
 refine wpS_bind (wpS_lift (wpAny_attempt (C x.1 y.1 hx hy _ _ ⟨rfl,?_⟩)))
 exact wpS_pure h
theorem aH{xs:Array Keyed}{i:Nat}{Q:Keyed->SortSt->Prop}{st:SortSt}(hi:i<xs.size)(h:∀ p,xs[i]? = some p->Q p st):wpS (model prog w) A E s (elem' xs i) Q st:=by
 rw[elem'_eq,getElem?_pos xs i hi]
 exact wpS_pure (h _ (getElem?_pos xs i hi))
theorem jL{st:SortSt}{i j:Nat}{Q:Option Bool->SortSt->Prop}(C:lT prog w A s κ r P)(hk:kindOf st=κ)(hP:AllP P (arrOf st))(hi:i<(arrOf st).size)(hj:j<(arrOf st).size)
  (h:Q (some (decide (R r (arrOf st) i<R r (arrOf st) j))) st):wpS (model prog w) A E s (ltAt' i j) Q st:=by
 rw[ltAt'_eq]
 refine wpS_bind (wpS_get ?_)
 show wpS _ _ _ _ (do let x <- elem' (arrOf st) i;let y <- elem' (arrOf st) j;lt' x y) Q st
 refine wpS_bind (aH hi fun p ep=>wpS_bind (aH hj fun q eq=>pR C hk (hP.at ep) (hP.at eq) ?_))
 have e1:R r (arrOf st) i=r p.1:=by unfold R;rw[ep]
 have e2:R r (arrOf st) j=r q.1:=by unfold R;rw[eq]
 rw[<- e1,<- e2]
 exact h
theorem dG{st:SortSt}{i j:Nat}{Q:Unit->SortSt->Prop}(h:Q () (setArr st (mirror (arrOf st) i j ((j-i) / 2)))) :
  wpS (model prog w) A E s (reverseSlice' i j) Q st:=by
 rw[reverseSlice'_eq];exact wpS_modify h
theorem fW{st:SortSt}{i j:Nat}(hj:j<=(arrOf st).size):kR i j st (setArr st (mirror (arrOf st) i j ((j-i) / 2))) :=
 ⟨rfl,rfl,rfl,mirror_perm _ _ _ _,fun k hk=>by
  have e:=getElem?_mirror_all (i:=i) hj k
  rw[if_neg (by lia)] at e
  exact e⟩
theorem uQ{st:SortSt}{lo src d:Nat}(hs:src<(arrOf st).size)(hd:lo+d<=src):kR lo (src+1) st (setArr st (bubble (arrOf st) src d)) :=
 ⟨rfl,rfl,rfl,bubble_perm _ _ _,fun k hk=>by
  have e:=getElem?_bubble hs d (by walk_at "s4") k
  rw[if_neg (by lia),if_neg (by lia)] at e
  exact e⟩
theorem wpS_binarySort{st:SortSt}{lo n ok:Nat}{Q:Bool->SortSt->Prop}(C:lT prog w A s κ r P)(hk:kindOf st=κ)(hP:AllP P (arrOf st))(hn:lo+n<=(arrOf st).size)(aT:ok<=n)(hs:Up r (arrOf st) lo (lo+ok))
  (h:∀ ag,kR lo (lo+n) st ag->Up r (arrOf ag) lo (lo+n)->Q true ag):wpS (model prog w) A E s (binarySort' lo n ok) Q st:=by
 rw[binarySort'_eq]
 refine wpS_bind (wpS_mono (wpS_forRange (I:=fun k c ag=>c=(none,())/\kR lo (lo+n) st ag/\Up r (arrOf ag) lo (lo+min k n))
  (Q:=fun c ag=>c=(none,())/\kR lo (lo+n) st ag/\Up r (arrOf ag) lo (lo+n)) ?step ?fin ?init) ?post)
 case post =>
  rintro c ag ⟨rfl,ic,fN⟩
  exact wpS_pure (h ag ic fN)
 case init =>
  refine⟨rfl,.refl _ _ _,fun i j hl gi hj=>?_⟩
  by_cases h1:ok=0
  ·have:i=j:=by lia
   subst this;exact sD _
  ·exact hs i j hl gi (by lia)
 case fin =>
  rintro c ag ⟨hc,ic,fN⟩
  refine⟨hc,ic,?_⟩
  rwa[show min (max (max ok 1) n) n=n by lia] at fN
 case step =>
  rintro k c ag hak hkn ⟨rfl,ic,fN⟩
  rw[show min k n=k by lia] at fN
  have hsz:=ic.size
  have iS:kindOf ag=κ:=ic.kind.trans hk
  have qf:=hP.perm ic.perm
  refine wpS_bind (wpS_mono (wpS_forRange (I:=fun x c x8=>x8=ag/\∃ l r',c=(none,l,r')/\l<=r'/\r'<=k/\r'-l<=k-x /\
    (∀ i,lo<=i->i<lo+l->R r (arrOf ag) i<=R r (arrOf ag) (lo+k))/\(∀ i,lo+r'<=i->i<lo+k->R r (arrOf ag) (lo+k)<R r (arrOf ag) i))
   (Q:=fun c x8=>x8=ag/\∃ l r',c=(none,l,r')/\l<=k /\
    (∀ i,lo<=i->i<lo+l->R r (arrOf ag) i<=R r (arrOf ag) (lo+k))/\(∀ i,lo+l<=i->i<lo+k->R r (arrOf ag) (lo+k)<R r (arrOf ag) i)) ?bY' ?bZ' ?ca') ?cb')
  case ca'=>exact⟨rfl,0,k,rfl,by exact dz _,by exact bT _,by exact Oq _ _,fun i _ hi=>by lia,fun i h1 h2=>by lia⟩
  case bZ' =>
   rintro c x8 ⟨rfl,l,r',rfl,hlr,E9,hm,DZ,AA⟩
   have:l=r':=by lia
   subst this
   exact⟨rfl,l,l,rfl,E9,DZ,AA⟩
  case bY' =>
   rintro x c x8 _ hxk ⟨rfl,l,r',rfl,hlr,E9,hm,DZ,AA⟩
   dsimp only
   by_cases oQ:l >= r'
   ·rw[if_pos oQ]
    have:l=r':=by exact Nat.le_antisymm ‹_› ‹_›
    subst this
    exact wpS_pure ⟨rfl,l,l,rfl,E9,DZ,AA⟩
   ·rw[if_neg oQ]
    refine wpS_bind (jL C iS qf (by lia) (by lia) ?_)
    by_cases vi:R r (arrOf x8) (lo+k)<R r (arrOf x8) (lo+(l+r') / 2)
    ·simp only[vi,decide_true,if_true]
     refine wpS_pure ⟨rfl,l,(l+r') / 2,rfl,by lia,by lia,by lia,DZ,fun i h1 h2=>?_⟩
     exact Int.lt_of_lt_of_le vi (fN _ _ (by exact xt _ _) h1 h2)
    ·simp only[vi,decide_false,gu,if_false]
     refine wpS_pure ⟨rfl,(l+r') / 2+1,r',rfl,by lia,by lia,by lia,fun i h0 h1=>?_,AA⟩
     exact vT (fN i (lo+(l+r') / 2) h0 (by lia) (by lia)) (OJ.mp vi)
  case cb' =>
   rintro c x8 ⟨rfl,l,r',rfl,hlk,DZ,AA⟩
   show wpS _ _ _ _ (do moveDown' (lo+k) (lo+l);pure (ForInStep.yield (none,()))) _ _
   rw[moveDown'_eq]
   have n5:lo+k<(arrOf x8).size:=by lia
   refine wpS_bind (wpS_modify (wpS_pure ⟨rfl,ic.trans ((uQ (lo:=lo) n5 (by lia)).mono (bT _) (by lia)),?_⟩))
   rw[show min (k+1) n=k+1 by exact Nat.min_eq_left ‹_›]
   intro i j hl gi hj
   show R r (bubble (arrOf x8) (lo+k) (lo+k-(lo+l))) i<=R r (bubble (arrOf x8) (lo+k) (lo+k-(lo+l))) j
   rw[tW n5 (by exact Oq _ _),tW n5 (by exact Oq _ _),show lo+k-(lo+k-(lo+l))=lo+l by lia]
   repeat' split
   all_goals first
    | (exfalso;lia)
    |exact sD _
    |exact DZ _ (by lia) (by lia)
    |exact zo (AA _ (by lia) (by lia))
    |exact fN _ _ (by lia) (by lia) (by lia)
end
def ascL(lo a nrem:Nat):StateT SortSt Sem AscSt :=
 forIn [a:nrem] ((none,a):AscSt) fun _ __s=>do
  let __x ← ltAt' (lo + __s.snd) (lo + __s.snd - 1)
  match __x with
  |some smaller=>if smaller=true then pure (ForInStep.done (none,__s.snd)) else pure (ForInStep.yield (none,__s.snd+1))
  |_=>pure (ForInStep.done (some none,__s.snd))
def pN(lo n nrem:Nat):StateT SortSt Sem (Option Nat):=do
 reverseSlice' lo (lo+n)
 let __s ← ascL lo n nrem
 match __s.fst with
 |some r=>pure r
 |none=>pure (some __s.snd)
def zZ(lo n nrem:Nat):StateT SortSt Sem DescSt :=
 forIn [n:nrem] ((none,n,0):DescSt) fun _ __s=>do
  let __x ← ltAt' (lo + __s.snd.fst) (lo + __s.snd.fst - 1)
  match __x with
  |some smaller =>
   if smaller=true then
    if __s.snd.snd>0 then do
     reverseSlice' (lo+__s.snd.fst-(__s.snd.snd+1)) (lo+__s.snd.fst)
     pure (ForInStep.yield (none,__s.snd.fst+1,0))
    else pure (ForInStep.yield (none,__s.snd.fst+1,0))
   else do
    let __x ← ltAt' (lo+__s.snd.fst - 1) (lo+__s.snd.fst)
    match __x with
    |some larger =>
     if larger=true then pure (ForInStep.done (none,__s.snd.fst,__s.snd.snd))
     else pure (ForInStep.yield (none,__s.snd.fst+1,__s.snd.snd+1))
    |_=>pure (ForInStep.done (some none,__s.snd.fst,__s.snd.snd))
  |_=>pure (ForInStep.done (some none,__s.snd.fst,__s.snd.snd))
def fQ(lo n nrem:Nat):StateT SortSt Sem (Option Nat):=do
 liftM (rule "list.sort.descending-run")
 let __s ← zZ lo (n+1) nrem
 match __s.fst with
 |some r=>pure r
 |none =>
  if __s.snd.snd>0 then do
   reverseSlice' (lo+__s.snd.fst-(__s.snd.snd+1)) (lo+__s.snd.fst)
   pN lo __s.snd.fst nrem
  else pN lo __s.snd.fst nrem
theorem pG(lo nrem:Nat):countRun' lo nrem=(do
  let __s ← ascL lo 1 nrem
  match __s.fst with
  |some r=>pure r
  |none =>
   if (__s.snd == nrem)=true then pure (some __s.snd)
   else if __s.snd>1 then do
    let __x ← ltAt' lo (lo+__s.snd - 1)
    match __x with
    |some Wo=>if Wo=true then pure (some __s.snd) else do
      reverseSlice' lo (lo+__s.snd)
      fQ lo __s.snd nrem
    |_=>pure none
   else fQ lo __s.snd nrem):=by
 rw[countRun'_eq]
 dsimp only
 unfold fQ pN zZ ascL
 congr 1
 funext __s
 obtain⟨r,n⟩:=__s
 cases r with
 |some r=>rfl
 |none =>
  dsimp only
  split
  ·rfl
  ·split
   ·congr 1
    funext x
    cases x with
    |none=>rfl
    |some Wo =>
     dsimp only
     split
     ·rfl
     ·congr 1
      funext _r
      (congr 1;funext _u;congr 1;congr 1;funext s2;obtain⟨r2,n2,q2⟩:=s2;cases r2 with
       |some r2=>rfl
       |none=>(dsimp only;split;(congr 1;funext _v;(congr 1;funext _w;congr 1;(funext s3;obtain⟨r3,n3⟩:=s3;cases r3<;>rfl)));(congr 1;funext _w;congr 1;(funext s3;obtain⟨r3,n3⟩:=s3;cases r3<;>rfl))))
   ·(congr 1;funext _u;congr 1;congr 1;funext s2;obtain⟨r2,n2,q2⟩:=s2;cases r2 with
     |some r2=>rfl
     |none=>(dsimp only;split;(congr 1;funext _v;(congr 1;funext _w;congr 1;(funext s3;obtain⟨r3,n3⟩:=s3;cases r3<;>rfl)));(congr 1;funext _w;congr 1;(funext s3;obtain⟨r3,n3⟩:=s3;cases r3<;>rfl))))
section
variable {prog:Program}{w:World}{A:Around}{E:Value->Shared->Prop}{s:Shared}{κ:SortKind}{r:Value->Int}{P:Value->Prop}
theorem ud{st:SortSt}{lo a nrem:Nat}{Q:AscSt->SortSt->Prop}(C:lT prog w A s κ r P)(hk:kindOf st=κ)(hP:AllP P (arrOf st))(hn:lo+nrem<=(arrOf st).size)(ha:1<=a)(han:a<=nrem)
  (hs:Up r (arrOf st) lo (lo+a))
  (h:∀ n,a<=n->n<=nrem->Up r (arrOf st) lo (lo+n)->(n=nrem\/R r (arrOf st) (lo+n)<R r (arrOf st) (lo+n-1))->Q (none,n) st) :
  wpS (model prog w) A E s (ascL lo a nrem) Q st:=by
 unfold ascL
 refine wpS_forRange (I:=fun x c ag=>ag=st/\c=(none,x)/\Up r (arrOf st) lo (lo+x)) ?step ?fin ⟨rfl,rfl,hs⟩
 case fin =>
  rintro c ag ⟨rfl,rfl,fN⟩
  rw[show max a nrem=nrem by lia] at fN ⊢
  exact h nrem han (bT _) fN (.inl rfl)
 case step =>
  rintro x c ag Sq hxn ⟨rfl,rfl,fN⟩
  dsimp only
  refine wpS_bind (jL C hk hP (by lia) (by lia) ?_)
  by_cases vi:R r (arrOf ag) (lo+x)<R r (arrOf ag) (lo+x-1)
  ·simp only[vi,decide_true,if_true]
   exact wpS_pure (h x Sq (by exact kD ‹_›) fN (.inr vi))
  ·simp only[vi,decide_false,gu,if_false]
   refine wpS_pure ⟨rfl,rfl,fun i j hl gi hj=>?_⟩
   by_cases M8:j<lo+x
   ·exact fN i j hl gi M8
   ·have n9:j=lo+x:=by lia
    subst n9
    by_cases kA:i=lo+x
    ·subst kA;exact sD _
    ·exact vT (fN i (lo+x-1) hl (by lia) (by lia)) (OJ.mp vi)
theorem mX{st:SortSt}{lo n nrem:Nat}{Q:Option Nat->SortSt->Prop}(C:lT prog w A s κ r P)(hk:kindOf st=κ)(hP:AllP P (arrOf st))(hn:lo+nrem<=(arrOf st).size)(h1:1<=n)(BM:n<=nrem)
  (hs:Down r (arrOf st) lo (lo+n)) (h:∀ m ag,kR lo (lo+nrem) st ag->1<=m->m<=nrem->Up r (arrOf ag) lo (lo+m)->Q (some m) ag) :
  wpS (model prog w) A E s (pN lo n nrem) Q st:=by
 unfold pN
 have hsz:lo+n<=(arrOf st).size:=by lia
 refine wpS_bind (dG ?_)
 have ic:=fW (i:=lo) hsz
 refine wpS_bind (ud C (ic.kind.trans hk) (hP.perm ic.perm) (by rw[ic.size];exact hn) h1 BM ?_ fun m ya qh Sr _=>wpS_pure (h m _ (ic.mono (bT _) (by lia)) (by walk_at "s1") qh Sr))
 intro i j hl gi hj
 show R r (mirror (arrOf st) lo (lo+n) ((lo+n-lo) / 2)) i<=R r (mirror (arrOf st) lo (lo+n) ((lo+n-lo) / 2)) j
 rw[nO hsz,nO hsz,if_pos (by lia),if_pos (by lia)]
 exact hs _ _ (by lia) (by lia) (by lia)
theorem wz{st:SortSt}{lo n nrem:Nat}{Q:DescSt->SortSt->Prop}(C:lT prog w A s κ r P)(hk:kindOf st=κ)(hP:AllP P (arrOf st))(hn:lo+nrem<=(arrOf st).size)(h1:1<=n)(BM:n<=nrem)
  (hs:Down r (arrOf st) lo (lo+n))
  (h:∀ m qk ag,kR lo (lo+nrem) st ag->n<=m->m<=nrem->Down r (arrOf ag) lo (lo+m)->qk+1<=m->(∀ i,lo+m-(qk+1)<=i->i<lo+m->R r (arrOf ag) i=R r (arrOf ag) (lo+m-1))->Q (none,m,qk) ag) :
  wpS (model prog w) A E s (zZ lo n nrem) Q st:=by
 unfold zZ
 refine wpS_forRange (I:=fun x c ag=>∃ qk,c=(none,x,qk)/\kR lo (lo+nrem) st ag/\Down r (arrOf ag) lo (lo+x)/\qk+1<=x /\
   (∀ i,lo+x-(qk+1)<=i->i<lo+x->R r (arrOf ag) i=R r (arrOf ag) (lo+x-1))) ?step ?fin ⟨0,rfl,.refl _ _ _,hs,by lia,fun i h1 h2=>by congr 1;lia⟩
 case fin =>
  rintro c ag ⟨qk,rfl,ic,fN,hq,he⟩
  rw[show max n nrem=nrem by lia] at fN hq he ⊢
  exact h nrem qk ag ic BM (bT _) fN hq he
 case step =>
  rintro x c ag Sq hxn ⟨qk,rfl,ic,fN,hq,he⟩
  dsimp only
  have hz:=ic.size
  have hsz:lo+x<=(arrOf ag).size:=by lia
  have iS:=ic.kind.trans hk
  have qf:=hP.perm ic.perm
  refine wpS_bind (jL C iS qf (by lia) (by lia) ?_)
  by_cases vi:R r (arrOf ag) (lo+x)<R r (arrOf ag) (lo+x-1)
  ·simp only[vi,decide_true,if_true]
   have Wq:∀ xs:Array Keyed,(∀ k,R r xs k=R r (arrOf ag) k)->Down r xs lo (lo+(x+1)):=by
    intro xs Wr i j hl gi hj
    rw[Wr,Wr]
    by_cases M8:j<lo+x
    ·exact fN i j hl gi M8
    ·have n9:j=lo+x:=by lia
     subst n9
     by_cases kA:i=lo+x
     ·subst kA;exact sD _
     ·exact vT (zo vi) (fN i (lo+x-1) hl (by lia) (by lia))
   by_cases M9:qk>0
   ·rw[if_pos M9]
    refine wpS_bind (dG (wpS_pure ⟨0,rfl,ic.trans ((fW hsz).mono (by lia) (by lia)),Wq _ (b7 hsz he),by exact tT _,fun i h1 h2=>by congr 1;lia⟩))
   ·rw[if_neg M9]
    exact wpS_pure ⟨0,rfl,ic,Wq _ (fun _=>rfl),by exact tT _,fun i h1 h2=>by congr 1;lia⟩
  ·simp only[vi,decide_false,gu,if_false]
   refine wpS_bind (jL C iS qf (by lia) (by lia) ?_)
   by_cases Ws:R r (arrOf ag) (lo+x-1)<R r (arrOf ag) (lo+x)
   ·simp only[Ws,decide_true,if_true]
    exact wpS_pure (h x qk ag ic Sq (by exact kD ‹_›) fN hq he)
   ·simp only[Ws,decide_false,gu,if_false]
    have Wt:R r (arrOf ag) (lo+x)=R r (arrOf ag) (lo+x-1):=by lia
    refine wpS_pure ⟨qk+1,rfl,ic,fun i j hl gi hj=>?_,by exact vS ‹_›,fun i h1 h2=>?_⟩
    ·by_cases M8:j<lo+x
     ·exact fN i j hl gi M8
     ·have n9:j=lo+x:=by lia
      subst n9
      by_cases kA:i=lo+x
      ·subst kA;exact sD _
      ·rw[Wt];exact fN i (lo+x-1) hl (by lia) (by lia)
    ·rw[show lo+(x+1)-1=lo+x by rfl]
     by_cases w4:i=lo+x
     ·subst w4;rfl
     ·rw[Wt];exact he i (by lia) (by lia)
theorem il{st:SortSt}{lo n nrem:Nat}{Q:Option Nat->SortSt->Prop}(C:lT prog w A s κ r P)(hk:kindOf st=κ)(hP:AllP P (arrOf st))(hn:lo+nrem<=(arrOf st).size)(BM:n+1<=nrem)
  (hs:Down r (arrOf st) lo (lo+(n+1))) (h:∀ m ag,kR lo (lo+nrem) st ag->1<=m->m<=nrem->Up r (arrOf ag) lo (lo+m)->Q (some m) ag) :
  wpS (model prog w) A E s (fQ lo n nrem) Q st:=by
 unfold fQ
 refine wpS_bind (wpS_lift (wpAny_rule ⟨rfl,?_⟩))
 refine wpS_bind (wz C hk hP hn (by exact tT _) BM hs fun m qk ag ic ya qh fN hq he=>?_)
 dsimp only
 have hz:=ic.size
 have hsz:lo+m<=(arrOf ag).size:=by lia
 have iS:=ic.kind.trans hk
 have qf:=hP.perm ic.perm
 by_cases M9:qk>0
 ·rw[if_pos M9]
  have hW:=fW (i:=lo+m-(qk+1)) hsz
  refine wpS_bind (dG (mX C (hW.kind.trans iS) (qf.perm hW.perm) (by rw[hW.size,hz];exact hn) (by walk_at "s2") qh ?_ fun m2 wm M_=>h m2 wm ((ic.trans (hW.mono (by lia) (by lia))).trans M_)))
  intro i j hl gi hj
  show R r (mirror (arrOf ag) _ _ _) j<=R r (mirror (arrOf ag) _ _ _) i
  rw[b7 hsz he,b7 hsz he]
  exact fN i j hl gi hj
 ·rw[if_neg M9]
  exact mX C iS qf (by rw[hz];exact hn) (by lia) qh fN fun m2 wm M_=>h m2 wm (ic.trans M_)
theorem wpS_countRun{st:SortSt}{lo nrem:Nat}{Q:Option Nat->SortSt->Prop}(C:lT prog w A s κ r P)(hk:kindOf st=κ)(hP:AllP P (arrOf st))(hn:lo+nrem<=(arrOf st).size)(h1:1<=nrem)
  (h:∀ m ag,kR lo (lo+nrem) st ag->1<=m->m<=nrem->Up r (arrOf ag) lo (lo+m)->Q (some m) ag) :
  wpS (model prog w) A E s (countRun' lo nrem) Q st:=by
 rw[pG]
 refine wpS_bind (ud C hk hP hn (bT 1) h1 (fun i j hl gi hj=>by
  have:i=j:=by lia
  subst this;exact sD _) fun n Wu IG qq hor=>?_)
 dsimp only
 by_cases BM:n=nrem
 ·rw[if_pos (by simpa using BM)]
  exact wpS_pure (h n st (.refl _ _ _) Wu IG qq)
 ·rw[if_neg (by simpa using BM)]
  have da:R r (arrOf st) (lo+n)<R r (arrOf st) (lo+n-1):=hor.resolve_left BM
  by_cases Wv:n>1
  ·rw[if_pos Wv]
   refine wpS_bind (jL C hk hP (by lia) (by lia) ?_)
   by_cases Ww:R r (arrOf st) lo<R r (arrOf st) (lo+n-1)
   ·simp only[Ww,decide_true,if_true]
    exact wpS_pure (h n st (.refl _ _ _) Wu IG qq)
   ·simp only[Ww,decide_false,gu,if_false]
    have hsz:lo+n<=(arrOf st).size:=by lia
    have oI:∀ k,lo<=k->k<lo+n->R r (arrOf st) k=R r (arrOf st) (lo+n-1):=by
     intro k hl hk
     have a1:=qq lo k (by exact bT _) hl hk
     have a2:=qq k (lo+n-1) hl (by lia) (by lia)
     lia
    have hW:=fW (i:=lo) hsz
    refine wpS_bind (dG (il C (hW.kind.trans hk) (hP.perm hW.perm) (by rw[hW.size];exact hn) (by lia) ?_ fun m2 wm M_=>h m2 wm ((hW.mono (bT _) (by lia)).trans M_)))
    intro i j hl gi hj
    show R r (mirror (arrOf st) _ _ _) j<=R r (mirror (arrOf st) _ _ _) i
    rw[b7 hsz oI,b7 hsz oI]
    by_cases hjn:j<lo+n
    ·rw[oI i hl (by walk_at "s1"),oI j (by walk_at "s1") hjn];exact sD _
    ·have n9:j=lo+n:=by lia
     subst n9
     by_cases kA:i=lo+n
     ·subst kA;exact sD _
     ·rw[oI i hl (by lia)];exact zo da
  ·rw[if_neg Wv]
   have ch':n=1:=by lia
   subst ch'
   refine il C hk hP hn (by lia) ?_ h
   intro i j hl gi hj
   by_cases kA:i=j
   ·subst kA;exact sD _
   ·have ve:i=lo:=by lia
    have IJ:j=lo+1:=by lia
    subst ve;subst IJ
    exact zo da
end
def wZ(left:Bool)(key:Keyed)(arr:Array Keyed)(base i:Nat):StateT SortSt Sem (Option Bool):=do
 let x ← elem' arr (base+i)
 if left then lt' x key else return (<- lt' key x).map (!·)
def jX:Bool->Keyed->Array Keyed->Nat->Nat->Nat->StateT SortSt Sem (Option Nat):=sortPriv% PySem.Builtin.gallop
section
variable {prog:Program}{w:World}{A:Around}{E:Value->Shared->Prop}{s:Shared}{κ:SortKind}{r:Value->Int}{P:Value->Prop}
def eR(r:Value->Int)(left:Bool)(key:Keyed)(arr:Array Keyed)(base i:Nat):Bool :=
 if left then decide (R r arr (base+i)<r key.1) else !decide (r key.1<R r arr (base+i))
theorem dW{st:SortSt}{left:Bool}{key:Keyed}{arr:Array Keyed}{base i:Nat}{Q:Option Bool->SortSt->Prop}(C:lT prog w A s κ r P)(hk:kindOf st=κ)(hP:AllP P arr)(hy:P key.1)(hi:base+i<arr.size)
  (h:Q (some (eR r left key arr base i)) st):wpS (model prog w) A E s (wZ left key arr base i) Q st:=by
 unfold wZ
 refine wpS_bind (aH hi fun p ep=>?_)
 have e1:R r arr (base+i)=r p.1:=by unfold R;rw[ep]
 unfold eR at h
 rw[e1] at h
 cases left with
 |true =>
  simp only[if_true] at h ⊢
  exact pR C hk (hP.at ep) hy h
 |false =>
  simp only[gu,if_false] at h ⊢
  exact wpS_bind (pR C hk hy (hP.at ep) (wpS_pure h))
theorem za{left:Bool}{key:Keyed}{arr:Array Keyed}{base n i j:Nat}(hu:Up r arr base (base+n))(gi:i<=j)(hj:j<n)(h:eR r left key arr base j=true):eR r left key arr base i=true:=by
 have q:=hu (base+i) (base+j) (by exact xt _ _) (by lia) (by lia)
 unfold eR at h ⊢
 cases left with
 |true=>simp only[if_true,decide_eq_true_eq] at h ⊢;lia
 |false=>simp only[gu,if_false,Q8,decide_eq_false_iff_not] at h ⊢;lia
theorem cY{st:SortSt}{left:Bool}{key:Keyed}{arr:Array Keyed}{base n hint:Nat}{Q:Option Nat->SortSt->Prop}(C:lT prog w A s κ r P)(hk:kindOf st=κ)(hP:AllP P arr)(hy:P key.1)(hn:base+n<=arr.size)(hh:hint<n)
  (hu:Up r arr base (base+n))
  (h:∀ k,k<=n->(∀ i,i<k->eR r left key arr base i=true)->(∀ i,k<=i->i<n->eR r left key arr base i=false)->Q (some k) st):wpS (model prog w) A E s (jX left key arr base n hint) Q st:=by
 have mono:∀ {i j},i<=j->j<n->eR r left key arr base j=true->eR r left key arr base i=true:=fun a b c=>za hu a b c
 have PF:∀ {i j},i<=j->j<n->eR r left key arr base i=false->eR r left key arr base j=false:=fun {i j} a b c=>by
  cases q:eR r left key arr base j with
  |false=>rfl
  |true=>rw[mono a b q] at c;cases c
 refine wpS_bind (dW C hk hP hy (by lia) ?_)
 dsimp only
 cases q0:eR r left key arr base hint with
 |true =>
  simp only[if_true]
  refine wpS_bind (wpS_mono (wpS_forRange (I:=fun x c ag=>ag=st/\∃ lst eP,c=(none,lst,eP)/\lst<eP/\lst<n-hint/\x+1<=eP/\eR r left key arr base (hint+lst)=true)
   (Q:=fun c ag=>ag=st/\∃ lst eP,c=(none,lst,eP)/\lst<eP/\lst<n-hint/\eR r left key arr base (hint+lst)=true/\(n-hint<=eP\/eR r left key arr base (hint+eP)=false)) ?step ?fin ?init) ?post)
  case init=>exact⟨rfl,0,1,rfl,by exact tT _,by lia,by exact tT _,q0⟩
  case fin =>
   rintro c ag ⟨rfl,lst,eP,rfl,h1,h2,h3,h4⟩
   exact⟨rfl,lst,eP,rfl,h1,h2,h4,.inl (by lia)⟩
  case step =>
   rintro x c ag _ hx ⟨rfl,lst,eP,rfl,h1,h2,h3,h4⟩
   dsimp only
   by_cases oQ:eP >= n-hint
   ·rw[if_pos oQ]
    exact wpS_pure ⟨rfl,lst,eP,rfl,h1,h2,h4,.inl oQ⟩
   ·rw[if_neg oQ]
    refine wpS_bind (dW C hk hP hy (by lia) ?_)
    cases q:eR r left key arr base (hint+eP) with
    |true =>
     simp only[Ov,gu,if_false]
     exact wpS_pure ⟨rfl,_,_,rfl,by lia,by exact L5 ‹_›,by lia,q⟩
    |false =>
     simp only[Bool.not_false,if_true]
     exact wpS_pure ⟨rfl,lst,eP,rfl,h1,h2,h4,.inr q⟩
  case post =>
   rintro c ag ⟨rfl,lst,eP,rfl,h1,h2,h4,h5⟩
   dsimp only
   generalize ag=st at *
   have hl:∀ i,i<hint+lst+1->eR r left key arr base i=true:=fun i hi=>mono (j:=hint+lst) (by lia) (by lia) h4
   have AA:∀ i,hint+min eP (n-hint)<=i->i<n->eR r left key arr base i=false:=fun i hi aw=>by
    rcases h5 with h5|h5
    ·lia
    ·by_cases z:n-hint<=eP
     ·lia
     ·exact PF (i:=hint+eP) (by lia) aw h5
   have Ss:hint+lst+1<=hint+min eP (n-hint):=by lia
   have Sv:hint+min eP (n-hint)<=n:=by lia
   generalize hint+lst+1=lo at *
   generalize hint+min eP (n-hint)=hi at *
   refine wpS_bind (wpS_mono (wpS_forRange (I:=fun x c ag=>ag=st/\∃ l u,c=(none,l,u)/\l<=u/\u<=n/\u-l<=n-x/\(∀ i,i<l->eR r left key arr base i=true)/\(∀ i,u<=i->i<n->eR r left key arr base i=false))
    (Q:=fun c ag=>ag=st/\∃ l,c=(none,l,l)/\l<=n/\(∀ i,i<l->eR r left key arr base i=true)/\(∀ i,l<=i->i<n->eR r left key arr base i=false)) ?ci' ?cj' ?ck') ?postA)
   case ck'=>exact⟨rfl,lo,hi,rfl,Ss,Sv,by lia,hl,AA⟩
   case cj' =>
    rintro c ag ⟨rfl,l,u,rfl,h1,h2,h3,h4,h5⟩
    have:l=u:=by lia
    subst this
    exact⟨rfl,l,rfl,h2,h4,h5⟩
   case ci' =>
    rintro x c ag _ hx ⟨rfl,l,u,rfl,h1,h2,h3,h4,h5⟩
    dsimp only
    by_cases oQ:l >= u
    ·rw[if_pos oQ]
     have:l=u:=by exact Nat.le_antisymm ‹_› ‹_›
     subst this
     exact wpS_pure ⟨rfl,l,rfl,h2,h4,h5⟩
    ·rw[if_neg oQ]
     refine wpS_bind (dW C hk hP hy (by lia) ?_)
     cases q:eR r left key arr base (l+(u-l) / 2) with
     |true =>
      simp only[if_true]
      exact wpS_pure ⟨rfl,_,_,rfl,by lia,by lia,by lia,fun i hi=>mono (j:=l+(u-l) / 2) (by lia) (by lia) q,h5⟩
     |false =>
      simp only[gu,if_false]
      exact wpS_pure ⟨rfl,_,_,rfl,by exact xt _ _,by lia,by lia,h4,fun i hi aw=>PF (i:=l+(u-l) / 2) (by lia) aw q⟩
   case postA =>
    rintro c ag ⟨rfl,l,rfl,h2,h4,h5⟩
    exact wpS_pure (h l h2 h4 h5)
 |false =>
  simp only[gu,if_false]
  refine wpS_bind (wpS_mono (wpS_forRange (I:=fun x c ag=>ag=st/\∃ lst eP,c=(none,lst,eP)/\lst<eP/\lst<hint+1/\x+1<=eP/\eR r left key arr base (hint-lst)=false)
   (Q:=fun c ag=>ag=st/\∃ lst eP,c=(none,lst,eP)/\lst<eP/\lst<hint+1/\eR r left key arr base (hint-lst)=false/\(hint+1<=eP\/eR r left key arr base (hint-eP)=true)) ?cl' ?fin2 ?cm') ?cn')
  case cm'=>exact⟨rfl,0,1,rfl,by exact tT _,by exact tT _,by exact tT _,q0⟩
  case fin2 =>
   rintro c ag ⟨rfl,lst,eP,rfl,h1,h2,h3,h4⟩
   exact⟨rfl,lst,eP,rfl,h1,h2,h4,.inl (by walk_at "s2")⟩
  case cl' =>
   rintro x c ag _ hx ⟨rfl,lst,eP,rfl,h1,h2,h3,h4⟩
   dsimp only
   by_cases oQ:eP >= hint+1
   ·rw[if_pos oQ]
    exact wpS_pure ⟨rfl,lst,eP,rfl,h1,h2,h4,.inl oQ⟩
   ·rw[if_neg oQ]
    refine wpS_bind (dW C hk hP hy (by lia) ?_)
    cases q:eR r left key arr base (hint-eP) with
    |true =>
     simp only[if_true]
     exact wpS_pure ⟨rfl,lst,eP,rfl,h1,h2,h4,.inr q⟩
    |false =>
     simp only[gu,if_false]
     exact wpS_pure ⟨rfl,_,_,rfl,by lia,by exact L5 ‹_›,by lia,q⟩
  case cn' =>
   rintro c ag ⟨rfl,lst,eP,rfl,h1,h2,h4,h5⟩
   dsimp only
   generalize ag=st at *
   have hl:∀ i,i<hint+1-min eP (hint+1)->eR r left key arr base i=true:=fun i hi=>by
    rcases h5 with h5|h5
    ·lia
    ·by_cases z:hint+1<=eP
     ·lia
     ·exact mono (j:=hint-eP) (by lia) (by lia) h5
   have AA:∀ i,hint-lst<=i->i<n->eR r left key arr base i=false:=fun i hi aw=>PF (i:=hint-lst) (by lia) aw h4
   have Ss:hint+1-min eP (hint+1)<=hint-lst:=by lia
   have Sv:hint-lst<=n:=by lia
   generalize hint+1-min eP (hint+1)=lo at *
   generalize hint-lst=hi at *
   refine wpS_bind (wpS_mono (wpS_forRange (I:=fun x c ag=>ag=st/\∃ l u,c=(none,l,u)/\l<=u/\u<=n/\u-l<=n-x/\(∀ i,i<l->eR r left key arr base i=true)/\(∀ i,u<=i->i<n->eR r left key arr base i=false))
    (Q:=fun c ag=>ag=st/\∃ l,c=(none,l,l)/\l<=n/\(∀ i,i<l->eR r left key arr base i=true)/\(∀ i,l<=i->i<n->eR r left key arr base i=false)) ?co' ?cp' ?cq') ?cr')
   case cq'=>exact⟨rfl,lo,hi,rfl,Ss,Sv,by lia,hl,AA⟩
   case cp' =>
    rintro c ag ⟨rfl,l,u,rfl,h1,h2,h3,h4,h5⟩
    have:l=u:=by lia
    subst this
    exact⟨rfl,l,rfl,h2,h4,h5⟩
   case co' =>
    rintro x c ag _ hx ⟨rfl,l,u,rfl,h1,h2,h3,h4,h5⟩
    dsimp only
    by_cases oQ:l >= u
    ·rw[if_pos oQ]
     have:l=u:=by exact Nat.le_antisymm ‹_› ‹_›
     subst this
     exact wpS_pure ⟨rfl,l,rfl,h2,h4,h5⟩
    ·rw[if_neg oQ]
     refine wpS_bind (dW C hk hP hy (by lia) ?_)
     cases q:eR r left key arr base (l+(u-l) / 2) with
     |true =>
      simp only[if_true]
      exact wpS_pure ⟨rfl,_,_,rfl,by lia,by lia,by lia,fun i hi=>mono (j:=l+(u-l) / 2) (by lia) (by lia) q,h5⟩
     |false =>
      simp only[gu,if_false]
      exact wpS_pure ⟨rfl,_,_,rfl,by exact xt _ _,by lia,by lia,h4,fun i hi aw=>PF (i:=l+(u-l) / 2) (by lia) aw q⟩
   case cr' =>
    rintro c ag ⟨rfl,l,rfl,h2,h4,h5⟩
    exact wpS_pure (h l h2 h4 h5)
end
abbrev Le(r:Value->Int)(x y:Keyed):Prop:=r x.1<=r y.1
theorem nE{r:Value->Int}{xs:Array Keyed}{i:Nat}{p:Keyed}(e:xs[i]? = some p):R r xs i=r p.1:=by unfold R;rw[e]
theorem Fe{r:Value->Int}{xs:Array Keyed}{i:Nat}(h:i<xs.size):R r xs i=r xs[i].1:=nE (getElem?_pos xs i h)
structure MI(r:Value->Int)(a b out:Array Keyed)(ia ib:Nat):Prop where
 ha:ia<=a.size
 hb:ib<=b.size
 perm:out.toList.Perm (a.toList.take ia++b.toList.take ib)
 up:out.toList.Pairwise (Le r)
 la:∀ x∈out.toList,∀ i,ia<=i->i<a.size->r x.1<=R r a i
 lb:∀ x∈out.toList,∀ j,ib<=j->j<b.size->r x.1<=R r b j
section
variable {r:Value->Int}{a b out:Array Keyed}{ia ib:Nat}
theorem mW{α:Type}{l:List α}{i:Nat}{x:α}(h:l[i]? = some x):l.take (i+1)=l.take i++[x]:=by
 rw[EH,h];rfl
theorem MI.qj(M:MI r a b out ia ib)(hA:Up r a 0 a.size)(hB:Up r b 0 b.size){y:Keyed}(e:b[ib]? = some y)(hl:ia<a.size->R r b ib<=R r a ia):MI r a b (out.push y) ia (ib+1):=by
 have Wx:ib<b.size:=(HL.mp e).1
 have ey:=nE (r:=r) e
 refine⟨M.ha,Wx,?_,?_,?_,?_⟩
 ·rw[nS,mW (x:=y) (by simpa using e),<- xo]
  exact M.perm.append_right _
 ·rw[nS,LW]
  refine⟨M.up,by simp,fun x hx z hz=>?_⟩
  have:z=y:=by simpa using hz
  subst this
  show r x.1<=r z.1
  rw[<- ey]
  exact M.lb x hx ib (bT _) Wx
 ·intro x hx i hi IL
  rw[nS] at hx
  rcases dy.mp hx with hx|hx
  ·exact M.la x hx i hi IL
  ·have:x=y:=by simpa using hx
   subst this
   rw[<- ey]
   exact vT (hl (by walk_at "s1")) (hA ia i (dz _) hi IL)
 ·intro x hx j hj Nb
  rw[nS] at hx
  rcases dy.mp hx with hx|hx
  ·exact M.lb x hx j (by exact kD ‹_›) Nb
  ·have:x=y:=by simpa using hx
   subst this
   rw[<- ey]
   exact hB ib j (dz _) (by exact kD ‹_›) Nb
theorem MI.qM(M:MI r a b out ia ib)(hA:Up r a 0 a.size)(hB:Up r b 0 b.size){y:Keyed}(e:a[ia]? = some y)(hl:ib<b.size->R r a ia<=R r b ib):MI r a b (out.push y) (ia+1) ib:=by
 have IL:ia<a.size:=(HL.mp e).1
 have ey:=nE (r:=r) e
 refine⟨IL,M.hb,?_,?_,?_,?_⟩
 ·rw[nS,mW (x:=y) (by simpa using e),xo]
  refine(M.perm.append_right [y]).trans ?_
  rw[xo]
  exact List.Perm.append_left _ QM
 ·rw[nS,LW]
  refine⟨M.up,by simp,fun x hx z hz=>?_⟩
  have:z=y:=by simpa using hz
  subst this
  show r x.1<=r z.1
  rw[<- ey]
  exact M.la x hx ia (bT _) IL
 ·intro x hx i hi hX
  rw[nS] at hx
  rcases dy.mp hx with hx|hx
  ·exact M.la x hx i (by exact kD ‹_›) hX
  ·have:x=y:=by simpa using hx
   subst this
   rw[<- ey]
   exact hA ia i (dz _) (by exact kD ‹_›) hX
 ·intro x hx j hj Nb
  rw[nS] at hx
  rcases dy.mp hx with hx|hx
  ·exact M.lb x hx j hj Nb
  ·have:x=y:=by simpa using hx
   subst this
   rw[<- ey]
   exact vT (hl (by walk_at "s1")) (hB ib j (dz _) hj Nb)
theorem fC{xs:Array Keyed}{i k:Nat}(h:i+k<xs.size):xs.extract i (i+(k+1))=(xs.extract i (i+k)).push xs[i+k]:=by
 apply OB.mp
 rw[nS]
 simp only[Q_,QH]
 rw[show i+(k+1)-i=k+1 by exact Q5 ..,show i+k-i=k by exact Q5 ..,EH]
 congr 1
 rw[List.getElem?_drop]
 simp[h]
theorem MI.BO(hA:Up r a 0 a.size)(hB:Up r b 0 b.size):∀ (k:Nat) {out:Array Keyed} {ia:Nat},MI r a b out ia ib->ia+k<=a.size->(ib<b.size->∀ i,i<k->R r a (ia+i)<=R r b ib)->MI r a b (out++a.extract ia (ia+k)) (ia+k) ib
 |0,out,ia,M,h1,h2=>by
  have:a.extract ia (ia+0) = #[]:=Ox (by simp only[ER];lia)
  rw[this]
  simpa using M
 |k+1,out,ia,M,h1,h2=>by
  have q:=MI.BO hA hB k M (by exact kD ‹_›) fun hb i hi=>h2 hb i (by exact ot ‹_›)
  have e:a[ia+k]? = some a[ia+k]:=getElem?_pos a (ia+k) (by assumption)
  have z:=q.qM hA hB e fun hb=>h2 hb k (by exact bT _)
  rw[fC (by assumption),Array.append_push]
  exact z
theorem MI.BQ(hA:Up r a 0 a.size)(hB:Up r b 0 b.size):∀ (k:Nat) {out:Array Keyed} {ib:Nat},MI r a b out ia ib->ib+k<=b.size->(ia<a.size->∀ i,i<k->R r b (ib+i)<=R r a ia)->MI r a b (out++b.extract ib (ib+k)) ia (ib+k)
 |0,out,ib,M,h1,h2=>by
  have:b.extract ib (ib+0) = #[]:=Ox (by simp only[ER];lia)
  rw[this]
  simpa using M
 |k+1,out,ib,M,h1,h2=>by
  have q:=MI.BQ hA hB k M (by exact kD ‹_›) fun ha i hi=>h2 ha i (by exact ot ‹_›)
  have e:b[ib+k]? = some b[ib+k]:=getElem?_pos b (ib+k) (by assumption)
  have z:=q.qj hA hB e fun ha=>h2 ha k (by exact bT _)
  rw[fC (by assumption),Array.append_push]
  exact z
def cH(r:Value->Int)(a b out:Array Keyed):Prop:=out.toList.Perm (a.toList++b.toList)/\out.toList.Pairwise (Le r)
theorem MI.whole(M:MI r a b out a.size b.size):cH r a b out:=by
 refine⟨?_,M.up⟩
 have h:=M.perm
 rw[Od (by simp),Od (by simp)] at h
 exact h
theorem MI.HB(M:MI r a b out ia b.size)(hA:Up r a 0 a.size)(hB:Up r b 0 b.size):cH r a b (out++a.extract ia a.size++b.extract b.size b.size):=by
 have e:b.extract b.size b.size = #[]:=by simp
 rw[e,Ra]
 have ha:=M.ha
 have q:=MI.BO hA hB (a.size-ia) M (by lia) fun hb=>absurd hb (pE _)
 rw[show ia+(a.size-ia)=a.size by exact sA ‹_›] at q
 exact q.whole
theorem MI.Jx(M:MI r a b out a.size ib)(hA:Up r a 0 a.size)(hB:Up r b 0 b.size):cH r a b (out++a.extract a.size a.size++b.extract ib b.size):=by
 have e:a.extract a.size a.size = #[]:=by simp
 rw[e,Ra]
 have hb:=M.hb
 have q:=MI.BQ hA hB (b.size-ib) M (by lia) fun ha=>absurd ha (pE _)
 rw[show ib+(b.size-ib)=b.size by exact sA ‹_›] at q
 exact q.whole
theorem MI.IQ(M:MI r a b out ia ib)(hA:Up r a 0 a.size)(hB:Up r b 0 b.size)(e:ib=b.size):cH r a b (out++a.extract ia a.size++b.extract ib b.size):=by subst e;exact M.HB hA hB
theorem MI.IU(M:MI r a b out ia ib)(hA:Up r a 0 a.size)(hB:Up r b 0 b.size)(e:ia=a.size):cH r a b (out++a.extract ia a.size++b.extract ib b.size):=by subst e;exact M.Jx hA hB
theorem MI.JD(M:MI r a b out ia ib)(hA:Up r a 0 a.size)(hB:Up r b 0 b.size)(IL:ia+1=a.size)(hg:∀ j,j<b.size->R r b j<=R r a ia):cH r a b (out++b.extract ib b.size++a.extract ia a.size):=by
 have hb:=M.hb
 have q:=MI.BQ hA hB (b.size-ib) M (by lia) fun ha i hi=>hg _ (by lia)
 rw[show ib+(b.size-ib)=b.size by exact sA ‹_›] at q
 have z:=MI.BO hA hB (a.size-ia) q (by lia) fun hb=>absurd hb (pE _)
 rw[show ia+(a.size-ia)=a.size by lia] at z
 exact z.whole
theorem MI.start(hA:Up r a 0 a.size)(hB:Up r b 0 b.size):MI r a b #[] 0 0:=⟨dz _,dz _,by simp,by simp,fun x hx=>by simp at hx,fun x hx=>by simp at hx⟩
end
def bV:Nat->StateT SortSt Sem Unit:=sortPriv% PySem.Builtin.setMinGallop
def tR:Array Keyed->Array Keyed->StateT SortSt Sem (Array Keyed):=sortPriv% PySem.Builtin.mergeLo
def sW:Array Keyed->Array Keyed->StateT SortSt Sem (Array Keyed):=sortPriv% PySem.Builtin.mergeHi
theorem jC(g:Nat):bV g=modify fun s=>SortSt.mk' (kindOf s) (arrOf s) (pendingOf s) g (failedOf s):=rfl
def Mg(st ag:SortSt):Prop:=∃ g,ag=SortSt.mk' (kindOf st) (arrOf st) (pendingOf st) g (failedOf st)
theorem Mg.refl(st:SortSt):Mg st st:=⟨gallopOf st,rfl⟩
theorem Mg.kind{st ag:SortSt}(h:Mg st ag):kindOf ag=kindOf st:=by obtain⟨g,rfl⟩:=h;rfl
theorem Mg.set{st ag:SortSt}(h:Mg st ag)(g:Nat):Mg st (SortSt.mk' (kindOf ag) (arrOf ag) (pendingOf ag) g (failedOf ag)):=by obtain⟨g',rfl⟩:=h;exact⟨g,rfl⟩
section
variable {prog:Program}{w:World}{A:Around}{E:Value->Shared->Prop}{s:Shared}{r:Value->Int}
theorem gJ{st:SortSt}{g:Nat}{Q:Unit->SortSt->Prop}(h:Q () (SortSt.mk' (kindOf st) (arrOf st) (pendingOf st) g (failedOf st))):wpS (model prog w) A E s (bV g) Q st:=by
 rw[jC];exact wpS_modify h
theorem zP{key:Keyed}{arr:Array Keyed}{base i:Nat}(h:eR r false key arr base i=true):R r arr (base+i)<=r key.1:=by
 unfold eR at h;simp only[gu,if_false,Q8,decide_eq_false_iff_not] at h;exact OJ.mp ‹_›
theorem wu{key:Keyed}{arr:Array Keyed}{base i:Nat}(h:eR r false key arr base i=false):r key.1<R r arr (base+i):=by
 unfold eR at h;simp only[gu,if_false,Bool.not_eq_false',decide_eq_true_eq] at h;exact h
theorem BX{key:Keyed}{arr:Array Keyed}{base i:Nat}(h:eR r true key arr base i=true):R r arr (base+i)<r key.1:=by
 unfold eR at h;simp only[if_true,decide_eq_true_eq] at h;exact h
theorem t_{key:Keyed}{arr:Array Keyed}{base i:Nat}(h:eR r true key arr base i=false):r key.1<=R r arr (base+i):=by
 unfold eR at h;simp only[if_true,decide_eq_false_iff_not] at h;exact OJ.mp ‹_›
end
theorem Mg.trans{a b c:SortSt}(h:Mg a b)(g:Mg b c):Mg a c:=by obtain⟨x,rfl⟩:=h;obtain⟨y,rfl⟩:=g;exact⟨y,rfl⟩
theorem Cw{K G:Prop}(pk:K)(h:K->G):G:=h pk
abbrev SM:=StateT SortSt Sem
abbrev L1:=Option (Array Keyed) × Array Keyed × Nat × Nat × Nat
abbrev AB:=Option (Array Keyed) × Array Keyed × Nat × Nat × Nat × Nat
abbrev L3:=Option (Array Keyed) × Array Keyed × Nat × Nat × Nat × Nat × Nat
def D2(a b out:Array Keyed)(ia ib:Nat):Array Keyed:=out++a.extract ia a.size++b.extract ib b.size
def Nc(a b out:Array Keyed)(ia ib:Nat):Array Keyed:=out++b.extract ib b.size++a.extract ia a.size
def Sw(a b:Array Keyed)(mg ac bc ia ib:Nat)(out:Array Keyed):SM (ForInStep L3):=elem' a ia >>= fun p =>
 if (ia+1+1 == a.size)=true then pure (.done (some (Nc a b (out.push p) (ia+1) ib),out.push p,ia+1,ib,mg,ac,bc))
 else if (decide (ac<7) && decide (bc<7))=true then pure (.done (none,out.push p,ia+1,ib,mg,ac,bc)) else pure (.yield (none,out.push p,ia+1,ib,mg,ac,bc))
def Fc(a b:Array Keyed)(mg ac bc ia ib:Nat)(out:Array Keyed):SM (ForInStep L3):=elem' a ia >>= fun p=>jX true p b ib (b.size-ib) 0 >>= fun x=>match x with
 |some k=>if k>0 then
   if (ib+k == b.size)=true then pure (.done (some (D2 a b (out++b.extract ib (ib+k)) ia (ib+k)),out++b.extract ib (ib+k),ia,ib+k,mg,ac,k))
   else Sw a b mg ac k ia (ib+k) (out++b.extract ib (ib+k))
  else Sw a b mg ac k ia ib out
 |_=>pure (.done (some (D2 a b out ia ib),out,ia,ib,mg,ac,bc))
def lo1(a b:Array Keyed)(mg ac bc ia ib:Nat)(out:Array Keyed):SM (ForInStep L3):=elem' b ib >>= fun p =>
 if (ib+1 == b.size)=true then pure (.done (some (D2 a b (out.push p) ia (ib+1)),out.push p,ia,ib+1,mg,ac,bc)) else Fc a b mg ac bc ia (ib+1) (out.push p)
def Sx(a b:Array Keyed)(mg ac bc ia ib:Nat)(out:Array Keyed):SM (ForInStep L3):=bV mg >>= fun _=>elem' b ib >>= fun p=>jX false p a ia (a.size-ia) 0 >>= fun x=>match x with
 |some k=>if k>0 then
   if (ia+k+1 == a.size)=true then pure (.done (some (Nc a b (out++a.extract ia (ia+k)) (ia+k) ib),out++a.extract ia (ia+k),ia+k,ib,mg,k,bc))
   else if (ia+k == a.size)=true then pure (.done (some (D2 a b (out++a.extract ia (ia+k)) (ia+k) ib),out++a.extract ia (ia+k),ia+k,ib,mg,k,bc))
   else lo1 a b mg k bc (ia+k) ib (out++a.extract ia (ia+k))
  else lo1 a b mg k bc ia ib out
 |_=>pure (.done (some (D2 a b out ia ib),out,ia,ib,mg,ac,bc))
def Wy(a b:Array Keyed)(_:Nat)(s:L3):SM (ForInStep L3) :=
 if s.2.2.2.2.1>1 then Sx a b (s.2.2.2.2.1-1) s.2.2.2.2.2.1 s.2.2.2.2.2.2 s.2.2.1 s.2.2.2.1 s.2.1 else Sx a b s.2.2.2.2.1 s.2.2.2.2.2.1 s.2.2.2.2.2.2 s.2.2.1 s.2.2.2.1 s.2.1
def Wz(a b:Array Keyed)(mg bc ia ib:Nat)(out:Array Keyed):SM (ForInStep AB):=elem' b ib >>= fun p =>
 if (ib+1 == b.size)=true then pure (.done (some (D2 a b (out.push p) ia (ib+1)),out.push p,ia,ib+1,0,bc+1))
 else if bc+1 >= mg then pure (.done (none,out.push p,ia,ib+1,0,bc+1)) else pure (.yield (none,out.push p,ia,ib+1,0,bc+1))
def WB(a b:Array Keyed)(mg ac ia ib:Nat)(out:Array Keyed):SM (ForInStep AB):=elem' a ia >>= fun p =>
 if (ia+1+1 == a.size)=true then pure (.done (some (Nc a b (out.push p) (ia+1) ib),out.push p,ia+1,ib,ac+1,0))
 else if ac+1 >= mg then pure (.done (none,out.push p,ia+1,ib,ac+1,0)) else pure (.yield (none,out.push p,ia+1,ib,ac+1,0))
def WC(a b:Array Keyed)(mg:Nat)(_:Nat)(s:AB):SM (ForInStep AB):=elem' b s.2.2.2.1 >>= fun pb=>elem' a s.2.2.1 >>= fun pa=>lt' pb pa >>= fun x=>match x with
 |some w=>if w=true then Wz a b mg s.2.2.2.2.2 s.2.2.1 s.2.2.2.1 s.2.1 else WB a b mg s.2.2.2.2.1 s.2.2.1 s.2.2.2.1 s.2.1
 |_=>pure (.done (some (D2 a b s.2.1 s.2.2.1 s.2.2.2.1),s.2.1,s.2.2.1,s.2.2.2.1,s.2.2.2.2.1,s.2.2.2.2.2))
def WD (a b:Array Keyed) (mg:Nat) (t:AB):SM (ForInStep L1):=(liftM (rule "list.sort.gallop"):SM Unit) >>= fun _ =>
 forIn [:a.size+b.size] ((none,t.2.1,t.2.2.1,t.2.2.2.1,mg+1,t.2.2.2.2.1,t.2.2.2.2.2):L3) (Wy a b) >>= fun u=>match u.1 with
 |some r=>pure (.done (some r,u.2.1,u.2.2.1,u.2.2.2.1,u.2.2.2.2.1))
 |none=>bV (u.2.2.2.2.1+1) >>= fun _=>pure (.yield (none,u.2.1,u.2.2.1,u.2.2.2.1,u.2.2.2.2.1+1))
def WH(a b:Array Keyed)(_:Nat)(s:L1):SM (ForInStep L1):=forIn [:a.size+b.size] ((none,s.2.1,s.2.2.1,s.2.2.2.1,0,0):AB) (WC a b s.2.2.2.2) >>= fun t=>match t.1 with
 |some r=>pure (.done (some r,t.2.1,t.2.2.1,t.2.2.2.1,s.2.2.2.2))
 |none=>WD a b s.2.2.2.2 t
def loM (a b:Array Keyed):SM (Array Keyed):=(liftM (rule "list.sort.merge-lo"):SM Unit) >>= fun _=>elem' b 0 >>= fun y =>
 if (1 == b.size)=true then pure (D2 a b #[y] 0 1)
 else if (0+1 == a.size)=true then pure (Nc a b #[y] 0 1)
 else get >>= fun st=>forIn [:a.size+b.size] ((none,#[y],0,1,gallopOf st):L1) (WH a b) >>= fun t=>match t.1 with
 |some r=>pure r
 |none=>(liftM (unsupported (α:=Array Keyed) "internal:list.sort.merge-bound"):SM (Array Keyed))
set_option smartUnfolding false in
theorem uM:tR=loM:=rfl
section
variable {prog:Program}{w:World}{A:Around}{E:Value->Shared->Prop}{s:Shared}{κ:SortKind}{r:Value->Int}{P:Value->Prop}{a b out:Array Keyed}{mg ac bc ia ib N:Nat}{st:SortSt}
structure MC(prog:Program)(w:World)(A:Around)(s:Shared)(κ:SortKind)(r:Value->Int)(P:Value->Prop)(a b:Array Keyed):Prop where
 C:lT prog w A s κ r P
 pa:AllP P a
 pb:AllP P b
 hA:Up r a 0 a.size
 hB:Up r b 0 b.size
 hl:∀ i,i<a.size->R r b 0<=R r a i
 hg:∀ j,j<b.size->R r b j<=R r a (a.size-1)
def HS{β:Type}(r:Value->Int)(a b:Array Keyed)(c:Option (Array Keyed) × β):Prop:=∃ out rest,c=(some out,rest)/\cH r a b out
def LY(r:Value->Int)(a b:Array Keyed)(N:Nat)(c:L3):Prop:=∃ out ia ib mg ac bc,c=(none,out,ia,ib,mg,ac,bc)/\MI r a b out ia ib/\ia+1<a.size/\ib<b.size/\N<=ia+ib
def LI(r:Value->Int)(a b:Array Keyed)(N:Nat)(c:AB):Prop:=∃ out ia ib ac bc,c=(none,out,ia,ib,ac,bc)/\MI r a b out ia ib/\ia+1<a.size/\ib<b.size/\N<=ia+ib
theorem MC.last(c:MC prog w A s κ r P a b)(M:MI r a b out ia ib)(z:ia+1=a.size):cH r a b (Nc a b out ia ib):=M.JD c.hA c.hB z fun j hj=>by
 have:=c.hg j hj
 rwa[show a.size-1=ia by lia] at this
theorem Bm{Q:ForInStep L3->SortSt->Prop}(c:MC prog w A s κ r P a b)(M:MI r a b out ia ib)(h1:ia+1<a.size)(lt:R r a ia<=R r b ib)(h2:ib<b.size)(hN:N<=ia+ib)(D:∀ c,HS r a b c->Q (.done c) st)(Y:∀ c,LY r a b N c->Q (.done c) st/\Q (.yield c) st):wpS (model prog w) A E s (Sw a b mg ac bc ia ib out) Q st:=by
 refine wpS_bind (aH (by exact AZ ‹_›) fun p e=>?_)
 have M2:=M.qM c.hA c.hB e fun _=>lt
 by_cases z:ia+1+1=a.size
 ·rw[if_pos (by simpa using z)]
  exact wpS_pure (D _ ⟨_,_,rfl,c.last M2 z⟩)
 ·rw[if_neg (by simpa using z)]
  have y:=Y _ ⟨_,_,_,mg,ac,bc,rfl,M2,by lia,h2,by lia⟩
  split
  ·exact wpS_pure y.1
  ·exact wpS_pure y.2
theorem Gv{Q:ForInStep L3->SortSt->Prop}(c:MC prog w A s κ r P a b)(hk:kindOf st=κ)(M:MI r a b out ia ib)(h1:ia+1<a.size)(h2:ib<b.size)(hN:N<=ia+ib)(D:∀ c,HS r a b c->Q (.done c) st)(Y:∀ c,LY r a b N c->Q (.done c) st/\Q (.yield c) st):wpS (model prog w) A E s (Fc a b mg ac bc ia ib out) Q st:=by
 refine wpS_bind (aH (by exact AZ ‹_›) fun p e=>wpS_bind (cY c.C hk c.pb (c.pa.at e) (by lia) (by lia) (fun i j u v w=>c.hB i j (by exact dz _) v (by lia)) fun l IX wx IY=>?_))
 have ra:=nE (r:=r) e
 dsimp only
 have lt:ib+l<b.size->R r a ia<=R r b (ib+l):=fun z=>by have:=t_ (IY l (bT _) (by lia));lia
 by_cases l0:l>0
 ·have M5:=MI.BQ c.hA c.hB l M (by lia) fun _ i hi=>by have:=BX (wx i hi);lia
  rw[if_pos l0]
  by_cases z:ib+l=b.size
  ·rw[if_pos (by simpa using z)]
   exact wpS_pure (D _ ⟨_,_,rfl,M5.IQ c.hA c.hB z⟩)
  ·rw[if_neg (by simpa using z)]
   exact Bm c M5 h1 (lt (by lia)) (by lia) (by walk_at "s4") D Y
 ·rw[if_neg l0]
  obtain rfl:l=0:=by lia
  exact Bm c M h1 (lt h2) h2 hN D Y
theorem Bk{Q:ForInStep L3->SortSt->Prop}(c:MC prog w A s κ r P a b)(hk:kindOf st=κ)(M:MI r a b out ia ib)(h1:ia+1<a.size)(lt:R r b ib<=R r a ia)(h2:ib<b.size)(hN:N<=ia+ib)(D:∀ c,HS r a b c->Q (.done c) st)(Y:∀ c,LY r a b N c->Q (.done c) st/\Q (.yield c) st):wpS (model prog w) A E s (lo1 a b mg ac bc ia ib out) Q st:=by
 refine wpS_bind (aH h2 fun p e=>?_)
 have M4:=M.qj c.hA c.hB e fun _=>lt
 by_cases z:ib+1=b.size
 ·rw[if_pos (by simpa using z)]
  exact wpS_pure (D _ ⟨_,_,rfl,M4.IQ c.hA c.hB z⟩)
 ·rw[if_neg (by simpa using z)]
  exact Gv c hk M4 h1 (by lia) (by exact L6 ‹_›) D Y
theorem Fi{Q:ForInStep L3->SortSt->Prop}(c:MC prog w A s κ r P a b)(hk:kindOf st=κ)(M:MI r a b out ia ib)(h1:ia+1<a.size)(h2:ib<b.size)(hN:N<=ia+ib)(D:∀ ag,Mg st ag->∀ c,HS r a b c->Q (.done c) ag)(Y:∀ ag,Mg st ag->∀ c,LY r a b N c->Q (.done c) ag/\Q (.yield c) ag):wpS (model prog w) A E s (Sx a b mg ac bc ia ib out) Q st:=by
 have g:=(Mg.refl st).set mg
 refine wpS_bind (gJ ?_)
 refine wpS_bind (aH h2 fun p e=>wpS_bind (cY c.C (g.kind.trans hk) c.pa (c.pb.at e) (by lia) (by lia) (fun i j u v w=>c.hA i j (by exact dz _) v (by lia)) fun k WK D3 Fh=>?_))
 have rb:=nE (r:=r) e
 dsimp only
 have lt:ia+k<a.size->R r b ib<=R r a (ia+k):=fun z=>by have:=wu (Fh k (bT _) (by lia));lia
 by_cases k0:k>0
 ·have M3:=MI.BO c.hA c.hB k M (by lia) fun _ i hi=>by have:=zP (D3 i hi);lia
  rw[if_pos k0]
  by_cases z:ia+k+1=a.size
  ·rw[if_pos (by simpa using z)]
   exact wpS_pure (D _ g _ ⟨_,_,rfl,c.last M3 z⟩)
  ·rw[if_neg (by simpa using z)]
   by_cases z2:ia+k=a.size
   ·rw[if_pos (by simpa using z2)]
    exact wpS_pure (D _ g _ ⟨_,_,rfl,M3.IU c.hA c.hB z2⟩)
   ·rw[if_neg (by simpa using z2)]
    exact Bk c (g.kind.trans hk) M3 (by lia) (lt (by lia)) h2 (by lia) (D _ g) (Y _ g)
 ·rw[if_neg k0]
  obtain rfl:k=0:=by lia
  exact Bk c (g.kind.trans hk) M h1 (lt (by exact AZ ‹_›)) h2 hN (D _ g) (Y _ g)
theorem Gb{Q:ForInStep AB->SortSt->Prop}(c:MC prog w A s κ r P a b)(M:MI r a b out ia ib)(h1:ia+1<a.size)(lt:R r b ib<=R r a ia)(h2:ib<b.size)(hN:N<=ia+ib+1)(D:∀ c,HS r a b c->Q (.done c) st)(Y:∀ c,LI r a b N c->Q (.done c) st/\Q (.yield c) st):wpS (model prog w) A E s (Wz a b mg bc ia ib out) Q st:=by
 refine wpS_bind (aH h2 fun p e=>?_)
 have M2:=M.qj c.hA c.hB e fun _=>lt
 by_cases z:ib+1=b.size
 ·rw[if_pos (by simpa using z)]
  exact wpS_pure (D _ ⟨_,_,rfl,M2.IQ c.hA c.hB z⟩)
 ·rw[if_neg (by simpa using z)]
  have y:=Y _ ⟨_,_,_,0,bc+1,rfl,M2,h1,by lia,hN⟩
  split
  ·exact wpS_pure y.1
  ·exact wpS_pure y.2
theorem Gn{Q:ForInStep AB->SortSt->Prop}(c:MC prog w A s κ r P a b)(M:MI r a b out ia ib)(h1:ia+1<a.size)(lt:R r a ia<=R r b ib)(h2:ib<b.size)(hN:N<=ia+ib+1)(D:∀ c,HS r a b c->Q (.done c) st)(Y:∀ c,LI r a b N c->Q (.done c) st/\Q (.yield c) st):wpS (model prog w) A E s (WB a b mg ac ia ib out) Q st:=by
 refine wpS_bind (aH (by exact AZ ‹_›) fun p e=>?_)
 have M2:=M.qM c.hA c.hB e fun _=>lt
 by_cases z:ia+1+1=a.size
 ·rw[if_pos (by simpa using z)]
  exact wpS_pure (D _ ⟨_,_,rfl,c.last M2 z⟩)
 ·rw[if_neg (by simpa using z)]
  have y:=Y _ ⟨_,_,_,ac+1,0,rfl,M2,by lia,h2,by lia⟩
  split
  ·exact wpS_pure y.1
  ·exact wpS_pure y.2
theorem Gu{Q:ForInStep AB->SortSt->Prop}{x:Nat}(c:MC prog w A s κ r P a b)(hk:kindOf st=κ)(M:MI r a b out ia ib)(h1:ia+1<a.size)(h2:ib<b.size)(hN:N<=ia+ib+1)(D:∀ c,HS r a b c->Q (.done c) st)(Y:∀ c,LI r a b N c->Q (.done c) st/\Q (.yield c) st):wpS (model prog w) A E s (WC a b mg x (none,out,ia,ib,ac,bc)) Q st:=by
 refine wpS_bind (aH h2 fun pb eb=>wpS_bind (aH (show ia<a.size by exact AZ ‹_›) fun pa ea=>wpS_bind (pR c.C hk (c.pb.at eb) (c.pa.at ea) ?_)))
 have rb:R r b ib=r pb.1:=nE eb
 have ra:R r a ia=r pa.1:=nE ea
 dsimp only
 by_cases hw:r pb.1<r pa.1
 ·rw[if_pos (decide_eq_true hw)]
  exact Gb c M h1 (by lia) h2 hN D Y
 ·rw[if_neg (by simpa using hw)]
  exact Gn c M h1 (by lia) h2 hN D Y
theorem GQ{Q:ForInStep L1->SortSt->Prop}(c:MC prog w A s κ r P a b)(hk:kindOf st=κ)(M:MI r a b out ia ib)(h1:ia+1<a.size)(h2:ib<b.size)(hN:N<=ia+ib)(D:∀ ag,Mg st ag->∀ c,HS r a b c->Q (.done c) ag)
  (Y:∀ ag,Mg st ag->∀ out ia ib mg,MI r a b out ia ib->ia+1<a.size->ib<b.size->N<=ia+ib->Q (.yield (none,out,ia,ib,mg)) ag):wpS (model prog w) A E s (WD a b mg (none,out,ia,ib,ac,bc)) Q st:=by
 refine wpS_bind (wpS_lift (wpAny_rule ⟨rfl,?_⟩))
 refine wpS_bind (wpS_mono (wpS_forRange (I:=fun _ c ag=>Mg st ag/\LY r a b N c) (Q:=fun c ag=>Mg st ag/\(HS r a b c\/LY r a b N c)) ?step ?fin ⟨.refl st,_,_,_,_,_,_,rfl,M,h1,h2,hN⟩) ?post)
 case fin =>
  rintro c ag ⟨hm,q⟩
  exact⟨hm,.inr q⟩
 case step =>
  rintro y c1 BU _ _ ⟨hm,out,ia,ib,mg,ac,bc,rfl,M,h1,h2,hN⟩
  unfold Wy
  dsimp only
  split<;>exact Fi c (hm.kind.trans hk) M h1 h2 hN (fun ag g c q=>⟨hm.trans g,.inl q⟩) fun ag g c q=>⟨⟨hm.trans g,.inr q⟩,hm.trans g,q⟩
 case post =>
  rintro c ag ⟨hm,⟨o,rest,rfl,hM⟩|⟨out,ia,ib,mg,ac,bc,rfl,M,h1,h2,hN⟩⟩
  ·exact wpS_pure (D _ hm _ ⟨_,_,rfl,hM⟩)
  ·exact wpS_bind (gJ (wpS_pure (Y _ (hm.set _) _ _ _ _ M h1 h2 hN)))
theorem Gi{Q:ForInStep L1->SortSt->Prop}{x:Nat}(c:MC prog w A s κ r P a b)(hk:kindOf st=κ)(M:MI r a b out ia ib)(h1:ia+1<a.size)(h2:ib<b.size)(hN:N<=ia+ib)(D:∀ ag,Mg st ag->∀ c,HS r a b c->Q (.done c) ag)
  (Y:∀ ag,Mg st ag->∀ out ia ib mg,MI r a b out ia ib->ia+1<a.size->ib<b.size->N+1<=ia+ib->Q (.yield (none,out,ia,ib,mg)) ag):wpS (model prog w) A E s (WH a b x (none,out,ia,ib,mg)) Q st:=by
 refine wpS_bind (wpS_mono (wpS_forRange (I:=fun y c ag=>ag=st/\LI r a b (N+y) c) (Q:=fun c ag=>ag=st/\(HS r a b c\/LI r a b (N+1) c)) ?step ?fin ⟨rfl,_,_,_,_,_,rfl,M,h1,h2,hN⟩) ?post)
 case fin =>
  rintro c ag ⟨rfl,o,ia',ib',ac,bc,rfl,M',q1,q2,q3⟩
  exact⟨rfl,.inr ⟨_,_,_,_,_,rfl,M',q1,q2,by lia⟩⟩
 case step =>
  rintro y c1 BU _ hy ⟨rfl,o,ia',ib',ac,bc,rfl,M',q1,q2,q3⟩
  exact Gu (N:=N+y+1) c hk M' q1 q2 (by exact vS ‹_›) (fun c q=>⟨rfl,.inl q⟩) fun c q=>by
   obtain⟨o,ia,ib,ac,bc,rfl,M,h1,h2,h3⟩:=q
   exact⟨⟨rfl,.inr ⟨_,_,_,_,_,rfl,M,h1,h2,by lia⟩⟩,rfl,_,_,_,_,_,rfl,M,h1,h2,by lia⟩
 case post =>
  rintro c1 ag ⟨rfl,⟨o,rest,rfl,hM⟩|⟨o,ia,ib,ac,bc,rfl,M',q1,q2,q3⟩⟩
  ·exact wpS_pure (D _ (.refl _) _ ⟨_,_,rfl,hM⟩)
  ·exact GQ c hk M' q1 q2 q3 D Y
theorem rJ{st:SortSt}{a b:Array Keyed}{Q:Array Keyed->SortSt->Prop}(C:lT prog w A s κ r P)(hk:kindOf st=κ)(Sy:AllP P a)(Sz:AllP P b)(hA:Up r a 0 a.size)(hB:Up r b 0 b.size)(na:1<=a.size)(nb:1<=b.size)
  (h0:R r b 0<=R r a 0) (hg:∀ j,j<b.size->R r b j<=R r a (a.size-1)) (h:∀ out ag,cH r a b out->Mg st ag->Q out ag):wpS (model prog w) A E s (tR a b) Q st:=by
 have c:MC prog w A s κ r P a b:=⟨C,Sy,Sz,hA,hB,fun i hi=>vT h0 (hA 0 i (bT _) (dz _) hi),hg⟩
 rw[uM]
 refine wpS_bind (wpS_lift (wpAny_rule ⟨rfl,?_⟩))
 refine wpS_bind (aH nb fun y0 e0=>?_)
 have M1:MI r a b #[y0] 0 1:=(MI.start hA hB).qj hA hB e0 fun _=>h0
 by_cases c1:1=b.size
 ·rw[if_pos (by simpa using c1)]
  exact wpS_pure (h _ _ (M1.IQ hA hB c1) (.refl st))
 ·rw[if_neg (by simpa using c1)]
  by_cases c2:0+1=a.size
  ·rw[if_pos (by simpa using c2)]
   exact wpS_pure (h _ _ (c.last M1 c2) (.refl st))
  ·rw[if_neg (by simpa using c2)]
   refine wpS_bind (wpS_get ?_)
   refine wpS_bind (wpS_mono (wpS_forRange (I:=fun x c ag=>Mg st ag/\∃ out ia ib mg,c=(none,out,ia,ib,mg)/\MI r a b out ia ib/\ia+1<a.size/\ib<b.size/\x+1<=ia+ib)
    (Q:=fun c ag=>Mg st ag/\HS r a b c) ?step ?fin ⟨.refl st,_,_,_,_,rfl,M1,by lia,by lia,by exact tT _⟩) ?post)
   case fin =>
    rintro c ag ⟨_,out,ia,ib,mg,rfl,M,h1,h2,h3⟩
    lia
   case post =>
    rintro c ag ⟨hm,out,rest,rfl,hM⟩
    exact wpS_pure (h out ag hM hm)
   case step =>
    rintro x c1 BU _ hx ⟨ya,out,ia,ib,mg,rfl,M,h1,h2,h3⟩
    exact Gi (N:=x+1) c (ya.kind.trans hk) M h1 h2 h3 (fun ag g c q=>⟨ya.trans g,q⟩) fun ag g out ia ib mg M h1 h2 h3=>⟨ya.trans g,_,_,_,_,rfl,M,h1,h2,h3⟩
end
abbrev Ge(r:Value->Int)(x y:Keyed):Prop:=r y.1<=r x.1
structure MH(r:Value->Int)(a b out:Array Keyed)(na nb:Nat):Prop where
 ha:na<=a.size
 hb:nb<=b.size
 perm:out.toList.Perm (a.toList.drop na++b.toList.drop nb)
 down:out.toList.Pairwise (Ge r)
 ga:∀ x∈out.toList,∀ i,i<na->R r a i<=r x.1
 gb:∀ x∈out.toList,∀ j,j<nb->R r b j<=r x.1
section
variable {r:Value->Int}{a b out:Array Keyed}{na nb:Nat}
theorem p_{α:Type}{l:List α}{i:Nat}{x:α}(h0:0<i)(h:l[i-1]? = some x):l.drop (i-1)=x :: l.drop i:=by
 obtain⟨hi,e⟩:=hV.mp h
 rw[xk hi,e,show i-1+1=i by exact Nat.sub_add_cancel ‹_›]
theorem MH.qM(M:MH r a b out na nb)(hA:Up r a 0 a.size)(hB:Up r b 0 b.size)(h0:0<na){y:Keyed}(e:a[na-1]? = some y)(hl:0<nb->R r b (nb-1)<=R r a (na-1)):MH r a b (out.push y) (na-1) nb:=by
 have ey:=nE (r:=r) e
 have ha:=M.ha
 have hb:=M.hb
 refine⟨by lia,M.hb,?_,?_,?_,?_⟩
 ·rw[nS,p_ (x:=y) h0 (by simpa using e)]
  refine(M.perm.append_right [y]).trans ?_
  exact QM
 ·rw[nS,LW]
  refine⟨M.down,by simp,fun x hx z hz=>?_⟩
  have:z=y:=by simpa using hz
  subst this
  show r z.1<=r x.1
  rw[<- ey]
  exact M.ga x hx (na-1) (by exact DC ‹_› DB)
 ·intro x hx i hi
  rw[nS] at hx
  rcases dy.mp hx with hx|hx
  ·exact M.ga x hx i (by walk_at "s4")
  ·have:x=y:=by simpa using hx
   subst this
   rw[<- ey]
   exact hA i (na-1) (dz _) (by exact kD ‹_›) (by lia)
 ·intro x hx j hj
  rw[nS] at hx
  rcases dy.mp hx with hx|hx
  ·exact M.gb x hx j hj
  ·have:x=y:=by simpa using hx
   subst this
   rw[<- ey]
   exact vT (hB j (nb-1) (dz _) (by lia) (by lia)) (hl (by lia))
theorem MH.qj(M:MH r a b out na nb)(hA:Up r a 0 a.size)(hB:Up r b 0 b.size)(h0:0<nb){y:Keyed}(e:b[nb-1]? = some y)(hl:0<na->R r a (na-1)<=R r b (nb-1)):MH r a b (out.push y) na (nb-1):=by
 have ey:=nE (r:=r) e
 have ha:=M.ha
 have hb:=M.hb
 refine⟨M.ha,by lia,?_,?_,?_,?_⟩
 ·rw[nS,p_ (x:=y) h0 (by simpa using e)]
  refine(M.perm.append_right [y]).trans ?_
  rw[xo]
  exact List.Perm.append_left _ QM
 ·rw[nS,LW]
  refine⟨M.down,by simp,fun x hx z hz=>?_⟩
  have:z=y:=by simpa using hz
  subst this
  show r z.1<=r x.1
  rw[<- ey]
  exact M.gb x hx (nb-1) (by exact DC ‹_› DB)
 ·intro x hx i hi
  rw[nS] at hx
  rcases dy.mp hx with hx|hx
  ·exact M.ga x hx i hi
  ·have:x=y:=by simpa using hx
   subst this
   rw[<- ey]
   exact vT (hA i (na-1) (dz _) (by lia) (by lia)) (hl (by lia))
 ·intro x hx j hj
  rw[nS] at hx
  rcases dy.mp hx with hx|hx
  ·exact M.gb x hx j (by walk_at "s4")
  ·have:x=y:=by simpa using hx
   subst this
   rw[<- ey]
   exact hB j (nb-1) (dz _) (by exact kD ‹_›) (by lia)
theorem k_{xs:Array Keyed}{i n:Nat}(h:i<n)(hn:n<=xs.size):(xs.extract i n).reverse = #[xs[n-1]'(by lia)]++(xs.extract i (n-1)).reverse:=by
 obtain⟨k,rfl⟩:∃ k,n=i+(k+1):=⟨n-1-i,by lia⟩
 have e3:i+(k+1)-1=i+k:=by rfl
 simp only[e3]
 rw[fC (by assumption),Array.reverse_push]
theorem MH.BO(hA:Up r a 0 a.size)(hB:Up r b 0 b.size):∀ (k:Nat) {out:Array Keyed} {na p:Nat},MH r a b out na nb->p+k=na->(0<nb->∀ i,p<=i->i<na->R r b (nb-1)<=R r a i)->MH r a b (out++(a.extract p na).reverse) p nb
 |0,out,na,p,M,h1,h2=>by
  have:a.extract p na = #[]:=Ox (by simp only[ER];lia)
  have e:na=p:=by walk_at "s1"
  subst e
  rw[this]
  simpa using M
 |k+1,out,na,p,M,h1,h2=>by
  have ha:=M.ha
  have e:a[na-1]? = some (a[na-1]'(by lia)):=getElem?_pos a (na-1) (by lia)
  have q:=M.qM hA hB (by lia) e fun hb=>h2 hb _ (by lia) (by lia)
  have z:=MH.BO hA hB k (p:=p) q (by lia) fun hb i kF hX=>h2 hb i kF (by walk_at "s4")
  rw[k_ (by lia) ha,<- Mb]
  simpa using z
theorem MH.BQ(hA:Up r a 0 a.size)(hB:Up r b 0 b.size):∀ (k:Nat) {out:Array Keyed} {nb p:Nat},MH r a b out na nb->p+k=nb->(0<na->∀ i,p<=i->i<nb->R r a (na-1)<=R r b i)->MH r a b (out++(b.extract p nb).reverse) na p
 |0,out,nb,p,M,h1,h2=>by
  have:b.extract p nb = #[]:=Ox (by simp only[ER];lia)
  have e:nb=p:=by walk_at "s1"
  subst e
  rw[this]
  simpa using M
 |k+1,out,nb,p,M,h1,h2=>by
  have hb:=M.hb
  have e:b[nb-1]? = some (b[nb-1]'(by lia)):=getElem?_pos b (nb-1) (by lia)
  have q:=M.qj hA hB (by lia) e fun ha=>h2 ha _ (by lia) (by lia)
  have z:=MH.BQ hA hB k (p:=p) q (by lia) fun ha i kF hX=>h2 ha i kF (by walk_at "s4")
  rw[k_ (by lia) hb,<- Mb]
  simpa using z
theorem MH.whole(M:MH r a b out 0 0):cH r a b out.reverse:=by
 refine⟨?_,?_⟩
 ·have h:=M.perm
  rw[List.drop_zero,List.drop_zero] at h
  rw[Array.toList_reverse]
  exact(List.reverse_perm _).trans h
 ·rw[Array.toList_reverse,List.pairwise_reverse]
  exact M.down
theorem nY(x y:Array Keyed):(x++y.reverse).reverse=y++x.reverse:=by
 apply OB.mp
 simp
theorem MH.IU(M:MH r a b out na nb)(hA:Up r a 0 a.size)(hB:Up r b 0 b.size)(e:na=0):cH r a b (a.extract 0 na++b.extract 0 nb++out.reverse):=by
 subst e
 have z:=MH.BQ hA hB nb (p:=0) M (by exact L9 ..) fun ha=>absurd ha (pE _)
 have q:=z.whole
 rw[nY] at q
 have e2:a.extract 0 0 = #[]:=by simp
 rw[e2,Array.empty_append]
 exact q
theorem MH.IQ(M:MH r a b out na nb)(hA:Up r a 0 a.size)(hB:Up r b 0 b.size)(e:nb=0):cH r a b (a.extract 0 na++b.extract 0 nb++out.reverse):=by
 subst e
 have z:=MH.BO hA hB na (p:=0) M (by exact L9 ..) fun hb=>absurd hb (pE _)
 have q:=z.whole
 rw[nY] at q
 have e2:b.extract 0 0 = #[]:=by simp
 rw[e2,Ra]
 exact q
theorem MH.tE(M:MH r a b out na nb)(hA:Up r a 0 a.size)(hB:Up r b 0 b.size)(e:nb=1)(hl:∀ i,i<a.size->R r b 0<=R r a i):cH r a b (b.extract 0 nb++a.extract 0 na++out.reverse):=by
 subst e
 have ha:=M.ha
 have z:=MH.BO hA hB na (p:=0) M (by exact L9 ..) fun _ i _ hi=>hl i (by walk_at "s1")
 have z2:=MH.BQ hA hB 1 (p:=0) z (by exact L9 ..) fun h=>absurd h (pE _)
 have q:=z2.whole
 rw[nY,nY] at q
 rw[Mb]
 exact q
theorem MH.start:MH r a b #[] a.size b.size:=⟨bT _,bT _,by simp,by simp,fun x hx=>by simp at hx,fun x hx=>by simp at hx⟩
end
abbrev S1:=Option (Array Keyed) × Nat × Nat × Array Keyed × Nat
abbrev S2:=Option (Array Keyed) × Nat × Nat × Array Keyed × Nat × Nat
abbrev S3:=Option (Array Keyed) × Nat × Nat × Array Keyed × Nat × Nat × Nat
def D4(a b out:Array Keyed)(na nb:Nat):Array Keyed:=a.extract 0 na++b.extract 0 nb++out.reverse
def PH(a b out:Array Keyed)(na nb:Nat):Array Keyed:=b.extract 0 nb++a.extract 0 na++out.reverse
def SD(a b:Array Keyed)(mg ac bc na nb:Nat)(out:Array Keyed):SM (ForInStep S3):=elem' a (na-1) >>= fun p =>
 if (na-1 == 0)=true then pure (.done (some (D4 a b (out.push p) (na-1) nb),na-1,nb,out.push p,mg,ac,bc))
 else if (decide (ac<7) && decide (bc<7))=true then pure (.done (none,na-1,nb,out.push p,mg,ac,bc)) else pure (.yield (none,na-1,nb,out.push p,mg,ac,bc))
def hX(a b:Array Keyed)(mg ac bc na nb:Nat)(out:Array Keyed):SM (ForInStep S3):=elem' a (na-1) >>= fun p=>jX true p b 0 nb (nb-1) >>= fun x=>match x with
 |some k=>if nb-k>0 then
   if (k == 1)=true then pure (.done (some (PH a b (out++(b.extract k nb).reverse) na k),na,k,out++(b.extract k nb).reverse,mg,ac,nb-k))
   else if (k == 0)=true then pure (.done (some (D4 a b (out++(b.extract k nb).reverse) na k),na,k,out++(b.extract k nb).reverse,mg,ac,nb-k))
   else SD a b mg ac (nb-k) na k (out++(b.extract k nb).reverse)
  else SD a b mg ac (nb-k) na nb out
 |_=>pure (.done (some (D4 a b out na nb),na,nb,out,mg,ac,bc))
def kF(a b:Array Keyed)(mg ac bc na nb:Nat)(out:Array Keyed):SM (ForInStep S3):=elem' b (nb-1) >>= fun p =>
 if (nb-1 == 1)=true then pure (.done (some (PH a b (out.push p) na (nb-1)),na,nb-1,out.push p,mg,ac,bc)) else hX a b mg ac bc na (nb-1) (out.push p)
def ve(a b:Array Keyed)(mg ac bc na nb:Nat)(out:Array Keyed):SM (ForInStep S3):=bV mg >>= fun _=>elem' b (nb-1) >>= fun p=>jX false p a 0 na (na-1) >>= fun x=>match x with
 |some k=>if na-k>0 then
   if (k == 0)=true then pure (.done (some (D4 a b (out++(a.extract k na).reverse) k nb),k,nb,out++(a.extract k na).reverse,mg,na-k,bc))
   else kF a b mg (na-k) bc k nb (out++(a.extract k na).reverse)
  else kF a b mg (na-k) bc na nb out
 |_=>pure (.done (some (D4 a b out na nb),na,nb,out,mg,ac,bc))
def WL(a b:Array Keyed)(_:Nat)(s:S3):SM (ForInStep S3) :=
 if s.2.2.2.2.1>1 then ve a b (s.2.2.2.2.1-1) s.2.2.2.2.2.1 s.2.2.2.2.2.2 s.2.1 s.2.2.1 s.2.2.2.1 else ve a b s.2.2.2.2.1 s.2.2.2.2.2.1 s.2.2.2.2.2.2 s.2.1 s.2.2.1 s.2.2.2.1
def WM(a b:Array Keyed)(mg ac na nb:Nat)(out:Array Keyed):SM (ForInStep S2):=elem' a (na-1) >>= fun p =>
 if (na-1 == 0)=true then pure (.done (some (D4 a b (out.push p) (na-1) nb),na-1,nb,out.push p,ac+1,0))
 else if ac+1 >= mg then pure (.done (none,na-1,nb,out.push p,ac+1,0)) else pure (.yield (none,na-1,nb,out.push p,ac+1,0))
def WN(a b:Array Keyed)(mg bc na nb:Nat)(out:Array Keyed):SM (ForInStep S2):=elem' b (nb-1) >>= fun p =>
 if (nb-1 == 1)=true then pure (.done (some (PH a b (out.push p) na (nb-1)),na,nb-1,out.push p,0,bc+1))
 else if bc+1 >= mg then pure (.done (none,na,nb-1,out.push p,0,bc+1)) else pure (.yield (none,na,nb-1,out.push p,0,bc+1))
def WQ(a b:Array Keyed)(mg:Nat)(_:Nat)(s:S2):SM (ForInStep S2):=elem' b (s.2.2.1-1) >>= fun pb=>elem' a (s.2.1-1) >>= fun pa=>lt' pb pa >>= fun x=>match x with
 |some w=>if w=true then WM a b mg s.2.2.2.2.1 s.2.1 s.2.2.1 s.2.2.2.1 else WN a b mg s.2.2.2.2.2 s.2.1 s.2.2.1 s.2.2.2.1
 |_=>pure (.done (some (D4 a b s.2.2.2.1 s.2.1 s.2.2.1),s.2.1,s.2.2.1,s.2.2.2.1,s.2.2.2.2.1,s.2.2.2.2.2))
def WR (a b:Array Keyed) (mg:Nat) (t:S2):SM (ForInStep S1):=(liftM (rule "list.sort.gallop"):SM Unit) >>= fun _ =>
 forIn [:a.size+b.size] ((none,t.2.1,t.2.2.1,t.2.2.2.1,mg+1,t.2.2.2.2.1,t.2.2.2.2.2):S3) (WL a b) >>= fun u=>match u.1 with
 |some r=>pure (.done (some r,u.2.1,u.2.2.1,u.2.2.2.1,u.2.2.2.2.1))
 |none=>bV (u.2.2.2.2.1+1) >>= fun _=>pure (.yield (none,u.2.1,u.2.2.1,u.2.2.2.1,u.2.2.2.2.1+1))
def WU(a b:Array Keyed)(_:Nat)(s:S1):SM (ForInStep S1):=forIn [:a.size+b.size] ((none,s.2.1,s.2.2.1,s.2.2.2.1,0,0):S2) (WQ a b s.2.2.2.2) >>= fun t=>match t.1 with
 |some r=>pure (.done (some r,t.2.1,t.2.2.1,t.2.2.2.1,s.2.2.2.2))
 |none=>WR a b s.2.2.2.2 t
def hiM (a b:Array Keyed):SM (Array Keyed):=(liftM (rule "list.sort.merge-hi"):SM Unit) >>= fun _=>elem' a (a.size-1) >>= fun y =>
 if (a.size-1 == 0)=true then pure (D4 a b #[y] (a.size-1) b.size)
 else if (b.size == 1)=true then pure (PH a b #[y] (a.size-1) b.size)
 else get >>= fun st=>forIn [:a.size+b.size] ((none,a.size-1,b.size,#[y],gallopOf st):S1) (WU a b) >>= fun t=>match t.1 with
 |some r=>pure r
 |none=>(liftM (unsupported (α:=Array Keyed) "internal:list.sort.merge-bound"):SM (Array Keyed))
set_option smartUnfolding false in
theorem uX:sW=hiM:=rfl
section
variable {prog:Program}{w:World}{A:Around}{E:Value->Shared->Prop}{s:Shared}{κ:SortKind}{r:Value->Int}{P:Value->Prop}{a b out:Array Keyed}{mg ac bc na nb N:Nat}{st:SortSt}{Q:ForInStep S3->SortSt->Prop}
def HD(r:Value->Int)(a b:Array Keyed)(Q:ForInStep S3->SortSt->Prop)(st:SortSt):Prop:=∀ o rest,cH r a b o->Q (.done (some o,rest)) st
def HY(r:Value->Int)(a b:Array Keyed)(N:Nat)(Q:ForInStep S3->SortSt->Prop)(st:SortSt):Prop :=
 ∀ o na nb mg ac bc,MH r a b o na nb->1<=na->2<=nb->na+nb<=N->Q (.done (none,na,nb,o,mg,ac,bc)) st/\Q (.yield (none,na,nb,o,mg,ac,bc)) st
theorem Ax(c:MC prog w A s κ r P a b)(M:MH r a b out na nb)(h1:0<na)(lt:R r b (nb-1)<=R r a (na-1))(h2:2<=nb)(hN:na+nb<=N)(D:HD r a b Q st)(Y:HY r a b N Q st):wpS (model prog w) A E s (SD a b mg ac bc na nb out) Q st:=by
 have ha:=M.ha
 refine wpS_bind (aH (by lia) fun p e=>?_)
 have M2:=M.qM c.hA c.hB h1 e fun _=>lt
 by_cases z:na-1=0
 ·rw[if_pos (by simpa using z)]
  exact wpS_pure (D _ _ (M2.IU c.hA c.hB z))
 ·rw[if_neg (by simpa using z)]
  have y:=Y _ _ _ mg ac bc M2 (by lia) h2 (by lia)
  split
  ·exact wpS_pure y.1
  ·exact wpS_pure y.2
theorem G8(c:MC prog w A s κ r P a b)(hk:kindOf st=κ)(M:MH r a b out na nb)(h1:0<na)(h2:2<=nb)(hN:na+nb<=N)(D:HD r a b Q st)(Y:HY r a b N Q st):wpS (model prog w) A E s (hX a b mg ac bc na nb out) Q st:=by
 have ha:=M.ha
 have hb:=M.hb
 refine wpS_bind (aH (by lia) fun p e=>wpS_bind (cY c.C hk c.pb (c.pa.at e) (by lia) (by lia) (fun i j u v w=>c.hB i j u v (by lia)) fun l IX wx IY=>?_))
 have ra:=nE (r:=r) e
 dsimp only
 have lt:0<l->R r b (l-1)<=R r a (na-1):=fun z=>by have:=BX (wx (l-1) (by exact DC ‹_› DB));rw[sC] at this;lia
 by_cases l0:nb-l>0
 ·have M5:=MH.BQ c.hA c.hB (nb-l) (p:=l) M (by exact sA ‹_›) fun _ i kF hX=>by have:=t_ (IY i kF hX);rw[sC] at this;lia
  rw[if_pos l0]
  by_cases z4:l=1
  ·rw[if_pos (by simpa using z4)]
   exact wpS_pure (D _ _ (M5.tE c.hA c.hB z4 c.hl))
  ·rw[if_neg (by simpa using z4)]
   by_cases z6:l=0
   ·rw[if_pos (by simpa using z6)]
    exact wpS_pure (D _ _ (M5.IQ c.hA c.hB z6))
   ·rw[if_neg (by simpa using z6)]
    exact Ax c M5 h1 (lt (by lia)) (by lia) (by lia) D Y
 ·rw[if_neg l0]
  obtain rfl:l=nb:=by lia
  exact Ax c M h1 (lt (by exact AZ ‹_›)) h2 hN D Y
theorem Bh(c:MC prog w A s κ r P a b)(hk:kindOf st=κ)(M:MH r a b out na nb)(h1:0<na)(h2:2<=nb)(lt:R r a (na-1)<=R r b (nb-1))(hN:na+nb<=N)(D:HD r a b Q st)(Y:HY r a b N Q st):wpS (model prog w) A E s (kF a b mg ac bc na nb out) Q st:=by
 have hb:=M.hb
 refine wpS_bind (aH (by lia) fun p e=>?_)
 have M4:=M.qj c.hA c.hB (by exact AZ ‹_›) e fun _=>lt
 by_cases z:nb-1=1
 ·rw[if_pos (by simpa using z)]
  exact wpS_pure (D _ _ (M4.tE c.hA c.hB z c.hl))
 ·rw[if_neg (by simpa using z)]
  exact G8 c hk M4 h1 (by lia) (by lia) D Y
theorem GF(c:MC prog w A s κ r P a b)(hk:kindOf st=κ)(M:MH r a b out na nb)(h1:0<na)(h2:2<=nb)(hN:na+nb<=N)(D:∀ ag,Mg st ag->HD r a b Q ag)(Y:∀ ag,Mg st ag->HY r a b N Q ag):wpS (model prog w) A E s (ve a b mg ac bc na nb out) Q st:=by
 have ha:=M.ha
 have hb:=M.hb
 have g:=(Mg.refl st).set mg
 refine wpS_bind (gJ ?_)
 refine wpS_bind (aH (by lia) fun p e=>wpS_bind (cY c.C (g.kind.trans hk) c.pa (c.pb.at e) (by lia) (by exact DC ‹_› DB) (fun i j u v w=>c.hA i j u v (by lia)) fun k WK D3 Fh=>?_))
 have rb:=nE (r:=r) e
 dsimp only
 have lt:0<k->R r a (k-1)<=R r b (nb-1):=fun z=>by have:=zP (D3 (k-1) (by exact DC ‹_› DB));rw[sC] at this;lia
 by_cases k0:na-k>0
 ·have M3:=MH.BO c.hA c.hB (na-k) (p:=k) M (by exact sA ‹_›) fun _ i kF hX=>by have:=wu (Fh i kF hX);rw[sC] at this;lia
  rw[if_pos k0]
  by_cases z:k=0
  ·rw[if_pos (by simpa using z)]
   exact wpS_pure (D _ g _ _ (M3.IU c.hA c.hB z))
  ·rw[if_neg (by simpa using z)]
   exact Bh c (g.kind.trans hk) M3 (by lia) h2 (lt (by lia)) (by lia) (D _ g) (Y _ g)
 ·rw[if_neg k0]
  obtain rfl:k=na:=by lia
  exact Bh c (g.kind.trans hk) M h1 h2 (lt h1) hN (D _ g) (Y _ g)
def HI(r:Value->Int)(a b:Array Keyed)(N:Nat)(c:S2):Prop:=∃ na nb out ac bc,c=(none,na,nb,out,ac,bc)/\MH r a b out na nb/\1<=na/\2<=nb/\na+nb<=N
theorem Fq{Q:ForInStep S2->SortSt->Prop}(c:MC prog w A s κ r P a b)(M:MH r a b out na nb)(h1:0<na)(lt:R r b (nb-1)<=R r a (na-1))(h2:2<=nb)(hN:na+nb<=N+1)(D:∀ c,HS r a b c->Q (.done c) st)(Y:∀ c,HI r a b N c->Q (.done c) st/\Q (.yield c) st):wpS (model prog w) A E s (WM a b mg ac na nb out) Q st:=by
 have ha:=M.ha
 refine wpS_bind (aH (by lia) fun p e=>?_)
 have M2:=M.qM c.hA c.hB h1 e fun _=>lt
 by_cases z:na-1=0
 ·rw[if_pos (by simpa using z)]
  exact wpS_pure (D _ ⟨_,_,rfl,M2.IU c.hA c.hB z⟩)
 ·rw[if_neg (by simpa using z)]
  have y:=Y _ ⟨_,_,_,ac+1,0,rfl,M2,by lia,h2,by lia⟩
  split
  ·exact wpS_pure y.1
  ·exact wpS_pure y.2
theorem FJ{Q:ForInStep S2->SortSt->Prop}(c:MC prog w A s κ r P a b)(M:MH r a b out na nb)(h1:0<na)(lt:R r a (na-1)<=R r b (nb-1))(h2:2<=nb)(hN:na+nb<=N+1)(D:∀ c,HS r a b c->Q (.done c) st)(Y:∀ c,HI r a b N c->Q (.done c) st/\Q (.yield c) st):wpS (model prog w) A E s (WN a b mg bc na nb out) Q st:=by
 have hb:=M.hb
 refine wpS_bind (aH (by lia) fun p e=>?_)
 have M2:=M.qj c.hA c.hB (by exact AZ ‹_›) e fun _=>lt
 by_cases z:nb-1=1
 ·rw[if_pos (by simpa using z)]
  exact wpS_pure (D _ ⟨_,_,rfl,M2.tE c.hA c.hB z c.hl⟩)
 ·rw[if_neg (by simpa using z)]
  have y:=Y _ ⟨_,_,_,0,bc+1,rfl,M2,h1,by lia,by lia⟩
  split
  ·exact wpS_pure y.1
  ·exact wpS_pure y.2
theorem Hf{Q:ForInStep S2->SortSt->Prop}{x:Nat}(c:MC prog w A s κ r P a b)(hk:kindOf st=κ)(M:MH r a b out na nb)(h1:0<na)(h2:2<=nb)(hN:na+nb<=N+1)(D:∀ c,HS r a b c->Q (.done c) st)(Y:∀ c,HI r a b N c->Q (.done c) st/\Q (.yield c) st):wpS (model prog w) A E s (WQ a b mg x (none,na,nb,out,ac,bc)) Q st:=by
 have ha:=M.ha
 have hb:=M.hb
 refine wpS_bind (aH (show nb-1<b.size by lia) fun pb eb=>wpS_bind (aH (show na-1<a.size by lia) fun pa ea=>wpS_bind (pR c.C hk (c.pb.at eb) (c.pa.at ea) ?_)))
 have rb:R r b (nb-1)=r pb.1:=nE eb
 have ra:R r a (na-1)=r pa.1:=nE ea
 dsimp only
 by_cases hw:r pb.1<r pa.1
 ·rw[if_pos (decide_eq_true hw)]
  exact Fq c M h1 (by lia) h2 hN D Y
 ·rw[if_neg (by simpa using hw)]
  exact FJ c M h1 (by lia) h2 hN D Y
theorem GX{Q:ForInStep S1->SortSt->Prop}(c:MC prog w A s κ r P a b)(hk:kindOf st=κ)(M:MH r a b out na nb)(h1:0<na)(h2:2<=nb)(hN:na+nb<=N)(D:∀ ag,Mg st ag->∀ c,HS r a b c->Q (.done c) ag)
  (Y:∀ ag,Mg st ag->∀ out na nb mg,MH r a b out na nb->1<=na->2<=nb->na+nb<=N->Q (.yield (none,na,nb,out,mg)) ag):wpS (model prog w) A E s (WR a b mg (none,na,nb,out,ac,bc)) Q st:=by
 refine wpS_bind (wpS_lift (wpAny_rule ⟨rfl,?_⟩))
 refine wpS_bind (wpS_mono (wpS_forRange (I:=fun _ c ag=>Mg st ag/\∃ na nb out mg ac bc,c=(none,na,nb,out,mg,ac,bc)/\MH r a b out na nb/\1<=na/\2<=nb/\na+nb<=N)
  (Q:=fun c ag=>Mg st ag/\(HS r a b c\/∃ na nb out mg ac bc,c=(none,na,nb,out,mg,ac,bc)/\MH r a b out na nb/\1<=na/\2<=nb/\na+nb<=N)) ?step ?fin ⟨.refl st,_,_,_,_,_,_,rfl,M,h1,h2,hN⟩) ?post)
 case fin =>
  rintro c ag ⟨hm,q⟩
  exact⟨hm,.inr q⟩
 case step =>
  rintro y c1 BU _ _ ⟨hm,na,nb,out,mg,ac,bc,rfl,M,h1,h2,hN⟩
  unfold WL
  dsimp only
  split<;>exact GF c (hm.kind.trans hk) M h1 h2 hN (fun ag g o rest hM=>⟨hm.trans g,.inl ⟨o,rest,rfl,hM⟩⟩) fun ag g o na nb mg ac bc M h1 h2 hN=>⟨⟨hm.trans g,.inr ⟨_,_,_,_,_,_,rfl,M,h1,h2,hN⟩⟩,hm.trans g,_,_,_,_,_,_,rfl,M,h1,h2,hN⟩
 case post =>
  rintro c ag ⟨hm,⟨o,rest,rfl,hM⟩|⟨na,nb,out,mg,ac,bc,rfl,M,h1,h2,hN⟩⟩
  ·exact wpS_pure (D _ hm _ ⟨_,_,rfl,hM⟩)
  ·exact wpS_bind (gJ (wpS_pure (Y _ (hm.set _) _ _ _ _ M h1 h2 hN)))
theorem Gm{Q:ForInStep S1->SortSt->Prop}{x:Nat}(c:MC prog w A s κ r P a b)(hk:kindOf st=κ)(M:MH r a b out na nb)(h1:0<na)(h2:2<=nb)(hN:na+nb<=N+1)(D:∀ ag,Mg st ag->∀ c,HS r a b c->Q (.done c) ag)
  (Y:∀ ag,Mg st ag->∀ out na nb mg,MH r a b out na nb->1<=na->2<=nb->na+nb<=N->Q (.yield (none,na,nb,out,mg)) ag):wpS (model prog w) A E s (WU a b x (none,na,nb,out,mg)) Q st:=by
 have ha:=M.ha
 have hb:=M.hb
 refine wpS_bind (wpS_mono (wpS_forRange (I:=fun y c ag=>ag=st/\HI r a b (N+1-y) c) (Q:=fun c ag=>ag=st/\(HS r a b c\/HI r a b N c)) ?step ?fin ⟨rfl,_,_,_,_,_,rfl,M,h1,h2,hN⟩) ?post)
 case fin =>
  rintro c ag ⟨rfl,na',mS,o,ac,bc,rfl,M',q1,q2,q3⟩
  exact⟨rfl,.inr ⟨_,_,_,_,_,rfl,M',q1,q2,by lia⟩⟩
 case step =>
  rintro y c1 BU _ hy ⟨rfl,na',mS,o,ac,bc,rfl,M',q1,q2,q3⟩
  exact Hf (N:=N-y) c hk M' q1 q2 (by lia) (fun c q=>⟨rfl,.inl q⟩) fun c q=>by
   obtain⟨na,nb,o,ac,bc,rfl,M,h1,h2,h3⟩:=q
   exact⟨⟨rfl,.inr ⟨_,_,_,_,_,rfl,M,h1,h2,by walk_at "s4"⟩⟩,rfl,_,_,_,_,_,rfl,M,h1,h2,by lia⟩
 case post =>
  rintro c1 ag ⟨rfl,⟨o,rest,rfl,hM⟩|⟨na,nb,o,ac,bc,rfl,M',q1,q2,q3⟩⟩
  ·exact wpS_pure (D _ (.refl _) _ ⟨_,_,rfl,hM⟩)
  ·exact GX c hk M' q1 q2 q3 D Y
theorem rB{st:SortSt}{a b:Array Keyed}{Q:Array Keyed->SortSt->Prop}(C:lT prog w A s κ r P)(hk:kindOf st=κ)(Sy:AllP P a)(Sz:AllP P b)(hA:Up r a 0 a.size)(hB:Up r b 0 b.size)(na:1<=a.size)(nb:1<=b.size)
  (h0:R r b 0<=R r a 0) (hg:∀ j,j<b.size->R r b j<=R r a (a.size-1)) (h:∀ out ag,cH r a b out->Mg st ag->Q out ag):wpS (model prog w) A E s (sW a b) Q st:=by
 have c:MC prog w A s κ r P a b:=⟨C,Sy,Sz,hA,hB,fun i hi=>vT h0 (hA 0 i (bT _) (dz _) hi),hg⟩
 rw[uX]
 refine wpS_bind (wpS_lift (wpAny_rule ⟨rfl,?_⟩))
 refine wpS_bind (aH (by exact DC ‹_› DB) fun y0 e0=>?_)
 have M1:MH r a b #[y0] (a.size-1) b.size:=MH.start.qM hA hB na e0 fun _=>hg _ (by exact DC ‹_› DB)
 by_cases c1:a.size-1=0
 ·rw[if_pos (by simpa using c1)]
  exact wpS_pure (h _ _ (M1.IU hA hB c1) (.refl st))
 ·rw[if_neg (by simpa using c1)]
  by_cases c2:b.size=1
  ·rw[if_pos (by simpa using c2)]
   exact wpS_pure (h _ _ (M1.tE hA hB c2 c.hl) (.refl st))
  ·rw[if_neg (by simpa using c2)]
   refine wpS_bind (wpS_get ?_)
   refine wpS_bind (wpS_mono (wpS_forRange (I:=fun x c ag=>Mg st ag/\∃ na nb out mg,c=(none,na,nb,out,mg)/\MH r a b out na nb/\1<=na/\2<=nb/\na+nb<=a.size+b.size-x)
    (Q:=fun c ag=>Mg st ag/\HS r a b c) ?step ?fin ⟨.refl st,_,_,_,_,rfl,M1,by lia,by lia,by lia⟩) ?post)
   case fin =>
    rintro c ag ⟨_,na,nb,out,mg,rfl,M,h1,h2,h3⟩
    lia
   case post =>
    rintro c ag ⟨hm,out,rest,rfl,hM⟩
    exact wpS_pure (h out ag hM hm)
   case step =>
    rintro x c1 BU _ hx ⟨ya,na,nb,out,mg,rfl,M,h1,h2,h3⟩
    exact Gm (N:=a.size+b.size-(x+1)) c (ya.kind.trans hk) M h1 h2 (by lia) (fun ag g c q=>⟨ya.trans g,q⟩) fun ag g out na nb mg M h1 h2 h3=>⟨ya.trans g,_,_,_,_,rfl,M,h1,h2,h3⟩
end
def wr(p:Nat)(m:List Keyed)(n:Nat)(xs:Array Keyed):Array Keyed:=(m.zipIdx n).foldl (fun a (q:Keyed × Nat)=>a.setIfInBounds (p+q.2) q.1) xs
theorem xx(p:Nat):∀ (m:List Keyed) (n:Nat) (xs:Array Keyed),p+n+m.length<=xs.size->∀ k:Nat,(wr p m n xs)[k]? = if p+n<=k/\k<p+n+m.length then m[k-(p+n)]? else xs[k]?
 |[],n,xs,h,k=>by
  rw[if_neg (by simp only[List.length_nil];lia)];rfl
 |q :: m,n,xs,h,k=>by
  have ih:=xx p m (n+1) (xs.setIfInBounds (p+n) q) (by rw[Array.size_setIfInBounds];simp only[sv] at h;lia) k
  have e:wr p (q :: m) n xs=wr p m (n+1) (xs.setIfInBounds (p+n) q):=by unfold wr;rw[List.zipIdx_cons,List.foldl_cons]
  simp only[sv] at h ⊢
  rw[e,ih]
  by_cases h1:p+(n+1)<=k/\k<p+(n+1)+m.length
  ·rw[if_pos h1,if_pos (by lia),show k-(p+n)=(k-(p+(n+1)))+1 by lia,List.getElem?_cons_succ]
  ·rw[if_neg h1]
   by_cases h2:k=p+n
   ·subst h2
    rw[if_pos (by walk_at "s4"),Nat.sub_self,List.getElem?_cons_zero,Array.getElem?_setIfInBounds_self_of_lt (by lia)]
   ·rw[if_neg (by lia),Array.getElem?_setIfInBounds_ne (by walk_at "s1")]
theorem C_{p:Nat}{m:List Keyed}{xs:Array Keyed}(h:p+m.length<=xs.size):(wr p m 0 xs).toList=xs.toList.take p++m++xs.toList.drop (p+m.length):=by
 have hl:xs.toList.length=xs.size:=by simp
 apply CH
 intro k
 have e:=xx p m 0 xs h k
 rw[HG] at e
 rw[mE,e]
 by_cases h1:k<p
 ·rw[if_neg (by lia),xo,EG (by rw[nv];lia),List.getElem?_take_of_lt h1,mE]
 ·by_cases h2:k<p+m.length
  ·rw[if_pos (by walk_at "s2"),xo,y6 (by rw[nv];lia),nv,show min p xs.toList.length=p by lia,EG (by lia)]
  ·rw[if_neg (by lia),xo,y6 (by rw[nv];lia),nv,show min p xs.toList.length=p by lia,y6 (by lia),List.getElem?_drop,
    show p+m.length+(k-p-m.length)=k by lia,mE]
theorem Hj{p q:Nat}{xs:Array Keyed}(h:p<=q)(h2:q<=xs.size):xs.toList=xs.toList.take p++(xs.extract p q).toList++xs.toList.drop q:=by
 rw[Q_,QH]
 have e1:xs.toList.take p++(xs.toList.drop p).take (q-p)=xs.toList.take q:=by
  rw[<- Oe p (xs.toList.take q),List.take_take,List.drop_take,Nat.min_eq_left h]
 rw[e1,Oe]
theorem Dj{p q:Nat}{m:List Keyed}{xs:Array Keyed}(h:p<=q)(h2:q<=xs.size)(hm:m.Perm (xs.extract p q).toList):(wr p m 0 xs).Perm xs:=by
 have hl:m.length=q-p:=by rw[hm.length_eq];simp;lia
 rw[Q9,C_ (by lia),show p+m.length=q by lia]
 have e:=Hj (xs:=xs) h h2
 exact(List.Perm.append_right _ (List.Perm.append_left _ hm)).trans (by rw[<- e])
def Runs(r:Value->Int)(xs:Array Keyed):List (Nat × Nat × Nat)->Nat->Nat->Prop
 |[],a,b=>a=b
 | (s,n,_) :: rest,a,b=>s=a/\1<=n/\Up r xs s (s+n)/\Runs r xs rest (s+n) b
section
variable {r:Value->Int}{xs ys:Array Keyed}
theorem Runs.le:∀ {ps:List (Nat × Nat × Nat)} {a b:Nat},Runs r xs ps a b->a+ps.length<=b
 |[],a,b,h=>by simp only[Runs] at h;simp;lia
 | (s,n,p) :: rest,a,b,h=>by
  obtain⟨rfl,h1,_,h3⟩:=h
  have:=Runs.le h3
  simp only[sv];lia
theorem Runs.append:∀ {ps qs:List (Nat × Nat × Nat)} {a b:Nat},Runs r xs (ps++qs) a b↔∃ c,Runs r xs ps a c/\Runs r xs qs c b
 |[],qs,a,b=>by simp[Runs]
 | (s,n,p) :: rest,qs,a,b=>by
  simp only[List.cons_append,Runs]
  constructor
  ·rintro⟨h1,h2,h3,h4⟩
   obtain⟨c,h5,h6⟩:=Runs.append.mp h4
   exact⟨c,⟨h1,h2,h3,h5⟩,h6⟩
  ·rintro⟨c,⟨h1,h2,h3,h5⟩,h6⟩
   exact⟨h1,h2,h3,Runs.append.mpr ⟨c,h5,h6⟩⟩
theorem Up.congr{a b:Nat}(h:Up r xs a b)(e:∀ k,a<=k->k<b->ys[k]? = xs[k]?):Up r ys a b:=fun i j h1 h2 h3=>by
 rw[dD (e i h1 (by walk_at "s1")),dD (e j (by walk_at "s1") h3)];exact h i j h1 h2 h3
theorem Runs.congr:∀ {ps:List (Nat × Nat × Nat)} {a b:Nat},Runs r xs ps a b->(∀ k,a<=k->k<b->ys[k]? = xs[k]?)->Runs r ys ps a b
 |[],a,b,h,_=>h
 | (s,n,p) :: rest,a,b,h,e=>by
  obtain⟨rfl,h1,h2,h3⟩:=h
  have l:=h3.le
  exact⟨rfl,h1,h2.congr fun k u v=>e k u (by lia),Runs.congr h3 fun k u v=>e k (by walk_at "s4") v⟩
theorem Up.glue{a b c:Nat}(h1:Up r xs a b)(h2:Up r xs b c)(h:∀ i j,a<=i->i<b->b<=j->j<c->R r xs i<=R r xs j):Up r xs a c:=fun i j u v w=>by
 by_cases hj:j<b
 ·exact h1 i j u v hj
 ·by_cases hi:i<b
  ·exact h i j u hi (by exact pz ‹_›) w
  ·exact h2 i j (by exact pz ‹_›) v w
end
section
variable {prog:Program}{w:World}{A:Around}{E:Value->Shared->Prop}{s:Shared}{κ:SortKind}{r:Value->Int}{P:Value->Prop}
theorem AllP.extract{xs:Array Keyed}(h:AllP P xs)(i j:Nat):AllP P (xs.extract i j):=fun p hp=>h p (by
 rw[Q_,QH] at hp
 exact QN (Og hp))
theorem dX{xs:Array Keyed}{i j k:Nat}(h:i+k<j)(hj:j<=xs.size):R r (xs.extract i j) k=R r xs (i+k):=by
 apply dD
 rw[Oy,if_pos (by lia)]
theorem Up.extract{xs:Array Keyed}{i j:Nat}(h:Up r xs i j)(gi:i<=j)(hj:j<=xs.size):Up r (xs.extract i j) 0 (xs.extract i j).size:=fun a b _ h2 h3=>by
 have e:(xs.extract i j).size=j-i:=by simp only[ER];lia
 rw[e] at h3
 rw[dX (by lia) hj,dX (by lia) hj]
 exact h _ _ (by exact xt _ _) (by lia) (by lia)
theorem xP{xs:Array Keyed}{m:Array Keyed}{sa k na mS nb:Nat}(hz:sa+na+nb<=xs.size)(hk:k<na)(hnb:mS<=nb)(hA:Up r xs sa (sa+na))(hB:Up r xs (sa+na) (sa+na+nb))
  (lo1:∀ i,i<k->R r xs (sa+i)<=R r xs (sa+na)) (Fc:R r xs (sa+na)<R r xs (sa+k)) (kF:∀ i,i<mS->R r xs (sa+na+i)<R r xs (sa+na-1)) (hX:∀ i,mS<=i->i<nb->R r xs (sa+na-1)<=R r xs (sa+na+i))
  (hm:cH r (xs.extract (sa+k) (sa+na)) (xs.extract (sa+na) (sa+na+mS)) m) :
  Up r (wr (sa+k) m.toList 0 xs) sa (sa+na+nb)/\(wr (sa+k) m.toList 0 xs).Perm xs/\∀ j,j<sa\/sa+na+nb<=j->(wr (sa+k) m.toList 0 xs)[j]? = xs[j]? := by
 obtain⟨mp,mu⟩:=hm
 have eab:(xs.extract (sa+k) (sa+na)).toList++(xs.extract (sa+na) (sa+na+mS)).toList=(xs.extract (sa+k) (sa+na+mS)).toList:=by
  rw[<- Array.toList_append,Array.extract_append_extract,show min (sa+k) (sa+na)=sa+k by lia,show max (sa+na) (sa+na+mS)=sa+na+mS by lia]
 rw[eab] at mp
 have ml:m.toList.length=na+mS-k:=by rw[mp.length_eq];simp;lia
 have hw:sa+k+m.toList.length<=xs.size:=by lia
 have get:=xx (sa+k) m.toList 0 xs (by lia)
 rw[HG,ml] at get
 -- every merged item is one of the gg'
 have mem:∀ (j:Nat) (p:Keyed),m.toList[j]? = some p->∃ i,sa+k<=i/\i<sa+na+mS/\r p.1=R r xs i:=fun j p e=>by
  have hp:p∈(xs.extract (sa+k) (sa+na+mS)).toList:=mp.mem_iff.mp (mB e)
  obtain⟨i,hi⟩:=List.getElem?_of_mem hp
  rw[mE,Oy] at hi
  split at hi
  ·exact⟨sa+k+i,by exact xt _ _,by lia,(nE hi).symm⟩
  ·cases hi
 have low:∀ i,sa+k<=i->i<sa+na+mS->R r xs (sa+na)<=R r xs i:=fun i h1 h2=>by
  by_cases h3:i<sa+na
  ·exact vT (zo Fc) (hA (sa+k) i (by exact xt _ _) h1 h3)
  ·exact hB (sa+na) i (bT _) (by exact pz ‹_›) (by walk_at "s4")
 have high:∀ i,sa+k<=i->i<sa+na+mS->R r xs i<=R r xs (sa+na-1):=fun i h1 h2=>by
  by_cases h3:i<sa+na
  ·exact hA i (sa+na-1) (by lia) (by lia) (by lia)
  ·have:=kF (i-(sa+na)) (by lia)
   rw[show sa+na+(i-(sa+na))=i by exact sA (pz ‹_›)] at this
   exact zo ‹_›
 have WV:∀ j,j<na+mS-k->∃ i,sa+k<=i/\i<sa+na+mS/\R r (wr (sa+k) m.toList 0 xs) (sa+k+j)=R r xs i:=fun j hj=>by
  have e:=get (sa+k+j)
  rw[if_pos (by lia),show sa+k+j-(sa+k)=j by exact Q5 ..] at e
  have n9:j<m.toList.length:=by lia
  obtain⟨i,h1,h2,h3⟩:=mem j m.toList[j] (mz n9)
  rw[mz n9] at e
  exact⟨i,h1,h2,(nE e).trans h3⟩
 have IZ:∀ j,j<sa+k\/sa+na+mS<=j->(wr (sa+k) m.toList 0 xs)[j]? = xs[j]? := fun j hj=>by
  have e:=get j
  rw[if_neg (by lia)] at e
  exact e
 refine⟨?_,Dj (by lia) (by lia) mp,fun j hj=>IZ j (by lia)⟩
 have U1:Up r (wr (sa+k) m.toList 0 xs) sa (sa+k):=Up.congr (xs:=xs) (fun i j h1 h2 h3=>hA i j h1 h2 (by lia)) fun j h1 h2=>IZ j (.inl h2)
 have U2:Up r (wr (sa+k) m.toList 0 xs) (sa+k) (sa+na+mS):=fun i j h1 h2 h3=>by
  have ei:=get i
  have ej:=get j
  rw[if_pos (by lia)] at ei ej
  have li:i-(sa+k)<m.toList.length:=by lia
  have lj:j-(sa+k)<m.toList.length:=by lia
  rw[mz li] at ei
  rw[mz lj] at ej
  rw[nE ei,nE ej]
  by_cases gi:i=j
  ·subst gi;exact sD _
  ·exact(CF.mp mu) _ _ li lj (by lia)
 have U3:Up r (wr (sa+k) m.toList 0 xs) (sa+na+mS) (sa+na+nb):=Up.congr (xs:=xs) (fun i j h1 h2 h3=>hB i j (by lia) h2 h3) fun j h1 h2=>IZ j (.inr h1)
 refine(U1.glue U2 fun i j h1 h2 h3 h4=>?_).glue U3 fun i j h1 h2 h3 h4=>?_
 ·obtain⟨q,q1,q2,q3⟩:=WV (j-(sa+k)) (by lia)
  rw[show sa+k+(j-(sa+k))=j by exact sA ‹_›] at q3
  rw[q3,dD (IZ i (.inl h2))]
  have:=lo1 (i-sa) (by lia)
  rw[show sa+(i-sa)=i by exact sA ‹_›] at this
  exact vT this (low q q1 q2)
 ·have e2:=hX (j-(sa+na)) (by lia) (by lia)
  rw[show sa+na+(j-(sa+na))=j by lia] at e2
  rw[dD (IZ j (.inr h3))]
  by_cases hi:i<sa+k
  ·rw[dD (IZ i (.inl hi))]
   have:=lo1 (i-sa) (by lia)
   rw[show sa+(i-sa)=i by exact sA ‹_›] at this
   have:=low (sa+na-1) (by lia) (by lia)
   lia
  ·obtain⟨q,q1,q2,q3⟩:=WV (i-(sa+k)) (by lia)
   rw[show sa+k+(i-(sa+k))=i by exact sA (pz ‹_›)] at q3
   rw[q3]
   exact vT (high q q1 q2) e2
structure St(r:Value->Int)(κ:SortKind)(dE:Array Keyed)(st:SortSt)(ps:List (Nat × Nat × Nat))(lo:Nat):Prop where
 kind:kindOf st=κ
 failed:failedOf st=none
 perm:(arrOf st).Perm dE
 pend:pendingOf st=ps.toArray
 runs:Runs r (arrOf st) ps 0 lo
theorem St.size{dE:Array Keyed}{st:SortSt}{ps:List (Nat × Nat × Nat)}{lo:Nat}(h:St r κ dE st ps lo):(arrOf st).size=dE.size:=h.perm.size_eq
theorem yz{ps:List (Nat × Nat × Nat)}{i:Nat}(h:i+1<ps.length):∃ pre x y post,ps=pre++x :: y :: post/\pre.length=i:=by
 refine⟨ps.take i,ps[i],ps[i+1],ps.drop (i+2),?_,by rw[nv];lia⟩
 rw[<- xk (by lia),<- xk (by exact AZ ‹_›),Oe]
theorem jZ{st:SortSt}{dE:Array Keyed}{ps:List (Nat × Nat × Nat)}{lo i:Nat}{Q:Bool->SortSt->Prop}(C:lT prog w A s κ r P)(hP:AllP P dE)(H:St r κ dE st ps lo)(DZ:lo<=dE.size)(hi:i+1<ps.length)
  (h:∀ ag g7,St r κ dE ag g7 lo->g7.length+1=ps.length->g7≠[]->(∀ k,lo<=k->(arrOf ag)[k]? = (arrOf st)[k]?)->Q true ag):wpS (model prog w) A E s (mergeAt' i) Q st:=by
 obtain⟨pre,⟨sa,na,pa⟩,⟨sb,nb,pb⟩,post,rfl,DV⟩:=yz hi
 have hz:=H.size
 have qf:AllP P (arrOf st):=hP.perm H.perm
 obtain⟨c,WW,SF⟩:=Runs.append.mp H.runs
 obtain⟨rfl,n1,u1,rfl,n2,u2,WX⟩:=SF
 have le3:=WX.le
 have le1:=WW.le
 -- the new pending list
 have cz':((pendingOf st).setIfInBounds i (sa,na+nb,pa)).eraseIdxIfInBounds (i+1)=(pre++(sa,na+nb,pa) :: post).toArray:=by
  rw[H.pend]
  apply OB.mp
  simp[<- DV,List.eraseIdx_append_of_length_le]
 have new:∀ (xs:Array Keyed) (g:Nat),xs.Perm (arrOf st)->(∀ j,j<sa\/sa+na+nb<=j->xs[j]? = (arrOf st)[j]?)->Up r xs sa (sa+(na+nb)) ->
   St r κ dE (SortSt.mk' (kindOf st) xs (pre++(sa,na+nb,pa) :: post).toArray g (failedOf st)) (pre++(sa,na+nb,pa) :: post) lo:=fun xs g hp ho hu =>
  ⟨H.kind,H.failed,hp.trans H.perm,rfl,Runs.append.mpr ⟨sa,WW.congr fun k _ hk=>ho k (.inl hk),rfl,by walk_at "s4",hu,by
   rw[show sa+(na+nb)=sa+na+nb by exact(EL ..).symm]
   exact WX.congr fun k hk _=>ho k (.inr hk)⟩⟩
 have len:(pre++(sa,na+nb,pa) :: post).length+1=(pre++(sa,na,pa) :: (sa+na,nb,pb) :: post).length:=by simp;exact EL ..
 have e0:(pendingOf st)[i]? = some (sa,na,pa):=by rw[H.pend,<- DV];simp
 have e1:(pendingOf st)[i+1]? = some (sa+na,nb,pb):=by rw[H.pend,<- DV];simp
 refine wpS_bind (wpS_get ?_)
 rw[e0,e1]
 dsimp only
 refine wpS_bind (wpS_modify (f:=fun _=>SortSt.mk' (kindOf st) (arrOf st) (((pendingOf st).setIfInBounds i (sa,na+nb,pa)).eraseIdxIfInBounds (i+1)) (gallopOf st) (failedOf st)) ?_)
 rw[cz']
 refine wpS_bind (aH (xs:=arrOf st) (by lia) fun kb WY=>wpS_bind (cY (arr:=arrOf st) C H.kind qf (qf.at WY) (by lia) (by assumption) u1 fun k WK D3 Fh=>?_))
 have rkb:=nE (r:=r) WY
 dsimp only
 by_cases z:na-k=0
 ·rw[if_pos (by simpa using z)]
  refine wpS_pure (h _ _ (new (arrOf st) (gallopOf st) (Array.Perm.refl _) (fun _ _=>rfl) ?_) len (by simp) fun _ _=>rfl)
  rw[show sa+(na+nb)=sa+na+nb by exact(EL ..).symm]
  refine u1.glue u2 fun i j h1 h2 h3 h4=>?_
  have:=zP (D3 (i-sa) (by lia))
  rw[show sa+(i-sa)=i by exact sA ‹_›] at this
  have:=u2 (sa+na) j (bT _) h3 h4
  lia
 ·rw[if_neg (by simpa using z)]
  refine wpS_bind (aH (xs:=arrOf st) (by lia) fun ka WZ=>wpS_bind (cY (arr:=arrOf st) C H.kind qf (qf.at WZ) (by lia) (by exact DC ‹_› DB) u2 fun l IX wx IY=>?_))
  have rka:=nE (r:=r) WZ
  rw[show sa+k+(na-k)-1=sa+na-1 by lia] at rka
  dsimp only
  by_cases z2:l=0
  ·rw[if_pos (by simpa using z2)]
   refine wpS_pure (h _ _ (new (arrOf st) (gallopOf st) (Array.Perm.refl _) (fun _ _=>rfl) ?_) len (by simp) fun _ _=>rfl)
   rw[show sa+(na+nb)=sa+na+nb by exact(EL ..).symm]
   refine u1.glue u2 fun i j h1 h2 h3 h4=>?_
   have:=t_ (IY (j-(sa+na)) (by lia) (by lia))
   rw[show sa+na+(j-(sa+na))=j by exact sA ‹_›] at this
   have:=u1 i (sa+na-1) h1 (by lia) (by lia)
   lia
  ·rw[if_neg (by simpa using z2)]
   have lo1:∀ i,i<k->R r (arrOf st) (sa+i)<=R r (arrOf st) (sa+na):=fun i hi=>by have:=zP (D3 i hi);lia
   have Fc:R r (arrOf st) (sa+na)<R r (arrOf st) (sa+k):=by have:=wu (Fh k (bT _) (by lia));lia
   have kF:∀ i,i<l->R r (arrOf st) (sa+na+i)<R r (arrOf st) (sa+na-1):=fun i hi=>by have:=BX (wx i hi);lia
   have hX:∀ i,l<=i->i<nb->R r (arrOf st) (sa+na-1)<=R r (arrOf st) (sa+na+i):=fun i h1 h2=>by have:=t_ (IY i h1 h2);lia
   have sx:((arrOf st).extract (sa+k) (sa+na)).size=na-k:=by simp only[ER];lia
   have sy:((arrOf st).extract (sa+na) (sa+na+l)).size=l:=by simp only[ER];lia
   have ux:Up r ((arrOf st).extract (sa+k) (sa+na)) 0 ((arrOf st).extract (sa+k) (sa+na)).size:=Up.extract (fun i j h1 h2 h3=>u1 i j (by lia) h2 h3) (by lia) (by lia)
   have uy:Up r ((arrOf st).extract (sa+na) (sa+na+l)) 0 ((arrOf st).extract (sa+na) (sa+na+l)).size:=Up.extract (fun i j h1 h2 h3=>u2 i j h1 h2 (by walk_at "s4")) (by exact xt _ _) (by lia)
   have W0:R r ((arrOf st).extract (sa+na) (sa+na+l)) 0<=R r ((arrOf st).extract (sa+k) (sa+na)) 0:=by
    rw[dX (by lia) (by lia),dX (by lia) (by lia)]
    exact zo Fc
   have W3:∀ j,j<((arrOf st).extract (sa+na) (sa+na+l)).size->R r ((arrOf st).extract (sa+na) (sa+na+l)) j<=R r ((arrOf st).extract (sa+k) (sa+na)) (((arrOf st).extract (sa+k) (sa+na)).size-1):=fun j hj=>by
    rw[sx,dX (by lia) (by lia),dX (by lia) (by lia),show sa+k+(na-k-1)=sa+na-1 by lia]
    exact zo (kF j (by lia))
   have fin:∀ out ag,cH r ((arrOf st).extract (sa+k) (sa+na)) ((arrOf st).extract (sa+na) (sa+na+l)) out->Mg (SortSt.mk' (kindOf st) (arrOf st) (pre++(sa,na+nb,pa) :: post).toArray (gallopOf st) (failedOf st)) ag ->
     Q true (SortSt.mk' (kindOf ag) (wr (sa+k) out.toList 0 (arrOf ag)) (pendingOf ag) (gallopOf ag) (failedOf ag)):=fun out ag hm hg=>by
    obtain⟨g,rfl⟩:=hg
    obtain⟨m1,m2,m3⟩:=xP (by lia) (by lia) IX u1 u2 lo1 Fc kF hX hm
    exact h _ _ (new _ g m2 m3 (by rw[show sa+(na+nb)=sa+na+nb by exact(EL ..).symm];exact m1)) len (by simp) fun k hk=>m3 k (.inr (by lia))
   have fin2:∀ out ag,cH r ((arrOf st).extract (sa+k) (sa+na)) ((arrOf st).extract (sa+na) (sa+na+l)) out->Mg (SortSt.mk' (kindOf st) (arrOf st) (pre++(sa,na+nb,pa) :: post).toArray (gallopOf st) (failedOf st)) ag ->
     failedOf ag=none:=fun out ag _ hg=>by
    obtain⟨g,rfl⟩:=hg
    exact H.failed
   by_cases z3:na-k<=l
   ·rw[if_pos z3]
    refine wpS_bind (rJ (a:=(arrOf st).extract (sa+k) (sa+na)) (b:=(arrOf st).extract (sa+na) (sa+na+l)) C H.kind (qf.extract _ _) (qf.extract _ _) ux uy (by lia) (by lia) W0 W3 fun out ag hm hg=>?_)
    refine wpS_bind (wpS_modify (wpS_bind (wpS_get ?_)))
    have f:=fin out ag hm hg
    have f2:=fin2 out ag hm hg
    refine wpS_pure ?_
    show Q (failedOf ag).isNone _
    rw[f2]
    exact f
   ·rw[if_neg z3]
    refine wpS_bind (rB (a:=(arrOf st).extract (sa+k) (sa+na)) (b:=(arrOf st).extract (sa+na) (sa+na+l)) C H.kind (qf.extract _ _) (qf.extract _ _) ux uy (by lia) (by lia) W0 W3 fun out ag hm hg=>?_)
    refine wpS_bind (wpS_modify (wpS_bind (wpS_get ?_)))
    have f:=fin out ag hm hg
    have f2:=fin2 out ag hm hg
    refine wpS_pure ?_
    show Q (failedOf ag).isNone _
    rw[f2]
    exact f
theorem Runs.modify{xs:Array Keyed}{f:Nat × Nat × Nat->Nat × Nat × Nat}(hf:∀ x,(f x).1=x.1/\(f x).2.1=x.2.1):∀ {ps:List (Nat × Nat × Nat)} {i a b:Nat},Runs r xs ps a b->Runs r xs (ps.modify i f) a b
 |[],_,_,_,h=>by simpa using h
 | (s,n,p) :: rest,0,a,b,h=>by
  obtain⟨h1,h2⟩:=hf (s,n,p)
  rw[List.modify_zero_cons]
  have e:f (s,n,p)=(s,n,(f (s,n,p)).2.2):=Prod.ext h1 (Prod.ext h2 rfl)
  rw[e]
  exact h
 | (s,n,p) :: rest,i+1,a,b,h=>by
  rw[List.modify_succ_cons]
  obtain⟨h1,h2,h3,h4⟩:=h
  exact⟨h1,h2,h3,Runs.modify hf h4⟩
theorem St.win{dE:Array Keyed}{st ag:SortSt}{ps:List (Nat × Nat × Nat)}{lo hi:Nat}(H:St r κ dE st ps lo)(hw:kR lo hi st ag):St r κ dE ag ps lo :=
 ⟨hw.kind.trans H.kind,hw.failed.trans H.failed,hw.perm.trans H.perm,hw.pend.trans H.pend,H.runs.congr fun k _ hk=>hw.out k (.inl hk)⟩
theorem wpS_sortRuns{st:SortSt}{Q:Unit->SortSt->Prop}(C:lT prog w A s κ r P)(hk:kindOf st=κ)(hP:AllP P (arrOf st))(hp:pendingOf st = #[])(hf:failedOf st=none)
  (h:∀ ag,(arrOf ag).Perm (arrOf st)->failedOf ag=none->Up r (arrOf ag) 0 (arrOf st).size->Q () ag):wpS (model prog w) A E s sortRuns' Q st:=by
 rw[sortRuns'_eq]
 refine wpS_bind (wpS_get ?_)
 dsimp only
 generalize ha:arrOf st=dE at *
 have H0:St r κ dE st [] 0:=⟨hk,hf,by rw[ha],by rw[hp],rfl⟩
 refine wpS_bind (wpS_mono (wpS_forRange (I:=fun x c ag=>∃ ps lo,c=(none,lo)/\St r κ dE ag ps lo/\lo<=dE.size/\x<=lo)
  (Q:=fun c ag=>∃ ps,c=(none,dE.size)/\St r κ dE ag ps dE.size) ?step ?fin ⟨[],0,rfl,H0,dz _,bT _⟩) ?post)
 case fin =>
  rintro c ag ⟨ps,lo,rfl,H,h1,h2⟩
  have:lo=dE.size:=by lia
  subst this
  exact⟨ps,rfl,H⟩
 case post =>
  rintro c ag ⟨ps,rfl,H⟩
  dsimp only
  have l0:=H.runs.le
  refine wpS_bind (wpS_mono (wpS_forRange (I:=fun y c ag=>c=(none,())/\∃ g7,St r κ dE ag g7 dE.size/\g7.length+y<=dE.size)
   (Q:=fun c ag=>c=(none,())/\∃ g7,St r κ dE ag g7 dE.size/\g7.length<=1) ?cB' ?PJ ⟨rfl,ps,H,by lia⟩) ?cC')
  case PJ =>
   rintro c ag ⟨rfl,g7,H',hl⟩
   exact⟨rfl,g7,H',by lia⟩
  case cC' =>
   rintro c ag ⟨rfl,g7,H',hl⟩
   refine wpS_pure (h ag H'.perm H'.failed ?_)
   have q:=H'.runs
   match g7,hl,q with
   |[],_,q =>
    have q:0=dE.size:=q
    intro i j _ _ hj
    lia
   |[(s',n',p')],_,q =>
    obtain⟨rfl,_,hu,e⟩:=q
    have e:0+n'=dE.size:=e
    rw[<- e]
    exact hu
  case cB' =>
   rintro y c BU _ hy ⟨rfl,g7,H',hl⟩
   refine wpS_bind (wpS_get ?_)
   have ep:(pendingOf BU).size=g7.length:=by rw[H'.pend];simp
   by_cases z:(pendingOf BU).size<=1
   ·rw[if_pos z]
    exact wpS_pure ⟨rfl,g7,H',by lia⟩
   ·rw[if_neg z]
    refine wpS_bind (jZ C hP H' (bT _) (by(repeat' split)<;>lia) fun wm ps2 H2 hlen _ _=>?_)
    rw[if_neg (by simp)]
    exact wpS_pure ⟨rfl,ps2,H2,by lia⟩
 case step =>
  rintro x c BU _ hx ⟨ps,lo,rfl,H,h1,h2⟩
  dsimp only
  by_cases z:lo >= dE.size
  ·rw[if_pos z]
   have:lo=dE.size:=by lia
   subst this
   exact wpS_pure ⟨ps,rfl,H⟩
  ·rw[if_neg z]
   have hz:=H.size
   refine wpS_bind (wpS_countRun C H.kind (hP.perm H.perm) (by lia) (by lia) fun m wm hw ya qh hu=>?_)
   have H2:=H.win hw
   dsimp only
   refine Cw (K:=?K) ?pk fun key=>?main
   case main =>
    by_cases z2:m<minRun' dE.size dE.size 0
    ·rw[if_pos z2]
     refine wpS_bind (wpS_lift (wpAny_rule ⟨rfl,?_⟩))
     refine wpS_bind (wpS_binarySort C H2.kind (hP.perm H2.perm) (by clear key;have:=H2.size;lia) (by clear key;lia) hu fun wo W4 SG=>?_)
     have H3:=H2.win W4
     rw[if_neg (by simp)]
     have b1:1<=min (dE.size-lo) (minRun' dE.size dE.size 0):=by clear key;lia
     have b2:lo+min (dE.size-lo) (minRun' dE.size dE.size 0)<=dE.size:=by clear key;lia
     clear W4
     generalize min (dE.size-lo) (minRun' dE.size dE.size 0)=nn at *
     revert nn wo
     exact key
    ·rw[if_neg z2]
     exact key _ H2 _ hu ya (by lia)
   intro wo H3 nn SG b1 b2
   refine wpS_bind (wpS_get ?_)
   have push:∀ (ag:SortSt) (g7:List (Nat × Nat × Nat)),St r κ dE ag g7 lo->Up r (arrOf ag) lo (lo+nn)->∃ ps E8,((none:Option Unit),lo+nn)=(none,E8)/\St r κ dE (setPending ag ((pendingOf ag).push (lo,nn,0))) ps E8/\E8<=dE.size/\x+1<=E8:=fun ag g7 G u =>
    ⟨g7++[(lo,nn,0)],lo+nn,rfl,⟨G.kind,G.failed,G.perm,by show(pendingOf ag).push _=_;rw[G.pend];simp,Runs.append.mpr ⟨lo,G.runs,rfl,b1,u,rfl⟩⟩,b2,by lia⟩
   cases hb:(pendingOf wo).back? with
   |none =>
    dsimp only
    exact wpS_bind (wpS_modify (wpS_pure (push wo ps H3 SG)))
   |some t =>
    obtain⟨s1,n1,p1⟩:=t
    dsimp only
    generalize power' dE.size (2*s1+n1) (2*s1+n1+n1+nn) dE.size=pw
    refine wpS_bind (wpS_mono (wpS_forRange (I:=fun y c ag=>c=(none,())/\∃ g7,St r κ dE ag g7 lo/\Up r (arrOf ag) lo (lo+nn))
     (Q:=fun c ag=>c=(none,())/\∃ g7,St r κ dE ag g7 lo/\Up r (arrOf ag) lo (lo+nn)) ?_ (fun _ _ q=>q) ⟨rfl,ps,H3,SG⟩) ?_)
    ·rintro y c uS _ hy ⟨rfl,g7,H4,Nf⟩
     refine wpS_bind (wpS_get ?_)
     have ep:(pendingOf uS).size=g7.length:=by rw[H4.pend];simp
     by_cases z3:(pendingOf uS).size>1
     ·rw[if_pos z3]
      have e4:(pendingOf uS)[(pendingOf uS).size-2]? = some ((pendingOf uS)[(pendingOf uS).size-2]'(by lia)):=getElem?_pos _ _ (by lia)
      rw[e4]
      generalize (pendingOf uS)[(pendingOf uS).size-2]'(by lia)=tt
      obtain⟨t1,t2,cD'⟩:=tt
      dsimp only
      by_cases z4:cD'<=pw
      ·rw[if_pos z4]
       exact wpS_pure ⟨rfl,g7,H4,Nf⟩
      ·rw[if_neg z4]
       refine wpS_bind (jZ C hP H4 h1 (by lia) fun EZ ps5 H5 hlen _ mh=>?_)
       rw[if_neg (by simp)]
       exact wpS_pure ⟨rfl,ps5,H5,Nf.congr fun k hk _=>mh k hk⟩
     ·rw[if_neg z3]
      exact wpS_pure ⟨rfl,g7,H4,Nf⟩
    ·rintro c uS ⟨rfl,g7,H4,Nf⟩
     dsimp only
     refine wpS_bind (wpS_modify (wpS_bind (wpS_modify (wpS_pure ?_))))
     refine push _ (g7.modify (g7.length-1) fun x=>(x.1,x.2.1,pw)) ⟨H4.kind,H4.failed,H4.perm,?_,Runs.modify (f:=fun x=>(x.1,x.2.1,pw)) (fun _=>⟨rfl,rfl⟩) H4.runs⟩ Nf
     show(pendingOf uS).modify ((pendingOf uS).size-1) (fun x=>(x.1,x.2.1,pw))=_
     rw[H4.pend]
     simp
def dw (h:Heap) (a:Addr) (vs:List Value):Heap:=((h.update a (Obj.mapSeq fun _=>#[])).push (seqObj "tuple" vs.toArray 0)).push (seqObj "list" #[] 0)
theorem gr{h:Heap}{a b:Addr}{vs:List Value}(hb:b≠a)(da:b<h.objs.size):(dw h a vs).get? b=h.get? b:=by
 unfold dw
 rw[GW _ _ _ (by rw[size_push',GY];exact eI (ot da)),
  GW _ _ _ (by rw[GY];exact eI da),Heap.get?_update_ne _ _ _ _ hb]
theorem rA{vs:List Value}{xs:Array Keyed}(hp:xs.Perm (pairsOf vs))(hs:Up r xs 0 vs.length):(xs.map (·.2)).toList.Perm vs/\(xs.map (·.2)).toList.Pairwise fun x y=>r x<=r y:=by
 have hl:xs.toList.Perm (vs.zip vs):=by rw[<- pairsOf_toList];exact Q9.mp hp
 have Ng:∀ p,p∈xs.toList->p.1=p.2:=fun p iX=>(mem_zip_self (hl.mem_iff.mp iX)).1
 have e:(xs.map (·.2)).toList=xs.toList.map (·.1):=by
  rw[Array.toList_map];exact Oi fun p iX=>(Ng p iX).symm
 have hsz:xs.size=vs.length:=by rw[hp.size_eq,pairsOf_size]
 rw[e]
 refine⟨?_,?_⟩
 ·have h1:=hl.map (·.1)
  rwa[LZ (bT _)] at h1
 ·rw[CF]
  intro i j hi hj gi
  have kA:i<xs.size:=by simpa using hi
  have n9:j<xs.size:=by simpa using hj
  have h1:=hs i j (dz _) (kD gi) (by lia)
  rw[Fe kA,Fe n9] at h1
  simpa using h1
theorem fL {a:Addr} {vs:List Value} {n:Nat} {F:PySem.Fin->Shared->Prop} (ho:s.heap.get? a=some (seqObj "list" vs.toArray n)) (hsz:vs.length<=sizeLine) (hP:∀ v∈vs,P v)
  (hk:2<=vs.length->∀ (Q:SortKind->Shared->Prop),Q κ { s with heap:=dw s.heap a vs }->wpAny (model prog w) A (keyKind' vs.toArray) Q E { s with heap:=dw s.heap a vs })
  (C:2<=vs.length->lT prog w A { s with heap:=dw s.heap a vs } κ r P)
  (h:∀ out:Array Value,out.toList.Perm vs->(out.toList.Pairwise fun x y=>r x<=r y)->F (.done (.ret .none)) { s with heap:=sortedHeap s.heap a vs out }) :
  wpAny (model prog w) A (Builtin.«list.sort» ⟨[.ref a],[]⟩) F E s:=by
 rw[list_sort_plain]
 have ha:a<s.heap.objs.size:=dk ho
 refine ai (listItems_at ho rfl ?_)
 refine ai (listUpdate_at ho rfl ?_ (by simpa using hsz) (dz _))
 obtain⟨e1,AF⟩:∃ e1,(s.heap.update a (Obj.mapSeq fun _=>#[])).get? a=some (seqObj "list" #[] e1):=⟨_,get?_update_seq ho (fun _=>#[])⟩
 refine ai (seqEpoch_at AF rfl ?_)
 refine ai (wpAny_newTuple ?_ (by simpa using hsz))
 refine ai (wpAny_newList ?_ (dz _))
 refine wpAny_holding ?_
 have PK:(dw s.heap a vs).get? a=some (seqObj "list" #[] e1):=by
  unfold dw
  rw[GW _ _ _ (by rw[size_push',GY];exact eI (ot ha)),GW _ _ _ (by rw[GY];exact eI ha)]
  exact AF
 show wpAny (model prog w) A _ F E { s with heap:=dw s.heap a vs }
 dsimp only
 have hvz:vs.toArray.size=vs.length:=by simp
 have fin:∀ ag:SortSt,(arrOf ag).Perm (pairsOf vs)->Up r (arrOf ag) 0 vs.length->F (.done (.ret .none)) { s with heap:=sortedHeap s.heap a vs ((arrOf ag).map (·.2)) }:=by
  intro ag hp hs
  obtain⟨h1,h2⟩:=rA hp hs
  exact h _ h1 h2
 by_cases h2:vs.toArray.size<2
 ·rw[if_pos h2,if_pos h2]
  refine ai (aS ?_)
  rw[StateT.run_pure]
  refine ai (aS ?_)
  dsimp only
  refine ai (seqEpoch_at PK rfl ?_)
  refine ai (listUpdate_at PK rfl ?_ (dz _) (by rw[Array.size_map];show(pairsOf vs).size<=_;rw[pairsOf_size];exact L6 ‹_›))
  simp only[bne_self_eq_false,gu,if_false]
  refine aS (fin (SortSt.mk' general' (vs.toArray.zip vs.toArray) #[] 7 none) (Array.Perm.refl _) ?_)
  intro i j _ gi hj
  have:i=j:=by lia
  subst this;exact sD _
 ·rw[if_neg h2,if_neg h2]
  refine ai (hk (by exact pz ‹_›) _ ?_)
  refine ai (pj (wpS_sortRuns (st:=SortSt.mk' κ (vs.toArray.zip vs.toArray) #[] 7 none)
   (Q:=fun _ ag=>(arrOf ag).Perm (pairsOf vs)/\failedOf ag=none/\Up r (arrOf ag) 0 vs.length)
   (C (by exact pz ‹_›)) rfl (fun p hp=>?_) rfl rfl fun ag a1 a2 a3=>⟨a1,a2,?_⟩) ?_ fun _ _ e=>e)
  ·have iX:p∈(pairsOf vs).toList:=hp
   rw[pairsOf_toList] at iX
   exact hP _ (mem_zip_self iX).2
  ·have e:(arrOf (SortSt.mk' κ (vs.toArray.zip vs.toArray) #[] 7 none)).size=vs.length:=pairsOf_size vs
   rw[e] at a3
   exact a3
  ·rintro⟨⟨⟩,ag⟩ s' ⟨rfl,hp,hf,hs⟩
   dsimp only
   refine ai (seqEpoch_at PK rfl ?_)
   refine ai (listUpdate_at PK rfl ?_ (dz _) (by refine iN (HC ((Array.size_map ..).trans (hp.size_eq.trans (pairsOf_size _)))) ?_;exact L6 ‹_›))
   rw[hf]
   simp only[bne_self_eq_false,gu,if_false]
   exact aS (fin ag hp hs)
def gG (h:Heap) (vs:List Value):Heap:=((h.push (seqObj "list" #[] 0)).update h.objs.size (Obj.mapSeq (· ++ vs.toArray))).push (seqObj "list" vs.toArray 0)
theorem kW{h:Heap}{vs:List Value}{b:Addr}{o:Obj}(hb:h.get? b=some o):(dw (gG h vs) (h.objs.size+1) vs).get? b=some o:=by
 have da:b<h.objs.size:=dk hb
 have e:(gG h vs).get? b=some o:=by
  unfold gG
  rw[GW _ _ _ (by rw[GY,size_push'];exact eI (ot da)),Heap.get?_update_ne _ _ _ _ (eI da),GW _ _ _ (eI da)]
  exact hb
 rw[gr (eI (ot da)) (dk e)]
 exact e
theorem vB{l:Addr}{vs:List Value}{Q:Value->Shared->Prop}(hl:s.heap.IsList l vs.toArray)(hsz:vs.length<=sizeLine)(hP:∀ v∈vs,P v)
  (hk:2<=vs.length->∀ (A':Around) (E':Value->Shared->Prop) (s':Shared),(∀ b o,s.heap.get? b=some o->s'.heap.get? b=some o)->∀ (Q:SortKind->Shared->Prop),Q κ s'->wpAny (model prog w) A' (keyKind' vs.toArray) Q E' s')
  (C:2<=vs.length->∀ (s':Shared),(∀ b o,s.heap.get? b=some o->s'.heap.get? b=some o)->lT prog w A.in1.in1 s' κ r P)
  (h:∀ (h':Heap) (out:List Value) (n:Nat),out.Perm vs->(out.Pairwise fun x y=>r x<=r y)->(∀ b o,s.heap.get? b=some o->h'.get? b=some o)->h'.get? (s.heap.objs.size+1)=some (seqObj "list" out.toArray n)->Q (.ref (s.heap.objs.size+1)) { s with heap:=h' }) :
  wpAny (model prog w) A (call (.builtin "sorted") [.ref l]) Q E s:=by
 refine Calls.call_function_entry kind_sorted plain_sorted entry_sorted (args_sorted1 _) ?_
 unfold Builtin.«sorted»
 refine ai (m:=checkCount "sorted" 1 1 _) (aS ?_)
 refine ai (collect_list hl ?_ hsz)
 refine ai (wpAny_newList ?_ (by simpa using hsz))
 have W5:((s.heap.push (seqObj "list" #[] 0)).update s.heap.objs.size (Obj.mapSeq (· ++ vs.toArray))).objs.size=s.heap.objs.size+1:=by
  rw[GY,size_push']
 have wc:(gG s.heap vs).get? (s.heap.objs.size+1)=some (seqObj "list" vs.toArray 0):=by
  unfold gG
  rw[<- W5];exact i9 _ rfl
 show wpAny _ _ _ _ _ { s with heap:=gG s.heap vs }
 rw[W5]
 refine ai (wpAny_holding (wpAny_call_entry slot_list_sort ⟨_,wc,rfl⟩ entry_list_sort (fL (r:=r) (s:={ s with heap:=gG s.heap vs }) wc hsz hP
  (fun h2=>hk h2 _ _ _ fun b o e=>kW e) (fun h2=>?_) fun out a1 a2=>⟨_,rfl,?_⟩) (args_list_sort _)))
 ·exact C h2 _ fun b o e=>kW e
 ·obtain⟨n,e⟩:=sortedAll_at s.heap vs out
  refine aS ⟨_,rfl,h (sortedAll s.heap vs out) out.toList n a1 a2 (fun b o e=>sortedAll_old e) (by rw[Oz];exact e)⟩
end
end x6
namespace L2
open PySem PySem.Spec PyProof.Rows
def vj:Key->Key->Bool
 |.inl i,.inl j=>decide (i<j)
 |.inr x,.inr y=>qc x y
 |_,_=>false
def ft:List Key->List Key->Bool
 |a :: as,b :: bs=>if a=b then ft as bs else vj a b
 |_,_=>false
def AG:Key->Bool
 |.inl _=>true
 |.inr _=>false
def gL(k:List Key):List Bool:=k.map AG
theorem vy(x:Str):qc x x=false:=by unfold qc;simp[List.lt_irrefl]
theorem Am{x y z:Str}(h:qc x y=true)(g:qc y z=true):qc x z=true:=by
 unfold qc at *
 simp only[decide_eq_true_eq] at *
 exact List.lt_trans h g
theorem xG{x y:Str}(h:x.cps.toList=y.cps.toList):x=y:=by
 cases x;cases y
 simp only at h
 rw[OB.mp h]
theorem wJ{x y:Str}(h:qc x y=false)(g:qc y x=false):x=y:=by
 unfold qc at *
 simp only[decide_eq_false_iff_not] at *
 apply xG
 exact List.le_antisymm (List.not_lt.mp g) (List.not_lt.mp h)
theorem Cj(a:Key):vj a a=false:=by cases a with|inl i=>simp[vj]|inr x=>exact vy x
theorem Gk{a b c:Key}(h:vj a b=true)(g:vj b c=true):vj a c=true:=by
 cases a<;>cases b<;>cases c<;>simp only[vj,decide_eq_true_eq] at *<;>first|lia|contradiction|exact Am h g
theorem CG{a b:Key}(e:AG a=AG b)(h:vj a b=false)(g:vj b a=false):a=b:=by
 cases a<;>cases b<;>simp only[vj,AG,decide_eq_false_iff_not] at *
 ·congr 1;lia
 ·cases e
 ·cases e
 ·congr 1;exact wJ h g
theorem nJ:∀ a:List Key,ft a a=false
 |[]=>rfl
 |a :: as=>by unfold ft;rw[if_pos rfl];exact nJ as
theorem pP:∀ {a b c:List Key},ft a b=true->ft b c=true->ft a c=true
 |[],_,_,h,_=>by simp[ft] at h
 |_ :: _,[],_,h,_=>by simp[ft] at h
 |_ :: _,_ :: _,[],_,g=>by simp[ft] at g
 |a :: as,b :: bs,c :: cs,h,g=>by
  unfold ft at h g ⊢
  by_cases e1:a=b
  ·subst e1
   rw[if_pos rfl] at h
   by_cases e2:a=c
   ·subst e2
    rw[if_pos rfl] at g ⊢
    exact pP h g
   ·rw[if_neg e2] at g ⊢
    exact g
  ·rw[if_neg e1] at h
   by_cases e2:b=c
   ·subst e2
    rw[if_neg e1]
    exact h
   ·rw[if_neg e2] at g
    have t:=Gk h g
    have ne:a≠c:=fun e=>by subst e;rw[Cj] at t;cases t
    rw[if_neg ne]
    exact t
theorem lz:∀ {a b:List Key},gL a=gL b->ft a b=false->ft b a=false->a=b
 |[],[],_,_,_=>rfl
 |[],_ :: _,e,_,_=>by simp[gL] at e
 |_ :: _,[],e,_,_=>by simp[gL] at e
 |a :: as,b :: bs,e,h,g=>by
  simp only[gL,fz,List.cons.injEq] at e
  unfold ft at h g
  by_cases e1:a=b
  ·subst e1
   rw[if_pos rfl] at h g
   rw[lz (show gL as=gL bs from e.2) h g]
  ·rw[if_neg e1] at h
   rw[if_neg (Ne.symm e1)] at g
   exact absurd (CG e.1 h g) e1
theorem count_le{α:Type}(p q:α->Bool):∀ (l:List α),(∀ x∈l,p x=true->q x=true)->l.countP p<=l.countP q
 |[],_=>bT _
 |x :: l,h=>by
  have ih:=count_le p q l fun y hy=>h y (cc _ hy)
  have h1:=h x cf
  rw[Oj,Oj]
  cases hp:p x<;>cases hq:q x<;>simp_all<;>exact L6 ‹_›
theorem oW{α:Type}(p q:α->Bool)(a:α)(ha:p a=false)(hb:q a=true):∀ (l:List α),a∈l->(∀ x∈l,p x=true->q x=true)->l.countP p<l.countP q
 |[],m,_=>by cases m
 |x :: l,m,h=>by
  rw[Oj,Oj]
  rcases cS.mp m with rfl|m
  ·have:=count_le p q l fun y hy=>h y (cc _ hy)
   rw[ha,hb];simp;exact vS ‹_›
  ·have ih:=oW p q a ha hb l m fun y hy=>h y (cc _ hy)
   have h1:=h x cf
   cases hp:p x<;>cases hq:q x<;>simp_all<;>exact ot ‹_›
def I0(L:List (List Key))(k:List Key):Int:=(L.countP fun j=>ft j k:Nat)
theorem vg{L:List (List Key)}{a b:List Key}(e:gL a=gL b)(ma:a∈L):decide (I0 L a<I0 L b)=ft a b:=by
 unfold I0
 cases h:ft a b with
 |true =>
  have:=oW (fun j=>ft j a) (fun j=>ft j b) a (nJ a) h L ma fun x _ hx=>pP hx h
  exact decide_eq_true (by lia)
 |false =>
  apply decide_eq_false
  cases g:ft b a with
  |false=>rw[lz e h g];lia
  |true =>
   have:=count_le (fun j=>ft j b) (fun j=>ft j a) L fun x _ hx=>pP hx g
   lia
def SJ:V->Option Key
 |.int i=>some (.inl i)
 |.str x=>some (.inr x)
 |_=>none
theorem H_(k:Key):SJ (kV k)=some k:=by cases k<;>rfl
theorem Bj:∀ k:List Key,(k.map kV).filterMap SJ=k
 |[]=>rfl
 |a :: as=>by rw[fz,y8,H_,Bj as]
def lR(H:Hp):Value->List Key
 |.ref b=>match H b with
  |some (.tup xs)=>xs.filterMap SJ
  |_=>[]
 |_=>[]
theorem cR{H:Hp}{b:Addr}{k:List Key}(h:H b=some (.tup (k.map kV))):lR H (.ref b)=k:=by
 simp only[lR,h];exact Bj k
section
variable {prog:Program}{w:World}{A:Around}{E:Value->Shared->Prop}{s:Shared}{Q:Bool->Shared->Prop}
theorem Fy{a b:Key}{u v:Value}(ru:RelV (kV a) u)(rv:RelV (kV b) v)(e:AG a=AG b)(q:Q (vj a b) s):wpAny (model prog w) A (oneLt' false u v) Q E s:=by
 refine PySem.W.kat_one u v ?_
 cases a with
 |inl i =>
  cases b with
  |inr x=>cases e
  |inl j =>
   obtain⟨t,rfl⟩:=ru
   obtain⟨t',rfl⟩:=rv
   exact lt_int q
 |inr x =>
  cases b with
  |inl j=>cases e
  |inr y =>
   obtain⟨t,rfl⟩:=ru
   obtain⟨t',rfl⟩:=rv
   exact PySem.P.lt_str q
theorem Ff{a b:Key}{u v:Value}(ru:RelV (kV a) u)(rv:RelV (kV b) v)(e:AG a=AG b)(q:Q (decide (a=b)) s):wpAny (model prog w) A (eqBool u v) Q E s:=by
 cases a with
 |inl i =>
  cases b with
  |inr x=>cases e
  |inl j =>
   obtain⟨t,rfl⟩:=ru
   obtain⟨t',rfl⟩:=rv
   refine wpAny_eqBool_int ?_
   rw[<- U8];exact q
 |inr x =>
  cases b with
  |inl j=>cases e
  |inr y =>
   obtain⟨t,rfl⟩:=ru
   obtain⟨t',rfl⟩:=rv
   refine wpAny_eqBool_str ?_
   rw[<- U9];exact q
theorem zA{fin:Bool}(k m:List Key)(us vs:List Value)(i:Nat)(ha:Vals (k.map kV) us)(hb:Vals (m.map kV) vs)(e:gL k=gL m)(hf:fin=false)(q:Q (ft k m) s) :
  PySem.W.KatLex prog w A true fin Q (us.zip vs) i s:=by
 induction k generalizing m us vs i with
 |nil =>
  cases m with
  |cons b m=>simp[gL] at e
  |nil =>
   rw[Paired.n0 ha,Paired.n0 hb]
   subst hf
   exact PySem.W.kat_nil q
 |cons a k ih =>
  cases m with
  |nil=>simp[gL] at e
  |cons b m =>
   obtain⟨u,us,rfl,ra,rk⟩:=Paired.c ha
   obtain⟨v,vs,rfl,rb,rm⟩:=Paired.c hb
   simp only[gL,fz,List.cons.injEq] at e
   rw[xl]
   refine PySem.W.kat_cons (Ff ra rb e.1 (PySem.W.kat_go (fun h=>PySem.W.kat_yes ?_) (fun h=>PySem.W.kat_no ?_)))
   ·have h:=of_decide_eq_true h
    subst h
    unfold ft at q
    rw[if_pos rfl] at q
    exact ih m _ _ (i+1) rk rm e.2 q
   ·have h:=of_decide_eq_false h
    unfold ft at q
    rw[if_neg h] at q
    by_cases h0:i=0
    ·subst h0
     cases a with
     |inr x =>
      cases b with
      |inl j=>cases e.1
      |inr y =>
       obtain⟨t,rfl⟩:=ra
       obtain⟨t',rfl⟩:=rb
       exact oneLt_str q
     |inl i =>
      cases b with
      |inr x=>cases e.1
      |inl j =>
       obtain⟨t,rfl⟩:=ra
       obtain⟨t',rfl⟩:=rb
       exact oneLt_int q
    ·rw[show(true && i == 0)=false by simp[h0]]
     exact Fy ra rb e.1 q
end
section
variable {X:Cx}{pins:List (Addr × Obj)}{σ:St}{H:Hp}{s:Shared}
theorem Inv.tup{b:Addr}{xs:List V}(I:Inv X pins σ H s)(h:H b=some (.tup xs)):∃ its:List Value,Vals xs its/\IsTup s.heap b its.toArray:=(I.aT b _ h).2
theorem sX(I:Inv X pins σ H s){s':Shared}(kp:∀ b o,s.heap.get? b=some o->s'.heap.get? b=some o){A:Around}{L:List (List Key)}{b0:Bool}{sh:List Bool} :
  x6.lT X.prog X.w A s' (tuples' true) (fun v=>I0 L (lR H v)) (fun v=>∃ b k,v=.ref b/\H b=some (.tup (k.map kV))/\gL k=b0 :: sh/\k∈L):=by
 rintro x y ⟨b,k,rfl,hb,hk,mk⟩ ⟨c,m,rfl,hc,hm,mm⟩ Q E q
 obtain⟨us,ru,o,e1,c1,n1,d1⟩:=I.tup hb
 obtain⟨vs,rv,o',e2,c2,n2,d2⟩:=I.tup hc
 have SK:gL k=gL m:=hk.trans hm.symm
 simp only[cR hb,cR hc] at q
 rw[vg SK mk] at q
 refine PySem.W.kat_lt (kp _ _ e1) d1 (kp _ _ e2) d2 (zA k m us vs 0 ru rv SK ?_ q)
 ·have h1:=ru.length
  have h2:=rv.length
  have h3:k.length=m.length:=by
   have:=congrArg List.length SK
   simpa[gL] using this
  simp only[cK] at h1 h2
  exact decide_eq_false (by simp only[kf];lia)
theorem kat_tups(I:Inv X pins σ H s){s':Shared}(kp:∀ b o,s.heap.get? b=some o->s'.heap.get? b=some o){b0:Bool}{sh:List Bool}{ys:List V}{ks:List (List Key)}{vs:List Value}(ht:cT H ys ks)(hv:Vals ys vs)(hs:∀ k∈ks,gL k=b0 :: sh) :
  ∃ fs:List Value,PySem.W.KatTups s'.heap vs fs/\fs.length=vs.length/\∀ f∈fs,(b0=true->∃ i t,f=Value.int i t)/\(b0=false->∃ x t,f=Value.str x t):=by
 induction ys generalizing ks vs with
 |nil =>
  rw[Paired.n0 hv]
  exact⟨[],.nil,rfl,by simp⟩
 |cons y ys ih =>
  obtain⟨k,ks,rfl,⟨b,rfl,hb⟩,t⟩:=Paired.c ht
  obtain⟨v,vs,rfl,rfl,rs⟩:=Paired.c hv
  obtain⟨fs,f1,f2,f3⟩:=ih t rs fun j hj=>hs j (cc _ hj)
  have hk:=hs k cf
  obtain⟨us,ru,o,e1,c1,n1,d1⟩:=I.tup hb
  cases k with
  |nil=>simp[gL] at hk
  |cons a k =>
   obtain⟨u,us,rfl,ra,rr⟩:=Paired.c ru
   simp only[gL,fz,List.cons.injEq] at hk
   refine⟨u :: fs,.cons (kp _ _ e1) c1 d1 rfl f1,by simp[f2],fun f hf=>?_⟩
   rcases cS.mp hf with rfl|hf
   ·cases a with
    |inr x =>
     obtain⟨tk,rfl⟩:=ra
     exact⟨(fun z=>by rw[<- hk.1] at z;cases z),fun _=>⟨_,_,rfl⟩⟩
    |inl i =>
     obtain⟨tk,rfl⟩:=ra
     exact⟨fun _=>⟨_,_,rfl⟩,fun z=>by rw[<- hk.1] at z;cases z⟩
   ·exact f3 f hf
end
theorem cT.keys{H:Hp}{ys:List V}{ks:List (List Key)}{vs:List Value}(h:cT H ys ks)(hv:Vals ys vs):vs.map (lR H)=ks/\∀ v∈vs,∃ b k,v=.ref b/\H b=some (.tup (k.map kV))/\k∈ks:=by
 induction ys generalizing ks vs with
 |nil=>rw[Paired.n0 hv,show ks=[] from Paired.n0 h];exact⟨rfl,by simp⟩
 |cons y ys ih =>
  obtain⟨k,ks,rfl,⟨b,rfl,g⟩,t⟩:=Paired.c h
  obtain⟨v,vs,rfl,rfl,rs⟩:=Paired.c hv
  obtain⟨e,m⟩:=ih t rs
  refine⟨by rw[fz,cR g,e],fun v hv=>?_⟩
  rcases cS.mp hv with rfl|hv
  ·exact⟨b,k,rfl,g,cf⟩
  ·obtain⟨b',k',e1,e2,e3⟩:=m v hv
   exact⟨b',k',e1,e2,cc _ e3⟩
theorem cT.of{H:Hp}{ks:List (List Key)}(vs:List Value)(h:∀ v∈vs,∃ b k,v=Value.ref b/\H b=some (.tup (k.map kV))/\k∈ks):∃ zs,cT H zs (vs.map (lR H))/\Vals zs vs:=by
 induction vs with
 |nil=>exact⟨[],.nil,.nil⟩
 |cons v vs ih =>
  obtain⟨zs,a,c⟩:=ih fun u hu=>h u (cc _ hu)
  obtain⟨b,k,rfl,e,_⟩:=h v cf
  exact⟨.ref b :: zs,.cons ⟨b,rfl,by rw[cR e];exact e⟩ a,.cons rfl c⟩
end L2
namespace x6
open PySem PyProof.Rows
section
variable {prog:Program}{w:World}{A:Around}{E:Value->Shared->Prop}{s:Shared}{κ:SortKind}{r:Value->Int}{P:Value->Prop}
theorem pA{T:String}{r d:Addr}{n:Nat}{P:Nat->Value->Prop}{OK:Heap->Prop}{R:Result->Shared->Prop}(K:PySem.W.KdlSrc prog w T r d n P OK)(hh:A.handled=none)(aT:OK s.heap)(hn:n<=sizeLine)
  (hR:∀ h' tk acc c,(∀ b o,s.heap.get? b=some o->h'.get? b=some o)->h'.get? s.heap.objs.size=some { cls:=.type "list",data:=.seq acc c }->ItemsOf P acc n->R (.ok (.ret (.ref s.heap.objs.size))) { s with heap:=h',toks:=tk }) :
  codeAny (model prog w) A (.builtin "proto.collect" ⟨[.ref r],[]⟩) R s:=by
 have W6:=K.there _ aT
 have hS:(s.heap.push { cls:=.type "list",data:=.seq ([]:List Value).toArray }).get? s.heap.objs.size=some { cls:=.type "list",data:=.seq ([]:List Value).toArray }:=i9 _ rfl
 refine codeAny_builtin F.entry_proto_collect ?_
 rw[Around.under_plainId F.plain_proto_collect _]
 show wpAny _ A.in1 (newList [] >>= fun l=>again (.builtin "list.__iadd__" ⟨[l,.ref r],[]⟩)) _ _ s
 refine ai (wpAny_newObj_type ?_)
 refine aS ⟨plainId_quiet F.plain_list_iadd _,codeAny_builtin F.entry_list_iadd ?_⟩
 rw[Around.under_plainId F.plain_list_iadd _]
 show wpAny _ A.in1 (Builtin.List.listExtendWith (.ref s.heap.objs.size) (.ref r) (.ref s.heap.objs.size)) _ _ _
 exact PySem.W.kdl_extend (R:=R) (s:={ s with heap:=s.heap.push { cls:=.type "list",data:=.seq ([]:List Value).toArray } }) K hh (K.keep _ _ aT fun b _ o e=>eW _ e) s.heap.objs.size (He W6.1) (He W6.2) _ 0 hS
  (fun h' tk yb c' kp eo ia=>hR h' tk yb c' (fun b o e=>kp b o (eI (dk e)) (eW _ e)) eo ia) hn
theorem rE{T:String}{r d:Addr}{n:Nat}{P:Nat->Value->Prop}{OK:Heap->Prop}{Q:List Value->Shared->Prop}(K:PySem.W.KdlSrc prog w T r d n P OK)(hh:A.handled=none)(aT:OK s.heap)(hn:n<=sizeLine)
  (hQ:∀ h' tk acc,(∀ b o,s.heap.get? b=some o->h'.get? b=some o)->s.heap.objs.size<=h'.objs.size->ItemsOf P acc n->Q acc.toList { s with heap:=h',toks:=tk }):wpAny (model prog w) A (collect (.ref r)) Q E s:=by
 unfold collect
 refine ai (wpAny_runValue (pA K hh aT hn fun h' tk acc c kp eo ia=>?_))
 show wpAny _ A (load s.heap.objs.size >>= _) _ _ { s with heap:=h',toks:=tk }
 refine ai (wpAny_load eo ?_)
 exact aS (hQ h' tk acc kp (kD (dk eo)) ia)
theorem uJ{v:Value}{R:List Value->Prop}{Q:Value->Shared->Prop}
  (SN:∀ (A':Around) (E':Value->Shared->Prop) (Q':List Value->Shared->Prop),A'.handled=A.handled->(∀ vs h1 tk,R vs->(∀ b o,s.heap.get? b=some o->h1.get? b=some o)->s.heap.objs.size<=h1.objs.size->Q' vs { s with heap:=h1,toks:=tk })->wpAny (model prog w) A' (collect v) Q' E' s)
  (hsz:∀ vs,R vs->vs.length<=sizeLine) (hP:∀ vs,R vs->∀ v∈vs,P v)
  (hk:∀ vs,R vs->2<=vs.length->∀ (A':Around) (E':Value->Shared->Prop) (s':Shared),(∀ b o,s.heap.get? b=some o->s'.heap.get? b=some o)->∀ (Q:SortKind->Shared->Prop),Q κ s'->wpAny (model prog w) A' (keyKind' vs.toArray) Q E' s')
  (C:∀ (s':Shared),(∀ b o,s.heap.get? b=some o->s'.heap.get? b=some o)->lT prog w A.in1.in1 s' κ r P)
  (h:∀ (vs:List Value) (h':Heap) (a:Addr) (out:List Value) (n tk:Nat),R vs->out.Perm vs->(out.Pairwise fun x y=>r x<=r y)->(∀ b o,s.heap.get? b=some o->h'.get? b=some o)->s.heap.objs.size<=a->h'.get? a=some (seqObj "list" out.toArray n)->Q (.ref a) { s with heap:=h',toks:=tk }) :
  wpAny (model prog w) A (call (.builtin "sorted") [v]) Q E s:=by
 refine Calls.call_function_entry kind_sorted plain_sorted entry_sorted (args_sorted1 _) ?_
 unfold Builtin.«sorted»
 refine ai (m:=checkCount "sorted" 1 1 _) (aS ?_)
 refine ai (SN _ _ _ rfl fun vs h1 tk hR kp hz=>?_)
 have AH:=hsz vs hR
 refine ai (wpAny_newList ?_ (by simpa using AH))
 have wc:(h1.push (seqObj "list" vs.toArray 0)).get? h1.objs.size=some (seqObj "list" vs.toArray 0):=i9 _ rfl
 have old:∀ b o,s.heap.get? b=some o->(dw (h1.push (seqObj "list" vs.toArray 0)) h1.objs.size vs).get? b=some o:=fun b o e=>by
  have da:b<h1.objs.size:=dk (kp b o e)
  rw[gr (eI da) (by rw[size_push'];exact ot da)]
  exact eW _ (kp b o e)
 show wpAny _ _ _ _ _ { s with heap:=h1.push (seqObj "list" vs.toArray 0),toks:=tk }
 refine ai (wpAny_holding (wpAny_call_entry slot_list_sort ⟨_,wc,rfl⟩ entry_list_sort (fL (r:=r) (s:={ s with heap:=h1.push (seqObj "list" vs.toArray 0),toks:=tk }) wc AH (hP vs hR)
  (fun h2=>hk vs hR h2 _ _ _ old) (fun h2=>C _ old) fun out a1 a2=>⟨_,rfl,?_⟩) (args_list_sort _)))
 obtain⟨n,e⟩:=sortedHeap_at (out:=out) wc
 refine aS ⟨_,rfl,h vs _ h1.objs.size out.toList n tk hR a1 a2 (fun b o e=>?_) hz (by rw[Oz];exact e)⟩
 have da:b<h1.objs.size:=dk (kp b o e)
 rw[sortedHeap_old (eI da) (by rw[size_push'];exact ot da)]
 exact eW _ (kp b o e)
end
end x6
namespace L2
open PySem PySem.Spec PyProof.Rows
end L2
namespace L2.Q
open PySem PySem.Spec PyProof.Rows
inductive D where
 |non|bl (b:Bool)|int (i:Int)|str (x:Str)
 |list (xs:List D)|tup (xs:List D)|dK (kvs:List (Key × D))|dT (kvs:List (List Key × D))
mutual
/-- nothing in it can be changed -/
def D.flat:D->Bool
 |.list _=>false
 |.dK _=>false
 |.dT _=>false
 |.tup xs=>cv xs
 |_=>true
def cv:List D->Bool
 |[]=>true
 |x :: xs=>x.flat && cv xs
end
theorem jT:∀ {xs:List D},cv xs=true↔∀ x∈xs,x.flat=true
 |[]=>by simp[cv]
 |x :: xs=>by simp[cv,jT (xs:=xs)]
theorem fj{xs ys:List D}:cv (xs++ys)=(cv xs && cv ys):=by
 induction xs with
 |nil=>simp[cv]
 |cons x xs ih=>simp[cv,ih,Bool.and_assoc]
def yi:Key->Bool
 |.inl _=>true
 |.inr x=>decide (x.length<=sizeLine)
def PL(kvs:List (Key × D)):Prop:=kvs.length<=sizeLine/\∀ p∈kvs,yi p.1=true
def PN(kvs:List (List Key × D)):Prop:=kvs.length<=sizeLine/\∀ p∈kvs,p.1.length<=sizeLine/\∀ k∈p.1,yi k=true
mutual
inductive Rep(K:PySem.W.Frag)(H:Hp):D->V->Prop
 |non:Rep K H .non .non
 |bl (b:Bool):Rep K H (.bl b) (.bl b)
 |int (i:Int):Rep K H (.int i) (.int i)
 |str {x:Str}:x.length<=sizeLine->Rep K H (.str x) (.str x)
 |list {a:Addr} {vs:List V} {ds:List D}:vs.length<=sizeLine->dQ K H a vs->aI K H ds vs->Rep K H (.list ds) (.ref a)
 |tup {a:Addr} {vs:List V} {ds:List D}:vs.length<=sizeLine->H a=some (.tup vs)->aI K H ds vs->Rep K H (.tup ds) (.ref a)
 |dK {a:Addr} {vs:List V} {kvs:List (Key × D)}:PL kvs->Rd H a (.dK ((kvs.map (·.1)).zip vs))->aI K H (kvs.map (·.2)) vs->Rep K H (.dK kvs) (.ref a)
 |dT {a:Addr} {vs:List V} {kvs:List (List Key × D)}:PN kvs->Rd H a (.dT ((kvs.map (·.1)).zip vs))->aI K H (kvs.map (·.2)) vs->Rep K H (.dT kvs) (.ref a)
inductive aI(K:PySem.W.Frag)(H:Hp):List D->List V->Prop
 |nil:aI K H [] []
 |cons {d:D} {v:V} {ds:List D} {vs:List V}:Rep K H d v->aI K H ds vs->aI K H (d :: ds) (v :: vs)
end
theorem Rep.ind{K:PySem.W.Frag}{H:Hp}{m1:D->V->Prop}{m2:List D->List V->Prop}(h0:m1 .non .non)(hb:∀ b,m1 (.bl b) (.bl b))(hi:∀ i,m1 (.int i) (.int i))(hs:∀ x,x.length<=sizeLine->m1 (.str x) (.str x))
  (hl:∀ a vs ds,vs.length<=sizeLine->dQ K H a vs->aI K H ds vs->m2 ds vs->m1 (.list ds) (.ref a)) (ht:∀ a vs ds,vs.length<=sizeLine->H a=some (.tup vs)->aI K H ds vs->m2 ds vs->m1 (.tup ds) (.ref a))
  (hk:∀ a vs kvs,PL kvs->Rd H a (.dK ((kvs.map (·.1)).zip vs))->aI K H (kvs.map (·.2)) vs->m2 (kvs.map (·.2)) vs->m1 (.dK kvs) (.ref a)) (hT:∀ a vs kvs,PN kvs->Rd H a (.dT ((kvs.map (·.1)).zip vs))->aI K H (kvs.map (·.2)) vs->m2 (kvs.map (·.2)) vs->m1 (.dT kvs) (.ref a))
  (hn:m2 [] []) (hc:∀ d v ds vs,Rep K H d v->aI K H ds vs->m1 d v->m2 ds vs->m2 (d :: ds) (v :: vs)):(∀ {d v},Rep K H d v->m1 d v)/\∀ {ds vs},aI K H ds vs->m2 ds vs :=
 ⟨fun r=>Rep.rec (motive_1:=fun d v _=>m1 d v) (motive_2:=fun ds vs _=>m2 ds vs) h0 hb hi (fun h=>hs _ h) (fun z s r ih=>hl _ _ _ z s r ih) (fun z s r ih=>ht _ _ _ z s r ih) (fun z s r ih=>hk _ _ _ z s r ih) (fun z s r ih=>hT _ _ _ z s r ih) hn (fun r s a b=>hc _ _ _ _ r s a b) r,
  fun r=>aI.rec (motive_1:=fun d v _=>m1 d v) (motive_2:=fun ds vs _=>m2 ds vs) h0 hb hi (fun h=>hs _ h) (fun z s r ih=>hl _ _ _ z s r ih) (fun z s r ih=>ht _ _ _ z s r ih) (fun z s r ih=>hk _ _ _ z s r ih) (fun z s r ih=>hT _ _ _ z s r ih) hn (fun r s a b=>hc _ _ _ _ r s a b) r⟩
theorem kL.k'{H:Hp}{a:Addr}{kvs:List (Key × V)}{k:Key}(e:Rd H a (.dK kvs)):kL H a (kV k) (nX kvs k):=.inl ⟨kvs,k,e,rfl,rfl⟩
theorem kL.t'{H:Hp}{a b:Addr}{kvs:List (List Key × V)}{k:List Key}(e:Rd H a (.dT kvs))(eb:H b=some (.tup (k.map kV))):kL H a (.ref b) (nX kvs k):=.inr ⟨kvs,k,b,e,rfl,eb,rfl⟩
theorem aC.rd{H H':Hp}(s:aC H H'){a:Addr}{u:HO}(h:Rd H a u):Rd H' a u:=h.imp (s _ _) fun⟨o,e⟩=>⟨o,s _ _ e⟩
theorem Rep.GR{K:PySem.W.Frag}{H H':Hp}(s:aC H H'):(∀ {d:D} {v:V},Rep K H d v->Rep K H' d v)/\∀ {ds:List D} {vs:List V},aI K H ds vs->aI K H' ds vs :=
 Rep.ind .non .bl .int (fun _ h=>.str h) (fun _ _ _ z h _ ih=>.list z (s.lst h) ih) (fun _ _ _ z h _ ih=>.tup z (s _ _ h) ih) (fun _ _ _ kk h _ ih=>.dK kk (aC.rd s h) ih) (fun _ _ _ kk h _ ih=>.dT kk (aC.rd s h) ih) .nil fun _ _ _ _ _ _ a b=>.cons a b
theorem Rep.same{K:PySem.W.Frag}{H H':Hp}(s:aC H H'){d:D}{v:V}(r:Rep K H d v):Rep K H' d v:=(Rep.GR s).1 r
theorem aI.same{K:PySem.W.Frag}{H H':Hp}(s:aC H H'){ds:List D}{vs:List V}(r:aI K H ds vs):aI K H' ds vs:=(Rep.GR s).2 r
theorem aI.ind{K:PySem.W.Frag}{H:Hp}{m:List D->List V->Prop}(hn:m [] [])(hc:∀ d v ds vs,Rep K H d v->aI K H ds vs->m ds vs->m (d :: ds) (v :: vs)):∀ {ds vs},aI K H ds vs->m ds vs :=
 fun r=>(Rep.ind (m1:=fun _ _=>True) (m2:=m) trivial (fun _=>trivial) (fun _=>trivial) (fun _ _=>trivial) (fun _ _ _ _ _ _ _=>trivial) (fun _ _ _ _ _ _ _=>trivial) (fun _ _ _ _ _ _ _=>trivial) (fun _ _ _ _ _ _ _=>trivial) hn fun d v ds vs r s _ b=>hc d v ds vs r s b).2 r
theorem aI.length{K:PySem.W.Frag}{H:Hp}{ds:List D}{vs:List V}(r:aI K H ds vs):ds.length=vs.length :=
 aI.ind (m:=fun ds vs=>ds.length=vs.length) rfl (fun _ _ _ _ _ _ ih=>by rw[sv,sv,ih]) r
theorem aI.append{K:PySem.W.Frag}{H:Hp}{ds es:List D}{vs ws:List V}(r:aI K H ds vs)(t:aI K H es ws):aI K H (ds++es) (vs++ws) :=
 aI.ind (m:=fun ds vs=>aI K H (ds++es) (vs++ws)) t (fun _ _ _ _ h _ ih=>.cons h ih) r
theorem aI.get{K:PySem.W.Frag}{H:Hp}{ds:List D}{vs:List V}{i:Nat}{d:D}(r:aI K H ds vs)(e:ds[i]? = some d):∃ v,vs[i]? = some v/\Rep K H d v :=
 aI.ind (m:=fun ds vs=>∀ i d,ds[i]? = some d->∃ v,vs[i]? = some v/\Rep K H d v) (fun i d e=>by simp at e) (fun _ _ _ _ h _ ih i d e=>by
  cases i with
  |zero=>simp at e;subst e;exact⟨_,rfl,h⟩
  |succ i =>
   obtain⟨v,e1,r⟩:=ih i d (by simpa using e)
   exact⟨v,by simpa using e1,r⟩) r i d e
theorem aI.SQ{K:PySem.W.Frag}{H:Hp}{ds:List D}{vs:List V}{i:Nat}{v:V}(r:aI K H ds vs)(e:vs[i]? = some v):∃ d,ds[i]? = some d/\Rep K H d v :=
 aI.ind (m:=fun ds vs=>∀ i v,vs[i]? = some v->∃ d,ds[i]? = some d/\Rep K H d v) (fun i d e=>by simp at e) (fun _ _ _ _ h _ ih i d e=>by
  cases i with
  |zero=>simp at e;subst e;exact⟨_,rfl,h⟩
  |succ i =>
   obtain⟨v,e1,r⟩:=ih i d (by simpa using e)
   exact⟨v,by simpa using e1,r⟩) r i v e
theorem aI.drop{K:PySem.W.Frag}{H:Hp}{ds:List D}{vs:List V}(n:Nat)(r:aI K H ds vs):aI K H (ds.drop n) (vs.drop n) :=
 aI.ind (m:=fun ds vs=>∀ n,aI K H (ds.drop n) (vs.drop n)) (fun n=>by rw[List.drop_nil,List.drop_nil];exact .nil) (fun _ _ _ _ h hs ih n=>by
  cases n with
  |zero=>exact .cons h hs
  |succ n=>exact ih n) r n
theorem aI.n0{K:PySem.W.Frag}{H:Hp}{vs:List V}(h:aI K H [] vs):vs=[]:=by cases h;rfl
theorem aI.c{K:PySem.W.Frag}{H:Hp}{d:D}{ds:List D}{vs:List V}(h:aI K H (d :: ds) vs):∃ u us,vs=u :: us/\Rep K H d u/\aI K H ds us:=by
 cases h with
 |cons r rs=>exact⟨_,_,rfl,r,rs⟩
theorem aI.take{K:PySem.W.Frag}{H:Hp}{ds:List D}{vs:List V}(n:Nat)(r:aI K H ds vs):aI K H (ds.take n) (vs.take n) :=
 aI.ind (m:=fun ds vs=>∀ n,aI K H (ds.take n) (vs.take n)) (fun n=>by rw[List.take_nil,List.take_nil];exact .nil) (fun _ _ _ _ h hs ih n=>by
  cases n with
  |zero=>exact .nil
  |succ n=>exact .cons h (ih n)) r n
mutual
/-- what is owned: a tree whose lists and gl' stand at As,gm' gn';its leaves shared (fl: and flat) -/
inductive bI(K:PySem.W.Frag)(Hs H:Hp)(fl:Bool):D->V->List Addr->Prop
 |sh {d:D} {v:V}:(fl=true->d.flat=true)->Rep K Hs d v->bI K Hs H fl d v []
 |list {a:Addr} {vs:List V} {ds:List D} {As:List Addr}:vs.length<=sizeLine->H a=some (.lst vs)->aD K Hs H fl ds vs As->bI K Hs H fl (.list ds) (.ref a) (a :: As)
 |tup {a:Addr} {vs:List V} {ds:List D} {As:List Addr}:vs.length<=sizeLine->Hs a=some (.tup vs)->cv ds=false->aD K Hs H fl ds vs As->bI K Hs H fl (.tup ds) (.ref a) As
 |dK {a:Addr} {vs:List V} {kvs:List (Key × D)} {As:List Addr}:PL kvs->H a=some (.dK ((kvs.map (·.1)).zip vs))->aD K Hs H fl (kvs.map (·.2)) vs As->bI K Hs H fl (.dK kvs) (.ref a) (a :: As)
 |dT {a:Addr} {vs:List V} {kvs:List (List Key × D)} {As:List Addr}:PN kvs->H a=some (.dT ((kvs.map (·.1)).zip vs))->aD K Hs H fl (kvs.map (·.2)) vs As->bI K Hs H fl (.dT kvs) (.ref a) (a :: As)
inductive aD(K:PySem.W.Frag)(Hs H:Hp)(fl:Bool):List D->List V->List Addr->Prop
 |nil:aD K Hs H fl [] [] []
 |cons {d:D} {v:V} {ds:List D} {vs:List V} {As Bs:List Addr}:bI K Hs H fl d v As->aD K Hs H fl ds vs Bs->aD K Hs H fl (d :: ds) (v :: vs) (As++Bs)
end
def Own(H:Hp)(a:Addr):Prop:=(∃ vs,H a=some (.lst vs))\/(∃ kvs,H a=some (.dK kvs))\/∃ kvs,H a=some (.dT kvs)
section
variable {K:PySem.W.Frag}{Hs av H H':Hp}{fl:Bool}
theorem Own.ne{a:Addr}(h:Own H a):H a≠none:=by
 rcases h with⟨_,e⟩|⟨_,e⟩|⟨_,e⟩<;>rw[e]<;>exact fun z=>nomatch z
theorem Own.Bl{a:Addr}{vs:List V}(h:Own H a):H a≠some (.tup vs):=by
 rcases h with⟨_,e⟩|⟨_,e⟩|⟨_,e⟩<;>rw[e]<;>exact fun z=>nomatch z
theorem bI.ind{m1:D->V->List Addr->Prop}{m2:List D->List V->List Addr->Prop}(hs:∀ d v,(fl=true->d.flat=true)->Rep K Hs d v->m1 d v [])
  (hl:∀ a vs ds As,vs.length<=sizeLine->H a=some (.lst vs)->aD K Hs H fl ds vs As->m2 ds vs As->m1 (.list ds) (.ref a) (a :: As)) (ht:∀ a vs ds As,vs.length<=sizeLine->Hs a=some (.tup vs)->cv ds=false->aD K Hs H fl ds vs As->m2 ds vs As->m1 (.tup ds) (.ref a) As)
  (hk:∀ a vs kvs As,PL kvs->H a=some (.dK ((kvs.map (·.1)).zip vs))->aD K Hs H fl (kvs.map (·.2)) vs As->m2 (kvs.map (·.2)) vs As->m1 (.dK kvs) (.ref a) (a :: As)) (hT:∀ a vs kvs As,PN kvs->H a=some (.dT ((kvs.map (·.1)).zip vs))->aD K Hs H fl (kvs.map (·.2)) vs As->m2 (kvs.map (·.2)) vs As->m1 (.dT kvs) (.ref a) (a :: As))
  (hn:m2 [] [] []) (hc:∀ d v ds vs As Bs,bI K Hs H fl d v As->aD K Hs H fl ds vs Bs->m1 d v As->m2 ds vs Bs->m2 (d :: ds) (v :: vs) (As++Bs)):(∀ {d v As},bI K Hs H fl d v As->m1 d v As)/\∀ {ds vs As},aD K Hs H fl ds vs As->m2 ds vs As :=
 ⟨fun r=>bI.rec (motive_1:=fun d v As _=>m1 d v As) (motive_2:=fun ds vs As _=>m2 ds vs As) (fun f r=>hs _ _ f r) (fun z s r ih=>hl _ _ _ _ z s r ih) (fun z s n r ih=>ht _ _ _ _ z s n r ih) (fun z s r ih=>hk _ _ _ _ z s r ih) (fun z s r ih=>hT _ _ _ _ z s r ih) hn (fun r s a b=>hc _ _ _ _ _ _ r s a b) r,
  fun r=>aD.rec (motive_1:=fun d v As _=>m1 d v As) (motive_2:=fun ds vs As _=>m2 ds vs As) (fun f r=>hs _ _ f r) (fun z s r ih=>hl _ _ _ _ z s r ih) (fun z s n r ih=>ht _ _ _ _ z s n r ih) (fun z s r ih=>hk _ _ _ _ z s r ih) (fun z s r ih=>hT _ _ _ _ z s r ih) hn (fun r s a b=>hc _ _ _ _ _ _ r s a b) r⟩
theorem B1{a:Addr}{p:Prop}(h:a∈([]:List Addr)):p:=absurd h EI
theorem bI.W7:(∀ {d:D} {v:V} {As:List Addr},bI K Hs H fl d v As->∀ a∈As,Own H a)/\∀ {ds:List D} {vs:List V} {As:List Addr},aD K Hs H fl ds vs As->∀ a∈As,Own H a :=
 bI.ind (m1:=fun _ _ As=>∀ a∈As,Own H a) (m2:=fun _ _ As=>∀ a∈As,Own H a) (fun _ _ _ _ a h=>B1 h) (fun _ _ _ _ _ e _ ih a h=>(cS.mp h).elim (fun z=>z ▸ .inl ⟨_,e⟩) (ih a)) (fun _ _ _ _ _ _ _ _ ih=>ih)
  (fun _ _ _ _ _ e _ ih a h=>(cS.mp h).elim (fun z=>z ▸ .inr (.inl ⟨_,e⟩)) (ih a)) (fun _ _ _ _ _ e _ ih a h=>(cS.mp h).elim (fun z=>z ▸ .inr (.inr ⟨_,e⟩)) (ih a)) (fun a h=>B1 h) fun _ _ _ _ _ _ _ _ i1 i2 a h=>(dy.mp h).elim (i1 a) (i2 a)
theorem bI.own{d:D}{v:V}{As:List Addr}(r:bI K Hs H fl d v As):∀ a∈As,Own H a:=bI.W7.1 r
theorem aD.own{ds:List D}{vs:List V}{As:List Addr}(r:aD K Hs H fl ds vs As):∀ a∈As,Own H a:=bI.W7.2 r
theorem bI.Hh(s:aC Hs av):(∀ {d:D} {v:V} {As:List Addr},bI K Hs H fl d v As->(∀ a∈As,H' a=H a)->bI K av H' fl d v As)/\∀ {ds:List D} {vs:List V} {As:List Addr},aD K Hs H fl ds vs As->(∀ a∈As,H' a=H a)->aD K av H' fl ds vs As :=
 bI.ind (m1:=fun d v As=>(∀ a∈As,H' a=H a)->bI K av H' fl d v As) (m2:=fun ds vs As=>(∀ a∈As,H' a=H a)->aD K av H' fl ds vs As) (fun _ _ f r _=>.sh f (r.same s))
  (fun _ _ _ _ z e _ ih k=>.list z ((k _ cf).trans e) (ih fun a h=>k a (cc _ h))) (fun _ _ _ _ z e n _ ih k=>.tup z (s _ _ e) n (ih k)) (fun _ _ _ _ z e _ ih k=>.dK z ((k _ cf).trans e) (ih fun a h=>k a (cc _ h)))
  (fun _ _ _ _ z e _ ih k=>.dT z ((k _ cf).trans e) (ih fun a h=>k a (cc _ h))) (fun _=>.nil) fun _ _ _ _ _ _ _ _ i1 i2 k=>.cons (i1 fun a h=>k a (kc _ h)) (i2 fun a h=>k a (fh _ h))
theorem bI.eM(s:aC Hs av){d:D}{v:V}{As:List Addr}(r:bI K Hs H fl d v As)(k:∀ a∈As,H' a=H a):bI K av H' fl d v As:=(bI.Hh s).1 r k
theorem aD.eM(s:aC Hs av){ds:List D}{vs:List V}{As:List Addr}(r:aD K Hs H fl ds vs As)(k:∀ a∈As,H' a=H a):aD K av H' fl ds vs As:=(bI.Hh s).2 r k
theorem bI.grow{d:D}{v:V}{As:List Addr}(s:aC Hs av)(t:aC H H')(r:bI K Hs H fl d v As):bI K av H' fl d v As :=
 r.eM s fun a h=>by
  cases e:H a with
  |none=>exact absurd e (r.own a h).ne
  |some o=>exact t a o e
theorem aD.grow{ds:List D}{vs:List V}{As:List Addr}(s:aC Hs av)(t:aC H H')(r:aD K Hs H fl ds vs As):aD K av H' fl ds vs As :=
 r.eM s fun a h=>by
  cases e:H a with
  |none=>exact absurd e (r.own a h).ne
  |some o=>exact t a o e
theorem bI.rep2{G:Hp}(s:aC Hs G):(∀ {d:D} {v:V} {As:List Addr},bI K Hs H fl d v As->(∀ a∈As,G a=H a)->Rep K G d v)/\∀ {ds:List D} {vs:List V} {As:List Addr},aD K Hs H fl ds vs As->(∀ a∈As,G a=H a)->aI K G ds vs :=
 bI.ind (m1:=fun d v As=>(∀ a∈As,G a=H a)->Rep K G d v) (m2:=fun ds vs As=>(∀ a∈As,G a=H a)->aI K G ds vs) (fun _ _ _ r _=>r.same s)
  (fun _ _ _ _ z e _ ih k=>.list z (.inl (.inl ((k _ cf).trans e))) (ih fun a h=>k a (cc _ h))) (fun _ _ _ _ z e n _ ih k=>.tup z (s _ _ e) (ih k)) (fun _ _ _ _ z e _ ih k=>.dK z (.inl ((k _ cf).trans e)) (ih fun a h=>k a (cc _ h)))
  (fun _ _ _ _ z e _ ih k=>.dT z (.inl ((k _ cf).trans e)) (ih fun a h=>k a (cc _ h))) (fun _=>.nil) fun _ _ _ _ _ _ _ _ i1 i2 k=>.cons (i1 fun a h=>k a (kc _ h)) (i2 fun a h=>k a (fh _ h))
theorem bI.rep{G:Hp}(s:aC Hs G){d:D}{v:V}{As:List Addr}(r:bI K Hs H fl d v As)(k:∀ a∈As,G a=H a):Rep K G d v:=(bI.rep2 s).1 r k
theorem aD.reps{G:Hp}(s:aC Hs G){ds:List D}{vs:List V}{As:List Addr}(r:aD K Hs H fl ds vs As)(k:∀ a∈As,G a=H a):aI K G ds vs:=(bI.rep2 s).2 r k
theorem Rep.wN{G:Hp}(t:∀ a vs,H a=some (.tup vs)->G a=some (.tup vs)):(∀ {d:D} {v:V},Rep K H d v->d.flat=true->Rep K G d v)/\∀ {ds:List D} {vs:List V},aI K H ds vs->cv ds=true->aI K G ds vs :=
 Rep.ind (m1:=fun d v=>d.flat=true->Rep K G d v) (m2:=fun ds vs=>cv ds=true->aI K G ds vs) (fun _=>.non) (fun b _=>.bl b) (fun i _=>.int i) (fun _ h _=>.str h) (fun _ _ _ _ _ _ _ f=>by simp[D.flat] at f) (fun _ _ _ z e _ ih f=>.tup z (t _ _ e) (ih (by simpa[D.flat] using f)))
  (fun _ _ _ _ _ _ _ f=>by simp[D.flat] at f) (fun _ _ _ _ _ _ _ f=>by simp[D.flat] at f) (fun _=>.nil) fun _ _ _ _ _ _ i1 i2 f=>by
   simp only[cv,lI] at f
   exact .cons (i1 f.1) (i2 f.2)
theorem Rep.jf{G:Hp}(t:∀ a vs,H a=some (.tup vs)->G a=some (.tup vs)){d:D}{v:V}(r:Rep K H d v)(f:d.flat=true):Rep K G d v:=(Rep.wN t).1 r f
theorem aI.jf{G:Hp}(t:∀ a vs,H a=some (.tup vs)->G a=some (.tup vs)){ds:List D}{vs:List V}(r:aI K H ds vs)(f:cv ds=true):aI K G ds vs:=(Rep.wN t).2 r f
theorem aI.owned{ds:List D}{vs:List V}(r:aI K Hs ds vs)(f:cv ds=true):aD K Hs H fl ds vs [] :=
 aI.ind (m:=fun ds vs=>cv ds=true->aD K Hs H fl ds vs []) (fun _=>.nil) (fun _ _ _ _ h _ ih f=>by
  simp only[cv,lI] at f
  exact .cons (As:=[]) (.sh (fun _=>f.1) h) (ih f.2)) r f
theorem aI.Hg{ds:List D}{vs:List V}(r:aI K Hs ds vs):aD K Hs H false ds vs [] :=
 aI.ind (m:=fun ds vs=>aD K Hs H false ds vs []) .nil (fun _ _ _ _ h _ ih=>.cons (As:=[]) (.sh (fun z=>Bool.noConfusion z) h) ih) r
theorem bI.W8:(∀ {d:D} {v:V} {As:List Addr},bI K Hs H fl d v As->bI K Hs H false d v As)/\∀ {ds:List D} {vs:List V} {As:List Addr},aD K Hs H fl ds vs As->aD K Hs H false ds vs As :=
 bI.ind (fun _ _ _ r=>.sh (fun z=>Bool.noConfusion z) r) (fun _ _ _ _ z e _ ih=>.list z e ih) (fun _ _ _ _ z e n _ ih=>.tup z e n ih) (fun _ _ _ _ z e _ ih=>.dK z e ih) (fun _ _ _ _ z e _ ih=>.dT z e ih) .nil fun _ _ _ _ _ _ _ _ a b=>.cons a b
theorem bI.PQ{d:D}{v:V}{As:List Addr}(r:bI K Hs H fl d v As):bI K Hs H false d v As:=bI.W8.1 r
theorem aD.PQ{ds:List D}{vs:List V}{As:List Addr}(r:aD K Hs H fl ds vs As):aD K Hs H false ds vs As:=bI.W8.2 r
theorem bI.Ef{G:Hp}(t:∀ a vs,Hs a=some (.tup vs)->G a=some (.tup vs)):(∀ {d:D} {v:V} {As:List Addr},bI K Hs H true d v As->bI K G H true d v As)/\∀ {ds:List D} {vs:List V} {As:List Addr},aD K Hs H true ds vs As->aD K G H true ds vs As :=
 bI.ind (fun _ _ f r=>.sh f (r.jf t (f rfl))) (fun _ _ _ _ z e _ ih=>.list z e ih) (fun _ _ _ _ z e n _ ih=>.tup z (t _ _ e) n ih) (fun _ _ _ _ z e _ ih=>.dK z e ih) (fun _ _ _ _ z e _ ih=>.dT z e ih) .nil fun _ _ _ _ _ _ _ _ a b=>.cons a b
theorem bI.leaves{G:Hp}(t:∀ a vs,Hs a=some (.tup vs)->G a=some (.tup vs)){d:D}{v:V}{As:List Addr}(r:bI K Hs H true d v As):bI K G H true d v As:=(bI.Ef t).1 r
theorem aD.ind{m:List D->List V->List Addr->Prop}(hn:m [] [] [])(hc:∀ d v ds vs As Bs,bI K Hs H fl d v As->aD K Hs H fl ds vs Bs->m ds vs Bs->m (d :: ds) (v :: vs) (As++Bs)):∀ {ds vs As},aD K Hs H fl ds vs As->m ds vs As :=
 fun r=>(bI.ind (m1:=fun _ _ _=>True) (m2:=m) (fun _ _ _ _=>trivial) (fun _ _ _ _ _ _ _ _=>trivial) (fun _ _ _ _ _ _ _ _ _=>trivial) (fun _ _ _ _ _ _ _ _=>trivial) (fun _ _ _ _ _ _ _ _=>trivial) hn fun d v ds vs As Bs r s _ b=>hc d v ds vs As Bs r s b).2 r
theorem aD.append{ds es:List D}{vs ws:List V}{As Bs:List Addr}(r:aD K Hs H fl ds vs As)(t:aD K Hs H fl es ws Bs):aD K Hs H fl (ds++es) (vs++ws) (As++Bs) :=
 aD.ind (m:=fun ds vs As=>aD K Hs H fl (ds++es) (vs++ws) (As++Bs)) t (fun _ _ _ _ _ _ h _ ih=>by
  rw[xo]
  exact .cons h ih) r
theorem aD.n0{vs:List V}{As:List Addr}(h:aD K Hs H fl [] vs As):vs=[]/\As=[]:=by cases h;exact⟨rfl,rfl⟩
theorem aD.c{d:D}{ds:List D}{vs:List V}{As:List Addr}(h:aD K Hs H fl (d :: ds) vs As):∃ u us A B,vs=u :: us/\As=A++B/\bI K Hs H fl d u A/\aD K Hs H fl ds us B:=by
 cases h with
 |cons r rs=>exact⟨_,_,_,_,rfl,rfl,r,rs⟩
theorem aD.length{ds:List D}{vs:List V}{As:List Addr}(r:aD K Hs H fl ds vs As):ds.length=vs.length :=
 aD.ind (m:=fun ds vs _=>ds.length=vs.length) rfl (fun _ _ _ _ _ _ _ _ ih=>by rw[sv,sv,ih]) r
end
inductive Sl where
 /-- shared;owned;owned and walked by a loop just now (at a) -/
 |sh (d:D)|ow (fl:Bool) (d:D)|lk (a:Addr) (fl:Bool) (d:D)
 /-- an exception,at a -/
 |xc (a:Addr)
abbrev Env:=List (Option Sl)
inductive SR(K:PySem.W.Frag)(Hs H:Hp):Env->St->List Addr->Prop
 |nil:SR K Hs H [] [] []
 |non {ρ:Env} {σ:St} {ae:List Addr} {o:Option V}:SR K Hs H ρ σ ae->SR K Hs H (none :: ρ) (o :: σ) ae
 |sh {ρ:Env} {σ:St} {ae:List Addr} {d:D} {v:V}:Rep K Hs d v->SR K Hs H ρ σ ae->SR K Hs H (some (.sh d) :: ρ) (some v :: σ) ae
 |xc {ρ:Env} {σ:St} {ae:List Addr} {a:Addr}:SR K Hs H ρ σ ae->SR K Hs H (some (.xc a) :: ρ) (some (.ref a) :: σ) ae
 |ow {ρ:Env} {σ:St} {ae As:List Addr} {fl:Bool} {d:D} {v:V}:As≠[]->bI K Hs H fl d v As->SR K Hs H ρ σ ae->SR K Hs H (some (.ow fl d) :: ρ) (some v :: σ) (As++ae)
 |lk {ρ:Env} {σ:St} {ae As:List Addr} {a:Addr} {fl:Bool} {d:D}:As≠[]->bI K Hs H fl d (.ref a) As->SR K Hs H ρ σ ae->SR K Hs H (some (.lk a fl d) :: ρ) (some (.ref a) :: σ) (As++ae)
structure Wf(Hs H:Hp):Prop where
 sub:aC Hs H
 ja:∀ a vs,H a=some (.tup vs)->Hs a=some (.tup vs)
structure dv(K:PySem.W.Frag)(Hs:Hp)(ρ:Env)(σ:St)(H:Hp)(ae:List Addr):Prop where
 sr:SR K Hs H ρ σ ae
 wf:Wf Hs H
 sQ:ae.Nodup
 own:∀ a∈ae,Hs a=none
structure eL(Hs H av H':Hp):Prop where
 all:aC H H'
 sh:aC Hs av
 wf:Wf av H'
 new:∀ a,av a≠none->Hs a≠none\/H a=none
section
variable {K:PySem.W.Frag}{Hs H av H' W9 W_:Hp}
theorem eL.refl(w:Wf Hs H):eL Hs H Hs H:=⟨aC.refl _,aC.refl _,w,fun _ h=>.inl h⟩
theorem eL.trans(a:eL Hs H av H')(b:eL av H' W9 W_):eL Hs H W9 W_ :=
 ⟨a.all.trans b.all,a.sh.trans b.sh,b.wf,fun c h=>by
  rcases b.new c h with h|h
  ·exact a.new c h
  ·exact .inr (a.all.free h)⟩
theorem eL.qq(g:eL Hs H av H'){a:Addr}(h:Hs a=none)(h':H a≠none):av a=none:=by
 cases e:av a with
 |none=>rfl
 |some o =>
  rcases g.new a (by rw[e];exact fun z=>nomatch z) with z|z
  ·exact absurd h z
  ·exact absurd z h'
theorem SR.own{ρ:Env}{σ:St}{ae:List Addr}(s:SR K Hs H ρ σ ae):∀ a∈ae,Own H a:=by
 induction s with
 |nil=>exact fun a h=>B1 h
 |non _ ih=>exact ih
 |sh _ _ ih=>exact ih
 |xc _ ih=>exact ih
 |ow _ r _ ih=>exact fun a h=>(dy.mp h).elim (r.own a) (ih a)
 |lk _ r _ ih=>exact fun a h=>(dy.mp h).elim (r.own a) (ih a)
theorem SR.eM(s:aC Hs av){ρ:Env}{σ:St}{ae:List Addr}(r:SR K Hs H ρ σ ae):(∀ a∈ae,H' a=H a)->SR K av H' ρ σ ae:=by
 induction r with
 |nil=>exact fun _=>.nil
 |non _ ih=>exact fun k=>.non (ih k)
 |sh h _ ih=>exact fun k=>.sh (h.same s) (ih k)
 |xc _ ih=>exact fun k=>.xc (ih k)
 |ow ne h _ ih=>exact fun k=>.ow ne (h.eM s fun a m=>k a (kc _ m)) (ih fun a m=>k a (fh _ m))
 |lk ne h _ ih=>exact fun k=>.lk ne (h.eM s fun a m=>k a (kc _ m)) (ih fun a m=>k a (fh _ m))
theorem dv.grow{ρ:Env}{σ:St}{ae:List Addr}(r:dv K Hs ρ σ H ae)(g:eL Hs H av H'):dv K av ρ σ H' ae :=
 ⟨r.sr.eM g.sh fun a h=>by
  cases e:H a with
  |none=>exact absurd e (r.sr.own a h).ne
  |some o=>exact g.all a o e,g.wf,r.sQ,fun a h=>g.qq (r.own a h) (r.sr.own a h).ne⟩
def zF(K:PySem.W.Frag)(Hs H:Hp)(ae:List Addr)(sl:Sl)(v:V):Prop:=match sl with
 |.sh d=>Rep K Hs d v
 |.ow fl d=>∃ As,As≠[]/\bI K Hs H fl d v As/\∀ a∈As,a∈ae
 |.lk a fl d=>∃ As,As≠[]/\bI K Hs H fl d v As/\v=.ref a/\∀ a∈As,a∈ae
 |.xc a=>v=.ref a
theorem zF.mono{ae bX:List Addr}{sl:Sl}{v:V}(h:zF K Hs H ae sl v)(m:∀ a∈ae,a∈bX):zF K Hs H bX sl v:=by
 cases sl with
 |sh d=>exact h
 |xc a=>exact h
 |ow fl d =>
  obtain⟨As,ne,r,q⟩:=h
  exact⟨As,ne,r,fun a ha=>m a (q a ha)⟩
 |lk a fl d =>
  obtain⟨As,ne,r,e,q⟩:=h
  exact⟨As,ne,r,e,fun a ha=>m a (q a ha)⟩
theorem SR.get{ρ:Env}{σ:St}{ae:List Addr}{i:Nat}{sl:Sl}(s:SR K Hs H ρ σ ae)(e:ρ[i]? = some (some sl)):∃ v,σ[i]? = some (some v)/\zF K Hs H ae sl v:=by
 induction s generalizing i with
 |nil=>simp at e
 |non s ih =>
  cases i with
  |zero=>simp at e
  |succ i=>exact ih e
 |sh r s ih =>
  cases i with
  |zero=>simp at e;subst e;exact⟨_,rfl,r⟩
  |succ i=>exact ih e
 |xc s ih =>
  cases i with
  |zero=>simp at e;subst e;exact⟨_,rfl,rfl⟩
  |succ i=>exact ih e
 |ow ne r s ih =>
  cases i with
  |zero=>simp at e;subst e;exact⟨_,rfl,_,ne,r,fun a m=>kc _ m⟩
  |succ i =>
   obtain⟨v,e1,h⟩:=ih e
   exact⟨v,e1,h.mono fun a m=>fh _ m⟩
 |lk ne r s ih =>
  cases i with
  |zero=>simp at e;subst e;exact⟨_,rfl,_,ne,r,rfl,fun a m=>kc _ m⟩
  |succ i =>
   obtain⟨v,e1,h⟩:=ih e
   exact⟨v,e1,h.mono fun a m=>fh _ m⟩
end
inductive Md where
 |sh|ow (fl:Bool)|bo
def RM(K:PySem.W.Frag)(Hs H:Hp):Md->D->V->List Addr->Prop
 |.sh,d,v,As=>As=[]/\Rep K Hs d v
 |.ow fl,d,v,As=>bI K Hs H fl d v As/\As≠[]
 |.bo,d,v,As=>As=[]/\Rep K H d v
inductive AI(K:PySem.W.Frag)(Hs H:Hp):List (Md × D)->List V->List Addr->Prop
 |nil:AI K Hs H [] [] []
 |cons {m:Md} {d:D} {v:V} {ps:List (Md × D)} {vs:List V} {As Bs:List Addr}:RM K Hs H m d v As->AI K Hs H ps vs Bs->AI K Hs H ((m,d) :: ps) (v :: vs) (As++Bs)
section
variable {K:PySem.W.Frag}{Hs H av H':Hp}
theorem RM.own{m:Md}{d:D}{v:V}{As:List Addr}(r:RM K Hs H m d v As):∀ a∈As,Own H a:=by
 cases m with
 |sh=>obtain⟨rfl,_⟩:=r;exact fun a h=>B1 h
 |ow fl=>exact bI.own r.1
 |bo=>obtain⟨rfl,_⟩:=r;exact fun a h=>B1 h
theorem RM.grow{m:Md}{d:D}{v:V}{As:List Addr}(r:RM K Hs H m d v As)(g:eL Hs H av H'):RM K av H' m d v As:=by
 cases m with
 |sh=>exact⟨r.1,r.2.same g.sh⟩
 |ow fl=>exact⟨bI.grow g.sh g.all r.1,r.2⟩
 |bo=>exact⟨r.1,r.2.same g.all⟩
theorem RM.rep{m:Md}{d:D}{v:V}{As:List Addr}(w:Wf Hs H)(r:RM K Hs H m d v As):Rep K H d v:=by
 cases m with
 |sh=>exact r.2.same w.sub
 |ow fl=>exact bI.rep w.sub r.1 fun _ _=>rfl
 |bo=>exact r.2
theorem RM.flat{m:Md}{d:D}{v:V}{As:List Addr}(w:Wf Hs H)(r:RM K Hs H m d v As)(f:d.flat=true):Rep K Hs d v:=(r.rep w).jf w.ja f
theorem AI.reps(w:Wf Hs H){ps:List (Md × D)}{vs:List V}{As:List Addr}(r:AI K Hs H ps vs As):aI K H (ps.map (·.2)) vs:=by
 induction r with
 |nil=>exact .nil
 |cons r _ ih=>exact .cons (r.rep w) ih
end
abbrev WE:=Env->(Md->D->Prop)->Prop
abbrev WT:=Env->(Bool->Prop)->Prop
abbrev WA:=Env->(List (Md × D)->Prop)->Prop
structure jw where
 nx:Env->Prop
 rt:Md->D->Prop
 bk:Env->Prop:=fun _=>False
 ct:Env->Prop:=fun _=>False
abbrev WS:=jw->Env->Prop
def cU(av H:Hp)(As:List Addr):Prop:=As.Nodup/\∀ a∈As,av a=none/\H a=none
def kS(K:PySem.W.Frag)(t:WE):TE:=fun σ H Qv=>∃ Hs ρ ae Q,dv K Hs ρ σ H ae/\t ρ Q /\
 ∀ v H' av m d As,eL Hs H av H'->RM K av H' m d v As->cU av H As->Q m d->Qv v H'
def B3(K:PySem.W.Frag)(t:WT):TT:=fun σ H Qv=>∃ Hs ρ ae Q,dv K Hs ρ σ H ae/\t ρ Q/\∀ b H' av,eL Hs H av H'->Q b->Qv b H'
def SV(K:PySem.W.Frag)(t:WA):TA:=fun σ H Qv=>∃ Hs ρ ae Q,dv K Hs ρ σ H ae/\t ρ Q /\
 ∀ vs H' av ps As,eL Hs H av H'->AI K av H' ps vs As->cU av H As->Q ps->Qv vs H'
def yk(K:PySem.W.Frag)(L:Str->Hp->Prop)(t:WS):TS:=fun D σ H=>∃ Hs ρ ae E,dv K Hs ρ σ H ae/\t E ρ /\
 (∀ bp H' av bP bX,aC Hs av->dv K av bP bp H' bX->E.nx bP->D.nx bp H') /\
 (∀ bp H' av bP bX,aC Hs av->dv K av bP bp H' bX->E.bk bP->D.bk bp H') /\
 (∀ bp H' av bP bX,aC Hs av->dv K av bP bp H' bX->E.ct bP->D.ct bp H') /\
 (∀ v H' av m d As,aC Hs av->Wf av H'->RM K av H' m d v As->As.Nodup->(∀ a∈As,av a=none)->E.rt m d->D.rt v H') /\
 ∀ n H',aC Hs H'->E.rt (.ow false) (.str n)->L n H'
theorem iG{K:PySem.W.Frag}{L:Str->Hp->Prop}{t:WS}{D:Ends}{σ:St}{H:Hp}{G:Prop}(x:yk K L t D σ H)(k:∀ Hs ρ ae E,dv K Hs ρ σ H ae->t E ρ ->
 (∀ bp H' av bP bX,aC Hs av->dv K av bP bp H' bX->E.nx bP->D.nx bp H') ->
 (∀ bp H' av bP bX,aC Hs av->dv K av bP bp H' bX->E.bk bP->D.bk bp H') ->
 (∀ bp H' av bP bX,aC Hs av->dv K av bP bp H' bX->E.ct bP->D.ct bp H') ->
 (∀ v H' av m d As,aC Hs av->Wf av H'->RM K av H' m d v As->As.Nodup->(∀ a∈As,av a=none)->E.rt m d->D.rt v H') ->
 (∀ n H',aC Hs H'->E.rt (.ow false) (.str n)->L n H')->G):G :=
 by
 obtain⟨Hs,ρ,ae,E,sr,h,k1,k2,k3,k4,kx⟩:=x
 exact k Hs ρ ae E sr h k1 k2 k3 k4 kx
theorem gj{K:PySem.W.Frag}{L:Str->Hp->Prop}{t:WS}{D:Ends}{σ:St}{H:Hp}{G:Prop}(x:yk K L t D σ H)(k:∀ Hs ρ ae E,dv K Hs ρ σ H ae->t E ρ ->
 (∀ bp H' av bP bX,aC Hs av->dv K av bP bp H' bX->E.nx bP->D.nx bp H') ->
 (∀ bp H' av bP bX,aC Hs av->dv K av bP bp H' bX->E.bk bP->D.bk bp H') ->
 (∀ bp H' av bP bX,aC Hs av->dv K av bP bp H' bX->E.ct bP->D.ct bp H') ->
 (∀ v H' av m d As,aC Hs av->Wf av H'->RM K av H' m d v As->As.Nodup->(∀ a∈As,av a=none)->E.rt m d->D.rt v H')->G):G :=
 iG x fun Hs ρ ae E sr h k1 k2 k3 k4 _=>k Hs ρ ae E sr h k1 k2 k3 k4
theorem i3{α β γ δ:Type _}{A B C:α->β->γ->δ->Prop}{G:Prop}(x:∃ a b c d,A a b c d/\B a b c d/\C a b c d)(k:∀ a b c d,A a b c d->B a b c d->C a b c d->G):G :=
 by
 obtain⟨a,b,c,d,p,q,r⟩:=x
 exact k a b c d p q r
abbrev QE(X:Cx)(K:PySem.W.Frag)(e:Expr)(t:WE):Prop:=PE X e (kS K t)
abbrev QT(X:Cx)(K:PySem.W.Frag)(e:Expr)(t:WT):Prop:=PT X e (B3 K t)
abbrev QW(X:Cx)(K:PySem.W.Frag)(e:Expr)(t:WT):Prop:=PW X e (B3 K t)
abbrev QA(X:Cx)(K:PySem.W.Frag)(es:List Expr)(t:WA):Prop:=PA X es (SV K t)
abbrev QS(X:Cx)(K:PySem.W.Frag)(L:Str->Hp->Prop)(st:Stmt)(t:WS):Prop:=PS X st (yk K L t)
abbrev qA(X:Cx)(K:PySem.W.Frag)(L:Str->Hp->Prop)(st:List Stmt)(t:WS):Prop:=mP X st (yk K L t)
abbrev L0:Str->Hp->Prop:=fun _ _=>True
end L2.Q
namespace L2.Q
open PySem PySem.Spec PyProof.Rows
structure Kt{α:Type}(f:α->Prop):Type where
def bS{α:Type}(a:α){f:α->Prop}(_:Kt f):Prop:=f a
mutual
def D.py:D->PyData
 |.non=>.none
 |.bl b=>.bool b
 |.int i=>.int i
 |.str x=>.str x
 |.list xs=>.list (kU xs)
 |.tup xs=>.tuple (kU xs)
 |.dK _=>.none
 |.dT _=>.none
def kU:List D->List PyData
 |[]=>[]
 |x :: xs=>x.py :: kU xs
end
def ck:Nat->D->Bool
 |_,.non=>true
 |_,.bl _=>true
 |_,.int _=>true
 |_,.str x=>PyData.strOk x
 |n+1,.list xs=>xs.all (ck n)
 |n+1,.tup xs=>xs.all (ck n)
 |_,_=>false
def gS(x y:D):Bool:=PyData.eqv x.py y.py
def D.ty:D->String
 |.non => "NoneType"
 |.bl _ => "bool"
 |.int _ => "int"
 |.str _ => "str"
 |.list _ => "list"
 |.tup _ => "tuple"
 |.dK _ => "dict"
 |.dT _ => "dict"
def D.key1:D->Option Key
 |.int i=>some (.inl i)
 |.str x=>some (.inr x)
 |_=>none
def eE:List D->Option (List Key)
 |[]=>some []
 |x :: xs=>match x.key1,eE xs with
  |some k,some ks=>some (k :: ks)
  |_,_=>none
section
variable {κ:Type}[DecidableEq κ]{β:Type}
def dP(kvs:List (κ × β))(k:κ):Option β:=(kvs.find? fun kv=>decide (kv.1=k)).map (·.2)
def jI(kvs:List (κ × β))(k:κ)(v:β):List (κ × β) :=
 if (kvs.any fun kv=>decide (kv.1=k))=true then kvs.map (fun kv=>if kv.1=k then (kv.1,v) else kv) else kvs++[(k,v)]
end
theorem Rep.SW{K:PySem.W.Frag}{H:Hp}:(∀ {d:D} {v:V},Rep K H d v->∀ n,ck n d=true->L2.Rep K H d.py v)/\∀ {ds:List D} {vs:List V},aI K H ds vs->∀ n,(∀ d∈ds,ck n d=true)->L2.aI K H (kU ds) vs :=
 Rep.ind (m1:=fun d v=>∀ n,ck n d=true->L2.Rep K H d.py v) (m2:=fun ds vs=>∀ n,(∀ d∈ds,ck n d=true)->L2.aI K H (kU ds) vs) (fun _ _=>.none) (fun b _ _=>.bool b) (fun i _ _=>.int i) (fun _ _ _ _=>.str _)
  (fun _ _ _ _ h _ ih n o=>by
   cases n with
   |zero=>simp[ck] at o
   |succ n=>exact .list h (ih n (by simpa[ck] using o)))
  (fun _ _ _ _ h _ ih n o=>by
   cases n with
   |zero=>simp[ck] at o
   |succ n=>exact .tuple (.inl (.inl h)) (ih n (by simpa[ck] using o)))
  (fun _ _ _ _ _ _ _ n o=>by cases n<;>simp[ck] at o) (fun _ _ _ _ _ _ _ n o=>by cases n<;>simp[ck] at o) (fun _ _=>.nil)
  fun _ _ _ _ _ _ i1 i2 n o=>.cons (i1 n (o _ cf)) (i2 n fun d m=>o d (cc _ m))
theorem Rep.l2{K:PySem.W.Frag}{H:Hp}{n:Nat}{d:D}{v:V}(r:Rep K H d v)(o:ck n d=true):L2.Rep K H d.py v:=Rep.SW.1 r n o
theorem vI{n:Nat}(ih:∀ d,ck n d=true->d.py.canLay0=true/\d.py.depth<=n)(xs:List D)(h:∀ x∈xs,ck n x=true):PyData.canLayAll0 (kU xs)=true/\PyData.depthAll (kU xs)<=n:=by
 induction xs with
 |nil=>exact⟨rfl,dz _⟩
 |cons x xs SX =>
  have h1:=ih x (h x cf)
  have h2:=SX fun y hy=>h y (cc _ hy)
  simp only[kU,PyData.canLayAll0,PyData.depthAll,h1.1,h2.1,Bool.and_self,true_and]
  lia
theorem jo(n:Nat):∀ (d:D),ck n d=true->d.py.canLay0=true/\d.py.depth<=n:=by
 have st:∀ (n:Nat) (x:Str),ck n (.str x)=true->(D.str x).py.canLay0=true/\(D.str x).py.depth<=n:=fun n x h=>by
  have h:PyData.strOk x=true:=by cases n<;>simpa[ck] using h
  exact⟨by simpa[D.py,PyData.canLay0] using h,dz _⟩
 induction n with
 |zero =>
  intro d h
  cases d with
  |str x=>exact st _ x h
  |non=>exact⟨rfl,dz _⟩
  |bl _=>exact⟨rfl,dz _⟩
  |int _=>exact⟨rfl,dz _⟩
  |_=>simp[ck] at h
 |succ n ih =>
  intro d h
  cases d with
  |str x=>exact st _ x h
  |non=>exact⟨rfl,dz _⟩
  |bl _=>exact⟨rfl,dz _⟩
  |int _=>exact⟨rfl,dz _⟩
  |list xs =>
   have h:∀ x∈xs,ck n x=true:=by simpa[ck] using h
   have:=vI ih xs h
   simp only[D.py,PyData.canLay0,PyData.depth]
   exact⟨this.1,by lia⟩
  |tup xs =>
   have h:∀ x∈xs,ck n x=true:=by simpa[ck] using h
   have:=vI ih xs h
   simp only[D.py,PyData.canLay0,PyData.depth]
   exact⟨this.1,by lia⟩
  |dK _=>simp[ck] at h
  |dT _=>simp[ck] at h
mutual
def D.nb:D->Bool
 |.bl _=>false
 |.list xs=>sR xs
 |.tup xs=>sR xs
 |.dK _=>false
 |.dT _=>false
 |_=>true
def sR:List D->Bool
 |[]=>true
 |x :: xs=>x.nb && sR xs
end
mutual
theorem m7:∀ (x y:D),x.nb=true->y.nb=true->(gS x y=true↔x=y)
 |.non,y,_,hy=>by cases y<;>simp_all [gS,D.py,PyData.eqv,D.nb]
 |.bl _,y,hx,_=>by simp[D.nb] at hx
 |.int i,y,_,hy=>by cases y<;>simp_all [gS,D.py,PyData.eqv,D.nb]
 |.str i,y,_,hy=>by cases y<;>simp_all [gS,D.py,PyData.eqv,D.nb]
 |.dK _,y,hx,_=>by simp[D.nb] at hx
 |.dT _,y,hx,_=>by simp[D.nb] at hx
 |.list xs,y,hx,hy=>by
  cases y with
  |list ys =>
   have:=oX xs ys (by simpa[D.nb] using hx) (by simpa[D.nb] using hy)
   simp only[gS,D.py,PyData.eqv,D.list.injEq]
   exact this
  |_=>simp_all [gS,D.py,PyData.eqv,D.nb]
 |.tup xs,y,hx,hy=>by
  cases y with
  |tup ys =>
   have:=oX xs ys (by simpa[D.nb] using hx) (by simpa[D.nb] using hy)
   simp only[gS,D.py,PyData.eqv,D.tup.injEq]
   exact this
  |_=>simp_all [gS,D.py,PyData.eqv,D.nb]
theorem oX:∀ (xs ys:List D),sR xs=true->sR ys=true->(PyData.eqvAll (kU xs) (kU ys)=true↔xs=ys)
 |[],[],_,_=>by simp[kU,PyData.eqvAll]
 |[],_ :: _,_,_=>by simp[kU,PyData.eqvAll]
 |_ :: _,[],_,_=>by simp[kU,PyData.eqvAll]
 |x :: xs,y :: ys,hx,hy=>by
  simp only[sR,lI] at hx hy
  have h1:=m7 x y hx.1 hy.1
  have h2:=oX xs ys hx.2 hy.2
  simp only[kU,PyData.eqvAll,lI,List.cons.injEq]
  exact and_congr h1 h2
end
section
variable {K:PySem.W.Frag}{H:Hp}
theorem Rep.key{d:D}{v:V}{k:Key}(r:Rep K H d v)(h:d.key1=some k):v=kV k:=by
 cases r<;>simp[D.key1] at h<;>subst h<;>rfl
theorem aI.keys{ds:List D}{vs:List V}{ks:List Key}(r:aI K H ds vs)(h:eE ds=some ks):vs=ks.map kV:=by
 induction ds generalizing vs ks with
 |nil=>simp[eE] at h;subst h;exact r.n0
 |cons d ds ih =>
  obtain⟨u,us,rfl,r,rs⟩:=r.c
  unfold eE at h
  cases e1:d.key1 with
  |none=>rw[e1] at h;simp at h
  |some k =>
   cases e2:eE ds with
   |none=>rw[e1,e2] at h;simp at h
   |some fm =>
    rw[e1,e2] at h
    simp at h
    subst h
    rw[fz,r.key e1,ih rs e2]
theorem Rep.mn{ds:List D}{v:V}{ks:List Key}(r:Rep K H (.tup ds) v)(h:eE ds=some ks):∃ b,v=.ref b/\H b=some (.tup (ks.map kV)):=by
 cases r with
 |tup _ e rs=>exact⟨_,rfl,by rw[e,rs.keys h]⟩
end
section
variable {κ:Type}[DecidableEq κ]{K:PySem.W.Frag}{H:Hp}
theorem zip_get{k:κ}{kvs:List (κ × D)}{vs:List V}(h:aI K H (kvs.map (·.2)) vs):match dP kvs k with
  |some d=>∃ v,nX ((kvs.map (·.1)).zip vs) k=some v/\Rep K H d v
  |none=>nX ((kvs.map (·.1)).zip vs) k=none:=by
 induction kvs generalizing vs with
 |nil=>rfl
 |cons p kvs ih =>
  obtain⟨u,us,rfl,r,rs⟩:=aI.c (d:=p.2) h
  by_cases e:p.1=k
  ·have e1:dP (p :: kvs) k=some p.2:=by simp[dP,e]
   rw[e1]
   exact⟨_,by simp only[fz,xl];exact Pl e,r⟩
  ·have e1:dP (p :: kvs) k=dP kvs k:=by simp[dP,e]
   rw[e1]
   have:=ih rs
   simp only[fz,xl,Pm (p:=(p.1,_)) e]
   exact this
theorem DY{k:κ}{kvs:List (κ × D)}{vs:List V}(h:kvs.length=vs.length):((kvs.map (·.1)).zip vs).any (fun kv=>decide (kv.1=k))=kvs.any fun kv=>decide (kv.1=k):=by
 induction kvs generalizing vs with
 |nil=>rfl
 |cons p kvs ih =>
  cases vs with
  |nil=>simp at h
  |cons v vs =>
   simp only[fz,xl,AY]
   rw[ih (vs:=vs) (by simpa using h)]
end
section
variable {K:PySem.W.Frag}{Hs H:Hp}
theorem PR{p:Addr}{o:HO}(w:Wf Hs H)(hp:H p=none)(ho:∀ vs,o≠.tup vs):eL Hs H Hs (upd H p o) :=
 ⟨(aC.refl H).upd hp,aC.refl _,⟨w.sub.upd hp,fun a vs e=>by
  by_cases h:a=p
  ·subst h;rw[ki] at e;exact absurd (Option.some.inj e) (ho vs)
  ·rw[eJ h] at e;exact w.ja a vs e⟩,fun _ h=>.inl h⟩
theorem SY{p:Addr}{vs:List V}(w:Wf Hs H)(hp:H p=none):eL Hs H (upd Hs p (.tup vs)) (upd H p (.tup vs)) :=
 ⟨(aC.refl H).upd hp,(aC.refl Hs).upd (w.sub.free hp),⟨fun a o e=>by
  by_cases h:a=p
  ·subst h;rw[ki] at e ⊢;exact e
  ·rw[eJ h] at e ⊢;exact w.sub a o e,fun a vs e=>by
  by_cases h:a=p
  ·subst h;rw[ki] at e ⊢;exact e
  ·rw[eJ h] at e ⊢;exact w.ja a vs e⟩,fun a h=>by
  by_cases e:a=p
  ·subst e;exact .inr hp
  ·rw[eJ e] at h;exact .inl h⟩
theorem cU.nil:cU Hs H []:=⟨oq,fun a h=>nomatch h⟩
theorem cU.of{H':Hp}{As:List Addr}(s:aC H H')(f:cU Hs H' As):cU Hs H As:=⟨f.1,fun a h=>⟨(f.2 a h).1,s.free (f.2 a h).2⟩⟩
abbrev Fin(K:PySem.W.Frag)(Hs H:Hp)(Qd:Md->D->Prop)(Qv:VK):Prop:=∀ v H' av m d As,eL Hs H av H'->RM K av H' m d v As->cU av H As->Qd m d->Qv v H'
theorem Fin.after{av H':Hp}{Qd:Md->D->Prop}{Qv:VK}(f:Fin K Hs H Qd Qv)(g:eL Hs H av H'):Fin K av H' Qd Qv:=fun v H2 ay m d As g2 r fr q=>f v H2 ay m d As (g.trans g2) r (fr.of g.all) q
theorem Fin.sh{Qd:Md->D->Prop}{Qv:VK}{d:D}{v:V}(f:Fin K Hs H Qd Qv)(w:Wf Hs H)(r:Rep K Hs d v)(q:Qd .sh d):Qv v H:=f v H Hs .sh d [] (eL.refl w) ⟨rfl,r⟩ cU.nil q
theorem Fin.flat{Qd:Md->D->Prop}{Qv:VK}{d:D}{v:V}(f:Fin K Hs H Qd Qv)(w:Wf Hs H)(r:Rep K H d v)(hf:d.flat=true)(q:Qd .sh d):Qv v H:=f.sh w (r.jf w.ja hf) q
theorem Fin.bo{Qd:Md->D->Prop}{Qv:VK}{d:D}{v:V}(f:Fin K Hs H Qd Qv)(w:Wf Hs H)(r:Rep K H d v)(q:Qd .bo d):Qv v H:=f v H Hs .bo d [] (eL.refl w) ⟨rfl,r⟩ cU.nil q
def kX(m:Md)(d:D):Md:=match m with
 |.sh=>.sh
 |_=>bif d.flat then .sh else .bo
theorem Fin.kX{Qd:Md->D->Prop}{Qv:VK}{m:Md}{d:D}{v:V}(f:Fin K Hs H Qd Qv)(w:Wf Hs H)(r:Rep K H d v)(rs:m=.sh->Rep K Hs d v)(q:Qd (kX m d) d):Qv v H:=by
 cases m with
 |sh=>exact f.sh w (rs rfl) q
 |ow fl =>
  cases hf:d.flat with
  |true=>exact f.flat w r hf (by simpa[Q.kX,hf] using q)
  |false=>exact f.bo w r (by simpa[Q.kX,hf] using q)
 |bo =>
  cases hf:d.flat with
  |true=>exact f.flat w r hf (by simpa[Q.kX,hf] using q)
  |false=>exact f.bo w r (by simpa[Q.kX,hf] using q)
theorem Fin.lst{Qd:Md->D->Prop}{Qv:VK}{ds:List D}{vs:List V}(f:Fin K Hs H Qd Qv)(w:Wf Hs H)(hz:ds.length<=sizeLine)(r:aI K H ds vs)(hf:cv ds=true)(q:Qd (.ow true) (.list ds)):∀ p,H p=none->Qv (.ref p) (upd H p (.lst vs)):=fun p hp =>
 f _ _ Hs (.ow true) (.list ds) [p] (PR w hp fun _ z=>nomatch z) ⟨.list (by rw[<- r.length];exact hz) ki ((r.jf w.ja hf).owned hf),by simp⟩ ⟨by simp,fun a h=>by
  obtain rfl:a=p:=by simpa using h
  exact⟨w.sub.free hp,hp⟩⟩ q
theorem Fin.Nh{Qd:Md->D->Prop}{Qv:VK}{ds:List D}{vs:List V}(f:Fin K Hs H Qd Qv)(w:Wf Hs H)(hz:ds.length<=sizeLine)(r:aI K Hs ds vs)(q:Qd (.ow false) (.list ds)):∀ p,H p=none->Qv (.ref p) (upd H p (.lst vs)):=fun p hp =>
 f _ _ Hs (.ow false) (.list ds) [p] (PR w hp fun _ z=>nomatch z) ⟨.list (by rw[<- r.length];exact hz) ki r.Hg,by simp⟩ ⟨by simp,fun a h=>by
  obtain rfl:a=p:=by simpa using h
  exact⟨w.sub.free hp,hp⟩⟩ q
theorem Fin.tup{Qd:Md->D->Prop}{Qv:VK}{ds:List D}{vs:List V}(f:Fin K Hs H Qd Qv)(w:Wf Hs H)(hz:ds.length<=sizeLine)(r:aI K H ds vs)(hf:cv ds=true)(q:Qd .sh (.tup ds)):∀ p,H p=none->Qv (.ref p) (upd H p (.tup vs)):=fun p hp =>
 f _ _ (upd Hs p (.tup vs)) .sh (.tup ds) [] (SY w hp) ⟨rfl,.tup (by rw[<- r.length];exact hz) ki ((r.jf w.ja hf).same ((aC.refl Hs).upd (w.sub.free hp)))⟩ cU.nil q
end
section
variable {X:Cx}{K:PySem.W.Frag}
theorem PE.imp{e:Expr}{te oS:TE}(h:PE X e te)(i:∀ σ H Q,oS σ H Q->te σ H Q):PE X e oS:=fun pins s σ H Q I q=>h pins s σ H Q I (i σ H Q q)
theorem PT.imp{e:Expr}{te oS:TT}(h:PT X e te)(i:∀ σ H Q,oS σ H Q->te σ H Q):PT X e oS:=fun pins s σ H Q I q=>h pins s σ H Q I (i σ H Q q)
theorem PW.imp{e:Expr}{te oS:TT}(h:PW X e te)(i:∀ σ H Q,oS σ H Q->te σ H Q):PW X e oS:=fun wh pins s σ H Q I q=>h wh pins s σ H Q I (i σ H Q q)
theorem PA.imp{e:List Expr}{te oS:TA}(h:PA X e te)(i:∀ σ H Q,oS σ H Q->te σ H Q):PA X e oS:=fun p pins s σ H Q I q=>h p pins s σ H Q I (i σ H Q q)
def Ni:Option (Option Sl)->(Md->D->Prop)->Prop
 |some (some (.sh d)),Q=>Q .sh d
 |some (some (.ow _ d)),Q=>Q .bo d
 |some (some (.lk _ _ d)),Q=>Q .bo d
 |_,_=>False
def ah(i:Nat):WE:=fun ρ Q=>Ni ρ[i]? Q
theorem Hz{i:Nat}{e:Expr}(h:PE X e (DJ i)):QE X K e (ah i):=by
 refine PE.imp h fun σ H Qv hx=>i3 hx fun Hs ρ ae Q sr h f=>?_
 unfold ah at h
 cases e:ρ[i]? with
 |none=>rw[e] at h;exact h.elim
 |some o =>
  cases o with
  |none=>rw[e] at h;exact h.elim
  |some sl =>
   obtain⟨v,e1,r⟩:=sr.sr.get e
   rw[e] at h
   cases sl with
   |sh d=>exact⟨v,e1,Fin.sh f sr.wf r h⟩
   |xc a=>exact h.elim
   |ow fl d =>
    obtain⟨As,_,r,_⟩:=r
    exact⟨v,e1,Fin.bo f sr.wf (r.rep sr.wf.sub fun _ _=>rfl) h⟩
   |lk a fl d =>
    obtain⟨As,_,r,_⟩:=r
    exact⟨v,e1,Fin.bo f sr.wf (r.rep sr.wf.sub fun _ _=>rfl) h⟩
theorem qv (i:Nat) {x:Str} {pos:Pos} (hN:X.N[i]? = some x:=by rfl) (hv:My X.env.scope x:=by first|exact Or.inl rfl|exact Or.inr (Or.inl rfl)|exact Or.inr (Or.inr rfl)) (hd:(x == ("__debug__" : Str))=false:=by decide)
  (ox:(x == ("__classdict__" : Str))=false:=by decide):QE X K (.Name x pos) (ah i):=Hz (Ro hN hv hd ox)
def wC(d:D):WE:=fun _ Q=>Q .sh d
theorem zj{e:Expr}{v:V}{d:D}(h:PE X e (tC v))(r:∀ H,Rep K H d v):QE X K e (wC d) :=
 PE.imp h fun σ H Qv hx=>i3 hx fun Hs ρ ae Q sr h f=>Fin.sh f sr.wf (r _) h
theorem au{i j pos}:QE X K (.Constant (.int i) j pos) (wC (.int i)):=zj Y0 fun _=>.int i
theorem qY{i j pos}(h:i.length<=sizeLine:=by decide):QE X K (.Constant (.str i) j pos) (wC (.str i)):=zj Y3 fun _=>.str h
theorem B4{i j pos}:QE X K (.Constant (.bool i) j pos) (wC (.bl i)):=zj Y1 fun _=>.bl i
theorem yU{j pos}:QE X K (.Constant .none j pos) (wC .non):=zj Y2 fun _=>.non
abbrev W2:=Md->D->Md->D->(Md->D->Prop)->Prop
abbrev W1:=Md->D->(Md->D->Prop)->Prop
def jS(K:PySem.W.Frag)(r:R2)(f:W2):Prop:=∀ Hs H m x v As n y u Bs Qd Qv,Wf Hs H->RM K Hs H m x v As->RM K Hs H n y u Bs->f m x n y Qd->Fin K Hs H Qd Qv->r v u H Qv
def S0(K:PySem.W.Frag)(r:V->Hp->VK->Prop)(f:W1):Prop:=∀ Hs H m x v As Qd Qv,Wf Hs H->RM K Hs H m x v As->f m x Qd->Fin K Hs H Qd Qv->r v H Qv
def ax(f:W2)(ta tb:WE):WE:=fun ρ Q=>ta ρ fun m x=>tb ρ fun n y=>f m x n y Q
def g9(f:W1)(ta:WE):WE:=fun ρ Q=>ta ρ fun m x=>f m x Q
variable {a b:Expr}{ta tb tc:WE}{pos:Pos}
theorem kh{r:R2}{f:W2}(br:jS K r f)(σ:St)(H:Hp)(Qv:VK)(h:kS K (ax f ta tb) σ H Qv):MK r (kS K ta) (kS K tb) σ H Qv:=by
 obtain⟨Hs,ρ,ae,Q,sr,h,fin⟩:=h
 refine⟨Hs,ρ,ae,_,sr,h,fun v H1 aE m x As g1 r1 f1 q1=>⟨aE,ρ,ae,_,sr.grow g1,q1,fun u H2 ay n y Bs g2 r2 f2 q2=>?_⟩⟩
 exact br ay H2 m x v As n y u Bs Q Qv g2.wf (r1.grow g2) r2 q2 (Fin.after fin (g1.trans g2))
theorem Fm{op:Operator}{r:R2}{f:W2}(ho:cE X (binaryOp op) r)(br:jS K r f)(ha:QE X K a ta)(hb:QE X K b tb):QE X K (.BinOp a op b pos) (ax f ta tb):=PE.imp (ZH ho ha hb) (kh br)
theorem cF'{op:UnaryOp}{r:V->Hp->VK->Prop}{f:W1}(ho:O5 X (unaryOp op) r)(br:S0 K r f)(ha:QE X K a ta):QE X K (.UnaryOp op a pos) (g9 f ta):=by
 refine PE.imp (ZI ho ha) fun σ H Qv hx=>i3 hx fun Hs ρ ae Q sr h fin=>?_
 exact⟨Hs,ρ,ae,_,sr,h,fun v H1 aE m x As g1 r1 f1 q1=>br aE H1 m x v As Q Qv g1.wf r1 q1 (Fin.after fin g1)⟩
theorem uW{op:CmpOp}{r:R2}{f:W2}(ho:cE X (compareOp op) r)(br:jS K r f)(ha:QE X K a ta)(hb:QE X K b tb)(hm:behindInMarks op b=false):QE X K (.Compare a [op] [b] pos) (ax f ta tb):=PE.imp (Z1 ho ha hb hm) (kh br)
def wB(t:WE):WT:=fun ρ Q=>t ρ fun _ x=>match x with
 |.bl b=>Q b
 |_=>False
theorem yD{t:WE}(σ:St)(H:Hp)(Qv:Bool->Hp->Prop)(h:B3 K (wB t) σ H Qv):Rz (kS K t) σ H Qv:=by
 obtain⟨Hs,ρ,ae,Q,sr,h,fin⟩:=h
 refine⟨Hs,ρ,ae,_,sr,h,fun v H1 aE m x As g1 r1 f1 q1=>?_⟩
 have r:=r1.rep g1.wf
 cases r with
 |bl b=>exact⟨b,rfl,fin b H1 aE g1 q1⟩
 |_=>exact q1.elim
theorem sZ{t:WE}{σ:St}{H:Hp}{Q Q':VK}(h:kS K t σ H Q)(i:∀ v H',Q v H'->Q' v H'):kS K t σ H Q':=by
 obtain⟨Hs,ρ,ae,Qd,sr,h,fin⟩:=h
 exact⟨Hs,ρ,ae,Qd,sr,h,fun v H1 aE m x As g1 r1 f1 q1=>i _ _ (fin v H1 aE m x As g1 r1 f1 q1)⟩
theorem cI{op:CmpOp}{r:R2}{f:W2}(ho:cE X (compareOp op) r)(br:jS K r f)(ha:QE X K a ta)(hb:QE X K b tb)(hm:behindInMarks op b=false):QT X K (.Compare a [op] [b] pos) (wB (ax f ta tb)):=by
 refine PT.imp (Z2 ho ha hb hm) fun σ H Qv h=>?_
 obtain⟨Hs,ρ,ae,Q,sr,h,fin⟩:=h
 refine kh br σ H _ ⟨Hs,ρ,ae,_,sr,h,fun v H1 aE m x As g1 r1 f1 q1=>?_⟩
 have r:=r1.rep g1.wf
 cases r with
 |bl b=>exact⟨b,rfl,fin b H1 aE g1 q1⟩
 |_=>exact q1.elim
theorem jP{t:WE}(h:QE X K a t)(he:∀ whole,isTrue a X.env whole=(do let v <- whole;standAt a.pos;holding [v] (truthy v)):=by intro _;rfl):QT X K a (wB t):=PT.imp (Y6 h he) yD
def qu(f g:W2)(ta tb tc:WE):WE:=fun ρ Q=>ta ρ fun m x=>tb ρ fun n y=>f m x n y fun _ z=>match z with
 |.bl k=>if k=true then tc ρ fun l w=>g n y l w Q else Q .sh (.bl false)
 |_=>False
end
end L2.Q
namespace L2.Q
open PySem PySem.Spec PyProof.Rows
section
variable {X:Cx}{K:PySem.W.Frag}{a b c:Expr}{ta tb tc:WE}{pos:Pos}
theorem uT{r r':R2}{f g:W2}(br:jS K r f)(S4:jS K r' g)(σ:St)(H:Hp)(Qv:VK)(h:kS K (qu f g ta tb tc) σ H Qv):VC r r' (kS K ta) (kS K tb) (kS K tc) σ H Qv:=by
 obtain⟨Hs,ρ,ae,Q,sr,h,fin⟩:=h
 refine⟨Hs,ρ,ae,_,sr,h,fun v H1 aE m x As g1 r1 f1 q1=>⟨aE,ρ,ae,_,sr.grow g1,q1,fun u H2 ay n y Bs g2 r2 f2 q2=>?_⟩⟩
 refine br ay H2 m x v As n y u Bs _ _ g2.wf (r1.grow g2) r2 q2 fun z H3 eh m3 d3 Nj g3 r3 f3 q3=>?_
 have rr:=r3.rep g3.wf
 cases rr with
 |bl k =>
  refine⟨k,rfl,?_⟩
  have PJ:Fin K eh H3 Q Qv:=Fin.after fin ((g1.trans g2).trans g3)
  cases k with
  |false=>exact PJ.sh g3.wf (.bl false) q3
  |true =>
   refine⟨eh,ρ,ae,_,((sr.grow g1).grow g2).grow g3,q3,fun w H4 Jn l z JA g4 r4 f4 q4=>?_⟩
   exact S4 Jn H4 n y u Bs l z w JA Q Qv g4.wf ((r2.grow g3).grow g4) r4 q4 (Fin.after PJ g4)
 |_=>exact q3.elim
theorem Af{op op':CmpOp}{r r':R2}{f g:W2}(ho:cE X (compareOp op) r)(mI:cE X (compareOp op') r')(br:jS K r f)(S4:jS K r' g)(ha:QE X K a ta)(hb:QE X K b tb)(hc:QE X K c tc)
  (hm:lastMarks [op,op'] [b,c]=false:=by with_unfolding_all rfl):QT X K (.Compare a [op,op'] [b,c] pos) (wB (qu f g ta tb tc)):=by
 refine PT.imp (Z3 ho mI ha hb hc hm) fun σ H Qv h=>?_
 obtain⟨Hs,ρ,ae,Q,sr,h,fin⟩:=h
 refine uT br S4 σ H _ ⟨Hs,ρ,ae,_,sr,h,fun v H1 aE m x As g1 r1 f1 q1=>?_⟩
 have r:=r1.rep g1.wf
 cases r with
 |bl b=>exact⟨b,rfl,fin b H1 aE g1 q1⟩
 |_=>exact q1.elim
def S5(t u:WT):WT:=fun ρ Q=>t ρ fun c=>if c=true then u ρ Q else Q false
def PX(t u:WT):WT:=fun ρ Q=>t ρ fun c=>if c=true then Q true else u ρ Q
def AJ(t:WT):WT:=fun ρ Q=>t ρ fun c=>Q (!c)
variable {tA tB:WT}{rest:List Expr}
theorem oR{t u:WT}{f:Bool->TT}{σ:St}{H:Hp}{Qv:Bool->Hp->Prop}{G:Bool->(Bool->Prop)->Env->Prop}
  (h:B3 K (fun ρ Q=>t ρ fun c=>G c Q ρ) σ H Qv)
  (i:∀ c H1 aE ρ ae Q,dv K aE ρ σ H1 ae->G c Q ρ->(∀ b H' av,eL aE H1 av H'->Q b->Qv b H')->f c σ H1 Qv):B3 K t σ H fun c H1=>f c σ H1 Qv:=by
 obtain⟨Hs,ρ,ae,Q,sr,h,fin⟩:=h
 exact⟨Hs,ρ,ae,_,sr,h,fun c H1 aE g1 q1=>i c H1 aE ρ ae Q (sr.grow g1) q1 fun b H' av g2=>fin b H' av (g1.trans g2)⟩
theorem Es(ha:QT X K a tA):QW X K (.BoolOp .And [a] pos) tA:=pw_and1 ha
theorem Bo(ha:QT X K a tA):QW X K (.BoolOp .Or [a] pos) tA:=pw_or1 ha
theorem E_(ha:QT X K a tA)(hb:QW X K (.BoolOp .And (b :: rest) pos) tB):QW X K (.BoolOp .And (a :: b :: rest) pos) (S5 tA tB):=by
 refine PW.imp (pw_and ha hb) fun σ H Qv h=>?_
 refine oR (u:=tB) (f:=fun c σ H1 Q=>if c=true then B3 K tB σ H1 Q else Q false H1) h fun c H1 aE ρ ae Q sr q fin=>?_
 cases c with
 |true=>exact⟨aE,ρ,ae,Q,sr,q,fin⟩
 |false=>exact fin false H1 aE (eL.refl sr.wf) q
theorem FW(ha:QT X K a tA)(hb:QW X K (.BoolOp .Or (b :: rest) pos) tB):QW X K (.BoolOp .Or (a :: b :: rest) pos) (PX tA tB):=by
 refine PW.imp (pw_or ha hb) fun σ H Qv h=>?_
 refine oR (u:=tB) (f:=fun c σ H1 Q=>if c=true then Q true H1 else B3 K tB σ H1 Q) h fun c H1 aE ρ ae Q sr q fin=>?_
 cases c with
 |true=>exact fin true H1 aE (eL.refl sr.wf) q
 |false=>exact⟨aE,ρ,ae,Q,sr,q,fin⟩
theorem S6(h:QW X K a tA):QT X K a tA:=h _
theorem jk(ha:QT X K a tA):QT X K (.UnaryOp .Not a pos) (AJ tA):=by
 refine PT.imp (Y_ ha) fun σ H Qv h=>?_
 exact oR (u:=tA) (f:=fun c σ H1 Q=>Q (!c) H1) h fun c H1 aE ρ ae Q sr q fin=>fin _ H1 aE (eL.refl sr.wf) q
def uL(ta tb:WE):WE:=fun ρ Q=>ta ρ fun _ x=>match x with
 |.bl c=>if c=true then tb ρ Q else Q .sh (.bl false)
 |_=>False
def y_(ta:WE):WE:=fun ρ Q=>ta ρ fun _ x=>match x with
 |.bl c=>Q .sh (.bl (!c))
 |_=>False
theorem Fl{op}(h:QE X K a ta):QE X K (.BoolOp op [a] pos) ta:=Zc h
theorem Dl(ha:QE X K a ta)(hb:QE X K (.BoolOp .And (b :: rest) pos) tb):QE X K (.BoolOp .And (a :: b :: rest) pos) (uL ta tb):=by
 refine PE.imp (Zd ha hb) fun σ H Qv hx=>i3 hx fun Hs ρ ae Q sr h fin=>?_
 refine⟨Hs,ρ,ae,_,sr,h,fun v H1 aE m x As g1 r1 f1 q1=>?_⟩
 have r:=r1.rep g1.wf
 cases r with
 |bl c =>
  refine⟨c,rfl,?_⟩
  cases c with
  |true=>exact⟨aE,ρ,ae,Q,sr.grow g1,q1,Fin.after fin g1⟩
  |false=>exact Fin.sh (Fin.after fin g1) g1.wf (.bl false) q1
 |_=>exact q1.elim
theorem Js(ha:QE X K a ta):QE X K (.UnaryOp .Not a pos) (y_ ta):=by
 refine PE.imp (Ze ha) fun σ H Qv hx=>i3 hx fun Hs ρ ae Q sr h fin=>?_
 refine⟨Hs,ρ,ae,_,sr,h,fun v H1 aE m x As g1 r1 f1 q1=>?_⟩
 have r:=r1.rep g1.wf
 cases r with
 |bl c=>exact⟨c,rfl,Fin.sh (Fin.after fin g1) g1.wf (.bl _) q1⟩
 |_=>exact q1.elim
def cG':D->Option Bool
 |.non=>some false
 |.bl b=>some b
 |.int i=>some (i != 0)
 |.str x=>some ((x.length:Int) != 0)
 |.list xs=>some !xs.isEmpty
 |.tup xs=>some !xs.isEmpty
 |.dK kvs=>none
 |.dT kvs=>none
end
def fo:W2:=fun m x n y Q=>match x,y with
 |.int i,.int j=>Q .sh (.int (i+j))
 |.str i,.str j=>i.length+j.length<=sizeLine/\Q .sh (.str (i++j))
 |.list xs,.list ys=>xs.length+ys.length<=sizeLine/\((cv xs=true/\cv ys=true/\Q (.ow true) (.list (xs++ys)))\/(m=.sh/\n=.sh/\Q (.ow false) (.list (xs++ys))))
 |.tup xs,.tup ys=>xs≠[]/\xs.length+ys.length<=sizeLine/\cv xs=true/\cv ys=true/\Q .sh (.tup (xs++ys))
 |_,_=>False
def Fn(P:Int->Int->(Md->D->Prop)->Prop):W2:=fun _ x _ y Q=>match x,y with
 |.int i,.int j=>P i j Q
 |_,_=>False
def S7(P:Int->Int->(Md->D->Prop)->Prop)(S:Str->Str->(Md->D->Prop)->Prop):W2:=fun _ x _ y Q=>match x,y with
 |.int i,.int j=>P i j Q
 |.str i,.str j=>S i j Q
 |_,_=>False
def Nk:W2:=Fn fun i j Q=>Q .sh (.int (i-j))
def oa:W2:=Fn fun i j Q=>zS i j/\Q .sh (.int (i*j))
def B5:W2:=Fn fun i j Q=>(0<j/\j<1073741824)/\Q .sh (.int (i / j))
def sT:W2:=Fn fun i j Q=>0<j/\Q .sh (.int (i % j))
def PY:W2:=Fn fun i j Q=>Iq i j/\Q .sh (.int (i ^ j.toNat))
def Nm:W2:=S7 (fun i j Q=>Q .sh (.bl (decide (i<j)))) fun i j Q=>Q .sh (.bl (qc i j))
def S8:W2:=S7 (fun i j Q=>Q .sh (.bl (decide (i<=j)))) fun i j Q=>Q .sh (.bl (!qc j i))
def S9:W2:=Fn fun i j Q=>Q .sh (.bl (decide (j<i)))
def nc:W2:=fun _ x _ y Q=>match x,y with
 |.int i,.int j=>Q .sh (.bl (decide (i=j)))
 |.str i,.str j=>Q .sh (.bl (decide (i=j)))
 |.bl i,.bl j=>Q .sh (.bl (decide (i=j)))
 |_,_=>ck 12 x=true/\ck 12 y=true/\Q .sh (.bl (gS x y))
def Nn:W2:=fun _ x _ y Q=>match x,y with
 |.int i,.int j=>Q .sh (.bl (!decide (i=j)))
 |.str i,.str j=>Q .sh (.bl (!decide (i=j)))
 |.bl i,.bl j=>Q .sh (.bl (!decide (i=j)))
 |_,_=>ck 12 x=true/\ck 12 y=true/\Q .sh (.bl (!gS x y))
def D.PZ:D->Bool
 |.non=>true
 |_=>false
def P0:W2:=fun _ x _ y Q=>match y with
 |.non=>Q .sh (.bl x.PZ)
 |_=>False
def gR:D->Bool
 |.non=>true
 |.bl _=>true
 |.int _=>true
 |.str _=>true
 |_=>false
def inD(x:D)(ys:List D):Bool:=ys.any fun y=>gS y x
def Np(neg:Bool):W2:=fun _ x _ y Q=>match y with
 |.str j=>match x with
  |.str i=>Q .sh (.bl (if neg then !Py i j else Py i j))
  |_=>False
 |.list ys=>gR x=true/\ys.all gR=true/\Q .sh (.bl (if neg then !inD x ys else inD x ys))
 |.tup ys=>gR x=true/\ys.all gR=true/\Q .sh (.bl (if neg then !inD x ys else inD x ys))
 |.dK kvs=>∃ k,x.key1=some k/\Q .sh (.bl (if neg then !(dP kvs k).isSome else (dP kvs k).isSome))
 |.dT kvs=>match x with
  |.tup xs=>∃ ks,eE xs=some ks/\Q .sh (.bl (if neg then !(dP kvs ks).isSome else (dP kvs ks).isSome))
  |_=>False
 |_=>False
section
variable {K:PySem.W.Frag}
theorem CT{Hs H:Hp}{Qd:Md->D->Prop}{Qv:VK}(f:Fin K Hs H Qd Qv)(w:Wf Hs H){x:Str}(h:x.length<=sizeLine)(q:Qd .sh (.str x)):Qv (.str x) H:=f.sh w (.str h) q
theorem du(i j:Str):(i++j).length=i.length+j.length:=by
 show((i++j).cps.size)=_
 show(i.cps++j.cps).size=_
 simp[Str.length]
theorem Gg:jS K (fun x y H Q=>zU K x y H Q\/RL K x y H Q) fo:=by
 intro Hs H m x v As n y u Bs Qd Qv w rx ry h f
 have r1:=rx.rep w
 have r2:=ry.rep w
 unfold fo at h
 cases r1 with
 |int i=>cases r2 with
  |int j=>exact .inl (f.sh w (.int _) h)
  |_=>exact h.elim
 |str hi=>cases r2 with
  |str hj=>exact .inl ⟨h.1,CT f w (by rw[du];exact h.1) h.2⟩
  |_=>exact h.elim
 |list z1 s1 q1=>cases r2 with
  |list z2 s2 q2 =>
   have l1:=q1.length
   have l2:=q2.length
   have hz:=h.1
   rcases h.2 with⟨f1,f2,q⟩|⟨rfl,rfl,q⟩
   ·refine .inl ⟨_,_,s1,s2,by lia,?_⟩
    exact f.lst w (by rw[tS];exact hz) (q1.append q2) (by rw[fj,f1,f2];rfl) q
   ·obtain⟨_,rx⟩:=rx
    obtain⟨_,ry⟩:=ry
    cases rx with
    |list z1' s1' JJ=>cases ry with
     |list z2' s2' Xa =>
      have l1:=JJ.length
      have l2:=Xa.length
      refine .inl ⟨_,_,aC.seq w.sub s1',aC.seq w.sub s2',by lia,?_⟩
      exact f.Nh w (by rw[tS];exact hz) (JJ.append Xa) q
  |_=>exact h.elim
 |tup t1 s1 q1=>cases r2 with
  |tup t2 s2 q2 =>
   have l1:=q1.length
   have l2:=q2.length
   obtain⟨jv,hz,f1,f2,q⟩:=h
   refine .inr ⟨_,_,_,_,rfl,rfl,.inl (.inl s1),.inl (.inl s2),?_,by lia,?_⟩
   ·intro e
    subst e
    exact jv (Ob.mp l1)
   ·refine⟨fun e=>?_,fun _=>f.tup w (by rw[tS];exact hz) (q1.append q2) (by rw[fj,f1,f2];rfl) q⟩
    subst e
    cases q2
    rw[nL] at q
    exact f.flat w (.tup t1 s1 q1) (by simpa[D.flat] using f1) q
  |_=>exact h.elim
 |_=>exact h.elim
theorem Aj{H:Hp}{x y:D}{v u:V}{m n:Md}{P:Int->Int->(Md->D->Prop)->Prop}{S:Str->Str->(Md->D->Prop)->Prop}{Q:Md->D->Prop}{G:Prop}(r1:Rep K H x v)(r2:Rep K H y u)(h:S7 P S m x n y Q)(k:∀ i j,v=.int i->u=.int j->P i j Q->G)(ks:∀ i j,v=.str i->u=.str j->S i j Q->G):G:=by
 cases r1 with
 |int i=>cases r2 with
  |int j=>exact k i j rfl rfl h
  |_=>exact h.elim
 |str hi=>cases r2 with
  |str hj=>exact ks _ _ rfl rfl h
  |_=>exact h.elim
 |_=>exact h.elim
theorem iM{H:Hp}{x y:D}{v u:V}{m n:Md}{P:Int->Int->(Md->D->Prop)->Prop}{Q:Md->D->Prop}{G:Prop}(r1:Rep K H x v)(r2:Rep K H y u)(h:Fn P m x n y Q)(k:∀ i j,v=.int i->u=.int j->P i j Q->G):G:=by
 cases r1 with
 |int i=>cases r2 with
  |int j=>exact k i j rfl rfl h
  |_=>exact h.elim
 |_=>exact h.elim
theorem G5:jS K Ek Nk:=by
 intro Hs H m x v As n y u Bs Qd Qv w rx ry h f
 exact iM (rx.rep w) (ry.rep w) h fun i j e1 e2 q=>by
  subst e1 e2
  exact f.sh w (.int _) q
theorem Hi:jS K Di oa:=by
 intro Hs H m x v As n y u Bs Qd Qv w rx ry h f
 exact iM (rx.rep w) (ry.rep w) h fun i j e1 e2 q=>by
  subst e1 e2
  exact⟨q.1,f.sh w (.int _) q.2⟩
theorem GJ:jS K Dv B5:=by
 intro Hs H m x v As n y u Bs Qd Qv w rx ry h f
 exact iM (rx.rep w) (ry.rep w) h fun i j e1 e2 q=>by
  subst e1 e2
  exact⟨q.1,f.sh w (.int _) q.2⟩
theorem Fv:jS K BZ sT:=by
 intro Hs H m x v As n y u Bs Qd Qv w rx ry h f
 exact iM (rx.rep w) (ry.rep w) h fun i j e1 e2 q=>by
  subst e1 e2
  exact⟨q.1,f.sh w (.int _) q.2⟩
theorem G3:jS K DK PY:=by
 intro Hs H m x v As n y u Bs Qd Qv w rx ry h f
 exact iM (rx.rep w) (ry.rep w) h fun i j e1 e2 q=>by
  subst e1 e2
  exact⟨q.1,f.sh w (.int _) q.2⟩
theorem Jb:jS K Sf S9:=by
 intro Hs H m x v As n y u Bs Qd Qv w rx ry h f
 exact iM (rx.rep w) (ry.rep w) h fun i j e1 e2 q=>by
  subst e1 e2
  exact f.sh w (.bl _) q
theorem Gz:jS K Sd Nm:=by
 intro Hs H m x v As n y u Bs Qd Qv w rx ry h f
 exact Aj (rx.rep w) (ry.rep w) h (fun i j e1 e2 q=>by
  subst e1 e2
  exact f.sh w (.bl _) q) fun i j e1 e2 q=>by
  subst e1 e2
  exact f.sh w (.bl _) q
theorem Ju:jS K Se S8:=by
 intro Hs H m x v As n y u Bs Qd Qv w rx ry h f
 exact Aj (rx.rep w) (ry.rep w) h (fun i j e1 e2 q=>by
  subst e1 e2
  exact f.sh w (.bl _) q) fun i j e1 e2 q=>by
  subst e1 e2
  exact f.sh w (.bl _) q
theorem eq_data{Hs H:Hp}{x y:D}{v u:V}{Qd:Md->D->Prop}{Qv:VK}(w:Wf Hs H)(rx:Rep K H x v)(ry:Rep K H y u)(f:Fin K Hs H Qd Qv)(h:ck 12 x=true/\ck 12 y=true/\Qd .sh (.bl (gS x y))):Si K v u H Qv:=by
 obtain⟨h1,h2,q⟩:=h
 have l1:=jo 12 x h1
 have l2:=jo 12 y h2
 exact⟨x.py,y.py,rx.l2 h1,ry.l2 h2,l1.1,l2.1,by lia,f.sh w (.bl _) q⟩
theorem ne_data{Hs H:Hp}{x y:D}{v u:V}{Qd:Md->D->Prop}{Qv:VK}(w:Wf Hs H)(rx:Rep K H x v)(ry:Rep K H y u)(f:Fin K Hs H Qd Qv)(h:ck 12 x=true/\ck 12 y=true/\Qd .sh (.bl (!gS x y))):Sj K v u H Qv:=by
 obtain⟨h1,h2,q⟩:=h
 have l1:=jo 12 x h1
 have l2:=jo 12 y h2
 exact⟨x.py,y.py,rx.l2 h1,ry.l2 h2,l1.1,l2.1,by lia,f.sh w (.bl _) q⟩
theorem gn:jS K (Pw K) nc:=by
 intro Hs H m x v As n y u Bs Qd Qv w rx ry h f
 have r1:=rx.rep w
 have r2:=ry.rep w
 have d:=fun h=>eq_data (Qd:=Qd) (Qv:=Qv) w r1 r2 f h
 cases r1 with
 |int i=>cases r2 with
  |int j=>exact f.sh w (.bl _) h
  |_=>exact d h
 |str i=>cases r2 with
  |str j=>exact f.sh w (.bl _) h
  |_=>exact d h
 |bl i=>cases r2 with
  |bl j=>exact f.sh w (.bl _) h
  |_=>exact d h
 |_=>exact d h
theorem Fb:jS K (Px K) Nn:=by
 intro Hs H m x v As n y u Bs Qd Qv w rx ry h f
 have r1:=rx.rep w
 have r2:=ry.rep w
 have d:=fun h=>ne_data (Qd:=Qd) (Qv:=Qv) w r1 r2 f h
 cases r1 with
 |int i=>cases r2 with
  |int j=>exact f.sh w (.bl _) h
  |_=>exact d h
 |str i=>cases r2 with
  |str j=>exact f.sh w (.bl _) h
  |_=>exact d h
 |bl i=>cases r2 with
  |bl j=>exact f.sh w (.bl _) h
  |_=>exact d h
 |_=>exact d h
theorem Dh{H:Hp}{x:D}{v:V}(r:Rep K H x v):decide (v=V.non)=x.PZ:=by
 cases r<;>first|rfl|exact decide_eq_false (fun z=>nomatch z)
theorem A_:jS K (fun x y H Q=>y=.non/\Q (.bl (decide (x=.non))) H) P0:=by
 intro Hs H m x v As n y u Bs Qd Qv w rx ry h f
 have r1:=rx.rep w
 have r2:=ry.rep w
 have e:=Dh r1
 cases r2 with
 |non=>exact⟨rfl,by rw[e];exact f.sh w (.bl _) h⟩
 |_=>exact h.elim
theorem jM{H:Hp}{x:D}{v:V}(r:Rep K H x v)(h:gR x=true):An v=true:=by
 cases r<;>first|rfl|(simp[gR] at h)
theorem Ce{H:Hp}{x y:D}{v u:V}(r:Rep K H x v)(s:Rep K H y u)(h:gR x=true)(g:gR y=true):BD v u=gS x y:=by
 cases r<;>simp[gR] at h<;>cases s<;>simp[gR] at g<;>rfl
theorem GD{H:Hp}{x:D}{v:V}(r:Rep K H x v)(h:gR x=true){ys:List D}{us:List V}(rs:aI K H ys us)(g:ys.all gR=true):us.all An=true/\Pj v us=inD x ys:=by
 induction ys generalizing us with
 |nil=>rw[rs.n0];exact⟨rfl,rfl⟩
 |cons y ys ih =>
  obtain⟨u,us,rfl,s,ss⟩:=rs.c
  simp only[AX,lI] at g
  obtain⟨e1,e2⟩:=ih ss g.2
  refine⟨by simp only[AX,jM s g.1,e1,Bool.and_self],?_⟩
  unfold Pj inD at *
  rw[AY,AY,e2,Ce s r g.1 h]
theorem qD{κ:Type}[DecidableEq κ]{H:Hp}{k:κ}{kvs:List (κ × D)}{vs:List V}(r:aI K H (kvs.map (·.2)) vs):(nX ((kvs.map (·.1)).zip vs) k).isSome=(dP kvs k).isSome:=by
 have:=zip_get (k:=k) r
 split at this
 ·rename_i e
  obtain⟨v,e1,_⟩:=this
  rw[e1,e];rfl
 ·rename_i e
  rw[this,e];rfl
theorem Gx{neg:Bool}:jS K (Pz K neg) (Np neg):=by
 intro Hs H m x v As n y u Bs Qd Qv w rx ry h f
 have r1:=rx.rep w
 have r2:=ry.rep w
 cases r2 with
 |str j=>cases r1 with
  |str i=>exact f.sh w (.bl _) h
  |_=>exact h.elim
 |list z s q =>
  obtain⟨h1,h2,h3⟩:=h
  obtain⟨e1,e2⟩:=GD r1 h1 q h2
  have h4:=jM r1 h1
  have g:Pk K neg v (.ref _) H Qv:=⟨_,_,rfl,.inl s,h4,e1,by rw[e2];exact f.sh w (.bl _) h3⟩
  cases r1<;>exact .inr g
 |tup _ s q =>
  obtain⟨h1,h2,h3⟩:=h
  obtain⟨e1,e2⟩:=GD r1 h1 q h2
  have h4:=jM r1 h1
  have g:Pk K neg v (.ref _) H Qv:=⟨_,_,rfl,.inr (.inl (.inl s)),h4,e1,by rw[e2];exact f.sh w (.bl _) h3⟩
  cases r1<;>exact .inr g
 |dK kk e q =>
  obtain⟨k,hk,h3⟩:=h
  have ev:=r1.key hk
  subst ev
  have eg:=qD (k:=k) q
  cases k<;>exact .inl ⟨_,kL.k' e,by rw[eg];exact f.sh w (.bl _) h3⟩
 |dT kk e q =>
  cases r1 with
  |tup t1 e1 q1 =>
   obtain⟨ks,hk,h3⟩:=h
   obtain⟨b,eb,e2⟩:=Rep.mn (.tup t1 e1 q1) hk
   cases eb
   have eg:=qD (k:=ks) q
   exact .inl ⟨_,kL.t' e e2,by rw[eg];exact f.sh w (.bl _) h3⟩
  |_=>exact h.elim
 |_=>exact h.elim
end
section
variable {X:Cx}{K:PySem.W.Frag}{a b:Expr}{ta tb:WE}{pos:Pos}
theorem Jm(hK:X.K=K:=by rfl):cE X (binaryOp .Add) (fun x y H Q=>zU K x y H Q\/RL K x y H Q):=by subst hK;exact Ca.or aw'
theorem bQ(ha:QE X K a ta)(hb:QE X K b tb)(hK:X.K=K:=by rfl):QE X K (.BinOp a .Add b pos) (ax fo ta tb):=Fm (Jm hK) Gg ha hb
theorem Hm(ha:QE X K a ta)(hb:QE X K b tb):QE X K (.BinOp a .Sub b pos) (ax Nk ta tb):=Fm D_ G5 ha hb
theorem gB(ha:QE X K a ta)(hb:QE X K b tb):QE X K (.BinOp a .Mult b pos) (ax oa ta tb):=Fm Cq Hi ha hb
theorem uA(ha:QE X K a ta)(hb:QE X K b tb):QE X K (.BinOp a .FloorDiv b pos) (ax B5 ta tb):=Fm DR GJ ha hb
theorem kZ(ha:QE X K a ta)(hb:QE X K b tb):QE X K (.BinOp a .Mod b pos) (ax sT ta tb):=Fm Dw Fv ha hb
theorem Im(ha:QE X K a ta)(hb:QE X K b tb):QE X K (.BinOp a .Pow b pos) (ax PY ta tb):=Fm Eg G3 ha hb
def JY:W1:=fun _ x Q=>match x with
 |.int i=>Q .sh (.int (-i))
 |_=>False
theorem FQ:S0 K (rU fun i=>.int (-i)) JY:=by
 intro Hs H m x v As Qd Qv w rx h f
 have r1:=rx.rep w
 cases r1 with
 |int i=>exact⟨i,rfl,f.sh w (.int _) h⟩
 |_=>exact h.elim
theorem Cy(ha:QE X K a ta):QE X K (.UnaryOp .USub a pos) (g9 JY ta):=cF' ZR FQ ha
end
def b4:WA:=fun _ Q=>Q []
def aj(te:WE)(t:WA):WA:=fun ρ Q=>te ρ fun m x=>t ρ fun ps=>Q ((m,x) :: ps)
def AK:Md × D->Bool
 | (.sh,_)=>true
 | (_,d)=>d.flat
def Kb:Md × D->Bool
 | (.bo,d)=>d.flat
 |_=>true
def Fs:Md × D->Bool
 | (.ow true,_)=>true
 | (_,d)=>d.flat
def CQ(ps:List (Md × D)):Md:=bif ps.all AK then .sh else bif ps.all Kb then .ow (ps.all Fs) else .bo
def Cm(ps:List (Md × D)):Md:=bif ps.all Kb then .ow (ps.all Fs) else .bo
def og(t:WA):WE:=fun ρ Q=>t ρ fun ps=>ps.length<=sizeLine/\Q (CQ ps) (.tup (ps.map (·.2)))
def tf(t:WA):WE:=fun ρ Q=>t ρ fun ps=>ps.length<=sizeLine/\Q (Cm ps) (.list (ps.map (·.2)))
section
variable {X:Cx}{K:PySem.W.Frag}{e:Expr}{es:List Expr}{te:WE}{t:WA}{pos:Pos}{Hs H:Hp}
theorem ao:QA X K [] b4:=PA.imp sL fun σ H Qv hx=>i3 hx fun Hs ρ ae Q sr h f=>f [] H Hs [] [] (eL.refl sr.wf) .nil cU.nil h
theorem cU.app{aE ay H1:Hp}{As Bs:List Addr}(f1:cU aE H As)(o:∀ a∈As,H1 a≠none)(f2:cU ay H1 Bs)(s:aC H H1)(k:∀ a,aE a=none->H1 a≠none->ay a=none):cU ay H (As++Bs) :=
 ⟨i7.mpr ⟨f1.1,f2.1,fun a ha b hb e=>by subst e;exact o a ha (f2.2 a hb).2⟩,fun a h=>by
  rcases dy.mp h with h|h
  ·exact⟨k a (f1.2 a h).1 (o a h),(f1.2 a h).2⟩
  ·exact⟨(f2.2 a h).1,s.free (f2.2 a h).2⟩⟩
theorem aa(ha:QE X K e te)(hr:QA X K es t)(hs:starEach (e :: es) X.env=(false,eval e X.env) :: starEach es X.env:=by rfl):QA X K (e :: es) (aj te t):=by
 refine PA.imp (oz ha hr hs) fun σ H Qv hx=>i3 hx fun Hs ρ ae Q sr h f=>?_
 refine⟨Hs,ρ,ae,_,sr,h,fun v H1 aE m x As g1 r1 f1 q1=>⟨aE,ρ,ae,_,sr.grow g1,q1,fun vs H2 ay ps Bs g2 r2 f2 q2=>?_⟩⟩
 exact f (v :: vs) H2 ay _ _ (g1.trans g2) (.cons (r1.grow g2) r2) (f1.app (fun a h=>(r1.own a h).ne) f2 g1.all fun a h1 h2=>g2.qq h1 h2) q2
theorem AI.sh(w:Wf Hs H){ps:List (Md × D)}{vs:List V}{As:List Addr}(r:AI K Hs H ps vs As):ps.all AK=true->aI K Hs (ps.map (·.2)) vs:=by
 induction r with
 |nil=>exact fun _=>.nil
 |@cons m d v ps vs As Bs r rs ih =>
  intro h
  simp only[AX,lI] at h
  refine .cons ?_ (ih h.2)
  cases m with
  |sh=>exact r.2
  |ow fl=>exact r.flat w h.1
  |bo=>exact r.flat w h.1
theorem AI.ow{fl:Bool}(w:Wf Hs H){ps:List (Md × D)}{vs:List V}{As:List Addr}(r:AI K Hs H ps vs As):ps.all Kb=true->(fl=true->ps.all Fs=true)->∃ Bs,Bs.Sublist As/\(ps.all AK=false->Bs≠[])/\aD K Hs H fl (ps.map (·.2)) vs Bs:=by
 induction r with
 |nil=>exact fun _ _=>⟨[],GU _,(fun z=>Bool.noConfusion z),.nil⟩
 |@cons m d v ps vs A1 Cs r rs ih =>
  intro h hf
  simp only[AX,lI] at h hf
  obtain⟨Bs,sb,ne,q⟩:=ih h.2 fun z=>(hf z).2
  have sk:([]++Bs).Sublist (A1++Cs):=by simpa using sb.trans (px _ _)
  have A4:d.flat=true->AK (m,d)=true->∃ Bs,Bs.Sublist (A1++Cs)/\(((m,d) :: ps).all AK=false->Bs≠[])/\aD K Hs H fl (((m,d) :: ps).map (·.2)) (v :: vs) Bs:=fun hd ho =>
   ⟨[]++Bs,sk,fun z=>ne (by rw[AX,ho] at z;simpa using z),.cons (.sh (fun _=>hd) (r.flat w hd)) q⟩
  cases m with
  |sh=>exact⟨[]++Bs,sk,fun z=>ne (by simpa[AK] using z),.cons (.sh (fun z=>(hf z).1) r.2) q⟩
  |bo=>exact A4 h.1 h.1
  |ow b =>
   cases hd:d.flat with
   |true=>exact A4 hd hd
   |false =>
    refine⟨A1++Bs,sb.append_left _,fun _ z=>r.2 (LP.mp z).1,.cons ?_ q⟩
    cases fl with
    |false=>exact bI.PQ r.1
    |true =>
     have:=(hf rfl).1
     cases b with
     |true=>exact r.1
     |false=>simp[Fs,hd] at this
theorem tO:∀ {ps:List (Md × D)},cv (ps.map (·.2))=true->ps.all AK=true
 |[],_=>rfl
 | (m,d) :: ps,h=>by
  simp only[fz,cv,lI] at h
  simp only[AX,lI]
  exact⟨by cases m<;>simp[AK,h.1],tO h.2⟩
theorem fY{x1}(h:QA X K es t):QE X K (.Tuple es x1 pos) (og t):=by
 refine PE.imp (Z_ h) fun σ H Qv hx=>i3 hx fun Hs ρ ae Q sr h f=>?_
 refine⟨Hs,ρ,ae,_,sr,h,fun vs H1 aE ps As g1 r1 f1 q1=>?_⟩
 obtain⟨hz,q⟩:=q1
 have rl:=(r1.reps g1.wf)
 have hl:=rl.length
 rw[cK] at hl
 refine⟨by lia,fun p hp=>?_⟩
 have g2:=SY (vs:=vs) g1.wf hp
 have fin:=Fin.after f g1
 unfold CQ at q
 cases h1:ps.all AK with
 |true =>
  rw[h1] at q
  exact fin _ _ _ .sh _ [] g2 ⟨rfl,.tup (by lia) ki ((r1.sh g1.wf h1).same g2.sh)⟩ cU.nil q
 |false =>
  rw[h1] at q
  cases h2:ps.all Kb with
  |false =>
   rw[h2] at q
   exact fin _ _ _ .bo _ [] g2 ⟨rfl,.tup (by lia) ki (rl.same g2.all)⟩ cU.nil q
  |true =>
   rw[h2] at q
   obtain⟨Bs,sb,nz,ro⟩:=r1.ow (fl:=ps.all Fs) g1.wf h2 fun z=>z
   have jv:cv (ps.map (·.2))=false:=by
    cases hf:cv (ps.map (·.2)) with
    |false=>rfl
    |true=>rw[tO hf] at h1;cases h1
   have own:=ro.own
   refine f _ _ _ (.ow _) _ Bs (g1.trans g2) ⟨.tup (by lia) ki jv (ro.grow g2.sh g2.all),nz h1⟩ ⟨sb.nodup f1.1,fun a ha=>⟨?_,(f1.2 a (sb.subset ha)).2⟩⟩ q
   exact g2.qq (f1.2 a (sb.subset ha)).1 (own a ha).ne
theorem ju(h:QA X K es t):QE X K (.List es pos) (tf t):=by
 refine PE.imp (aa' h) fun σ H Qv hx=>i3 hx fun Hs ρ ae Q sr h f=>?_
 refine⟨Hs,ρ,ae,_,sr,h,fun vs H1 aE ps As g1 r1 f1 q1=>?_⟩
 obtain⟨hz,q⟩:=q1
 have rl:=(r1.reps g1.wf)
 have hl:=rl.length
 rw[cK] at hl
 refine⟨by lia,fun p hp=>?_⟩
 have g2:=PR (o:=.lst vs) g1.wf hp fun _ z=>nomatch z
 have fin:=Fin.after f g1
 unfold Cm at q
 cases h2:ps.all Kb with
 |false =>
  rw[h2] at q
  exact fin _ _ _ .bo _ [] g2 ⟨rfl,.list (by lia) (.inl (.inl ki)) (rl.same g2.all)⟩ cU.nil q
 |true =>
  rw[h2] at q
  obtain⟨Bs,sb,nz,ro⟩:=r1.ow (fl:=ps.all Fs) g1.wf h2 fun z=>z
  have own:=ro.own
  refine f _ _ _ (.ow _) _ (p :: Bs) (g1.trans g2) ⟨.list (by lia) ki (ro.grow g2.sh g2.all),by simp⟩ ⟨ly.mpr ⟨fun m=>(own p m).ne hp,sb.nodup f1.1⟩,fun a ha=>?_⟩ q
  rcases cS.mp ha with rfl|ha
  ·exact⟨g1.wf.sub.free hp,g1.all.free hp⟩
  ·exact⟨g2.qq (f1.2 a (sb.subset ha)).1 (own a ha).ne,(f1.2 a (sb.subset ha)).2⟩
end
theorem aI.fq{K:PySem.W.Frag}{H:Hp}{ds:List D}{vs:List V}{i:Int}{d:D}(r:aI K H ds vs)(h:fq ds i=some d):∃ v,L2.fq vs i=some v/\Rep K H d v:=by
 unfold L2.fq at *
 rw[<- r.length]
 cases e:oC ds.length i with
 |none=>rw[e] at h;cases h
 |some j =>
  rw[e] at h
  exact r.get h
def fv:W2:=fun m x _ y Q=>match x with
 |.list xs=>match y with
  |.int i=>∃ d,fq xs i=some d/\bS d (f:=fun d=>Q (kX m d) d) ⟨⟩
  |_=>False
 |.tup xs=>match y with
  |.int i=>∃ d,fq xs i=some d/\bS d (f:=fun d=>Q (kX m d) d) ⟨⟩
  |_=>False
 |.str z=>match y with
  |.int i=>∃ c,fq z.cps.toList i=some c/\Q .sh (.str ⟨#[c]⟩)
  |_=>False
 |.dK kvs=>∃ k d,y.key1=some k/\dP kvs k=some d/\bS d (f:=fun d=>Q (kX m d) d) ⟨⟩
 |.dT kvs=>match y with
  |.tup ys=>∃ ks d,eE ys=some ks/\dP kvs ks=some d/\bS d (f:=fun d=>Q (kX m d) d) ⟨⟩
  |_=>False
 |_=>False
def S_(K:PySem.W.Frag):R2:=fun x y H Q=>Sg K x y H Q\/∃ a v,x=.ref a/\kL H a y (some v)/\Q v H
theorem Cr(c:Nat):(⟨#[c]⟩:Str).length<=sizeLine:=by show 1<=sizeLine;decide
theorem RM.here{K:PySem.W.Frag}{Hs H:Hp}{m:Md}{d:D}{v:V}{As:List Addr}(w:Wf Hs H)(r:RM K Hs H m d v As):(m=.sh/\Rep K Hs d v)\/(m≠.sh/\Rep K H d v):=by
 cases m with
 |sh=>exact .inl ⟨rfl,r.2⟩
 |ow fl=>exact .inr ⟨(fun z=>nomatch z),r.rep w⟩
 |bo=>exact .inr ⟨(fun z=>nomatch z),r.2⟩
section
variable {X:Cx}{K:PySem.W.Frag}
theorem Ih:jS K (S_ K) fv:=by
 intro Hs H m x v As n y u Bs Qd Qv w rx ry h f
 have r2:=ry.rep w
 have core:∀ G:Hp,aC G H->(∀ d v,Rep K G d v->Rep K H d v/\(m=.sh->Rep K Hs d v))->Rep K G x v->S_ K v u H Qv:=by
  intro G sg up r1
  cases r1 with
  |list z s q =>
   cases r2 with
   |int i =>
    obtain⟨d,e,h⟩:=h
    obtain⟨v',e',r'⟩:=q.fq e
    obtain⟨u1,u2⟩:=up _ _ r'
    exact .inl (.inl ⟨_,v',aC.seq sg s,e',f.kX w u1 u2 h⟩)
   |_=>exact h.elim
  |tup _ s q =>
   cases r2 with
   |int i =>
    obtain⟨d,e,h⟩:=h
    obtain⟨v',e',r'⟩:=q.fq e
    obtain⟨u1,u2⟩:=up _ _ r'
    exact .inl (.inr ⟨_,v',.inl (.inl (sg _ _ s)),e',f.kX w u1 u2 h⟩)
   |_=>exact h.elim
  |str hz =>
   cases r2 with
   |int i =>
    obtain⟨c,e,h⟩:=h
    exact .inl ⟨hz,c,e,f.sh w (.str (Cr c)) h⟩
   |_=>exact h.elim
  |dK kk s q =>
   obtain⟨k,d,hk,hg,h⟩:=h
   have ev:=r2.key hk
   subst ev
   have z:=zip_get (k:=k) q
   rw[hg] at z
   obtain⟨v',e',r'⟩:=z
   obtain⟨u1,u2⟩:=up _ _ r'
   exact .inr ⟨_,v',rfl,by rw[<- e'];exact kL.k' (aC.rd sg s),f.kX w u1 u2 h⟩
  |dT kk s q =>
   cases r2 with
   |tup t2 e2 q2 =>
    obtain⟨ks,d,hk,hg,h⟩:=h
    obtain⟨b,eb,e3⟩:=Rep.mn (.tup t2 e2 q2) hk
    cases eb
    have z:=zip_get (k:=ks) q
    rw[hg] at z
    obtain⟨v',e',r'⟩:=z
    obtain⟨u1,u2⟩:=up _ _ r'
    exact .inr ⟨_,v',rfl,by rw[<- e'];exact kL.t' (aC.rd sg s) e3,f.kX w u1 u2 h⟩
   |_=>exact h.elim
  |_=>exact h.elim
 rcases rx.here w with⟨hm,r⟩|⟨hm,r⟩
 ·exact core Hs w.sub (fun d v q=>And.intro (q.same w.sub) fun _=>q) r
 ·exact core H (aC.refl H) (fun d v q=>And.intro q fun z=>absurd z hm) r
theorem Xb(hu:X.A.units+64<cLine)(hK:X.K=K:=by rfl):wt X (S_ K):=by
 subst hK
 refine wt.or FN ?_
 intro value slice pins s σ H x y v u Q I rx ry h hs
 obtain⟨a,w,rfl,g,q⟩:=h
 cases rx
 exact tail_any (aZ' I g) F.slot_dict_getitem.lookup (aT' (by lia) I g ry fun w' s3 I3 oD=>⟨w,H,I3,oD,q⟩) hs
variable {a b:Expr}{ta tb:WE}{pos:Pos}
theorem gp(hu:X.A.units+64<cLine)(ha:QE X K a ta)(hb:QE X K b tb)(hs:RQ b:=by exact fun _ _=>rfl)(hK:X.K=K:=by rfl):QE X K (.Subscript a b pos) (ax fv ta tb):=PE.imp (VZ (Xb hu hK) ha hb hs) (kh Ih)
end
def pd{α:Type}(xs:List α)(lo hi:Option Int):List α:=(xs.drop (HT.bG xs.length 0 lo)).take (HT.bG xs.length xs.length hi-HT.bG xs.length 0 lo)
abbrev WO:=Env->(Option Int->Prop)->Prop
def vm(t:WE):WO:=fun ρ Q=>t ρ fun _ x=>match x with
 |.int i=>Q (some i)
 |_=>False
def P1(m:Md)(x:D)(lo hi:Option Int)(Q:Md->D->Prop):Prop:=match x with
 |.str z=>Q .sh (.str (x5 z lo hi))
 |.list xs=>(cv xs=true/\Q (.ow true) (.list (pd xs lo hi)))\/(m=.sh/\Q (.ow false) (.list (pd xs lo hi)))
 |.tup xs=>cv xs=true/\¬ (HT.bG xs.length 0 lo=0/\HT.bG xs.length xs.length hi=xs.length)/\Q .sh (.tup (pd xs lo hi))
 |_=>False
def Ta(te:WE)(tl th:WO):WE:=fun ρ Q=>te ρ fun m x=>tl ρ fun lo=>th ρ fun hi=>P1 m x lo hi Q
def tpO(K:PySem.W.Frag)(t:WO):TO:=fun σ H Qv=>∃ Hs ρ ae Q,dv K Hs ρ σ H ae/\t ρ Q/\∀ o H' av,eL Hs H av H'->Q o->Qv o H'
abbrev QO(X:Cx)(K:PySem.W.Frag)(e:Option Expr)(t:WO):Prop:=PO X e (tpO K t)
theorem yI(z:Str)(lo hi:Option Int):(x5 z lo hi).length<=z.length:=by
 unfold x5 Str.length
 simp only[kf,nv,CL,A3]
 lia
theorem nU{α:Type}(xs:List α)(lo hi:Option Int):(pd xs lo hi).length<=xs.length:=by
 unfold pd
 rw[nv,CL]
 lia
theorem qP{xs:List D}{lo hi:Option Int}(h:cv xs=true):cv (pd xs lo hi)=true:=by
 rw[jT] at *
 intro x hx
 exact h x (QN (Og hx))
section
variable {X:Cx}{K:PySem.W.Frag}{e:Expr}{lo hi:Option Expr}{te:WE}{tl th:WO}{pos p2:Pos}
theorem xQ(h:QE X K e te):QO X K (some e) (vm te):=fun pins s σ H Q I hh=>aq' h pins s σ H Q I (by
 obtain⟨Hs,ρ,ae,Qd,sr,h,f⟩:=hh
 refine⟨Hs,ρ,ae,_,sr,h,fun v H1 aE m x As g1 r1 f1 q1=>?_⟩
 have r:=r1.rep g1.wf
 cases r with
 |int i=>exact⟨i,rfl,f _ H1 aE g1 q1⟩
 |_=>exact q1.elim)
theorem kO{H:Hp}{ds:List D}{vs:List V}{lo hi:Option Int}(r:aI K H ds vs):aI K H (pd ds lo hi) (Bz vs lo hi):=by
 unfold pd Bz
 rw[r.length]
 exact(r.drop _).take _
theorem cK'(hK:X.K=K:=by rfl):Iy X (fun x lo hi H Q=>Sh K x lo hi H Q\/VY K x lo hi H Q):=by
 subst hK
 intro pins s σ H x v vl vu lo hi sl Q I rx hs pl pu h
 rcases h with h|h
 ·exact Gj pins s σ H x v vl vu lo hi sl Q I rx hs pl pu h
 ·exact av' pins s σ H x v vl vu lo hi sl Q I rx hs pl pu h
theorem CJ(he:QE X K e te)(hl:QO X K lo tl)(hh:QO X K hi th)(hK:X.K=K:=by rfl):QE X K (.Subscript e (.Slice lo hi none p2) pos) (Ta te tl th):=by
 refine PE.imp (au' (cK' hK) he hl hh) fun σ H Qv hx=>i3 hx fun Hs ρ ae Q sr h f=>?_
 refine⟨Hs,ρ,ae,_,sr,h,fun v H1 aE m x As g1 r1 f1 q1=>⟨aE,ρ,ae,_,sr.grow g1,q1,fun l H2 ay g2 q2=>⟨ay,ρ,ae,_,(sr.grow g1).grow g2,q2,fun u H3 eh g3 q3=>?_⟩⟩⟩
 have r3:=(r1.grow g2).grow g3
 have fin:Fin K eh H3 Q Qv:=Fin.after f ((g1.trans g2).trans g3)
 have rr:=r3.rep g3.wf
 cases rr with
 |str hz=>exact .inl ⟨hz,fin.sh g3.wf (.str (iN (yI _ _ _) hz)) q3⟩
 |list z s q =>
  have hz:=q.length
  rcases q3 with⟨hf,q3⟩|⟨rfl,q3⟩
  ·exact .inl ⟨_,s,fin.lst g3.wf (iN (nU _ _ _) (by lia)) (kO q) (qP hf) q3⟩
  ·obtain⟨_,r3⟩:=r3
   cases r3 with
   |list z' s' q' =>
    have hz:=q'.length
    exact .inl ⟨_,aC.seq g3.wf.sub s',fin.Nh g3.wf (iN (nU _ _ _) (by lia)) (kO q') q3⟩
 |tup z s q =>
  have hz:=q.length
  obtain⟨hf,hn,q3⟩:=q3
  exact .inr ⟨_,_,rfl,.inl (.inl s),by rw[<- hz];exact hn,fin.tup g3.wf (iN (nU _ _ _) (by lia)) (kO q) (qP hf) q3⟩
 |_=>exact q3.elim
end
def vk:W1:=fun _ x Q=>match x with
 |.str z=>Q .sh (.int z.length)
 |.list xs=>Q .sh (.int xs.length)
 |.tup xs=>Q .sh (.int xs.length)
 |.dK kvs=>Q .sh (.int kvs.length)
 |.dT kvs=>Q .sh (.int kvs.length)
 |_=>False
def P4(T:String):W1:=fun _ x Q=>Q .sh (.bl (II x.ty T))
def AO(K:PySem.W.Frag)(r:List V->Hp->VK->Prop)(f:W1):Prop:=∀ Hs H m x v As Qd Qv,Wf Hs H->RM K Hs H m x v As->f m x Qd->Fin K Hs H Qd Qv->r [v] H Qv
section
variable {X:Cx}{K:PySem.W.Frag}{e:Expr}{te:WE}{pos p:Pos}{x:Str}{id T:String}
theorem mU{r:List V->Hp->VK->Prop}{f:W1}(br:AO K r f)(σ:St)(H:Hp)(Qv:VK)(h:kS K (g9 f te) σ H Qv):RJ r (VG (kS K te) VF) σ H Qv:=by
 obtain⟨Hs,ρ,ae,Q,sr,h,fin⟩:=h
 exact⟨Hs,ρ,ae,_,sr,h,fun v H1 aE m x As g1 r1 f1 q1=>br aE H1 m x v As Q Qv g1.wf r1 q1 (Fin.after fin g1)⟩
theorem cF{r:List V->Hp->VK->Prop}{f:W1}(hc:iO X (.builtin id) r)(br:AO K r f)(hg:Gl X x)(hm:X.mg x=none)(hv:bootBuiltins x=some (.builtin id))(he:QE X K e te)
  (hs:starEach [e] X.env=(false,eval e X.env) :: starEach [] X.env:=by rfl) (hn:x ≠ "__name__" := by decide) (iP:(x == ("__debug__" : Str))=false:=by decide):QE X K (.Call (.Name x p) [e] [] pos) (g9 f te) :=
 PE.imp (O_ hc hg hm hv (oz he sL hs) hn iP hs) (mU br)
theorem ou{r:List V->Hp->VK->Prop}{f:W1}(hc:iO X (.type T) r)(br:AO K r f)(hg:Gl X x)(hm:X.mg x=none)(hv:bootBuiltins x=some (.type T))(he:QE X K e te)
  (hs:starEach [e] X.env=(false,eval e X.env) :: starEach [] X.env:=by rfl) (hn:x ≠ "__name__" := by decide) (iP:(x == ("__debug__" : Str))=false:=by decide):QE X K (.Call (.Name x p) [e] [] pos) (g9 f te) :=
 PE.imp (ag' hc hg hm hv (oz he sL hs) hn iP hs) (mU br)
theorem Ds{prog:Program}{w:World}{A:Around}{E:Value->Shared->Prop}{s:Shared}{d:Addr}{es:PB}{ep:Nat}{Q:Value->Shared->Prop}(hd:(d == sysModules)=false)(x:sP s.heap d es ep)(Xc:(es.size:Int)<2 ^ 63)
  (h:∀ t t',Q (.int es.size t) { s with toks:=t' }):wpAny (model prog w) A (call (.builtin "len") [.ref d]) Q E s:=by
 refine Calls.call_function_entry kind_len plain_len entry_len (args_len1 _) ?_
 have mt:MeetsIn prog w (Builtin.«dict.__len__» ⟨[.ref d],[]⟩) (fun _ R s=>sP s.heap d es ep/\R (.ok (.ret (.int es.size s.toks))) { s with toks:=s.toks+1 }):=.of_wp fun A R s dc=>by
  obtain⟨hm,h⟩:=dc
  obtain⟨o,ho,hc,PC⟩:=hm
  show wpAny _ _ (dictSize d >>= _) _ _ s
  unfold dictSize
  refine ai (ai (wpAny_dictEntries ho PC (aS ?_)))
  show wpAny _ _ (Builtin.Dict.pendingCount d >>= _) _ _ s
  refine ai (wpAny_pendingCount_other hd ?_)
  refine wpAny_ret_mkInt ?_
  rw[HG];exact h
 unfold Builtin.«len»
 refine ai (m:=oneArg "len" _) (aS ?_)
 refine ai (m:=callSpecial? (.ref d) (Str.ofString "__len__")) (wpAny_callSpecial?_slot (name:=Str.ofString "__len__") x.typ F.slot_dict_len
  (call_meetsIn F.slot_dict_len x.typ F.entry_dict_len (F.args_dict_len_1 _) mt ⟨x,?_⟩))
 show wpAny _ _ _ _ _ { s with toks:=s.toks+1 }
 refine ai (wpAny_holding (aS ?_))
 refine ai (wpAny_letGo ?_)
 show wpAny _ _ (if ((es.size:Nat):Int)<0 then _ else _) _ _ _
 rw[if_neg (by lia)]
 show wpAny _ _ (if ((es.size:Nat):Int) >= 2 ^ 63 then _ else _) _ _ _
 rw[if_neg (by lia)]
 exact ai (wpAny_mkInt (aS ⟨_,rfl,h _ _⟩))
theorem bR (hK:X.K=K:=by rfl):iO X (.builtin "len") (fun xs H Q=>Pu K xs H Q\/∃ a kvs,xs=[.ref a]/\Rd H a (.dT kvs)/\Q (.int kvs.length) H):=by
 subst hK
 intro pins s σ H xs us Q I r h
 rcases h with h|⟨a,kvs,rfl,ha,q⟩
 ·exact vG pins s σ H xs us Q I r h
 ·obtain⟨u,rfl,ru⟩:=Vals.one r
  cases ru
  obtain⟨z,hd,ys,rel,o,es,ep,h1,h2,h3,h4,h5⟩:=(show eT X.prog X.w H s.heap a (.dT kvs) from I.rd ha)
  have hl:es.size=kvs.length:=by
   have:=congrArg List.length h4
   rw[A3,cK] at this
   rw[this];exact rel.length.symm
  exact Ds hd ⟨o,h1,h2,h3⟩ (by rw[sizeLine_eq] at z;lia) fun t t'=>⟨.int kvs.length,H,I.tok _,⟨t,by rw[hl]⟩,q⟩
theorem iB:AO K (fun xs H Q=>Pu K xs H Q\/∃ a kvs,xs=[.ref a]/\Rd H a (.dT kvs)/\Q (.int kvs.length) H) vk:=by
 intro Hs H m x v As Qd Qv w rx h f
 have r1:=rx.rep w
 cases r1 with
 |str hz=>exact .inl ⟨hz,f.sh w (.int _) h⟩
 |list z s q=>exact .inl (.inl ⟨_,s,by rw[<- q.length];exact f.sh w (.int _) h⟩)
 |tup _ s q=>exact .inl (.inr (.inl ⟨_,.inl (.inl s),by rw[<- q.length];exact f.sh w (.int _) h⟩))
 |dK kk s q=>exact .inl (.inr (.inr ⟨_,s,by
   have:=q.length
   rw[cK] at this
   rw[Om,cK,<- this,Ot]
   exact f.sh w (.int _) h⟩))
 |dT kk s q=>exact .inr ⟨_,_,rfl,s,by
   have:=q.length
   rw[cK] at this
   rw[Om,cK,<- this,Ot]
   exact f.sh w (.int _) h⟩
 |_=>exact h.elim
end
section
variable {X:Cx}{K:PySem.W.Frag}{e e2:Expr}{te:WE}{pos p:Pos}{T:String}
theorem vJ (hK:X.K=K:=by rfl):iO X (.builtin "isinstance") (fun xs H Q=>∃ x d T,xs=[x,.ty T]/\Rep K H d x/\Sb T=true/\Q (.bl (II d.ty T)) H):=by
 subst hK
 intro pins s σ H xs us Q I r h
 obtain⟨x,d,T,rfl,rd,hT,q⟩:=h
 obtain⟨u,v,rfl,ru,rv⟩:=Vals.two r
 obtain rfl:v=Value.type T:=rv
 have hb:T∈["str", "int", "bool", "list", "tuple", "dict"]:=by simpa[Sb] using hT
 have fin:∀ tk,EP X pins σ Q (.bool (II d.ty T)) { s with toks:=tk }:=fun tk=>⟨.bl (II d.ty T),H,I.tok tk,rfl,q⟩
 cases rd with
 |non=>exact ML I ru .non (jt X.K _ T (by simp) hb) fin
 |bl b=>exact ML I ru (.bl b) (jt X.K _ T (by simp) hb) fin
 |int i=>exact ML I ru (.int i) (jt X.K _ T (by simp) hb) fin
 |str y=>exact ML I ru (.str _) (jt X.K _ T (by simp) hb) fin
 |list z s' q' =>
  cases ru
  obtain⟨its,_,pl,_⟩:=I.list s'
  obtain⟨o,h1,h2,_⟩:=pl.isList
  exact PySem.W.kia_one PySem.W.kitx_list I.kr ⟨o,h1,h2⟩ (jt X.K "list" T (by simp) hb) (fun z=>nomatch z) fin
 |tup _ s' q'=>exact ML I ru (.tup s') (jt X.K _ T (by simp) hb) fin
 |dK _ s' q' =>
  cases ru
  obtain⟨_,_,vs,_,p⟩:=I.rd s'
  obtain⟨o,es,ep,h1,h2,_⟩:=p
  exact PySem.W.kia_one PySem.W.kitx_dict I.kr ⟨o,h1,h2.1⟩ (jt X.K "dict" T (by simp) hb) (fun z=>nomatch z) fin
 |dT _ s' q' =>
  cases ru
  obtain⟨_,_,xs,_,o,es,ep,h1,h2,_⟩:=I.rd s'
  exact PySem.W.kia_one PySem.W.kitx_dict I.kr ⟨o,h1,h2.1⟩ (jt X.K "dict" T (by simp) hb) (fun z=>nomatch z) fin
theorem G9 (hm:X.mg "isinstance" = none) (he:QE X K e te) (ht:PE X e2 (tC (.ty T))) (hT:Sb T=true:=by rfl) (hg:Gl X "isinstance" := by rfl) (hK:X.K=K:=by rfl)
  (hs:starEach (e :: [e2]) X.env=(false,eval e X.env) :: starEach [e2] X.env:=by rfl) (sN:starEach (e2 :: []) X.env=(false,eval e2 X.env) :: starEach [] X.env:=by rfl) (gI:(backTo pos (starEach [e2] X.env)).any (·.1)=false:=by rfl) :
  QE X K (.Call (.Name "isinstance" p) [e,e2] [] pos) (g9 (P4 T) te):=by
 refine PE.imp (O_ (vJ hK) hg hm iz (oz he (oz ht sL sN) hs) (by decide) (by decide) hs gI) fun σ H Qv hx=>i3 hx fun Hs ρ ae Q sr h f=>?_
 refine⟨Hs,ρ,ae,_,sr,h,fun v H1 aE m x As g1 r1 f1 q1=>⟨v,x,T,rfl,r1.rep g1.wf,hT,Fin.sh (Fin.after f g1) g1.wf (.bl _) q1⟩⟩
end
def ti:Key->D
 |.inl i=>.int i
 |.inr x=>.str x
def yo:W1:=fun m x Q=>match x with
 |.list xs=>(cv xs=true/\Q (.ow true) (.list xs))\/(m=.sh/\Q (.ow false) (.list xs))
 |.tup xs=>(cv xs=true/\Q (.ow true) (.list xs))\/(m=.sh/\Q (.ow false) (.list xs))
 |.dT kvs=>Q (.ow true) (.list (kvs.map fun kv=>.tup (kv.1.map ti)))
 |_=>False
section
variable {X:Cx}{K:PySem.W.Frag}
theorem tZ{H:Hp}:∀ {ks:List Key},(∀ k∈ks,yi k=true)->aI K H (ks.map ti) (ks.map kV)
 |[],_=>.nil
 |k :: ks,h=>by
  refine .cons ?_ (tZ fun j m=>h j (cc _ m))
  have:=h k cf
  cases k with
  |inl i=>exact .int i
  |inr x=>exact .str (by simpa[yi] using this)
theorem pL:∀ (ks:List Key),cv (ks.map ti)=true
 |[]=>rfl
 |k :: ks=>by simp only[fz,cv,pL ks,Ow];cases k<;>rfl
theorem oY{H:Hp}{ks:List (List Key)}{ys:List V}(t:cT H ys ks)(h:∀ l∈ks,l.length<=sizeLine/\∀ k∈l,yi k=true):aI K H (ks.map fun l=>.tup (l.map ti)) ys:=by
 induction ys generalizing ks with
 |nil=>rw[show ks=[] from Paired.n0 t];exact .nil
 |cons y ys ih =>
  obtain⟨k,ks,rfl,⟨b,rfl,e⟩,t2⟩:=Paired.c t
  exact .cons (.tup (by rw[cK];exact(h _ cf).1) e (tZ (h _ cf).2)) (ih t2 fun l m=>h l (cc _ m))
theorem iD:∀ (ks:List (List Key)),cv (ks.map fun l=>.tup (l.map ti))=true
 |[]=>rfl
 |l :: ks=>by simp only[fz,cv,iD ks,Ow,D.flat,pL]
theorem mV (hc:X.calm=true:=by rfl) (hK:X.K=K:=by rfl):iO X (.type "list") (fun xs H Q=>(∃ p ys,xs=[.ref p]/\(dQ K H p ys\/oy K H p ys)/\∀ l,H l=none->Q (.ref l) (upd H l (.lst ys)))\/tG xs H Q):=by
 subst hK;exact aK'.or (uY hc)
theorem ye:AO K (fun xs H Q=>(∃ p ys,xs=[.ref p]/\(dQ K H p ys\/oy K H p ys)/\∀ l,H l=none->Q (.ref l) (upd H l (.lst ys)))\/tG xs H Q) yo:=by
 intro Hs H m x v As Qd Qv w rx h f
 have r1:=rx.rep w
 cases r1 with
 |list z s q =>
  have hl:=q.length
  rcases h with⟨hf,h⟩|⟨rfl,h⟩
  ·exact .inl ⟨_,_,rfl,.inl s,f.lst w (by lia) q hf h⟩
  ·obtain⟨_,rx⟩:=rx
   cases rx with
   |list z' s' q' =>
    have hl:=q'.length
    exact .inl ⟨_,_,rfl,.inl (aC.seq w.sub s'),f.Nh w (by lia) q' h⟩
 |tup z s q =>
  have hl:=q.length
  rcases h with⟨hf,h⟩|⟨rfl,h⟩
  ·exact .inl ⟨_,_,rfl,.inr (.inl (.inl s)),f.lst w (by lia) q hf h⟩
  ·obtain⟨_,rx⟩:=rx
   cases rx with
   |tup z' s' q' =>
    have hl:=q'.length
    exact .inl ⟨_,_,rfl,.inr (.inl (.inl (w.sub _ _ s'))),f.Nh w (by lia) q' h⟩
 |@dT _ vs kvs kk s q =>
  refine .inr ⟨_,s,fun ys l ht hl=>?_⟩
  have hlen:=q.length
  rw[cK] at hlen
  have e:((kvs.map (·.1)).zip vs).map (·.1)=kvs.map (·.1):=LZ (by rw[cK];exact HC hlen)
  rw[e] at ht
  have rr:=oY (K:=K) ht (fun l m=>by
   obtain⟨p,hp,rfl⟩:=dn.mp m
   exact kk.2 p hp)
  have ff:=iD (kvs.map (·.1))
  rw[kg] at rr ff
  exact f.lst w (by rw[cK];exact kk.1) rr ff h l hl
 |_=>exact h.elim
end
section
variable {K:PySem.W.Frag}{Hs H:Hp}
theorem SR.vQ{d:D}{v:V}(r:Rep K Hs d v){ρ:Env}{σ:St}{ae:List Addr}(i:Nat)(s:SR K Hs H ρ σ ae):∃ bX,bX.Sublist ae/\SR K Hs H (ρ.set i (some (.sh d))) (σ.set i (some v)) bX:=by
 induction s generalizing i with
 |nil=>exact⟨[],GU _,.nil⟩
 |non s ih =>
  cases i with
  |zero=>exact⟨_,List.Sublist.refl _,.sh r s⟩
  |succ i=>obtain⟨t,a,b⟩:=ih i;exact⟨t,a,.non b⟩
 |sh q s ih =>
  cases i with
  |zero=>exact⟨_,List.Sublist.refl _,.sh r s⟩
  |succ i=>obtain⟨t,a,b⟩:=ih i;exact⟨t,a,.sh q b⟩
 |xc s ih =>
  cases i with
  |zero=>exact⟨_,List.Sublist.refl _,.sh r s⟩
  |succ i=>obtain⟨t,a,b⟩:=ih i;exact⟨t,a,.xc b⟩
 |ow ne q s ih =>
  cases i with
  |zero=>exact⟨_,px _ _,.sh r s⟩
  |succ i=>obtain⟨t,a,b⟩:=ih i;exact⟨_,a.append_left _,.ow ne q b⟩
 |lk ne q s ih =>
  cases i with
  |zero=>exact⟨_,px _ _,.sh r s⟩
  |succ i=>obtain⟨t,a,b⟩:=ih i;exact⟨_,a.append_left _,.lk ne q b⟩
theorem qt{As ae:List Addr}(nd:As.Nodup)(n:ae.Nodup)(dj:∀ a∈As,a∉ae):(As++ae).Nodup:=i7.mpr ⟨nd,n,fun a ha b hb e=>dj a ha (e ▸ hb)⟩
theorem fX{As ae B t:List Addr}(n:(B++ae).Nodup)(dj:∀ a∈As,a∉B++ae)(a:t.Nodup)(b:∀ x∈t,x∈ae\/x∈As):(B++t).Nodup/\∀ x∈B++t,x∈B++ae\/x∈As:=by
 obtain⟨n1,n2,n3⟩:=i7.mp n
 refine⟨i7.mpr ⟨n1,a,fun x hx y hy e=>?_⟩,fun x hx=>?_⟩
 ·subst e
  rcases b x hy with z|z
  ·exact n3 x hx x z rfl
  ·exact dj x z (kc _ hx)
 ·rcases dy.mp hx with z|z
  ·exact .inl (kc _ z)
  ·exact(b x z).imp (fun z=>fh _ z) fun z=>z
theorem SR.wR{d:D}{v:V}{fl:Bool}{As:List Addr}(ne:As≠[])(r:bI K Hs H fl d v As)(nd:As.Nodup){ρ:Env}{σ:St}{ae:List Addr}(i:Nat)(s:SR K Hs H ρ σ ae):ae.Nodup->(∀ a∈As,a∉ae) ->
  ∃ bX,bX.Nodup/\(∀ a∈bX,a∈ae\/a∈As)/\SR K Hs H (ρ.set i (some (.ow fl d))) (σ.set i (some v)) bX:=by
 induction s generalizing i with
 |nil=>exact fun n _=>⟨[],oq,(fun a h=>B1 h),.nil⟩
 |non s ih =>
  intro n dj
  cases i with
  |zero=>exact⟨_,qt nd n dj,fun a h=>(dy.mp h).symm,.ow ne r s⟩
  |succ i=>obtain⟨t,a,b,c⟩:=ih i n dj;exact⟨t,a,b,.non c⟩
 |sh q s ih =>
  intro n dj
  cases i with
  |zero=>exact⟨_,qt nd n dj,fun a h=>(dy.mp h).symm,.ow ne r s⟩
  |succ i=>obtain⟨t,a,b,c⟩:=ih i n dj;exact⟨t,a,b,.sh q c⟩
 |xc s ih =>
  intro n dj
  cases i with
  |zero=>exact⟨_,qt nd n dj,fun a h=>(dy.mp h).symm,.ow ne r s⟩
  |succ i=>obtain⟨t,a,b,c⟩:=ih i n dj;exact⟨t,a,b,.xc c⟩
 |ow ne' q s ih =>
  intro n dj
  obtain⟨n1,n2,n3⟩:=i7.mp n
  have Nq:=fun a ha m=>dj a ha (fh _ m)
  cases i with
  |zero=>exact⟨_,qt nd n2 Nq,fun a h=>(dy.mp h).symm.imp (fun z=>fh _ z) fun z=>z,.ow ne r s⟩
  |succ i=>obtain⟨t,a,b,c⟩:=ih i n2 Nq;exact⟨_,(fX n dj a b).1,(fX n dj a b).2,.ow ne' q c⟩
 |lk ne' q s ih =>
  intro n dj
  obtain⟨n1,n2,n3⟩:=i7.mp n
  have Nq:=fun a ha m=>dj a ha (fh _ m)
  cases i with
  |zero=>exact⟨_,qt nd n2 Nq,fun a h=>(dy.mp h).symm.imp (fun z=>fh _ z) fun z=>z,.ow ne r s⟩
  |succ i=>obtain⟨t,a,b,c⟩:=ih i n2 Nq;exact⟨_,(fX n dj a b).1,(fX n dj a b).2,.lk ne' q c⟩
def asg:Md->D->Option Sl
 |.sh,d=>some (.sh d)
 |.ow fl,d=>some (.ow fl d)
 |.bo,d=>bif d.flat then some (.sh d) else none
theorem dv.set{ρ:Env}{σ:St}{ae As:List Addr}{m:Md}{d:D}{v:V}{sl:Sl}(i:Nat)(s:dv K Hs ρ σ H ae)(r:RM K Hs H m d v As)(nd:As.Nodup)(dj:∀ a∈As,Hs a=none/\a∉ae)(e:asg m d=some sl) :
  ∃ bX,dv K Hs (ρ.set i (some sl)) (σ.set i (some v)) H bX:=by
 have Xd:Rep K Hs d v->∃ bX,dv K Hs (ρ.set i (some (.sh d))) (σ.set i (some v)) H bX:=fun r=>by
  obtain⟨t,a,b⟩:=s.sr.vQ r i
  exact⟨t,b,s.wf,a.nodup s.sQ,fun x hx=>s.own x (a.subset hx)⟩
 cases m with
 |sh=>cases e;exact Xd r.2
 |ow fl =>
  cases e
  obtain⟨t,a,b,c⟩:=SR.wR r.2 r.1 nd i s.sr s.sQ fun a ha=>(dj a ha).2
  exact⟨t,c,s.wf,a,fun x hx=>(b x hx).elim (s.own x) fun z=>(dj x z).1⟩
 |bo =>
  cases hf:d.flat with
  |true =>
   simp only[asg,hf,cond_true,Option.some.injEq] at e
   subst e
   exact Xd (r.flat s.wf hf)
  |false=>simp[asg,hf] at e
end
section
variable {X:Cx}{K:PySem.W.Frag}{e c:Expr}{te:WE}{tc:WT}{pos:Pos}{st:Stmt}{a b rest:List Stmt}{t u:WS}
theorem PS.imp{te oS:TS}(h:PS X st te)(i:∀ D σ H,oS D σ H->te D σ H):PS X st oS:=fun pins s σ H D I q=>h pins s σ H D I (i D σ H q)
theorem mP.imp{te oS:TS}(h:mP X a te)(i:∀ D σ H,oS D σ H->te D σ H):mP X a oS:=fun pins s σ H D I q=>h pins s σ H D I (i D σ H q)
def dM:WS:=fun E ρ=>E.nx ρ
def b9(t u:WS):WS:=fun E ρ=>t { E with nx:=u E } ρ
def lh(te:WE):WS:=fun E ρ=>te ρ E.rt
def eB(i:Nat)(te:WE):WS:=fun E ρ=>te ρ fun m d=>match asg m d with
 |some sl=>E.nx (ρ.set i (some sl))
 |none=>False
def mr(c:WT)(t u:WS):WS:=fun E ρ=>c ρ fun b=>if b=true then t E ρ else u E ρ
theorem bz:qA X K L [] dM:=mP.imp Zh fun D σ H hx=>gj hx fun Hs ρ ae E sr h k1 _ _ _=>k1 σ H Hs ρ ae (aC.refl _) sr h
theorem yL{D:Ends}{σ:St}{H:Hp}(h:yk K L (b9 t u) D σ H):Vk (yk K L t) (yk K L u) D σ H:=by
 obtain⟨Hs,ρ,ae,E,sr,h,k1,k2,k3,k4,kx⟩:=h
 refine⟨Hs,ρ,ae,{ E with nx:=u E },sr,h,fun bp H' av bP bX s Tb q=>?_,k2,k3,k4,kx⟩
 exact⟨av,bP,bX,E,Tb,q,fun gy H2 ay eS df s2=>k1 gy H2 ay eS df (s.trans s2),fun gy H2 ay eS df s2=>k2 gy H2 ay eS df (s.trans s2),fun gy H2 ay eS df s2=>k3 gy H2 ay eS df (s.trans s2),
  fun v H2 ay m d As s2=>k4 v H2 ay m d As (s.trans s2),fun n H2 s2=>kx n H2 (s.trans s2)⟩
theorem ak(h1:QS X K L st t)(h2:qA X K L rest u):qA X K L (st :: rest) (b9 t u):=mP.imp (Vl h1 h2) fun D σ H h=>yL h
theorem aq(h1:QS X K L st t):qA X K L [st] t:=Rp h1
theorem cz(he:QE X K e te):QS X K L (.Return (some e) pos) (lh te):=PS.imp (Vm he) fun D σ H hx=>gj hx fun Hs ρ ae E sr h k1 k2 k3 k4 =>
 ⟨Hs,ρ,ae,_,sr,h,fun v H1 aE m d As g1 r1 f1 q1=>k4 v H1 aE m d As g1.sh g1.wf r1 f1.1 (fun a ha=>(f1.2 a ha).1) q1⟩
def n6(i:Nat):WS:=fun E ρ=>match ρ[i]? with
 |some (some (.sh d))=>E.rt .sh d
 |some (some (.ow fl d))=>E.rt (.ow fl) d
 |_=>False
theorem SR.at{ρ:Env}{σ:St}{ae:List Addr}{i:Nat}{fl:Bool}{d:D}{Hs H:Hp}(s:SR K Hs H ρ σ ae)(e:ρ[i]? = some (some (.ow fl d))):∃ v As,σ[i]? = some (some v)/\As≠[]/\bI K Hs H fl d v As/\As.Sublist ae:=by
 induction s generalizing i with
 |nil=>simp at e
 |non s ih =>
  cases i with
  |zero=>simp at e
  |succ i=>exact ih e
 |sh r s ih =>
  cases i with
  |zero=>simp at e
  |succ i=>exact ih e
 |xc s ih =>
  cases i with
  |zero=>simp at e
  |succ i=>exact ih e
 |ow ne r s ih =>
  cases i with
  |zero=>simp at e;obtain⟨rfl,rfl⟩:=e;exact⟨_,_,rfl,ne,r,LN _ _⟩
  |succ i =>
   obtain⟨v,As,a,b,c,d⟩:=ih e
   exact⟨v,As,a,b,c,d.trans (px _ _)⟩
 |lk ne r s ih =>
  cases i with
  |zero=>simp at e
  |succ i =>
   obtain⟨v,As,a,b,c,d⟩:=ih e
   exact⟨v,As,a,b,c,d.trans (px _ _)⟩
theorem iR{i:Nat}(he:PE X e (DJ i)):QS X K L (.Return (some e) pos) (n6 i):=PS.imp (Vm he) fun D σ H hx=>gj hx fun Hs ρ ae E sr h k1 k2 k3 k4=>by
 unfold n6 at h
 split at h
 ·rename_i d e1
  obtain⟨v,e2,r⟩:=sr.sr.get e1
  exact⟨v,e2,k4 v H Hs .sh d [] (aC.refl _) sr.wf ⟨rfl,r⟩ oq (fun a ha=>nomatch ha) h⟩
 ·rename_i fl d e1
  obtain⟨v,As,e2,ne,r,sb⟩:=sr.sr.at e1
  exact⟨v,e2,k4 v H Hs (.ow fl) d As (aC.refl _) sr.wf ⟨r,ne⟩ (sb.nodup sr.sQ) (fun a ha=>sr.own a (sb.subset ha)) h⟩
 ·exact h.elim
theorem aJ{i:Nat}{x:Str}{pos':Pos}(hN:X.N.Nodup)(hi:X.N[i]? = some x)(hx:Loc X.env.scope x)(he:QE X K e te)(hs:swapsWith e (some (.Name x pos')) pos.line X.env=pure false:=by rfl)
  (hf:X.fn x=true\/X.env.scope.names.lookup x=some .local:=by first|exact .inl rfl|exact .inr rfl|assumption):QS X K L (.Assign [.Name x pos'] e pos) (eB i te):=PS.imp (Rv hN hi hx he hs hf) fun D σ H hx=>gj hx fun Hs ρ ae E sr h k1 k2 k3 k4=>by
 refine⟨Hs,ρ,ae,_,sr,h,fun v H1 aE m d As g1 r1 f1 q1=>?_⟩
 have q1:match asg m d with
  |some sl=>E.nx (ρ.set i (some sl))
  |none=>False:=q1
 cases e:asg m d with
 |none=>rw[e] at q1;exact q1.elim
 |some sl =>
  rw[e] at q1
  obtain⟨bX,s'⟩:=(sr.grow g1).set i r1 f1.1 (fun a ha=>⟨(f1.2 a ha).1,fun m=>(sr.sr.own a m).ne (f1.2 a ha).2⟩) e
  exact k1 _ H1 aE _ bX g1.sh s' q1
theorem dZ(hc:QT X K c tc)(ha:qA X K L a t)(hb:qA X K L b u):QS X K L (.If c a b pos) (mr tc t u):=PS.imp (Zm hc ha hb) fun D σ H hx=>iG hx fun Hs ρ ae E sr h k1 k2 k3 k4 kx=>by
 refine⟨Hs,ρ,ae,_,sr,h,fun k H1 aE g1 q1=>?_⟩
 have Xe:∀ bp H' av bP bX,aC aE av->dv K av bP bp H' bX->E.nx bP->D.nx bp H':=fun gy H2 ay eS df s2=>k1 gy H2 ay eS df (g1.sh.trans s2)
 have Xf:∀ bp H' av bP bX,aC aE av->dv K av bP bp H' bX->E.bk bP->D.bk bp H':=fun gy H2 ay eS df s2=>k2 gy H2 ay eS df (g1.sh.trans s2)
 have Xg:∀ bp H' av bP bX,aC aE av->dv K av bP bp H' bX->E.ct bP->D.ct bp H':=fun gy H2 ay eS df s2=>k3 gy H2 ay eS df (g1.sh.trans s2)
 cases k with
 |true=>exact⟨aE,ρ,ae,E,sr.grow g1,q1,Xe,Xf,Xg,(fun v H2 ay m d As s2=>k4 v H2 ay m d As (g1.sh.trans s2)),fun n H2 s2=>kx n H2 (g1.sh.trans s2)⟩
 |false=>exact⟨aE,ρ,ae,E,sr.grow g1,q1,Xe,Xf,Xg,(fun v H2 ay m d As s2=>k4 v H2 ay m d As (g1.sh.trans s2)),fun n H2 s2=>kx n H2 (g1.sh.trans s2)⟩
def tj(Hs H:Hp)(As:List Addr):Hp:=fun a=>if a∈As then H a else Hs a
theorem gO{Hs H:Hp}{As:List Addr}(n:∀ a∈As,Hs a=none):aC Hs (tj Hs H As):=fun a o e=>by
 unfold tj
 rw[if_neg fun m=>by rw[n a m] at e;cases e]
 exact e
theorem vZ{Hs H:Hp}{As:List Addr}(w:Wf Hs H)(o:∀ a∈As,Own H a):Wf (tj Hs H As) H:=⟨fun a u e=>by
  unfold tj at e
  by_cases m:a∈As
  ·rw[if_pos m] at e;exact e
  ·rw[if_neg m] at e;exact w.sub a u e,fun a vs e=>by
  unfold tj
  rw[if_neg fun m=>(o a m).Bl e]
  exact w.ja a vs e⟩
def Nr:Sl->Sl
 |.sh d=>.sh d
 |.ow _ d=>.sh d
 |.lk a fl d=>.lk a fl d
 |.xc a=>.xc a
def Nt:Sl->Sl
 |.sh d=>.sh d
 |.ow _ d=>.sh d
 |.lk _ _ d=>.sh d
 |.xc a=>.xc a
def Nu(i:Nat)(ρ:Env):Env:=match ρ[i]? with
 |some (some sl)=>ρ.set i (some (Nr sl))
 |_=>ρ
theorem nj{As ae B t:List Addr}(n:(B++ae).Nodup)(a:As.Sublist ae)(c:∀ x∈As,x∉t):∀ x∈As,x∉B++t:=fun x hx m=>by
 obtain⟨n1,n2,n3⟩:=i7.mp n
 rcases dy.mp m with z|z
 ·exact n3 x z x (a.subset hx) rfl
 ·exact c x hx z
theorem SR.mG{Hs H:Hp}{ρ:Env}{σ:St}{ae:List Addr}(i:Nat){fl:Bool}{d:D}(s:SR K Hs H ρ σ ae):ρ[i]? = some (some (.ow fl d))->ae.Nodup ->
  ∃ (As bX:List Addr),As.Sublist ae/\bX.Sublist ae/\(∀ a∈As,a∉bX)/\∀ av,aC Hs av->(∀ a∈As,av a=H a)->SR K av H (ρ.set i (some (.sh d))) σ bX:=by
 induction s generalizing i with
 |nil=>intro e;simp at e
 |non q ih =>
  intro e n
  cases i with
  |zero=>simp at e
  |succ i =>
   obtain⟨As,t,a,b,c,d⟩:=ih i e n
   exact⟨As,t,a,b,c,fun av s k=>.non (d av s k)⟩
 |sh r q ih =>
  intro e n
  cases i with
  |zero=>simp at e
  |succ i =>
   obtain⟨As,t,a,b,c,d⟩:=ih i e n
   exact⟨As,t,a,b,c,fun av s k=>.sh (r.same s) (d av s k)⟩
 |xc q ih =>
  intro e n
  cases i with
  |zero=>simp at e
  |succ i =>
   obtain⟨As,t,a,b,c,d⟩:=ih i e n
   exact⟨As,t,a,b,c,fun av s k=>.xc (d av s k)⟩
 |ow ne r q ih =>
  intro e n
  obtain⟨n1,n2,n3⟩:=i7.mp n
  cases i with
  |zero =>
   simp at e
   obtain⟨rfl,rfl⟩:=e
   exact⟨_,_,LN _ _,px _ _,fun a h m=>n3 a h a m rfl,fun av s k=>.sh (r.rep s k) (q.eM s fun _ _=>rfl)⟩
  |succ i =>
   obtain⟨As,t,a,b,c,d⟩:=ih i e n2
   exact⟨As,_,a.trans (px _ _),b.append_left _,nj n a c,fun av s k=>.ow ne (r.eM s fun _ _=>rfl) (d av s k)⟩
 |lk ne r q ih =>
  intro e n
  obtain⟨n1,n2,n3⟩:=i7.mp n
  cases i with
  |zero=>simp at e
  |succ i =>
   obtain⟨As,t,a,b,c,d⟩:=ih i e n2
   exact⟨As,_,a.trans (px _ _),b.append_left _,nj n a c,fun av s k=>.lk ne (r.eM s fun _ _=>rfl) (d av s k)⟩
theorem dv.mG{ρ:Env}{σ:St}{ae:List Addr}{Hs H:Hp}(i:Nat)(s:dv K Hs ρ σ H ae):∃ av bX,aC Hs av/\dv K av (Nu i ρ) σ H bX:=by
 unfold Nu
 split
 ·rename_i sl e
  have keep:Nr sl=sl->∃ av bX,aC Hs av/\dv K av (ρ.set i (some (Nr sl))) σ H bX:=fun hs=>by
   have e2:ρ.set i (some (Nr sl))=ρ:=by
    apply CH
    intro j
    rw[List.getElem?_set]
    by_cases h:i=j
    ·subst h
     rw[if_pos rfl,e]
     have:i<ρ.length:=(hV.mp e).1
     simp[this,hs]
    ·rw[if_neg h]
   rw[e2]
   exact⟨Hs,ae,aC.refl _,s⟩
  cases sl with
  |sh d=>exact keep rfl
  |xc a=>exact keep rfl
  |lk a fl d=>exact keep rfl
  |ow fl d =>
   obtain⟨As,t,a,b,c,g⟩:=SR.mG i s.sr e s.sQ
   have hn:∀ a∈As,Hs a=none:=fun x hx=>s.own x (a.subset hx)
   have ho:∀ a∈As,Own H a:=fun x hx=>s.sr.own x (a.subset hx)
   refine⟨tj Hs H As,t,gO hn,g _ (gO hn) fun x hx=>by unfold tj;rw[if_pos hx],vZ s.wf ho,b.nodup s.sQ,fun x hx=>?_⟩
   unfold tj
   rw[if_neg fun m=>c x m hx]
   exact s.own x (b.subset hx)
 ·exact⟨Hs,ae,aC.refl _,s⟩
def hU(i:Nat)(t:WS):WS:=fun E ρ=>t E (Nu i ρ)
theorem zg{i:Nat}{D:Ends}{σ:St}{H:Hp}(h:yk K L (hU i t) D σ H):yk K L t D σ H:=by
 obtain⟨Hs,ρ,ae,E,sr,h,k1,k2,k3,k4,kx⟩:=h
 obtain⟨av,bX,s,Tb⟩:=sr.mG i
 exact⟨av,_,bX,E,Tb,h,fun gy H2 ay eS df s2=>k1 gy H2 ay eS df (s.trans s2),fun gy H2 ay eS df s2=>k2 gy H2 ay eS df (s.trans s2),fun gy H2 ay eS df s2=>k3 gy H2 ay eS df (s.trans s2),
  fun v H2 ay m d As s2=>k4 v H2 ay m d As (s.trans s2),fun n H2 s2=>kx n H2 (s.trans s2)⟩
theorem bu(i:Nat)(h:QS X K L st t):QS X K L st (hU i t):=PS.imp h fun D σ H h=>zg h
def jY(aE H1 av H':Hp):Hp:=fun a=>match H' a with
 |some (.tup vs)=>some (.tup vs)
 |_=>match H1 a with
  |none=>av a
  |some _=>aE a
theorem fG{aE H1 av H':Hp}(w:Wf aE H1)(s:aC H1 av)(w':Wf av H'):eL aE H1 (jY aE H1 av H') H':=by
 have sa:aC H1 H':=s.trans w'.sub
 have tp:∀ a vs,H' a=some (.tup vs)->jY aE H1 av H' a=some (.tup vs):=fun a vs e=>by unfold jY;rw[e]
 have nt:∀ a,(∀ vs,H' a≠some (.tup vs))->jY aE H1 av H' a=match H1 a with
  |none=>av a
  |some _=>aE a:=fun a h=>by
  unfold jY
  split
  ·rename_i vs e;exact absurd e (h vs)
  ·rfl
 refine⟨sa,fun a o e=>?_,⟨fun a o e=>?_,tp⟩,fun a h=>?_⟩
 ·have e1:=w.sub a o e
  have e2:=sa a o e1
  by_cases ht:∃ vs,o=.tup vs
  ·obtain⟨vs,rfl⟩:=ht
   exact tp a vs e2
  ·rw[nt a fun vs z=>ht ⟨vs,by rw[e2] at z;exact Option.some.inj z⟩,e1]
   exact e
 ·by_cases ht:∃ vs,H' a=some (.tup vs)
  ·obtain⟨vs,z⟩:=ht
   rw[tp a vs z] at e
   rw[z];exact e
  ·rw[nt a fun vs z=>ht ⟨vs,z⟩] at e
   cases q:H1 a with
   |none=>rw[q] at e;exact w'.sub a o e
   |some u =>
    rw[q] at e
    have:=w.sub a o e
    exact sa a o this
 ·cases q:H1 a with
  |none=>exact .inr rfl
  |some u =>
   refine .inl ?_
   by_cases ht:∃ vs,H' a=some (.tup vs)
   ·obtain⟨vs,z⟩:=ht
    have:=sa a u q
    rw[z] at this
    cases this
    rw[w.ja a vs q]
    exact fun z=>nomatch z
   ·rw[nt a fun vs z=>ht ⟨vs,z⟩,q] at h
    exact h
theorem yh{aE H1 av H':Hp}{a:Addr}(s:aC H1 av)(h:av a=none)(o:Own H' a):jY aE H1 av H' a=none/\H1 a=none:=by
 have h1:=s.free h
 refine⟨?_,h1⟩
 unfold jY
 split
 ·rename_i vs e;exact absurd e o.Bl
 ·rw[h1];exact h
def w9:Md->D->Md
 |.ow true,_=>.ow true
 |_,d=>bif d.flat then .sh else .bo
theorem nR{aE H1 av H':Hp}{m:Md}{d:D}{v:V}{As:List Addr}(w:Wf aE H1)(s:aC H1 av)(w':Wf av H')(r:RM K av H' m d v As)(nd:As.Nodup)(own:∀ a∈As,av a=none) :
  ∃ fF,RM K (jY aE H1 av H') H' (w9 m d) d v fF/\cU (jY aE H1 av H') H1 fF:=by
 have g:=fG w s w'
 have other:∃ fF,RM K (jY aE H1 av H') H' (bif d.flat then .sh else .bo) d v fF/\cU (jY aE H1 av H') H1 fF:=by
  cases hf:d.flat with
  |true=>exact⟨[],⟨rfl,(r.rep w').jf g.wf.ja hf⟩,cU.nil⟩
  |false=>exact⟨[],⟨rfl,r.rep w'⟩,cU.nil⟩
 cases m with
 |sh=>exact other
 |bo=>exact other
 |ow fl =>
  cases fl with
  |false=>exact other
  |true=>exact⟨As,⟨bI.leaves (fun a vs e=>g.wf.ja a vs (w'.sub _ _ e)) r.1,r.2⟩,nd,fun a h=>yh s (own a h) (r.own a h)⟩
abbrev fP:=List D->(Md->D->Prop)->Prop
def aA(K:PySem.W.Frag)(sp:fP):Sp:=fun vs H Qv _=>∃ ds Qd,aI K H ds vs/\sp ds Qd /\
 ∀ v H' av m d As,aC H av->Wf av H'->RM K av H' m d v As->As.Nodup->(∀ a∈As,av a=none)->Qd m d->Qv v H'
def aY(n:Nat)(ds:List D):Env:=ds.map (fun d=>some (.sh d))++List.replicate (n-ds.length) none
theorem SR.start{H:Hp}{ds:List D}{vs:List V}{n:Nat}(r:aI K H ds vs):SR K H H (ds.map (fun d=>some (.sh d))++List.replicate n none) (vs.map some++List.replicate n none) []:=by
 induction ds generalizing vs with
 |nil =>
  rw[r.n0]
  induction n with
  |zero=>exact .nil
  |succ n ih=>exact .non ih
 |cons d ds ih =>
  obtain⟨u,us,rfl,r,rs⟩:=r.c
  exact .sh r (ih rs)
theorem wF{sp:fP}{N:List Str}{vs:List V}{H:Hp}{Qv:VK}{E:XK}(h:aA K sp vs H Qv E)(hp:∀ ds Q,sp ds Q->t { nx:=fun _=>Q .sh .non,rt:=Q } (aY N.length ds)) :
  yk K L0 t { nx:=fun _ H'=>Qv .non H',rt:=Qv } (start N vs) H:=by
 obtain⟨ds,Qd,rs,hs,fin⟩:=h
 have hl:=rs.length
 refine⟨H,aY N.length ds,[],{ nx:=fun _=>Qd .sh .non,rt:=Qd },⟨?_,⟨aC.refl _,fun _ _ e=>e⟩,oq,fun a h=>nomatch h⟩,hp ds Qd hs,?_,?_,?_,?_,fun _ _ _ _=>trivial⟩
 ·unfold aY start
  rw[hl]
  exact SR.start rs
 ·exact fun bp H' av bP bX s sr q=>fin .non H' av .sh .non [] s sr.wf ⟨rfl,.non⟩ oq (fun a h=>nomatch h) q
 ·exact fun bp H' av bP bX s sr q=>q.elim
 ·exact fun bp H' av bP bX s sr q=>q.elim
 ·exact fun v H' av m d As s w r nd own q=>fin v H' av m d As s w r nd own q
theorem qB.ok{P:Program}{w:World}{mg:Str->Option Value}{base:Heap}{x qual:Str}{st:Stmt}{f:Addr}{fd:FuncData}{N ps:List Str}{k:Nat}{sp:fP}{t:WS}(F:gX K x qual st f fd)(S:kK N ps (b6 st))(len:∀ ds Q,sp ds Q->ds.length=ps.length)
  (Bn:∀ (cy:Value) (A:Around) (outer:List PySem.Env) (s:Shared) (H:Hp) (E:XK),ku k (A.deeper (envOfC qual (b6 st) s.heap.objs.size f cy))->qA (sM js P w K mg base N qual (b6 st) f cy A outer s H E).MD K L0 (hJ st) t)
  (hp:∀ ds Q,sp ds Q->t { nx:=fun _=>Q .sh .non,rt:=Q } (aY N.length ds)):gE P w K mg base js (k+1) f fd ps (aA K sp) :=
 F.ok S (fun vs H Q E ⟨ds,Qd,rs,hs,_⟩=>by rw[<- rs.length];exact len ds Qd hs) fun cy A outer s H vs Q E hr hs=>⟨_,Bn cy A outer s H E hr,wF hs hp⟩
def aX(sp:fP)(t:WA):WE:=fun ρ Q=>t ρ fun ps=>sp (ps.map (·.2)) fun m d=>bS (m,d) (f:=fun p=>Q (w9 p.1 p.2) p.2) ⟨⟩
theorem xN{sp:fP}{t:WA}{σ:St}{H:Hp}{Qv:VK}{E:XK}(h:kS K (aX sp t) σ H Qv):MN (aA K sp) [] E (SV K t) σ H Qv:=by
 obtain⟨Hs,ρ,ae,Q,sr,h,f⟩:=h
 refine⟨Hs,ρ,ae,_,sr,h,fun vs H1 aE ps As g1 r1 f1 q1=>?_⟩
 refine⟨_,_,by rw[nL];exact r1.reps g1.wf,q1,fun v H' av m d As s w r nd own q=>?_⟩
 obtain⟨fF,r',fr⟩:=nR g1.wf s w r nd own
 exact Fin.after f g1 v H' _ (w9 m d) d fF (fG g1.wf s w) r' fr q
theorem bf {k:Nat} {x:Str} {ps:List Str} {sp:fP} {p:Pos} {es:List Expr} {t:WA} (C:fi X.prog X.w X.K X.mg X.base k x ps (aA K sp)) (hr:ku k X.A) (ha:QA X K (e :: es) t) (hg:Gl X x:=by rfl) (iP:(x == ("__debug__" : Str))=false:=by decide) (he:starEach (e :: es) X.env=(false,eval e X.env) :: starEach es X.env:=by rfl)
  (gI:(backTo pos (starEach es X.env)).any (·.1)=false:=by rfl):QE X K (.Call (.Name x p) (e :: es) [] pos) (aX sp t):=PE.imp (Fo C hr ha hg iP he gI) fun σ H Qv h=>xN h
end
abbrev WG:=D->Env->(Env->Prop)->Prop
def Xh(K:PySem.W.Frag)(g:WG):TG:=fun v σ H Qv=>∃ Hs ρ ae d Q,dv K Hs ρ σ H ae/\Rep K Hs d v/\g d ρ Q/\∀ bp bP bX,dv K Hs bP bp H bX->(∀ a∈bX,a∈ae)->Q bP->Qv bp H
abbrev QG(X:Cx)(K:PySem.W.Frag)(e:Expr)(g:WG):Prop:=PG X e (Xh K g)
def gN(i:Nat):WG:=fun d ρ Q=>Q (ρ.set i (some (.sh d)))
abbrev B6:=List D->Env->(Env->Prop)->Prop
def cL'(K:PySem.W.Frag)(g:B6):A9:=fun vs σ H Qv=>∃ Hs ρ ae ds Q,dv K Hs ρ σ H ae/\aI K Hs ds vs/\g ds ρ Q/\∀ bp bP bX,dv K Hs bP bp H bX->(∀ a∈bX,a∈ae)->Q bP->Qv bp H
abbrev P5(X:Cx)(K:PySem.W.Frag)(es:List Expr)(g:B6):Prop:=zI X es (cL' K g)
def jF:B6:=fun ds ρ Q=>ds=[]/\Q ρ
def bZ(g:WG)(gs:B6):B6:=fun ds ρ Q=>match ds with
 |d :: ds=>g d ρ fun bP=>gs ds bP Q
 |[]=>False
def gT(n:Nat)(gs:B6):WG:=fun d ρ Q=>match d with
 |.tup ds=>ds.length=n/\gs ds ρ Q
 |_=>False
section
variable {X:Cx}{K:PySem.W.Frag}{e:Expr}{es:List Expr}{g:WG}{gs:B6}{pos:Pos}
theorem PG.imp{t t':TG}(h:PG X e t)(i:∀ v σ H Q,t' v σ H Q->t v σ H Q):PG X e t':=fun pins s σ H v u Q I r q=>h pins s σ H v u Q I r (i v σ H Q q)
theorem zI.imp{t t':A9}(h:zI X es t)(i:∀ v σ H Q,t' v σ H Q->t v σ H Q):zI X es t':=fun pins s σ H v u Q I r q=>h pins s σ H v u Q I r (i v σ H Q q)
theorem dv.Cz{ρ:Env}{σ:St}{ae:List Addr}{Hs H:Hp}{d:D}{v:V}(i:Nat)(s:dv K Hs ρ σ H ae)(r:Rep K Hs d v):∃ bX,(∀ a∈bX,a∈ae)/\dv K Hs (ρ.set i (some (.sh d))) (σ.set i (some v)) H bX:=by
 obtain⟨t,a,b⟩:=s.sr.vQ r i
 exact⟨t,fun x hx=>a.subset hx,b,s.wf,a.nodup s.sQ,fun x hx=>s.own x (a.subset hx)⟩
theorem aB{i:Nat}{x:Str}(hN:X.N.Nodup)(hi:X.N[i]? = some x)(hx:Loc X.env.scope x)(hf:X.fn x=true\/X.env.scope.names.lookup x=some .local:=by first|exact .inl rfl|exact .inr rfl|assumption):QG X K (.Name x pos) (gN i) :=
 PG.imp (Rr hN hi hx hf) fun v σ H Qv dc=>by
  obtain⟨Hs,ρ,ae,d,Q,sr,r,h,k⟩:=dc
  obtain⟨t,m,s⟩:=sr.Cz i r
  exact k _ _ t s m h
theorem eU:P5 X K [] jF:=zI.imp Vn fun v σ H Qv dc=>by
 obtain⟨Hs,ρ,ae,ds,Q,sr,r,h,k⟩:=dc
 obtain⟨rfl,h⟩:=h
 cases r
 exact⟨rfl,k σ ρ ae sr (fun _ z=>z) h⟩
theorem aM(h1:QG X K e g)(h2:P5 X K es gs)(hs:(assignEach (e :: es) X.env).map (·.2)=assign e X.env :: (assignEach es X.env).map (·.2):=by rfl):P5 X K (e :: es) (bZ g gs) :=
 zI.imp (Rt h1 h2 hs) fun v σ H Qv dc=>by
  obtain⟨Hs,ρ,ae,ds,Q,sr,r,h,k⟩:=dc
  cases r with
  |nil=>exact h.elim
  |cons r rs=>exact⟨_,_,rfl,Hs,ρ,ae,_,_,sr,r,h,fun gy eS df ip m2 q2=>⟨Hs,eS,df,_,Q,ip,rs,q2,fun pT Ki cM' sr3 m3=>k pT Ki cM' sr3 fun a h=>m2 a (m3 a h)⟩⟩
theorem gU{k n:Nat}(hc:X.calm=true)(h:P5 X K es gs)(hn:(assignEach es X.env).length=n:=by rfl)(kE:(assignEach es X.env).findIdx? (·.1)=none:=by rfl):QG X K (.Tuple es k pos) (gT n gs) :=
 PG.imp (Vo hc h hn kE) fun v σ H Qv dc=>by
  obtain⟨Hs,ρ,ae,d,Q,sr,r,h,k⟩:=dc
  cases r with
  |tup z e rs=>exact⟨_,_,rfl,.inl (.inl (sr.wf.sub _ _ e)),by rw[<- rs.length];exact h.1,Hs,ρ,ae,_,Q,sr,rs,h.2,k⟩
  |_=>exact h.elim
end
abbrev WI:=Env->(List D->Prop)->Prop
structure nq(K:PySem.W.Frag)(J:It)(ds:List D)(C:Hp->Hp->Prop):Prop where
 go:∀ i Hs H,C Hs H->Wf Hs H->i<ds.length->J.go i H
 ny:∀ i Hs H x H' d,C Hs H->Wf Hs H->ds[i]? = some d->J.ny i H x H'->∃ av,eL Hs H av H'/\Rep K av d x
 stop:∀ Hs H,C Hs H->Wf Hs H->J.stop ds.length H
abbrev vo(K:PySem.W.Frag)(Hs:Hp)(J:It)(ds:List D):Prop:=nq K J ds fun G _=>aC Hs G
def l_(xs:List D):List D:=xs.mapIdx fun i x=>.tup [.int i,x]
section
variable {K:PySem.W.Frag}{Hs:Hp}{J:It}{ds:List D}{C C':Hp->Hp->Prop}{a:Addr}
theorem nq.imp(S:nq K J ds C)(h:∀ Hs H,C' Hs H->C Hs H):nq K J ds C':=⟨fun i Hs H c=>S.go i Hs H (h _ _ c),fun i Hs H x H' d c=>S.ny i Hs H x H' d (h _ _ c),fun Hs H c=>S.stop Hs H (h _ _ c)⟩
theorem nq.seq{vs:List V}(rs:aI K Hs ds vs)(S:qQ J vs fun H=>aC Hs H):vo K Hs J ds where
 go:=fun i G H s w h=>S.go i H (s.trans w.sub) (by rw[<- rs.length];exact h)
 ny:=fun i G H x H' d s w h y=>by
  have hi:i<ds.length:=by
   rcases xv i ds.length with q|q
   ·exact q
   ·rw[tP q] at h;cases h
  obtain⟨e,z⟩:=S.ny i H x H' (s.trans w.sub) (by rw[<- rs.length];exact hi) y
  subst e
  obtain⟨d',ed,rd⟩:=rs.SQ z
  rw[h] at ed;cases ed
  exact⟨G,eL.refl w,rd.same s⟩
 stop:=fun G H s w=>by rw[rs.length];exact S.stop H (s.trans w.sub)
abbrev vV(K:PySem.W.Frag)(a:Addr)(ds:List D)(C:Hp->Hp->Prop):Prop:=∀ Hs H,C Hs H->Wf Hs H->∃ vs,dQ K H a vs/\aI K Hs ds vs
theorem nq.list(h:vV K a ds C):nq K (O0 K a) ds C where
 go:=fun i G H c w hi=>by
  obtain⟨vs,q,rs⟩:=h G H c w
  exact⟨vs,vs[i]'(by rw[<- rs.length];exact hi),q,by simp⟩
 ny:=fun i G H x H' d c w hd y=>by
  obtain⟨vs,q,rs⟩:=h G H c w
  obtain⟨rfl,y⟩:=y
  obtain⟨d',ed,rd⟩:=rs.SQ (y vs q)
  rw[hd] at ed;cases ed
  exact⟨G,eL.refl w,rd⟩
 stop:=fun G H c w=>by
  obtain⟨vs,q,rs⟩:=h G H c w
  exact⟨vs,q,by rw[rs.length];exact bT _⟩
theorem nq.enum(h:vV K a ds C):nq K (Sn K a) (l_ ds) C where
 go:=fun i G H c w hi=>by
  obtain⟨vs,q,rs⟩:=h G H c w
  have hi:i<ds.length:=by simpa[l_] using hi
  exact⟨vs,vs[i]'(by rw[<- rs.length];exact hi),q,by simp⟩
 ny:=fun i G H x H' d c w hd y=>by
  obtain⟨vs,q,rs⟩:=h G H c w
  obtain⟨p,v,rfl,hp,rfl,y⟩:=y
  obtain⟨d',ed,rd⟩:=rs.SQ (y vs q)
  have:d=.tup [.int i,d']:=by
   simp only[l_,List.getElem?_mapIdx,ed,Option.map_some] at hd
   cases hd;rfl
  subst this
  have g:=SY (vs:=[.int i,v]) w hp
  exact⟨_,g,.tup (vs:=[.int i,v]) Aq ki (.cons (.int _) (.cons (rd.same g.sh) .nil))⟩
 stop:=fun G H c w=>by
  obtain⟨vs,q,rs⟩:=h G H c w
  exact⟨vs,q,by rw[l_,List.length_mapIdx,rs.length];exact bT _⟩
theorem pY{vs:List V}(s:dQ K Hs a vs)(rs:aI K Hs ds vs):vV K a ds fun G _=>aC Hs G:=fun G H c w=>⟨vs,aC.seq (c.trans w.sub) s,rs.same c⟩
end
def tpI(K:PySem.W.Frag)(wi:WI):TI:=fun σ H R=>∃ Hs ρ ae Q,dv K Hs ρ σ H ae/\wi ρ Q/\∀ J H' av ds,eL Hs H av H'->vo K av J ds->ds.length<=sizeLine->Q ds->R J H'
abbrev QI(X:Cx)(K:PySem.W.Frag)(tg iter:Expr)(wi:WI):Prop:=PI X tg iter (tpI K wi)
def lY:Md->Prop
 |.bo=>False
 |_=>True
def eY(te:WE):WI:=fun ρ Q=>te ρ fun m d=>lY m/\match d with
 |.list xs=>Q xs
 |_=>False
def qO(lo:Int)(n:Nat):List D:=(List.range n).map fun i=>.int (lo+(i:Nat))
def cA(te:WE):WI:=fun ρ Q=>te ρ fun _ d=>match d with
 |.int j=>j<=16777216/\-(2 ^ 62)<=j/\Q (qO 0 j.toNat)
 |_=>False
section
variable {X:Cx}{K:PySem.W.Frag}{e e2 tg:Expr}{te Tc:WE}{pos p:Pos}
theorem PI.imp{iter:Expr}{t t':TI}(h:PI X tg iter t)(i:∀ σ H R,t' σ H R->t σ H R):PI X tg iter t':=fun pins s σ H R I q=>h pins s σ H R I (i σ H R q)
theorem qQ.imp{J:It}{vs:List V}{c c':Hp->Prop}(s:qQ J vs c)(h:∀ H,c' H->c H):qQ J vs c':=⟨fun i H q=>s.go i H (h H q),fun i H x H' q=>s.ny i H x H' (h H q),fun H q=>s.stop H (h H q)⟩
theorem RM.ym{Hs H aE H1:Hp}{m:Md}{d:D}{v:V}{As:List Addr}(g:eL Hs H aE H1)(r:RM K aE H1 m d v As)(f:cU aE H As)(h:lY m):∃ ay,eL Hs H ay H1/\Rep K ay d v:=by
 cases m with
 |sh=>exact⟨aE,g,r.2⟩
 |bo=>exact h.elim
 |ow fl =>
  have n:∀ a∈As,aE a=none:=fun a ha=>(f.2 a ha).1
  have o:=r.own
  refine⟨tj aE H1 As,⟨g.all,g.sh.trans (gO n),vZ g.wf o,fun a h=>?_⟩,bI.rep (gO n) r.1 fun a ha=>by unfold tj;rw[if_pos ha]⟩
  unfold tj at h
  by_cases m:a∈As
  ·exact .inr (f.2 a m).2
  ·rw[if_neg m] at h;exact g.new a h
theorem eQ(he:QE X K e te)(hK:X.K=K:=by rfl):QI X K tg e (eY te):=by
 subst hK
 refine PI.imp (Vr he) fun σ H R hx=>i3 hx fun Hs ρ ae Q sr h k=>⟨Hs,ρ,ae,_,sr,h,fun v H1 aE m d As g1 r1 f1 q1=>?_⟩
 obtain⟨nb,q1⟩:=q1
 obtain⟨ay,g2,r2⟩:=r1.ym g1 f1 nb
 cases r2 with
 |list z s rs=>exact⟨_,rfl,⟨_,aC.seq g2.wf.sub s⟩,k _ H1 ay _ g2 (.seq rs (qQ.imp (zE X.K _ _) fun H' s'=>aC.seq s' s)) (by rw[rs.length];exact z) q1⟩
 |_=>exact q1.elim
theorem pB{H:Hp}(lo:Int):∀ (l:List Nat),aI K H (l.map fun i=>.int (lo+(i:Nat))) (l.map fun i=>V.int (lo+(i:Nat)))
 |[]=>.nil
 |c :: l=>.cons (.int _) (pB lo l)
theorem bK (hm:X.mg "range" = none) (he:QE X K e te) (hg:Gl X "range" := by rfl) (hs:starEach [e] X.env=(false,eval e X.env) :: starEach [] X.env:=by rfl) (fN:starEach [e] X.env=[(false,eval e X.env)]:=by rfl):QI X K tg (.Call (.Name "range" p) [e] [] pos) (cA te):=by
 refine PI.imp (ZC hg hm (oz he sL hs) fN) fun σ H R hx=>i3 hx fun Hs ρ ae Q sr h k=>⟨Hs,ρ,ae,_,sr,h,fun v H1 aE m d As g1 r1 f1 q1=>?_⟩
 have r:=r1.rep g1.wf
 cases r with
 |int j =>
  obtain⟨h1,h2,q1⟩:=q1
  exact⟨j,rfl,h2,by lia,k _ H1 aE _ g1 (.seq (pB 0 _) (qQ.imp (Ey _ _) fun _ _=>trivial)) (by rw[cK,QY,sizeLine_eq];lia) q1⟩
 |_=>exact q1.elim
section
variable {X:Cx}{K:PySem.W.Frag}{e tg:Expr}{te:WE}{pos p:Pos}
def uc(te:WE):WI:=fun ρ Q=>te ρ fun m d=>lY m/\match d with
 |.list xs=>Q (l_ xs)
 |_=>False
theorem By {elts:List Expr} {kk:Nat} {tp:Pos} (hm:X.mg "enumerate" = none) (he:QE X K e te) (hK:X.K=K:=by rfl) (hg:Gl X "enumerate" := by rfl) (hs:starEach [e] X.env=(false,eval e X.env) :: starEach [] X.env:=by rfl) (fN:starEach [e] X.env=[(false,eval e X.env)]:=by rfl) :
  QI X K (.Tuple elts kk tp) (.Call (.Name "enumerate" p) [e] [] pos) (uc te):=by
 subst hK
 refine PI.imp (Dr hg hm (oz he sL hs) fN) fun σ H R hx=>i3 hx fun Hs ρ ae Q sr h k=>⟨Hs,ρ,ae,_,sr,h,fun v H1 aE m d As g1 r1 f1 q1=>?_⟩
 obtain⟨nb,q1⟩:=q1
 obtain⟨ay,g2,r2⟩:=r1.ym g1 f1 nb
 cases r2 with
 |list z s rs=>exact⟨_,rfl,⟨_,aC.seq g2.wf.sub s⟩,k _ H1 ay _ g2 (.enum (pY s rs)) (by rw[l_,List.length_mapIdx,rs.length];exact z) q1⟩
 |_=>exact q1.elim
def Xi(K:PySem.W.Frag)(wi:WI):TI:=fun σ H R=>∃ Hs ρ ae Q,dv K Hs ρ σ H ae/\wi ρ Q/\∀ J H' av ds,eL Hs H av H'->vo K H' J ds->ds.length<=sizeLine->Q ds->R J H'
abbrev P6(X:Cx)(K:PySem.W.Frag)(tg iter:Expr)(wi:WI):Prop:=PI X tg iter (Xi K wi)
theorem gW{iter:Expr}{wi:WI}(h:QI X K tg iter wi):P6 X K tg iter wi:=PI.imp h fun σ H R hx=>i3 hx fun Hs ρ ae Q sr h k=>⟨Hs,ρ,ae,Q,sr,h,fun J H' av ds g w z q=>k J H' av ds g (w.imp fun G H s=>g.wf.sub.trans s) z q⟩
def i_(te:WE):WI:=fun ρ Q=>te ρ fun _ d=>match d with
 |.list xs=>Q xs
 |_=>False
theorem lq(he:QE X K e te)(hK:X.K=K:=by rfl):P6 X K tg e (i_ te):=by
 subst hK
 refine PI.imp (Vr he) fun σ H R hx=>i3 hx fun Hs ρ ae Q sr h k=>⟨Hs,ρ,ae,_,sr,h,fun v H1 aE m d As g1 r1 f1 q1=>?_⟩
 have r:=r1.rep g1.wf
 cases r with
 |list z s rs=>exact⟨_,rfl,⟨_,s⟩,k _ H1 aE _ g1 (.list (pY s rs)) (by rw[rs.length];exact z) q1⟩
 |_=>exact q1.elim
end
def pQ(g:WG)(b:WS)(E:jw):List D->Env->Prop
 |[],ρ=>E.nx ρ
 |x :: xs,ρ=>g x ρ fun oi=>b { E with nx:=pQ g b E xs,ct:=pQ g b E xs,bk:=E.nx } oi
def ng(wi:WI)(g:WG)(b:WS):WS:=fun E ρ=>wi ρ fun ds=>pQ g b E ds ρ
variable {wi:WI}{g:WG}{b:WS}{body:List Stmt}
theorem cG{iter:Expr}(hp:PassesOwn (model X.prog X.w) X.A X.env X.xe)(hc:X.calm=true)(hi:QI X K tg iter wi)(hg:QG X K tg g)(hb:qA X K L body b)(hs:∀ x,foldedSetIterable iter X.env x=pure x:=by intro _;rfl) :
  QS X K L (.For tg iter body [] pos) (ng wi g b):=by
 refine PS.imp (ZE hp hc hi hg hb hs) fun D σ H hx=>iG hx fun Hs ρ ae E sr h k1 k2 k3 k4 kx=>?_
 rw[Dc]
 refine⟨Hs,ρ,ae,_,sr,h,fun J H1 aE ds g1 S hz q1=>?_⟩
 refine⟨fun i m σ H=>m=ds.length-i/\i<=ds.length/\∃ av bP bX,aC aE av/\dv K av bP σ H bX/\pQ g b E (ds.drop i) bP,⟨ds.length,by simp,dz _,aE,ρ,ae,aC.refl _,sr.grow g1,by simpa using q1⟩,?_⟩
 rintro i m gy H2 ⟨rfl,hi,ay,eS,df,s2,ip,q2⟩
 by_cases da:i<ds.length
 ·refine .inr ⟨S.go i ay H2 s2 ip.wf da,fun pT H3=>∃ av bP bX,aC aE av/\dv K av bP pT H3 bX/\pQ g b E (ds.drop (i+1)) bP,fun pT H3 h3=>⟨ds.length-(i+1),by lia,rfl,da,h3⟩,fun x H3 y=>?_⟩
  obtain⟨eh,g3,rd⟩:=S.ny i ay H2 x H3 ds[i] s2 ip.wf (by simp[da]) y
  rw[xk da] at q2
  have s3:=s2.trans g3.sh
  refine⟨eh,eS,df,ds[i],_,ip.grow g3,rd,q2,fun σ4 vn Td P7 _ q4=>?_⟩
  refine⟨eh,vn,Td,_,P7,q4,?_,?_,?_,?_,fun n H5 s5=>kx n H5 ((g1.sh.trans s3).trans s5)⟩
  ·exact fun Fu H5 oj yn yv s5 yy q5=>⟨oj,yn,yv,s3.trans s5,yy,q5⟩
  ·exact fun Fu H5 oj yn yv s5 yy q5=>k1 Fu H5 oj yn yv ((g1.sh.trans s3).trans s5) yy q5
  ·exact fun Fu H5 oj yn yv s5 yy q5=>⟨oj,yn,yv,s3.trans s5,yy,q5⟩
  ·exact fun v H5 oj m d As s5=>k4 v H5 oj m d As ((g1.sh.trans s3).trans s5)
 ·have e:i=ds.length:=by lia
  subst e
  refine .inl ⟨S.stop ay H2 s2 ip.wf,?_⟩
  rw[Q0] at q2
  exact k1 gy H2 ay eS df (g1.sh.trans s2) ip q2
theorem bH{g:WG}{b:WS}{E:jw}(xs:List D)(Pv:Nat->Env->Prop){ρ:Env}(h0:Pv 0 ρ)
  (hs:∀ i x ρ,xs[i]? = some x->Pv i ρ->∀ N:Env->Prop,(∀ bP,Pv (i+1) bP->N bP)->g x ρ fun oi=>b { E with nx:=N,ct:=N,bk:=E.nx } oi)
  (hd:∀ ρ,Pv xs.length ρ->E.nx ρ):pQ g b E xs ρ:=by
 have go:∀ (k i:Nat) (ρ:Env),i+k=xs.length->Pv i ρ->pQ g b E (xs.drop i) ρ:=by
  intro k
  induction k with
  |zero =>
   intro i ρ e p
   have:i=xs.length:=by lia
   subst this
   rw[Q0]
   exact hd ρ p
  |succ k ih =>
   intro i ρ e p
   have hi:i<xs.length:=by lia
   rw[xk hi]
   exact hs i xs[i] ρ (by simp[hi]) p _ fun eS h2=>ih (i+1) eS (by lia) h2
 have:=go xs.length 0 ρ (by exact L9 ..) h0
 simpa using this
def Bu(c:WT)(b:WS):WS:=fun E ρ=>∃ (Pv:Env->Prop) (μ:Env->Nat),Pv ρ/\∀ ρ,Pv ρ->c ρ fun k=>if k=true then b { E with nx:=fun bP=>Pv bP/\μ bP<μ ρ,ct:=fun bP=>Pv bP/\μ bP<μ ρ,bk:=E.nx } ρ else E.nx ρ
theorem yW{c:Expr}{tc:WT}(hp:PassesOwn (model X.prog X.w) X.A X.env X.xe)(hc:QT X K c tc)(hb:qA X K L body b):QS X K L (.While c body [] pos) (Bu tc b):=by
 refine PS.imp (Zu hp hc hb) fun D σ H hx=>iG hx fun Hs ρ ae E sr h k1 k2 k3 k4 kx=>?_
 obtain⟨Pv,μ,p0,turn⟩:=h
 refine⟨fun m σ H=>∃ av bP bX,aC Hs av/\dv K av bP σ H bX/\Pv bP/\μ bP=m,⟨_,Hs,ρ,ae,aC.refl _,sr,p0,rfl⟩,?_⟩
 rintro m gy H2 ⟨ay,eS,df,s2,ip,p2,rfl⟩
 refine⟨ay,eS,df,_,ip,turn eS p2,fun k H3 eh g3 q3=>?_⟩
 cases k with
 |false=>exact k1 gy H3 eh eS df (s2.trans g3.sh) (ip.grow g3) q3
 |true =>
  refine⟨fun bp H'=>∃ av bP bX,aC Hs av/\dv K av bP bp H' bX/\Pv bP/\μ bP<μ eS,fun bp H' ⟨av,bP,bX,a,b,c,d⟩=>⟨μ bP,d,av,bP,bX,a,b,c,rfl⟩,?_⟩
  have s3:aC Hs eh:=s2.trans g3.sh
  refine⟨eh,eS,df,_,ip.grow g3,q3,?_,?_,?_,?_,fun n H5 s5=>kx n H5 (s3.trans s5)⟩
  ·exact fun Fu H5 oj yn yv s5 yy q5=>⟨oj,yn,yv,s3.trans s5,yy,q5.1,q5.2⟩
  ·exact fun Fu H5 oj yn yv s5 yy q5=>k1 Fu H5 oj yn yv (s3.trans s5) yy q5
  ·exact fun Fu H5 oj yn yv s5 yy q5=>⟨oj,yn,yv,s3.trans s5,yy,q5.1,q5.2⟩
  ·exact fun v H5 oj m d As s5=>k4 v H5 oj m d As (s3.trans s5)
end
def vt:WT:=fun _ Q=>Q true
def P8(m:Md)(d:D):Prop:=d.flat=true\/m=.ow true
def ir(g:WG)(tc:WT)(te:WE):List D->Env->(List D->Prop)->Prop
 |[],_,k=>k []
 |x :: xs,ρ,k=>g x ρ fun oi=>tc oi fun b=>if b=true then te oi fun m d=>P8 m d/\ir g tc te xs oi (fun out=>k (d :: out)) else ir g tc te xs oi k
def DP(tn:Nat)(ix:List Nat)(ρ:Env):Env:=List.replicate tn none++ix.map fun j=>(ρ[j]?).join.map Nt
def e_(wi:WI)(g:WG)(tc:WT)(te:WE)(tn:Nat)(ix:List Nat):WE:=fun ρ Q=>wi ρ fun ds=>ir g tc te ds (DP tn ix ρ) fun out=>Q (.ow true) (.list out)
section
variable {X:Cx}{K:PySem.W.Frag}
theorem mF{Hs H G:Hp}{ρ:Env}{σ:St}{ae:List Addr}(sr:dv K Hs ρ σ H ae)(G':Hp):∀ (ix:List Nat),SR K H G' (ix.map fun j=>(ρ[j]?).join.map Nt) (ix.map fun j=>(σ[j]?).join) []
 |[]=>.nil
 |j :: ix=>by
  have ih:=mF sr G' ix (G:=G)
  simp only[fz]
  cases e:ρ[j]? with
  |none=>exact .non ih
  |some o =>
   cases o with
   |none=>exact .non ih
   |some sl =>
    obtain⟨v,e1,r⟩:=sr.sr.get e
    rw[e1]
    cases sl with
    |sh d=>exact .sh (Rep.same sr.wf.sub r) ih
    |xc a=>subst r;exact .xc ih
    |ow fl d =>
     obtain⟨As,_,r,_⟩:=r
     exact .sh (r.rep sr.wf.sub fun _ _=>rfl) ih
    |lk a fl d =>
     obtain⟨As,_,r,_⟩:=r
     exact .sh (r.rep sr.wf.sub fun _ _=>rfl) ih
theorem qI{H G:Hp}{ρ:Env}{σ:St}(s:SR K H G ρ σ []):∀ (n:Nat),SR K H G (List.replicate n none++ρ) (List.replicate n none++σ) []
 |0=>s
 |n+1=>.non (qI s n)
theorem SR.heap{Hs H H':Hp}{ρ:Env}{σ:St}(s:SR K Hs H ρ σ []):SR K Hs H' ρ σ []:=s.eM (aC.refl _) fun a h=>nomatch h
theorem vM{Hs H:Hp}{p:Addr}{o:HO}(w:Wf Hs H)(n:Hs p=none)(ho:∀ vs,o≠.tup vs):Wf Hs (upd H p o):=⟨fun b u q=>by
  rw[eJ (fun z=>by subst z;rw[n] at q;cases q)];exact w.sub b u q,fun b us q=>by
  by_cases hb:b=p
  ·subst hb;rw[ki] at q;exact absurd (Option.some.inj q) (ho us)
  ·rw[eJ hb] at q;exact w.ja b us q⟩
structure CompI(K:PySem.W.Frag)(H1:Hp)(b:Addr)(acc:List D)(ys:List V)(As:List Addr)(Hs:Hp)(ρ:Env)(τ:St)(H:Hp):Prop where
 sm:aC H1 Hs
 sr:dv K Hs ρ τ H []
 eD:H b=some (.lst ys)
 nD:Hs b=none
 ra:aD K Hs H true acc ys As
 nd:(b :: As).Nodup
 own:∀ a∈As,Hs a=none
theorem CompI.grow{H1:Hp}{b:Addr}{acc:List D}{ys:List V}{As:List Addr}{Hs H av H':Hp}{ρ:Env}{τ:St}(c:CompI K H1 b acc ys As Hs ρ τ H)(g:eL Hs H av H'):CompI K H1 b acc ys As av ρ τ H' :=
 ⟨c.sm.trans g.sh,c.sr.grow g,g.all _ _ c.eD,g.qq c.nD (by rw[c.eD];exact fun z=>nomatch z),c.ra.grow g.sh g.all,c.nd,fun a ha=>g.qq (c.own a ha) (c.ra.own a ha).ne⟩
theorem CompI.push{H1:Hp}{b:Addr}{acc:List D}{ys:List V}{As Bs:List Addr}{Hs H:Hp}{ρ:Env}{τ:St}{m:Md}{d:D}{v:V}(c:CompI K H1 b acc ys As Hs ρ τ H)(r:RM K Hs H m d v Bs)(ok:P8 m d)(nb:Bs.Nodup)(fb:∀ a∈Bs,Hs a=none/\a∉b :: As):∃ fF,CompI K H1 b (acc++[d]) (ys++[v]) fF Hs ρ τ (upd H b (.lst (ys++[v]))):=by
 obtain⟨B,sb,rb⟩:∃ B,B.Sublist Bs/\bI K Hs H true d v B:=by
  rcases ok with hf|rfl
  ·exact⟨[],GU _,.sh (fun _=>hf) (r.flat c.sr.wf hf)⟩
  ·exact⟨Bs,List.Sublist.refl _,r.1⟩
 obtain⟨na,nA⟩:=ly.mp c.nd
 have P9:=fun a ha=>fb a (sb.subset ha)
 refine⟨As++(B++[]),c.sm,⟨c.sr.sr.heap,vM c.sr.wf c.nD (fun _ z=>nomatch z),oq,fun a h=>nomatch h⟩,ki,c.nD,(c.ra.eM (H':=upd H b (.lst (ys++[v]))) (aC.refl _) fun a ha=>eJ fun z=>na (by subst z;exact ha)).append (.cons (rb.eM (aC.refl _) fun a ha=>eJ fun z=>(P9 a ha).2 (by subst z;exact cf)) .nil),?_,?_⟩
 ·rw[nL]
  refine ly.mpr ⟨fun m=>(dy.mp m).elim na fun m=>(P9 b m).2 cf,i7.mpr ⟨nA,sb.nodup nb,fun x hx y hy e=>(P9 y hy).2 (e ▸ cc _ hx)⟩⟩
 ·rw[nL]
  exact fun a ha=>(dy.mp ha).elim (c.own a) fun m=>(P9 a m).1
theorem pJ{wi:WI}{g:WG}{tc:WT}{te:WE}{tn:Nat}{ix:List Nat}{σ:St}{H:Hp}{Qv:VK}(h:kS K (e_ wi g tc te tn ix) σ H Qv):yl (Xi K wi) (Xh K g) (B3 K tc) (kS K te) tn ix σ H Qv:=by
 obtain⟨Hs,ρ,ae,Q,sr,h,f⟩:=h
 rw[Ae]
 refine⟨Hs,ρ,ae,_,sr,h,fun J H1 aE ds g1 S hz q1 b hb=>?_⟩
 have st:CompI K H1 b [] [] [] H1 (DP tn ix ρ) (n_ tn ix σ) (upd H1 b (.lst [])):=by
  refine⟨aC.refl _,⟨qI (mF (G:=H1) (sr.grow g1) _ ix) tn,⟨(aC.refl H1).upd hb,fun a xs e=>?_⟩,oq,fun a h=>nomatch h⟩,ki,hb,.nil,by simp,fun a h=>nomatch h⟩
  by_cases ha:a=b
  ·subst ha;rw[ki] at e;cases e
  ·rw[eJ ha] at e;exact e
 refine⟨fun i m τ H2=>m=ds.length-i/\i<=ds.length/\∃ ay eS acc ys As,CompI K H1 b acc ys As ay eS τ H2/\acc.length<=i/\ir g tc te (ds.drop i) eS (fun out=>Q (.ow true) (.list (acc++out))),
  ⟨ds.length,by simp,dz _,H1,_,[],[],[],st,bT _,by simpa using q1⟩,?_⟩
 rintro i m τ H2 ⟨rfl,hi,ay,eS,acc,ys,As,c,la,q2⟩
 by_cases da:i<ds.length
 ·refine .inr ⟨S.go i ay H2 c.sm c.sr.wf da,
   fun Kj v H4=>∃ Jn vn d,CompI K H1 b acc ys As Jn vn Kj H4/\(∃ fF,CompI K H1 b (acc++[d]) (ys++[v]) fF Jn vn Kj (upd H4 b (.lst (ys++[v]))))/\ir g tc te (ds.drop (i+1)) vn (fun out=>Q (.ow true) (.list (acc++d :: out))),
   fun Kj H3=>∃ eh Ki,CompI K H1 b acc ys As eh Ki Kj H3/\ir g tc te (ds.drop (i+1)) Ki (fun out=>Q (.ow true) (.list (acc++out))),?_,?_,?_⟩
  ·rintro Kj v H4 ⟨Jn,vn,d,c4,⟨fF,c5⟩,q4⟩
   have lya:=c4.ra.length
   exact⟨ys,ds.length-(i+1),c4.eD,by lia,by lia,rfl,da,Jn,vn,acc++[d],ys++[v],fF,c5,by rw[tS];simpa using la,by simpa using q4⟩
  ·rintro Kj H3 ⟨eh,Ki,c3,q3⟩
   exact⟨ds.length-(i+1),by lia,rfl,da,eh,Ki,acc,ys,As,c3,by lia,q3⟩
  ·intro x H3 y
   obtain⟨eh,g3,rd⟩:=S.ny i ay H2 x H3 ds[i] c.sm c.sr.wf (by simp[da]) y
   rw[xk da] at q2
   have c3:=c.grow g3
   refine⟨eh,eS,[],ds[i],_,c3.sr,rd,q2,fun τ4 vn Td P7 m4 q4=>?_⟩
   have t4:Td=[]:=List.eq_nil_iff_forall_not_mem.mpr fun a ha=>nomatch m4 a ha
   subst t4
   have c4:CompI K H1 b acc ys As eh vn τ4 H3:=⟨c3.sm,P7,c3.eD,c3.nD,c3.ra,c3.nd,c3.own⟩
   refine⟨eh,vn,[],_,P7,q4,fun k H5 oj g5 q5=>?_⟩
   have c5:=c4.grow g5
   cases k with
   |false=>exact⟨oj,vn,c5,q5⟩
   |true =>
    refine⟨oj,vn,[],_,c5.sr,q5,fun v H6 Hs6 m6 d6 As6 g6 r6 f6 q6=>?_⟩
    have c6:=c5.grow g6
    refine⟨Hs6,vn,d6,c6,c6.push r6 q6.1 f6.1 fun a ha=>⟨(f6.2 a ha).1,fun m=>?_⟩,q6.2⟩
    rcases cS.mp m with rfl|m
    ·have:=(f6.2 _ ha).2
     rw[c5.eD] at this;cases this
    ·exact(c5.ra.own a m).ne (f6.2 a ha).2
 ·have e:i=ds.length:=by lia
  subst e
  refine .inl ⟨S.stop ay H2 c.sm c.sr.wf,?_⟩
  rw[Q0] at q2
  have q2:Q (.ow true) (.list (acc++[])):=q2
  rw[nL] at q2
  have lya:=c.ra.length
  have rm:RM K ay H2 (.ow true) (.list acc) (.ref b) (b :: As):=⟨.list (by lia) c.eD c.ra,by simp⟩
  obtain⟨fF,r',fr⟩:=nR g1.wf c.sm c.sr.wf rm c.nd fun a ha=>(cS.mp ha).elim (fun z=>z ▸ c.nD) (c.own a)
  exact Fin.after f g1 (.ref b) H2 _ (.ow true) (.list acc) fF (fG g1.wf c.sm c.sr.wf) r' fr q2
theorem Au.imp{ifs:List Expr}{t t':TT}(h:Au X ifs t)(i:∀ σ H Q,t' σ H Q->t σ H Q):Au X ifs t':=fun pins s σ H Q I q=>h pins s σ H Q I (i σ H Q q)
abbrev P_(X:Cx)(K:PySem.W.Frag)(ifs:List Expr)(t:WT):Prop:=Au X ifs (B3 K t)
theorem dB:P_ X K [] vt:=Au.imp Ex fun σ H Qv hx=>i3 hx fun Hs ρ ae Q sr h k=>k true H Hs (eL.refl sr.wf) h
theorem rH{c:Expr}{t:WT}(h:QT X K c t):P_ X K [c] t:=Dn h
theorem jj{tg iter elt:Expr}{ifs:List Expr}{scope:Scope}{pos:Pos}{wi:WI}{g:WG}{tc:WT}{te:WE}{tn cn:List Str}{ix:List Nat}(hc:X.calm=true)(hi:P6 X K tg iter wi)(O:bY X scope tn cn ix)
  (hg:∀ C fp fI g0,QG (bj X scope C (tn++cn) fp fI g0) K tg g) (oB:∀ C fp fI g0,P_ (bj X scope C (tn++cn) fp fI g0) K ifs tc) (he:∀ C fp fI g0,QE (bj X scope C (tn++cn) fp fI g0) K elt te)
  (hs:∀ x,foldedSetIterable iter X.env x=pure x:=by intro _;rfl):QE X K (.ListComp elt [⟨tg,iter,ifs,0⟩] scope pos) (e_ wi g tc te tn.length ix) :=
 PE.imp (DN hc hi O hg oB he hs) fun σ H Qv h=>pJ h
end
theorem dF{g:WG}{tc:WT}{te:WE}(p:D->Bool)(f:D->D)(Iv:Env->Prop):∀ (xs:List D) (ρ:Env) (k:List D->Prop),Iv ρ ->
  (∀ x∈xs,∀ ρ,Iv ρ->∀ N1:Env->Prop,∀ N2:Env->D->Prop,(∀ bP,Iv bP->p x=false->N1 bP)->(∀ bP,Iv bP->p x=true->N2 bP (f x))->g x ρ fun oi=>tc oi fun b=>if b=true then te oi fun m d=>P8 m d/\N2 oi d else N1 oi) ->
  k ((xs.filter p).map f)->ir g tc te xs ρ k
 |[],_,k,_,_,h=>h
 |x :: xs,ρ,k,iv,hs,h=>by
  refine hs x cf ρ iv _ _ (fun bP Nv hp=>?_) (fun bP Nv hp=>?_)
  ·exact dF p f Iv xs bP k Nv (fun y hy=>hs y (cc _ hy)) (by simpa[hp] using h)
  ·exact dF p f Iv xs bP _ Nv (fun y hy=>hs y (cc _ hy)) (by simpa[hp] using h)
def Upd(K:PySem.W.Frag)(Hs H:Hp)(σ:St)(fl:Bool)(v:V)(up:Bool->D->Env)(fF:List Addr):Prop:=∀ ay H2 fl2 d2 fR,aC Hs ay->Wf ay H2->(∀ a,Hs a=none->H a≠none->ay a=none)->(fl2=true->fl=true) ->
  bI K ay H2 fl2 d2 v fR->fR≠[]->fR.Nodup->(∀ a∈fR,ay a=none/\(a∈fF\/H a=none))->(∀ a,H a≠none->a∉fF->H2 a=H a)->∃ df,dv K ay (up fl2 d2) σ H2 df
structure Place(K:PySem.W.Frag)(Hs H:Hp)(σ:St)(fl:Bool)(d:D)(v:V)(up:Bool->D->Env):Prop where
 ex:∃ fF,bI K Hs H fl d v fF/\fF≠[]/\fF.Nodup/\(∀ a∈fF,Hs a=none)/\Upd K Hs H σ fl v up fF
theorem Upd.node{K:PySem.W.Frag}{Hs H ay H2:Hp}{σ:St}{fl fl2:Bool}{up:Bool->D->Env}{a:Addr}{A C:List Addr}{o:HO}{d2:D}(k:Upd K Hs H σ fl (.ref a) up (a :: A))(g:eL Hs H ay H2)(own:∀ x∈a :: A,Hs x=none/\H x≠none)(ho:∀ vs,o≠.tup vs)(hf:fl2=true->fl=true)
  (r:bI K ay (upd H2 a o) fl2 d2 (.ref a) (a :: C)) (nC:C.Nodup) (Qa:a∉C) (hC:∀ x∈C,x∈A\/(ay x=none/\H x=none)):∃ df,dv K ay (up fl2 d2) σ (upd H2 a o) df:=by
 have hn:∀ x∈a :: A,ay x=none:=fun x hx=>g.qq (own x hx).1 (own x hx).2
 refine k ay _ fl2 d2 (a :: C) g.sh (vM g.wf (hn a cf) ho) (fun b h1 h2=>g.qq h1 h2) hf r (Ol _ _) (ly.mpr ⟨Qa,nC⟩) (fun b hb=>?_) fun b h1 h2=>?_
 ·rcases cS.mp hb with rfl|hb
  ·exact⟨hn _ cf,.inl cf⟩
  ·exact(hC b hb).elim (fun q=>⟨hn b (cc _ q),.inl (cc _ q)⟩) fun q=>⟨q.1,.inr q.2⟩
 ·rw[eJ fun z=>h2 (by subst z;exact cf)]
  cases q:H b with
  |none=>exact absurd q h1
  |some o=>exact g.all b o q
abbrev WP:=Env->(Bool->D->(Bool->D->Env)->Prop)->Prop
def tpP(K:PySem.W.Frag)(t:WP):TE:=fun σ H Qv=>∃ Hs ρ ae Q,dv K Hs ρ σ H ae/\t ρ Q/\∀ v H' av fl d up,eL Hs H av H'->Place K av H' σ fl d v up->Q fl d up->Qv v H'
abbrev QP(X:Cx)(K:PySem.W.Frag)(e:Expr)(t:WP):Prop:=PE X e (tpP K t)
section
variable {K:PySem.W.Frag}{Hs H av H':Hp}{σ:St}{fl:Bool}{d:D}{v:V}{up:Bool->D->Env}
theorem Place.grow(p:Place K Hs H σ fl d v up)(g:eL Hs H av H'):Place K av H' σ fl d v up:=by
 obtain⟨fF,r,ne,nd,own,k⟩:=p.ex
 refine⟨fF,r.grow g.sh g.all,ne,nd,fun a h=>g.qq (own a h) (r.own a h).ne,fun ay H2 fl2 d2 fR s2 w2 n2 hf r2 ne2 nI o2 st=>?_⟩
 refine k ay H2 fl2 d2 fR (g.sh.trans s2) w2 (fun a h1 h2=>n2 a (g.qq h1 h2) ?_) hf r2 ne2 nI (fun a h=>⟨(o2 a h).1,(o2 a h).2.imp id g.all.free⟩) fun a h1 h2=>?_
 ·cases e:H a with
  |none=>exact absurd e h2
  |some o=>rw[g.all a o e];exact fun z=>nomatch z
 ·cases e:H a with
  |none=>exact absurd e h1
  |some o =>
   have:=g.all a o e
   rw[<- this]
   exact st a (by rw[this];exact fun z=>nomatch z) h2
theorem bI.ne2:(∀ {d:D} {v:V} {As:List Addr},bI K Hs H true d v As->d.flat=false->As≠[])/\∀ {ds:List D} {vs:List V} {As:List Addr},aD K Hs H true ds vs As->cv ds=false->As≠[] :=
 bI.ind (m1:=fun d _ As=>d.flat=false->As≠[]) (m2:=fun ds _ As=>cv ds=false->As≠[]) (fun _ _ f _ h=>by rw[f rfl] at h;cases h) (fun _ _ _ _ _ _ _ _ _=>Ol _ _) (fun _ _ _ _ _ _ n _ ih _=>ih n) (fun _ _ _ _ _ _ _ _ _=>Ol _ _) (fun _ _ _ _ _ _ _ _ _=>Ol _ _)
  (fun h=>by simp[cv] at h) fun d _ _ _ _ _ _ _ i1 i2 h=>by
   cases e:d.flat with
   |false=>exact fun z=>i1 e (LP.mp z).1
   |true =>
    simp only[cv,e,Bool.true_and] at h
    exact fun z=>i2 h (LP.mp z).2
theorem bI.ne{d:D}{v:V}{As:List Addr}(r:bI K Hs H true d v As)(h:d.flat=false):As≠[]:=bI.ne2.1 r h
theorem bI.nil_of{fl:Bool}{d:D}{v:V}{As:List Addr}(r:bI K Hs H fl d v As)(h:d.flat=true):As=[]:=by
 cases r with
 |sh _ _=>rfl
 |tup _ _ n _=>simp[D.flat,n] at h
 |_=>simp[D.flat] at h
def tq(i:Nat):WP:=fun ρ Q=>match ρ[i]? with
 |some (some (.ow fl d))=>Q fl d fun fl2 d2=>ρ.set i (some (.ow fl2 d2))
 |_=>False
theorem SR.put{Hs H:Hp}{fl:Bool}{d:D}{ρ:Env}{σ:St}{ae:List Addr}(i:Nat)(s:SR K Hs H ρ σ ae):ρ[i]? = some (some (.ow fl d))->ae.Nodup ->
  ∃ (v:V) (As bX:List Addr),σ[i]? = some (some v)/\As≠[]/\bI K Hs H fl d v As/\As.Sublist ae/\∀ ay H2 fl2 d2 fR,aC Hs ay->bI K ay H2 fl2 d2 v fR->fR≠[]->fR.Nodup->(∀ a∈fR,a∈ae->a∈As)->(∀ a∈ae,a∉As->H2 a=H a) ->
   ∃ df,df.Nodup/\(∀ a∈df,a∈ae\/a∈fR)/\SR K ay H2 (ρ.set i (some (.ow fl2 d2))) σ df:=by
 induction s generalizing i with
 |nil=>intro e;simp at e
 |@non ρ σ ae o q ih =>
  intro e n
  cases i with
  |zero=>simp at e
  |succ i =>
   obtain⟨v,As,t,a,b,c,d,g⟩:=ih i (by simpa using e) n
   refine⟨v,As,t,by simpa using a,b,c,d,fun ay H2 fl2 d2 fR s2 r2 ne2 nI dj st=>?_⟩
   obtain⟨t2,x,y,z⟩:=g ay H2 fl2 d2 fR s2 r2 ne2 nI dj st
   exact⟨t2,x,y,.non z⟩
 |sh r q ih =>
  intro e n
  cases i with
  |zero=>simp at e
  |succ i =>
   obtain⟨v,As,t,a,b,c,d,g⟩:=ih i (by simpa using e) n
   refine⟨v,As,t,by simpa using a,b,c,d,fun ay H2 fl2 d2 fR s2 r2 ne2 nI dj st=>?_⟩
   obtain⟨t2,x,y,z⟩:=g ay H2 fl2 d2 fR s2 r2 ne2 nI dj st
   exact⟨t2,x,y,.sh (r.same s2) z⟩
 |xc q ih =>
  intro e n
  cases i with
  |zero=>simp at e
  |succ i =>
   obtain⟨v,As,t,a,b,c,d,g⟩:=ih i (by simpa using e) n
   refine⟨v,As,t,by simpa using a,b,c,d,fun ay H2 fl2 d2 fR s2 r2 ne2 nI dj st=>?_⟩
   obtain⟨t2,x,y,z⟩:=g ay H2 fl2 d2 fR s2 r2 ne2 nI dj st
   exact⟨t2,x,y,.xc z⟩
 |@ow ρ σ t2 B fl0 d0 v ne r q ih =>
  intro e n
  obtain⟨n1,n2,n3⟩:=i7.mp n
  cases i with
  |zero =>
   simp at e
   obtain⟨rfl,rfl⟩:=e
   refine⟨v,B,t2,rfl,ne,r,LN _ _,fun ay H2 fl2 d2 fR s2 r2 ne2 nI dj st=>⟨fR++t2,i7.mpr ⟨nI,n2,fun a ha b hb e=>?_⟩,fun a h=>?_,.ow ne2 r2 (q.eM s2 fun a h=>st a (fh _ h) fun z=>n3 a z a h rfl)⟩⟩
   ·subst e
    exact n3 a (dj a ha (fh _ hb)) a hb rfl
   ·exact(dy.mp h).symm.imp (fun z=>fh _ z) id
  |succ i =>
   obtain⟨v,As,t,a,b,c,d,g⟩:=ih i (by simpa using e) n2
   have hB:∀ x∈B,x∉As:=fun x hx m=>n3 x hx x (d.subset m) rfl
   refine⟨v,As,B++t,by simpa using a,b,c,d.trans (px _ _),fun ay H2 fl2 d2 fR s2 r2 ne2 nI dj st=>?_⟩
   obtain⟨t2,x,y,z⟩:=g ay H2 fl2 d2 fR s2 r2 ne2 nI (fun a ha m=>dj a ha (fh _ m)) fun a ha m=>st a (fh _ ha) m
   refine⟨B++t2,i7.mpr ⟨n1,x,fun a ha b hb e=>?_⟩,fun a h=>?_,.ow ne (r.eM s2 fun a h=>st a (kc _ h) (hB a h)) z⟩
   ·subst e
    rcases y a hb with w|w
    ·exact n3 a ha a w rfl
    ·exact hB a ha (dj a w (kc _ ha))
   ·rcases dy.mp h with w|w
    ·exact .inl (kc _ w)
    ·exact(y a w).imp (fun w=>fh _ w) id
 |@lk ρ σ t2 B a0 fl0 d0 ne r q ih =>
  intro e n
  obtain⟨n1,n2,n3⟩:=i7.mp n
  cases i with
  |zero=>simp at e
  |succ i =>
   obtain⟨v,As,t,a,b,c,d,g⟩:=ih i (by simpa using e) n2
   have hB:∀ x∈B,x∉As:=fun x hx m=>n3 x hx x (d.subset m) rfl
   refine⟨v,As,B++t,by simpa using a,b,c,d.trans (px _ _),fun ay H2 fl2 d2 fR s2 r2 ne2 nI dj st=>?_⟩
   obtain⟨t2,x,y,z⟩:=g ay H2 fl2 d2 fR s2 r2 ne2 nI (fun a ha m=>dj a ha (fh _ m)) fun a ha m=>st a (fh _ ha) m
   refine⟨B++t2,i7.mpr ⟨n1,x,fun a ha b hb e=>?_⟩,fun a h=>?_,.lk ne (r.eM s2 fun a h=>st a (kc _ h) (hB a h)) z⟩
   ·subst e
    rcases y a hb with w|w
    ·exact n3 a ha a w rfl
    ·exact hB a ha (dj a w (kc _ ha))
   ·rcases dy.mp h with w|w
    ·exact .inl (kc _ w)
    ·exact(y a w).imp (fun w=>fh _ w) id
theorem dh{X:Cx}{i:Nat}{e:Expr}(h:PE X e (DJ i)):QP X K e (tq i):=PE.imp h fun σ H Qv hx=>i3 hx fun Hs ρ ae Q sr h f=>by
 unfold tq at h
 split at h
 ·rename_i fl d e1
  obtain⟨v,As,t,e2,ne,r,sb,g⟩:=SR.put i sr.sr e1 sr.sQ
  refine⟨v,e2,f v H Hs fl d _ (eL.refl sr.wf) ⟨As,r,ne,sb.nodup sr.sQ,fun a h=>sr.own a (sb.subset h),fun ay H2 fl2 d2 fR s2 w2 n2 _ r2 ne2 nI o2 st=>?_⟩ h⟩
  obtain⟨t2,x,y,z⟩:=g ay H2 fl2 d2 fR s2 r2 ne2 nI (fun a ha m=>(o2 a ha).2.elim id fun q=>absurd q (sr.sr.own a m).ne) fun a ha m=>st a (sr.sr.own a ha).ne m
  exact⟨t2,z,w2,x,fun a h=>(y a h).elim (fun q=>n2 a (sr.own a q) (sr.sr.own a q).ne) fun q=>(o2 a q).1⟩
 ·exact h.elim
theorem bI.wk{fl fl2:Bool}{d:D}{v:V}{As:List Addr}(h:fl2=true->fl=true)(r:bI K Hs H fl d v As):bI K Hs H fl2 d v As:=by
 cases fl2 with
 |false=>exact r.PQ
 |true=>rw[h rfl] at r;exact r
theorem aD.wk{fl fl2:Bool}{d:List D}{v:List V}{As:List Addr}(h:fl2=true->fl=true)(r:aD K Hs H fl d v As):aD K Hs H fl2 d v As:=by
 cases fl2 with
 |false=>exact r.PQ
 |true=>rw[h rfl] at r;exact r
theorem aD.at{fl:Bool}{ds:List D}{vs:List V}{As:List Addr}{j:Nat}{d:D}(r:aD K Hs H fl ds vs As)(e:ds[j]? = some d)(n:As.Nodup) :
  ∃ (v:V) (B:List Addr),vs[j]? = some v/\bI K Hs H fl d v B/\B.Sublist As/\∀ ay H2 fl2 d2 B2,aC Hs ay->(fl2=true->fl=true)->bI K ay H2 fl2 d2 v B2->B2.Nodup->(∀ a∈B2,a∈As->a∈B)->(∀ a∈As,a∉B->H2 a=H a) ->
   ∃ fR,fR.Nodup/\(∀ a∈fR,(a∈As/\a∉B)\/a∈B2)/\(B2≠[]->fR≠[])/\aD K ay H2 fl2 (ds.set j d2) vs fR:=by
 induction ds generalizing vs As j with
 |nil=>simp at e
 |cons x ds ih =>
  obtain⟨v,us,A,B,rfl,rfl,r,rs⟩:=r.c
  obtain⟨n1,n2,n3⟩:=i7.mp n
  cases j with
  |zero =>
   simp at e
   subst e
   refine⟨v,A,rfl,r,LN _ _,fun ay H2 fl2 d2 B2 s2 hf r2 nI dj st=>⟨B2++B,i7.mpr ⟨nI,n2,fun a ha b hb e=>?_⟩,fun a h=>?_,fun ne z=>ne (LP.mp z).1,.cons r2 ((rs.wk hf).eM s2 fun a h=>st a (fh _ h) fun z=>n3 a z a h rfl)⟩⟩
   ·subst e
    exact n3 a (dj a ha (fh _ hb)) a hb rfl
   ·rcases dy.mp h with w|w
    ·exact .inr w
    ·exact .inl ⟨fh _ w,fun z=>n3 a z a w rfl⟩
  |succ j =>
   obtain⟨v,C,a,b,c,g⟩:=ih (j:=j) rs (by simpa using e) n2
   have hA:∀ x∈A,x∉C:=fun x hx m=>n3 x hx x (c.subset m) rfl
   refine⟨v,C,by simpa using a,b,c.trans (px _ _),fun ay H2 fl2 d2 B2 s2 hf r2 nI dj st=>?_⟩
   obtain⟨fR,x,y,w,z⟩:=g ay H2 fl2 d2 B2 s2 hf r2 nI (fun a ha m=>dj a ha (fh _ m)) fun a ha m=>st a (fh _ ha) m
   refine⟨A++fR,i7.mpr ⟨n1,x,fun a ha b hb e=>?_⟩,fun a h=>?_,fun ne q=>w ne (LP.mp q).2,.cons ((r.wk hf).eM s2 fun a h=>st a (kc _ h) (hA a h)) z⟩
   ·subst e
    rcases y a hb with q|q
    ·exact n3 a ha a q.1 rfl
    ·exact hA a ha (dj a q (kc _ ha))
   ·rcases dy.mp h with q|q
    ·exact .inl ⟨kc _ q,hA a q⟩
    ·exact(y a q).imp (fun q=>⟨fh _ q.1,q.2⟩) id
def Nw(p:WP)(t:WE):WP:=fun ρ Q=>p ρ fun fl d up=>t ρ fun _ y=>fl=true/\match y with
 |.int i=>match d with
  |.list ds=>∃ j d',oC ds.length i=some j/\ds[j]? = some d'/\d'.flat=false/\Q true d' fun fl2 d2=>up fl2 (.list (ds.set j d2))
  |.tup ds=>∃ j d',oC ds.length i=some j/\ds[j]? = some d'/\d'.flat=false/\Q true d' fun fl2 d2=>up fl2 (.tup (ds.set j d2))
  |_=>False
 |_=>False
theorem yN{α:Type}{xs:List α}{i:Int}{j:Nat}{x:α}(h:oC xs.length i=some j)(e:xs[j]? = some x):fq xs i=some x:=by unfold L2.fq;rw[h];exact e
theorem zm{ds:List D}{j:Nat}{d:D}(e:ds[j]? = some d)(h:d.flat=false):cv ds=false:=by
 cases q:cv ds with
 |false=>rfl
 |true=>rw[jT.mp q d (mB e)] at h;cases h
theorem vh{ds:List D}{j:Nat}{d d2:D}(e:ds[j]? = some d)(h:d2.flat=false):cv (ds.set j d2)=false:=by
 have hj:j<ds.length:=(hV.mp e).1
 exact zm (j:=j) (d:=d2) (by simp[hj]) h
theorem Fd{X:Cx}{a b:Expr}{p:WP}{t:WE}{pos:Pos}(hu:X.A.units+64<cLine)(ha:QP X K a p)(hb:QE X K b t)(hs:RQ b:=by exact fun _ _=>rfl)(hK:X.K=K:=by rfl):QP X K (.Subscript a b pos) (Nw p t):=by
 refine PE.imp (VZ (Xb hu hK) ha hb hs) fun σ H Qv hx=>i3 hx fun Hs ρ ae Q sr h f=>?_
 refine⟨Hs,ρ,ae,_,sr,h,fun v H1 aE fl d up g1 p1 q1=>⟨aE,ρ,ae,_,sr.grow g1,q1,fun u H2 ay m y As g2 r2 f2 q2=>?_⟩⟩
 have p2:=p1.grow g2
 have gg:=g1.trans g2
 obtain⟨rfl,q2⟩:=q2
 have ry:=r2.rep g2.wf
 cases ry with
 |int i =>
  obtain⟨fF,r,ne,nd,own,k⟩:=p2.ex
  cases r with
  |sh hf _=>exact absurd rfl ne
  |@list a0 vs0 ds0 A0 hz e rs =>
   obtain⟨j,d',e1,e2,hd,q⟩:=q2
   obtain⟨na,nb⟩:=ly.mp nd
   obtain⟨w,B,e3,r3,sb,g⟩:=rs.at e2 nb
   refine .inl (.inl ⟨_,w,.inl (.inl e),yN (by rw[<- rs.length];exact e1) e3,f w H2 ay true d' _ gg ⟨B,r3,r3.ne hd,sb.nodup nb,fun a h=>own a (cc _ (sb.subset h)),fun eh H3 Nx d3 Nj s3 w3 n3 hf r4 ne3 Te o3 st=>?_⟩ q⟩)
   have ag:∀ x∈A0,x∉B->H3 x=H2 x:=fun x hx m=>st x (rs.own x hx).ne m
   obtain⟨JA,x4,y4,z4,r5⟩:=g eh H3 Nx d3 Nj s3 hf r4 Te (fun a ha m=>(o3 a ha).2.elim id fun q=>absurd q (rs.own a m).ne) ag
   have eA:H3 a0=H2 a0:=st a0 (by rw[e];exact fun z=>nomatch z) fun m=>na (sb.subset m)
   have cl:∀ a∈JA,eh a=none/\(a∈a0 :: A0\/H2 a=none):=fun a h=>by
    rcases y4 a h with⟨m,_⟩|m
    ·exact⟨n3 a (own a (cc _ m)) (rs.own a m).ne,.inl (cc _ m)⟩
    ·exact⟨(o3 a m).1,(o3 a m).2.imp (fun q=>cc _ (sb.subset q)) id⟩
   refine k eh H3 Nx (.list _) (_ :: JA) s3 w3 n3 hf (.list hz (eA.trans e) r5) (by simp) (ly.mpr ⟨fun m=>?_,x4⟩) (fun a h=>?_) fun a h1 h2=>st a h1 fun m=>h2 (cc _ (sb.subset m))
   ·rcases y4 _ m with⟨q,_⟩|q
    ·exact na q
    ·rcases (o3 _ q).2 with q|q
     ·exact na (sb.subset q)
     ·rw[e] at q;cases q
   ·rcases cS.mp h with rfl|h
    ·exact⟨n3 _ (own _ cf) (by rw[e];exact fun z=>nomatch z),.inl cf⟩
    ·exact cl a h
  |tup hz e hn rs =>
   obtain⟨j,d',e1,e2,hd,q⟩:=q2
   obtain⟨w,B,e3,r3,sb,g⟩:=rs.at e2 nd
   refine .inl (.inr ⟨_,w,.inl (.inl (g2.wf.sub _ _ e)),yN (by rw[<- rs.length];exact e1) e3,f w H2 ay true d' _ gg ⟨B,r3,r3.ne hd,sb.nodup nd,fun a h=>own a (sb.subset h),fun eh H3 Nx d3 Nj s3 w3 n3 hf r4 ne3 Te o3 st=>?_⟩ q⟩)
   obtain⟨JA,x4,y4,z4,r5⟩:=g eh H3 Nx d3 Nj s3 hf r4 Te (fun a ha m=>(o3 a ha).2.elim id fun q=>absurd q (rs.own a m).ne) (fun x hx m=>st x (rs.own x hx).ne m)
   have IG:cv (List.set _ j d3)=false:=vh e2 (by
    cases hh:d3.flat with
    |false=>rfl
    |true=>exact absurd (r4.nil_of hh) ne3)
   refine k eh H3 Nx (.tup _) JA s3 w3 n3 hf (.tup hz (s3 _ _ e) IG r5) (z4 ne3) x4 (fun a h=>?_) fun a h1 h2=>st a h1 fun m=>h2 (sb.subset m)
   rcases y4 a h with⟨m,_⟩|m
   ·exact⟨n3 a (own a m) (rs.own a m).ne,.inl m⟩
   ·exact⟨(o3 a m).1,(o3 a m).2.imp (fun q=>sb.subset q) id⟩
  |_=>exact q2.elim
 |_=>exact q2.elim
end
section
variable {X:Cx}{K:PySem.W.Frag}{e:Expr}{p:WP}{te:WE}{apos dr pos:Pos}
def mL(fl:Bool)(m:Md)(d:D):Option Bool:=match m with
 |.sh=>some (fl && d.flat)
 |.ow b=>some (fl && b)
 |.bo=>bif d.flat then some fl else none
def B7(p:WP)(te:WE):WS:=fun E ρ=>p ρ fun fl d up=>match d with
 |.list xs=>te ρ fun m x=>xs.length<sizeLine/\match mL fl m x with
  |some fl2=>E.nx (up fl2 (.list (xs++[x])))
  |none=>False
 |_=>False
theorem zG{Hs H:Hp}{fl fl2:Bool}{m:Md}{d:D}{v:V}{As:List Addr}(w:Wf Hs H)(r:RM K Hs H m d v As)(h:mL fl m d=some fl2):(fl2=true->fl=true)/\∃ B,B.Sublist As/\bI K Hs H fl2 d v B:=by
 cases m with
 |sh =>
  cases h
  exact⟨fun z=>by cases fl<;>simp_all,[],GU _,.sh (fun z=>by cases fl<;>simp_all) r.2⟩
 |ow b =>
  cases h
  refine⟨fun z=>by cases fl<;>simp_all,As,List.Sublist.refl _,r.1.wk fun z=>by cases fl<;>simp_all⟩
 |bo =>
  cases hf:d.flat with
  |true =>
   simp only[mL,hf,cond_true,Option.some.injEq] at h
   subst h
   exact⟨id,[],GU _,.sh (fun _=>hf) (r.flat w hf)⟩
  |false=>simp[mL,hf] at h
theorem Place.put{aE H1 ay H2:Hp}{σ:St}{fl:Bool}{xs:List D}{v:V}{up:Bool->D->Env}(pl:Place K aE H1 σ fl (.list xs) v up)(g:eL aE H1 ay H2) :
  ∃ a vs A,v=.ref a/\H2 a=some (.lst vs)/\H1 a=some (.lst vs)/\aD K ay H2 fl xs vs A/\(a :: A).Nodup/\(∀ x∈a :: A,ay x=none/\H1 x≠none) /\
   ∀ fl2 ys ws C,(fl2=true->fl=true)->aD K ay H2 fl2 ys ws C->ws.length<=sizeLine->C.Nodup->a∉C->(∀ x∈C,x∈A\/(ay x=none/\H1 x=none))->∃ df,dv K ay (up fl2 (.list ys)) σ (upd H2 a (.lst ws)) df:=by
 obtain⟨fF,r,ne,nd,own,k⟩:=pl.ex
 cases r with
 |sh hf _=>exact absurd rfl ne
 |@list a vs _ A hz e rs =>
  have e2:=g.all _ _ e
  have rs2:=rs.grow g.sh g.all
  have hw:∀ x∈a :: A,aE x=none/\H1 x≠none:=fun x hx=>⟨own x hx,by
   rcases cS.mp hx with rfl|hx
   ·rw[e];exact fun z=>nomatch z
   ·exact(rs.own x hx).ne⟩
  exact⟨a,vs,A,rfl,e2,e,rs2,nd,fun x hx=>⟨g.qq (hw x hx).1 (hw x hx).2,(hw x hx).2⟩,fun fl2 ys ws C hf oD hz ndC Qa hC=>k.node g hw (fun _ z=>by cases z) hf (.list hz ki (oD.eM (aC.refl _) fun b hb=>eJ fun z=>Qa (by subst z;exact hb))) ndC Qa hC⟩
theorem Place.isL{aE H1:Hp}{σ:St}{fl:Bool}{xs:List D}{v:V}{up:Bool->D->Env}(w:Wf aE H1)(pl:Place K aE H1 σ fl (.list xs) v up):∃ a vs,v=.ref a/\dQ K H1 a vs:=by
 obtain⟨fF,r,ne,nd,own,k⟩:=pl.ex
 cases r with
 |sh hf _=>exact absurd rfl ne
 |list hz e rs=>exact⟨_,_,rfl,.inl (.inl e)⟩
theorem mH (ho:QP X K e p) {e2:Expr} (he:QE X K e2 te) (hK:X.K=K:=by rfl) (hs:swapsWith (.Call (.Attribute e "append" apos) [e2] [] dr) none pos.line X.env=pure false:=by rfl)
  (BF:attributeBase e "append" X.env (eval e X.env)=eval e X.env:=by rfl)
  (x3:((backTo dr (starEach [e2] X.env)).all (fun x=>!x.1) && (backToKw dr (keywordEach [] X.env)).all (fun x=>x.1.isSome)
   && decide ([e2].length+([]:List Keyword).length+(if ([]:List Keyword).isEmpty then 0 else 1)<30))=true:=by rfl)
  (hline:(apos.endLine == dr.line)=true:=by rfl) (yA:starEach (e2 :: []) X.env=(false,eval e2 X.env) :: starEach [] X.env:=by rfl) (BG:(backTo dr (starEach [] X.env)).any (·.1)=false:=by rfl) :
  QS X K L (.Expr (.Call (.Attribute e "append" apos) [e2] [] dr) pos) (B7 p te):=by
 subst hK
 refine PS.imp (OY (MR PySem.F.plainAttrs_list PySem.F.slot_list_append PySem.F.type_list_append RX ho (oz he sL yA) BF x3 hline yA BG) hs) fun D σ H hx=>gj hx fun Hs ρ ae E sr h k1 k2 k3 k4=>?_
 refine⟨Hs,ρ,ae,_,sr,h,fun v H1 aE fl d up g1 p1 q1=>?_⟩
 cases d with
 |list xs =>
  obtain⟨a1,vs1,e1,s1⟩:=p1.isL g1.wf
  subst e1
  refine⟨.inl ⟨rfl,_,s1⟩,aE,ρ,ae,_,sr.grow g1,q1,fun y H2 ay m x As g2 r2 f2 q2=>?_⟩
  obtain⟨hz,q2⟩:=q2
  obtain⟨a,vs,A,ea,e2,_,rs,nd,hn,k⟩:=p1.put g2
  cases ea
  have hl:=rs.length
  refine⟨a1,vs,y,rfl,rfl,e2,by lia,?_⟩
  cases hp:mL fl m x with
  |none=>rw[hp] at q2;exact q2.elim
  |some fl2 =>
   rw[hp] at q2
   obtain⟨hf,B,sb,rb⟩:=zG g2.wf r2 hp
   obtain⟨na,nA⟩:=ly.mp nd
   have fB:∀ x∈B,ay x=none/\H1 x=none:=fun x hx=>f2.2 x (sb.subset hx)
   have c1:(A++(B++[])).Nodup:=by
    rw[nL]
    exact i7.mpr ⟨nA,sb.nodup f2.1,fun x hx z hz e=>by subst e;exact(hn x (cc _ hx)).2 (fB x hz).2⟩
   have c2:a1∉A++(B++[]):=by
    rw[nL]
    intro m
    rcases dy.mp m with m|m
    ·exact na m
    ·exact(hn _ cf).2 (fB _ m).2
   have c3:∀ x∈A++(B++[]),x∈A\/(ay x=none/\H1 x=none):=by
    rw[nL]
    intro x hx
    exact(dy.mp hx).imp id fun z=>fB x z
   obtain⟨df,ip⟩:=k fl2 (xs++[x]) (vs++[y]) (A++(B++[])) hf ((rs.wk hf).append (.cons rb .nil)) (by rw[tS];simp;lia) c1 c2 c3
   exact k1 σ _ ay _ df (g1.sh.trans g2.sh) ip q2
 |_=>exact q1.elim
def qN:WE:=fun _ Q=>Q (.ow true) (.dT [])
theorem sH:QE X K (.Dict [] [] pos) qN:=PE.imp be' fun σ H Qv hx=>i3 hx fun Hs ρ ae Q sr h f=>fun a ha =>
 f _ _ Hs (.ow true) (.dT []) [a] (PR sr.wf ha fun _ z=>nomatch z) ⟨.dT (vs:=[]) ⟨dz _,fun p hp=>nomatch hp⟩ ki .nil,by simp⟩ ⟨by simp,fun b hb=>by
  obtain rfl:b=a:=by simpa using hb
  exact⟨sr.wf.sub.free ha,ha⟩⟩ h
section
variable {κ:Type}[DecidableEq κ]
theorem yg{Hs H:Hp}{fl:Bool}{k:κ}{d:D}{v:V}(r:bI K Hs H fl d v []){kvs:List (κ × D)}{vs:List V}{As:List Addr}(qs:aD K Hs H fl (kvs.map (·.2)) vs As):∃ ws Bs,Bs.Sublist As /\
  aD K Hs H fl ((kvs.map fun kv=>if kv.1=k then (kv.1,d) else kv).map (·.2)) ws Bs/\((kvs.map (·.1)).zip vs).map (fun kv=>if kv.1=k then (kv.1,v) else kv)=(((kvs.map fun kv=>if kv.1=k then (kv.1,d) else kv)).map (·.1)).zip ws:=by
 induction kvs generalizing vs As with
 |nil=>exact⟨[],[],GU _,.nil,rfl⟩
 |cons p kvs ih =>
  obtain⟨u,vs,A,B,rfl,rfl,q,qs⟩:=aD.c (d:=p.2) qs
  obtain⟨ws,Bs,sb,rs,e⟩:=ih qs
  by_cases h:p.1=k
  ·refine⟨v :: ws,[]++Bs,by simpa using sb.trans (px _ _),?_,?_⟩
   ·simp only[fz,h,if_true]
    exact .cons r rs
   ·simp only[fz,xl,h,if_true,e]
  ·refine⟨u :: ws,A++Bs,sb.append_left _,?_,?_⟩
   ·simp only[fz,h,if_false]
    exact .cons q rs
   ·simp only[fz,xl,h,if_false,e]
theorem yu{Hs H:Hp}{fl:Bool}{k:κ}{d:D}{v:V}(r:bI K Hs H fl d v []){kvs:List (κ × D)}{vs:List V}{As:List Addr}(q:aD K Hs H fl (kvs.map (·.2)) vs As) :
  ∃ ws Bs,Bs.Sublist As/\aD K Hs H fl ((jI kvs k d).map (·.2)) ws Bs/\putK ((kvs.map (·.1)).zip vs) k v=((jI kvs k d).map (·.1)).zip ws:=by
 have hl:=q.length
 rw[cK] at hl
 unfold putK jI
 rw[DY hl]
 cases h:kvs.any fun kv=>decide (kv.1=k) with
 |true =>
  simp only[if_true]
  exact yg r q
 |false =>
  simp only[gu,if_false]
  refine⟨vs++[v],As++([]++[]),by simp,?_,?_⟩
  ·rw[AV]
   exact q.append (.cons r .nil)
  ·rw[AV,List.zip_append (by rw[cK];exact hl)]
   rfl
theorem xf{Hs H:Hp}{fl:Bool}{k:κ}{d:D}{v:V}(r:Rep K Hs d v)(hd:d.flat=true){kvs:List (κ × D)}{vs:List V}{As:List Addr}(q:aD K Hs H fl (kvs.map (·.2)) vs As) :
  ∃ ws Bs,Bs.Sublist As/\aD K Hs H fl ((jI kvs k d).map (·.2)) ws Bs/\putK ((kvs.map (·.1)).zip vs) k v=((jI kvs k d).map (·.1)).zip ws:=yu (.sh (fun _=>hd) r) q
theorem gP{β:Type}(kvs:List (κ × β))(k:κ)(v:β):(jI kvs k v).length<=kvs.length+1:=by
 unfold jI
 split
 ·rw[cK];exact xt _ _
 ·simp
theorem oU{β:Type}{kvs:List (κ × β)}{k:κ}{v:β}{p:κ × β}(h:p∈jI kvs k v):p.1=k\/p.1∈kvs.map (·.1):=by
 unfold jI at h
 split at h
 ·obtain⟨q,hq,e⟩:=dn.mp h
  by_cases hk:q.1=k
  ·rw[if_pos hk] at e;subst e;exact .inl hk
  ·rw[if_neg hk] at e;subst e;exact .inr (dn.mpr ⟨q,hq,rfl⟩)
 ·rcases dy.mp h with h|h
  ·exact .inr (dn.mpr ⟨p,h,rfl⟩)
  ·have:p=(k,v):=by simpa using h
   subst this;exact .inl rfl
end
def q_(p:WP)(tk tv:WE):WS:=fun E ρ=>tv ρ fun _ x=>p ρ fun fl d up=>tk ρ fun _ y=>x.flat=true/\match d with
 |.dK kvs=>∃ k,y.key1=some k/\kvs.length<sizeLine/\E.nx (up fl (.dK (jI kvs k x)))
 |.dT kvs=>match y with
  |.tup ys=>∃ ks,eE ys=some ks/\kvs.length<sizeLine/\E.nx (up fl (.dT (jI kvs ks x)))
  |_=>False
 |_=>False
theorem vD{H:Hp}{d:D}{v:V}{k:Key}(r:Rep K H d v)(h:d.key1=some k):yi k=true:=by
 cases r<;>simp[D.key1] at h<;>subst h
 ·rfl
 ·rename_i hz;simp[yi,hz]
theorem yH{H:Hp}{ds:List D}{vs:List V}{ks:List Key}(r:aI K H ds vs)(h:eE ds=some ks):ks.length=ds.length/\∀ k∈ks,yi k=true:=by
 induction ds generalizing vs ks with
 |nil=>simp[eE] at h;subst h;exact⟨rfl,fun k hk=>nomatch hk⟩
 |cons d ds ih =>
  obtain⟨u,us,rfl,r,rs⟩:=r.c
  unfold eE at h
  cases e1:d.key1 with
  |none=>rw[e1] at h;simp at h
  |some k =>
   cases e2:eE ds with
   |none=>rw[e1,e2] at h;simp at h
   |some fm =>
    rw[e1,e2] at h
    simp at h
    subst h
    obtain⟨a,b⟩:=ih rs e2
    refine⟨by simp[a],fun j hj=>?_⟩
    rcases cS.mp hj with rfl|hj
    ·exact vD r e1
    ·exact b j hj
theorem oH{a b c:Expr}{tk tv:WE}{pos':Pos}(hu:X.A.units+64<cLine)(ho:QP X K a p)(hi:QE X K b tk)(hv:QE X K c tv)(hs:swapsWith c (some (.Subscript a b pos')) pos.line X.env=pure false:=by rfl) :
  QS X K L (.Assign [.Subscript a b pos'] c pos) (q_ p tk tv):=by
 refine PS.imp (bb' (by lia) ho hi hv hs) fun D σ H hx=>gj hx fun Hs ρ ae E sr h k1 k2 k3 k4=>?_
 refine⟨Hs,ρ,ae,_,sr,h,fun v H1 aE m1 x As1 g1 r1 f1 q1=>⟨aE,ρ,ae,_,sr.grow g1,q1,fun u H2 ay fl d up g2 p2 q2=>⟨ay,ρ,ae,_,(sr.grow g1).grow g2,q2,fun y H3 eh m3 yd Nj g3 r3 f3 q3=>?_⟩⟩⟩
 obtain⟨hx,q3⟩:=q3
 have rx:Rep K eh x v:=((r1.grow g2).grow g3).flat g3.wf hx
 have ry:=r3.rep g3.wf
 obtain⟨fF,r,ne,nd,own,k⟩:=p2.ex
 have sm:aC Hs eh:=(g1.sh.trans g2.sh).trans g3.sh
 have lv:∀ x∈fF,ay x=none/\H2 x≠none:=fun x hx=>⟨own x hx,(r.own x hx).ne⟩
 cases r with
 |sh hf _=>exact absurd rfl ne
 |@dK a0 vs kvs A kk e rs =>
  obtain⟨key,hk,hz,q⟩:=q3
  have ey:=ry.key hk
  subst ey
  obtain⟨na,nA⟩:=ly.mp nd
  obtain⟨ws,Bs,sb,oD,ew⟩:=xf (k:=key) rx hx (rs.grow g3.sh g3.all)
  have hl:kvs.length=vs.length:=by have:=rs.length;rwa[cK] at this
  refine⟨a0,_,rfl,DU.k (g3.all _ _ e) (by rw[Om,cK,<- hl,Ot];exact hz),?_⟩
  rw[ew]
  have nB:a0∉Bs:=fun z=>na (sb.subset z)
  obtain⟨df,ip⟩:=k.node (fl2:=fl) (d2:=.dK (jI kvs key x)) g3 lv (fun _ z=>by cases z) id (.dK ⟨iN (gP _ _ _) hz,fun p hp=>(oU hp).elim (fun z=>by rw[z];exact vD ry hk) fun z=>by obtain⟨p',iX,e'⟩:=dn.mp z;rw[<- e'];exact kk.2 p' iX⟩ ki (oD.eM (aC.refl _) fun b hb=>eJ fun z=>nB (by subst z;exact hb)))
   (sb.nodup nA) nB fun b hb=>.inl (sb.subset hb)
  exact k1 σ _ eh _ df sm ip q
 |@dT a0 vs kvs A kk e rs =>
  cases ry with
  |tup t1 e1 JJ =>
   obtain⟨key,hk,hz,q⟩:=q3
   obtain⟨b,eb,e5⟩:=Rep.mn (.tup t1 e1 JJ) hk
   cases eb
   obtain⟨kl,ko⟩:=yH JJ hk
   obtain⟨na,nA⟩:=ly.mp nd
   obtain⟨ws,Bs,sb,oD,ew⟩:=xf (k:=key) rx hx (rs.grow g3.sh g3.all)
   have hl:kvs.length=vs.length:=by have:=rs.length;rwa[cK] at this
   refine⟨a0,_,rfl,DU.t (g3.all _ _ e) e5 (by rw[Om,cK,<- hl,Ot];exact hz),?_⟩
   rw[ew]
   have nB:a0∉Bs:=fun z=>na (sb.subset z)
   have l1:=JJ.length
   obtain⟨df,ip⟩:=k.node (fl2:=fl) (d2:=.dT (jI kvs key x)) g3 lv (fun _ z=>by cases z) id (.dT ⟨iN (gP _ _ _) hz,fun p hp=>(oU hp).elim (fun z=>by rw[z];exact⟨by lia,ko⟩) fun z=>by obtain⟨p',iX,e'⟩:=dn.mp z;rw[<- e'];exact kk.2 p' iX⟩ ki (oD.eM (aC.refl _) fun b hb=>eJ fun z=>nB (by subst z;exact hb)))
    (sb.nodup nA) nB fun b hb=>.inl (sb.subset hb)
   exact k1 σ _ eh _ df sm ip q
  |_=>exact q3.elim
 |_=>exact q3.elim
end
abbrev WJ:=Env->Str->(Str->Prop)->Prop
section
variable {X:Cx}{K:PySem.W.Frag}{e:Expr}{te:WE}{j:WJ}
def jD:List D->Option (List Str)
 |[]=>some []
 |.str x :: xs=>(jD xs).map (x :: ·)
 |_ :: _=>none
def jW(to te:WE):WE:=fun ρ Q=>to ρ fun _ x=>match x with
 |.str z=>te ρ fun _ y=>match y with
  |.list ys=>∃ zs,jD ys=some zs/\(zs.map (·.length)).sum+zs.length*z.length<=16777216/\Q .sh (.str (Str.join z zs))
  |_=>False
 |_=>False
theorem yw{H:Hp}{ds:List D}{vs:List V}{us:List Value}{zs:List Str}(r:aI K H ds vs)(q:Vals vs us)(h:jD ds=some zs):StrsAre us zs:=by
 induction ds generalizing vs us zs with
 |nil =>
  simp[jD] at h
  subst h
  have:=r.n0
  subst this
  rw[Paired.n0 q];exact .nil
 |cons d ds ih =>
  obtain⟨v,vs,rfl,r1,rs⟩:=r.c
  obtain⟨u,us,rfl,q1,qs⟩:=Paired.c q
  cases r1 with
  |str hz =>
   simp only[jD] at h
   cases e:jD ds with
   |none=>rw[e] at h;cases h
   |some ys =>
    rw[e] at h
    cases h
    obtain⟨t,rfl⟩:=q1
    exact .cons _ t (ih rs qs e)
  |_=>simp[jD] at h
theorem Dk (hK:X.K=K:=by rfl):Ph X "str.join" (fun x xs H Q=>∃ z a ds vs zs,x=.str z/\xs=[.ref a]/\dQ K H a vs/\aI K H ds vs/\jD ds=some zs/\(zs.map (·.length)).sum+zs.length*z.length<=16777216/\Q (.str (Str.join z zs)) H):=by
 subst hK
 intro pins s σ H x xs v us Q I rx rs h
 obtain⟨z,a,ds,vs,zs,rfl,rfl,hs,rr,e,hz,q⟩:=h
 obtain⟨t,rfl⟩:=rx
 obtain⟨u,rfl,ru⟩:=Vals.one rs
 cases ru
 obtain⟨its,rv,pl,_⟩:=I.list hs
 exact join_list pl.isList (by simpa using yw rr rv e) hz fun t' k=>⟨.str _,H,I.tok _,⟨t',rfl⟩,by rw[show Txt.join z zs=Str.join z zs from StrLaws.glued_eq_join z zs];exact q⟩
theorem tY{z:Str}:∀ {zs:List Str},(Str.join z zs).length<=(zs.map (·.length)).sum+zs.length*z.length
 |[]=>by show Str.empty.length<=_;exact iN (show Str.empty.length<=0 by decide) (dz _)
 |[x]=>by simp[Str.join]
 |x :: y :: r=>by
  have ih:=tY (z:=z) (zs:=y :: r)
  show(x++z++Str.join z (y :: r)).length<=_
  rw[du,du]
  simp only[fz,List.sum_cons,sv,Nat.add_mul,Nat.one_mul] at ih ⊢
  lia
theorem tK{o:Expr}{to:WE}{apos dr:Pos}(ho:QE X K o to)(he:QE X K e te)(hK:X.K=K:=by rfl)
  (BF:attributeBase o "join" X.env (eval o X.env)=eval o X.env:=by rfl)
  (x3:((backTo dr (starEach [e] X.env)).all (fun x=>!x.1) && (backToKw dr (keywordEach [] X.env)).all (fun x=>x.1.isSome)
   && decide ([e].length+([]:List Keyword).length+(if ([]:List Keyword).isEmpty then 0 else 1)<30))=true:=by rfl)
  (hline:(apos.endLine == dr.line)=true:=by rfl) (yA:starEach (e :: []) X.env=(false,eval e X.env) :: starEach [] X.env:=by rfl) (BG:(backTo dr (starEach [] X.env)).any (·.1)=false:=by rfl) :
  QE X K (.Call (.Attribute o "join" apos) [e] [] dr) (jW to te):=by
 subst hK
 refine PE.imp (MR PySem.F.plainAttrs_str PySem.F.slot_str_join PySem.F.type_str_join Dk ho (oz he sL yA) BF x3 hline yA BG) fun σ H Qv hx=>i3 hx fun Hs ρ ae Q sr h f=>?_
 refine⟨Hs,ρ,ae,_,sr,h,fun v H1 aE m x As g1 r1 f1 q1=>?_⟩
 have r:=r1.rep g1.wf
 cases r with
 |str hz =>
  refine⟨rfl,aE,ρ,ae,_,sr.grow g1,q1,fun y H2 ay m2 x2 fR g2 r2 f2 q2=>?_⟩
  have rr:=r2.rep g2.wf
  cases rr with
  |list z s rs =>
   obtain⟨zs,e,hz,q⟩:=q2
   exact⟨_,_,_,_,zs,rfl,rfl,s,rs,e,hz,Fin.sh (Fin.after f (g1.trans g2)) g2.wf (.str (iN tY (by rw[sizeLine_eq];exact hz))) q⟩
  |_=>exact q2.elim
 |_=>exact q1.elim
def mn(k:List Key):D:=.tup (k.map ti)
def Hl:W1:=fun _ x Q=>match x with
 |.list xs=>∃ ks sh,xs=ks.map mn/\(∀ k∈ks,gL k=true :: sh)/\∀ ms:List (List Key),ms.Perm ks->(ms.Pairwise fun a b=>ft b a=false)->Q (.ow true) (.list (ms.map mn))
 |_=>False
theorem CK{H:Hp}{ks:List Key}{vs:List V}(r:aI K H (ks.map ti) vs):vs=ks.map kV/\∀ k∈ks,yi k=true:=by
 induction ks generalizing vs with
 |nil=>exact⟨r.n0,fun k h=>nomatch h⟩
 |cons k ks ih =>
  obtain⟨u,us,rfl,r1,rs⟩:=aI.c (d:=ti k) r
  obtain⟨e,o⟩:=ih rs
  subst e
  cases k with
  |inl i=>cases r1;exact⟨rfl,fun j hj=>by rcases cS.mp hj with rfl|hj;rfl;exact o j hj⟩
  |inr x =>
   cases r1 with
   |str hz=>exact⟨rfl,fun j hj=>by rcases cS.mp hj with rfl|hj;simp[yi,hz];exact o j hj⟩
theorem BW{H:Hp}{ks:List (List Key)}{vs:List V}(r:aI K H (ks.map mn) vs):cT H vs ks/\∀ k∈ks,k.length<=sizeLine/\∀ j∈k,yi j=true:=by
 induction ks generalizing vs with
 |nil=>rw[r.n0];exact⟨.nil,fun k h=>nomatch h⟩
 |cons k ks ih =>
  obtain⟨u,us,rfl,r1,rs⟩:=aI.c (d:=mn k) r
  obtain⟨t,o⟩:=ih rs
  cases r1 with
  |tup hz e q =>
   obtain⟨e2,o2⟩:=CK q
   subst e2
   exact⟨.cons ⟨_,rfl,e⟩ t,fun j hj=>by
    rcases cS.mp hj with rfl|hj
    ·exact⟨by simpa using hz,o2⟩
    ·exact o j hj⟩
theorem gQ:bootBuiltins "sorted" = some (.builtin "sorted"):=by decide +kernel
end
def shF(A:List Addr)(F:Nat->List Addr):Nat->List Addr
 |0=>A
 |i+1=>F i
abbrev Plan:=List (WE ⊕ Nat)
def cX':Option (Option Sl)->Option (Md × D)
 |some (some (.sh d))=>some (.sh,d)
 |some (some (.ow fl d))=>some (.ow fl,d)
 |_=>none
def Xj:fP:=fun ds Q=>∃ ns:List Int,ds=[.list (ns.map .int)]/\ns.length<=63/\∀ m,Q m (.bl true)
theorem ints_rep{K:PySem.W.Frag}{H:Hp}:∀ (ns:List Int),aI K H (ns.map .int) (ns.map V.int)
 |[]=>.nil
 |n :: ns=>.cons (.int n) (ints_rep ns)
theorem zT{K:PySem.W.Frag}{H:Hp}{a:Addr}{ns:List Int}{E:XK}(hl:ns.length<=63)(hS:dQ K H a (ns.map V.int)):aA K Xj [.ref a] H (fun v _=>v=.bl true) E:=by
 refine⟨[.list (ns.map .int)],fun _ d=>d=.bl true,.cons (.list (by rw[cK];exact iN hl (by decide)) hS (ints_rep ns)) .nil,⟨ns,rfl,hl,fun _=>rfl⟩,?_⟩
 intro v H' av m d As s w r nd own q
 subst q
 have:=r.rep w
 cases this
 rfl
abbrev sg(x:Str):List Nat:=x.cps.toList
theorem sY(x y:Str):sg (x++y)=sg x++sg y:=by
 show(x.cps++y.cps).toList=_
 simp[sg]
theorem empty_app(x:Str):Str.empty++x=x:=xG (by rw[<- sg,sY];rfl)
def Xk(x:Str):Prop:=∀ c∈sg x,c<0x110000
theorem BV(x:Str):PyData.strOk x=true↔Xk x:=by
 unfold PyData.strOk Xk sg
 rw[Array.all_eq_true']
 simp
theorem cY'{α:Type}(x:α)(l:List α):fq (x :: l) 0=some x:=by simp[L2.fq,oC]
theorem cZ'{α:Type}(x y:α)(l:List α):fq (x :: y :: l) 1=some y:=by
 have:=E4 (xs:=x :: y :: l) (j:=1) (v:=y) rfl
 exact this
theorem da'{α:Type}(x y z:α)(l:List α):fq (x :: y :: z :: l) 2=some z:=by
 have:=E4 (xs:=x :: y :: z :: l) (j:=2) (v:=z) rfl
 exact this
theorem Fw:Str.empty.length=0:=by decide
end L2.Q
namespace L2.Q.R
open PySem PySem.Spec PyProof.Rows L2.Q
section
variable {f:D->Prop}{k:Kt f}
theorem JS:bS .non k=f .non:=rfl
theorem Ln{b:Bool}:bS (.bl b) k=f (.bl b):=rfl
theorem J9{i:Int}:bS (.int i) k=f (.int i):=rfl
theorem J3{x:Str}:bS (.str x) k=f (.str x):=rfl
theorem HR{xs:List D}:bS (.list xs) k=f (.list xs):=rfl
theorem J0{xs:List D}:bS (.tup xs) k=f (.tup xs):=rfl
theorem LC{xs:List (Key × D)}:bS (.dK xs) k=f (.dK xs):=rfl
theorem MJ{xs:List (List Key × D)}:bS (.dT xs) k=f (.dT xs):=rfl
end
theorem Jf{f:Bool->Prop}{k:Kt f}:bS true k=f true:=rfl
theorem Hw{f:Bool->Prop}{k:Kt f}:bS false k=f false:=rfl
theorem KJ{d:D}{f:Md × D->Prop}{k:Kt f}:bS (Md.sh,d) k=f (.sh,d):=rfl
theorem JR{b:Bool}{d:D}{f:Md × D->Prop}{k:Kt f}:bS (Md.ow b,d) k=f (.ow b,d):=rfl
theorem Kv{d:D}{f:Md × D->Prop}{k:Kt f}:bS (Md.bo,d) k=f (.bo,d):=rfl
theorem KQ{d:D}{f:Option Sl->Prop}{k:Kt f}:bS (some (.sh d)) k=f (some (.sh d)):=rfl
theorem J8{b:Bool}{d:D}{f:Option Sl->Prop}{k:Kt f}:bS (some (.ow b d)) k=f (some (.ow b d)):=rfl
theorem Ka{p:Md × D}{f:Option (Md × D)->Prop}{k:Kt f}:bS (some p) k=f (some p):=rfl
theorem Lq{p:Bool}{f:Option Bool->Prop}{k:Kt f}:bS (some p) k=f (some p):=rfl
theorem Kq{d:D}{f:Option (Option Sl)->Prop}{k:Kt f}:bS (some (some (.sh d))) k=f (some (some (.sh d))):=rfl
theorem JH{b:Bool}{d:D}{f:Option (Option Sl)->Prop}{k:Kt f}:bS (some (some (.ow b d))) k=f (some (some (.ow b d))):=rfl
section
variable {E:jw}{ρ:Env}{Q:Md->D->Prop}{B:Bool->Prop}{t u:WS}{te ta tb tc Ny:WE}{tt tu:WT}{tar:WA}{i j n:Nat}{m m':Md}{d:D}{sp:fP}{p:WP}{R:List (Md × D)->Prop}
theorem Ks:dM E ρ=E.nx ρ:=rfl
theorem Mx:b9 t u E ρ=t { E with nx:=u E } ρ:=rfl
theorem Mv:lh te E ρ=te ρ E.rt:=rfl
def put(sl:Option Sl)(k:Sl->Prop):Prop:=match sl with
 |some s=>k s
 |none=>False
theorem JT{k:Sl->Prop}:put (some (.sh d)) k=k (.sh d):=rfl
theorem Km{b:Bool}{k:Sl->Prop}:put (some (.ow b d)) k=k (.ow b d):=rfl
theorem Mu:eB i te E ρ=te ρ fun m d=>bS (asg m d) (f:=fun o=>put o fun sl=>E.nx (ρ.set i (some sl))) ⟨⟩:=rfl
theorem Mm:mr tt t u E ρ=tt ρ fun b=>bS b (f:=fun b=>if b=true then t E ρ else u E ρ) ⟨⟩:=rfl
theorem KY:n6 i E ρ=bS ρ[i]? (f:=fun o=>match o with
 |some (some (.sh d))=>E.rt .sh d
 |some (some (.ow fl d))=>E.rt (.ow fl) d
 |_=>False) ⟨⟩:=rfl
def mov(o:Option (Md × D))(k:Md × D->Prop):Prop:=match o with
 |some p=>k p
 |none=>False
theorem Hu{p:Md × D}{k:Md × D->Prop}:mov (some p) k=k p:=rfl
theorem K8:hU i t E ρ=t E (Nu i ρ):=rfl
-- tests
def bol(d:D)(B:Bool->Prop):Prop:=match d with
 |.bl b=>B b
 |_=>False
theorem JZ{b:Bool}:bol (.bl b) B=B b:=rfl
theorem wB_:wB te ρ B=te ρ fun _ x=>bS x (f:=fun x=>bol x B) ⟨⟩:=rfl
theorem Lj:AJ tt ρ B=tt ρ fun c=>B (!c):=rfl
theorem Mw:S5 tt tu ρ B=tt ρ fun c=>bS c (f:=fun c=>if c=true then tu ρ B else B false) ⟨⟩:=rfl
theorem de':PX tt tu ρ B=tt ρ fun c=>bS c (f:=fun c=>if c=true then B true else tu ρ B) ⟨⟩:=rfl
theorem Lw:vt ρ B=B true:=rfl
-- expressions
theorem Mh:ah i ρ Q=bS ρ[i]? (f:=fun o=>Ni o Q) ⟨⟩:=rfl
theorem Jv:Ni (some (some (.sh d))) Q=Q .sh d:=rfl
theorem HN{b:Bool}:Ni (some (some (.ow b d))) Q=Q .bo d:=rfl
theorem wC_:wC d ρ Q=Q .sh d:=rfl
theorem dg'{f:W2}:ax f ta tb ρ Q=ta ρ fun m x=>tb ρ fun n y=>f m x n y Q:=rfl
theorem dh'{f:W1}:g9 f ta ρ Q=ta ρ fun m x=>f m x Q:=rfl
theorem Jw{f g:W2}:qu f g ta tb tc ρ Q=ta ρ fun m x=>tb ρ fun n y=>f m x n y fun _ z=>bS z (f:=fun z=>bol z fun k=>bS k (f:=fun k=>if k=true then tc ρ fun l w=>g n y l w Q else Q .sh (.bl false)) ⟨⟩) ⟨⟩:=by
 unfold qu bS bol
 rfl
theorem KR:uL ta tb ρ Q=ta ρ fun _ x=>bS x (f:=fun x=>bol x fun c=>bS c (f:=fun c=>if c=true then tb ρ Q else Q .sh (.bl false)) ⟨⟩) ⟨⟩:=by unfold uL bS bol;rfl
theorem KZ:y_ ta ρ Q=ta ρ fun _ x=>bS x (f:=fun x=>bol x fun c=>Q .sh (.bl (!c))) ⟨⟩:=by unfold y_ bS bol;rfl
theorem Ku:aj te tar ρ R=te ρ fun m x=>tar ρ fun ps=>R ((m,x) :: ps):=rfl
theorem K7:b4 ρ R=R []:=rfl
theorem Mt:og tar ρ Q=tar ρ fun ps=>ps.length<=sizeLine/\Q (CQ ps) (.tup (ps.map (·.2))):=rfl
theorem Mf:tf tar ρ Q=tar ρ fun ps=>ps.length<=sizeLine/\Q (Cm ps) (.list (ps.map (·.2))):=rfl
theorem K3:aX sp tar ρ Q=tar ρ fun ps=>sp (ps.map (·.2)) fun m d=>bS (m,d) (f:=fun p=>Q (w9 p.1 p.2) p.2) ⟨⟩:=rfl
-- operators
section
variable {x y:Str}{a b:Int}{xs ys:List D}{FC:List (List Key × D)}
theorem IK:fo m (.int a) m' (.int b) Q=Q .sh (.int (a+b)):=rfl
theorem Ji:fo m (.str x) m' (.str y) Q=(x.length+y.length<=sizeLine/\Q .sh (.str (x++y))):=rfl
theorem Jj:fo m (.list xs) m' (.list ys) Q=(xs.length+ys.length<=sizeLine/\((cv xs=true/\cv ys=true/\Q (.ow true) (.list (xs++ys)))\/(m=.sh/\m'=.sh/\Q (.ow false) (.list (xs++ys))))):=rfl
theorem Ie:Nk m (.int a) m' (.int b) Q=Q .sh (.int (a-b)):=rfl
theorem HJ:oa m (.int a) m' (.int b) Q=(zS a b/\Q .sh (.int (a*b))):=rfl
theorem Jz:B5 m (.int a) m' (.int b) Q=((0<b/\b<1073741824)/\Q .sh (.int (a / b))):=rfl
theorem Iw:sT m (.int a) m' (.int b) Q=(0<b/\Q .sh (.int (a % b))):=rfl
theorem Ib:PY m (.int a) m' (.int b) Q=(Iq a b/\Q .sh (.int (a ^ b.toNat))):=rfl
theorem JM:Nm m (.int a) m' (.int b) Q=Q .sh (.bl (decide (a<b))):=rfl
theorem KC:Nm m (.str x) m' (.str y) Q=Q .sh (.bl (qc x y)):=rfl
theorem JF:S8 m (.int a) m' (.int b) Q=Q .sh (.bl (decide (a<=b))):=rfl
theorem Kd:S9 m (.int a) m' (.int b) Q=Q .sh (.bl (decide (b<a))):=rfl
theorem KD:nc m (.int a) m' (.int b) Q=Q .sh (.bl (decide (a=b))):=rfl
theorem Kg:nc m (.str x) m' (.str y) Q=Q .sh (.bl (decide (x=y))):=rfl
theorem Lr:nc m (.list xs) m' d Q=(ck 12 (.list xs)=true/\ck 12 d=true/\Q .sh (.bl (gS (.list xs) d))):=by cases d<;>rfl
theorem Ld:nc m (.tup xs) m' d Q=(ck 12 (.tup xs)=true/\ck 12 d=true/\Q .sh (.bl (gS (.tup xs) d))):=by cases d<;>rfl
theorem JK:Nn m (.int a) m' (.int b) Q=Q .sh (.bl (!decide (a=b))):=rfl
theorem Mj:Nn m (.list xs) m' d Q=(ck 12 (.list xs)=true/\ck 12 d=true/\Q .sh (.bl (!gS (.list xs) d))):=by cases d<;>rfl
theorem L_:P0 m d m' .non Q=Q .sh (.bl d.PZ):=rfl
theorem K6{neg:Bool}:Np neg m d m' (.list ys) Q=(gR d=true/\ys.all gR=true/\Q .sh (.bl (if neg then !inD d ys else inD d ys))):=rfl
theorem Lb{neg:Bool}:Np neg m (.tup xs) m' (.dT FC) Q = ∃ ks,eE xs=some ks/\Q .sh (.bl (if neg then !(dP FC ks).isSome else (dP FC ks).isSome)):=rfl
theorem La:JY m (.int a) Q=Q .sh (.int (-a)):=rfl
theorem LR:fv m (.list xs) m' (.int a) Q = ∃ d,fq xs a=some d/\bS d (f:=fun d=>Q (kX m d) d) ⟨⟩:=rfl
theorem Ml:fv m (.tup xs) m' (.int a) Q = ∃ d,fq xs a=some d/\bS d (f:=fun d=>Q (kX m d) d) ⟨⟩:=rfl
theorem LK:fv m (.str x) m' (.int a) Q = ∃ c,fq x.cps.toList a=some c/\Q .sh (.str ⟨#[c]⟩):=rfl
theorem KH:vk m (.list xs) Q=Q .sh (.int xs.length):=rfl
theorem J1:vk m (.tup xs) Q=Q .sh (.int xs.length):=rfl
theorem Kc:vk m (.dT FC) Q=Q .sh (.int FC.length):=rfl
theorem Ms{T:String}:P4 T m d Q=Q .sh (.bl (II d.ty T)):=rfl
theorem Ij:yo m (.list xs) Q=((cv xs=true/\Q (.ow true) (.list xs))\/(m=.sh/\Q (.ow false) (.list xs))):=rfl
theorem Iu:yo m (.dT FC) Q=Q (.ow true) (.list (FC.map fun kv=>.tup (kv.1.map ti))):=rfl
theorem di'{tl th:WO}:Ta te tl th ρ Q=te ρ fun m x=>tl ρ fun lo=>th ρ fun hi=>P1 m x lo hi Q:=rfl
def int'(d:D)(k:Int->Prop):Prop:=match d with
 |.int i=>k i
 |_=>False
theorem Kh{k:Int->Prop}:int' (.int a) k=k a:=rfl
theorem Kf{O:Option Int->Prop}:vm te ρ O=te ρ fun _ x=>bS x (f:=fun x=>int' x fun i=>O (some i)) ⟨⟩:=by unfold vm bS int';rfl
theorem Lf{lo hi:Option Int}:P1 m (.str x) lo hi Q=Q .sh (.str (x5 x lo hi)):=rfl
theorem Ma{lo hi:Option Int}:P1 m (.list xs) lo hi Q=((cv xs=true/\Q (.ow true) (.list (pd xs lo hi)))\/(m=.sh/\Q (.ow false) (.list (pd xs lo hi)))):=rfl
end
-- texts
def Tf(d:D)(k:Str->Prop):Prop:=match d with
 |.str x=>k x
 |_=>False
theorem JP{x:Str}{k:Str->Prop}:Tf (.str x) k=k x:=rfl
def vv(d:D)(k:List D->Prop):Prop:=match d with
 |.list x=>k x
 |_=>False
theorem Ip{x:List D}{k:List D->Prop}:vv (.list x) k=k x:=rfl
theorem IV:jW Ny te ρ Q=Ny ρ fun _ x=>bS x (f:=fun x=>Tf x fun z=>te ρ fun _ y=>bS y (f:=fun y=>vv y fun ys=>∃ zs,jD ys=some zs/\(zs.map (·.length)).sum+zs.length*z.length<=16777216/\Q .sh (.str (Str.join z zs))) ⟨⟩) ⟨⟩:=by unfold jW bS Tf vv;rfl
-- places
theorem dk'{P:Bool->D->(Bool->D->Env)->Prop}:tq i ρ P=bS ρ[i]? (f:=fun o=>match o with
 |some (some (.ow fl d))=>P fl d fun fl2 d2=>ρ.set i (some (.ow fl2 d2))
 |_=>False) ⟨⟩:=rfl
def Tg(o:Option Bool)(k:Bool->Prop):Prop:=match o with
 |some b=>k b
 |none=>False
theorem Hv{b:Bool}{k:Bool->Prop}:Tg (some b) k=k b:=rfl
theorem Mp:B7 p te E ρ=p ρ fun fl d up=>bS d (f:=fun d=>vv d fun xs=>te ρ fun m x=>xs.length<sizeLine/\bS (mL fl m x) (f:=fun o=>Tg o fun fl2=>E.nx (up fl2 (.list (xs++[x])))) ⟨⟩) ⟨⟩:=by unfold B7 bS vv Tg;rfl
theorem Iz:qN ρ Q=Q (.ow true) (.dT []):=rfl
def dct(d y:D)(k1:List (Key × D)->Prop)(k2:List (List Key × D)->List D->Prop):Prop:=match d with
 |.dK kvs=>k1 kvs
 |.dT kvs=>match y with
  |.tup ys=>k2 kvs ys
  |_=>False
 |_=>False
theorem Lx{ys:List D}{kvs:List (List Key × D)}{k1:List (Key × D)->Prop}{k2:List (List Key × D)->List D->Prop}:dct (.dT kvs) (.tup ys) k1 k2=k2 kvs ys:=rfl
theorem J7{tk tv:WE}:q_ p tk tv E ρ=tv ρ fun _ x=>p ρ fun fl d up=>tk ρ fun _ y=>x.flat=true/\bS d (f:=fun d=>dct d y (fun kvs=>∃ k,y.key1=some k/\kvs.length<sizeLine/\E.nx (up fl (.dK (jI kvs k x)))) (fun kvs ys=>∃ ks,eE ys=some ks/\kvs.length<sizeLine/\E.nx (up fl (.dT (jI kvs ks x))))) ⟨⟩:=by
 unfold q_ bS dct
 rfl
-- loops
variable {LQ:List D->Prop}
theorem Mq{wi:WI}{g:WG}{b:WS}:ng wi g b E ρ=wi ρ fun ds=>pQ g b E ds ρ:=rfl
theorem Jp:eY te ρ LQ=te ρ fun m d=>lY m/\bS d (f:=fun d=>vv d LQ) ⟨⟩:=by unfold eY bS vv;rfl
def Ti(d:D)(k:List D->Prop):Prop:=match d with
 |.tup x=>k x
 |_=>False
theorem K1{x:List D}{k:List D->Prop}:Ti (.tup x) k=k x:=rfl
theorem Ik:cA te ρ LQ=te ρ fun _ d=>bS d (f:=fun d=>int' d fun j=>j<=16777216/\-(2 ^ 62)<=j/\LQ (qO 0 j.toNat)) ⟨⟩:=by unfold cA bS int';rfl
theorem Hq:lY .sh=True:=rfl
theorem Hr{b:Bool}:lY (.ow b)=True:=rfl
theorem Ht:lY .bo=False:=rfl
theorem gN_{N:Env->Prop}:gN i d ρ N=N (ρ.set i (some (.sh d))):=rfl
theorem gT_{gs:B6}{N:Env->Prop}:gT n gs d ρ N=bS d (f:=fun d=>Ti d fun ds=>ds.length=n/\gs ds ρ N) ⟨⟩:=by unfold gT bS Ti;rfl
theorem K4{g:WG}{gs:B6}{ds:List D}{N:Env->Prop}:bZ g gs (d :: ds) ρ N=g d ρ fun bP=>gs ds bP N:=rfl
theorem Mi{N:Env->Prop}:jF [] ρ N=N ρ:=by simp[jF]
theorem J_{wi:WI}{g:WG}{tn:Nat}{ix:List Nat}:e_ wi g tt te tn ix ρ Q=wi ρ fun ds=>ir g tt te ds (DP tn ix ρ) fun out=>Q (.ow true) (.list out):=rfl
end
theorem B{c:Bool}{f:Bool->Prop}{k:Kt f}(h1:c=true->f true)(h2:c=false->f false):bS c k:=by
 cases c with
 |true=>exact h1 rfl
 |false=>exact h2 rfl
theorem D{p:Prop}[Decidable p]{f:Bool->Prop}{k:Kt f}(h1:p->f true)(h2:¬ p->f false):bS (decide p) k :=
 B (fun h=>h1 (of_decide_eq_true h)) fun h=>h2 (of_decide_eq_false h)
theorem T{c:Bool}{f:Bool->Prop}{k:Kt f}(h:c=true)(h1:f true):bS c k:=by subst h;exact h1
theorem F{c:Bool}{f:Bool->Prop}{k:Kt f}(h:c=false)(h1:f false):bS c k:=by subst h;exact h1
end L2.Q.R
namespace L2
open PySem PySem.Spec PyProof.Rows
end L2
namespace L2.Q
open PySem PySem.Spec PyProof.Rows
section
variable {K:PySem.W.Frag}{p:Pos}
def JL:W1:=fun _ x Q=>match x with
 |.list xs=>∃ ks b,xs=ks.map ti/\(∀ k∈ks,AG k=b)/\∀ ms:List Key,ms.Perm ks->(ms.Pairwise fun a b=>vj b a=false)->Q (.ow true) (.list (ms.map ti))
 |.dK kvs=>∃ b,(∀ p∈kvs,AG p.1=b)/\∀ ms:List Key,ms.Perm (kvs.map (·.1))->(ms.Pairwise fun a b=>vj b a=false)->Q (.ow true) (.list (ms.map ti))
 |_=>False
section
variable {Hs H:Hp}{fl:Bool}
theorem aD.erase{ds:List D}{vs:List V}{As:List Addr}(k:Nat)(r:aD K Hs H fl ds vs As):∃ Bs,Bs.Sublist As/\aD K Hs H fl (ds.eraseIdx k) (vs.eraseIdx k) Bs:=by
 induction ds generalizing vs As k with
 |nil =>
  obtain⟨rfl,rfl⟩:=r.n0
  exact⟨[],List.Sublist.refl _,.nil⟩
 |cons d ds ih =>
  obtain⟨u,us,A,B,rfl,rfl,r,rs⟩:=r.c
  cases k with
  |zero=>exact⟨B,px _ _,rs⟩
  |succ k =>
   obtain⟨C,sb,q⟩:=ih k rs
   exact⟨A++C,sb.append_left _,.cons r q⟩
end
end
abbrev WIL:=Env->(List D->Prop)->Prop
section
variable {X:Cx}{K:PySem.W.Frag}
theorem cZ{i:Nat}{x:Str}{tg iter elt:Expr}{ifs:List Expr}{scope:Scope}{pos pos' MY:Pos}{wi:WI}{g:WG}{tc:WT}{te:WE}{tn cn:List Str}{ix:List Nat}(hN:X.N.Nodup)(ve:X.N[i]? = some x)(hx:Loc X.env.scope x)(hc:X.calm=true)
  (hi:P6 X K tg iter wi) (O:bY X scope tn cn ix)
  (hg:∀ C fp fI g0,QG (bj X scope C (tn++cn) fp fI g0) K tg g) (oB:∀ C fp fI g0,P_ (bj X scope C (tn++cn) fp fI g0) K ifs tc) (he:∀ C fp fI g0,QE (bj X scope C (tn++cn) fp fI g0) K elt te)
  (MZ:swapsWith (.ListComp elt [⟨tg,iter,ifs,0⟩] scope pos) (some (.Name x pos')) MY.line X.env=pure true:=by rfl)
  (hs:∀ x,foldedSetIterable iter X.env x=pure x:=by intro _;rfl) (hf:X.fn x=true\/X.env.scope.names.lookup x=some .local:=by first|exact .inl rfl|exact .inr rfl|assumption) :
  QS X K L (.Assign [.Name x pos'] (.ListComp elt [⟨tg,iter,ifs,0⟩] scope pos) MY) (eB i (e_ wi g tc te tn.length ix)) :=
 PS.imp (uV hN ve hx hc hi O hg oB he MZ hs hf) fun D σ H hx=>gj hx fun Hs ρ ae E sr h k1 k2 k3 k4=>by
  refine pJ ⟨Hs,ρ,ae,_,sr,h,fun v H1 aE m d As g1 r1 f1 q1=>?_⟩
  have q1:match asg m d with
   |some sl=>E.nx (ρ.set i (some sl))
   |none=>False:=q1
  cases e:asg m d with
  |none=>rw[e] at q1;exact q1.elim
  |some sl =>
   rw[e] at q1
   obtain⟨bX,s'⟩:=(sr.grow g1).set i r1 f1.1 (fun a ha=>⟨(f1.2 a ha).1,fun m=>(sr.sr.own a m).ne (f1.2 a ha).2⟩) e
   exact k1 _ H1 aE _ bX g1.sh s' q1
end
end L2.Q
namespace L2.Q.R
open PySem PySem.Spec PyProof.Rows L2.Q
section
variable {ρ:Env}{Q:Md->L2.Q.D->Prop}{te:WE}{i:Nat}{d:L2.Q.D}{p:WP}{a:Addr}{b:Bool}{LQ:List L2.Q.D->Prop}
theorem Kw{f:Option Sl->Prop}{k:Kt f}:bS (some (.lk a b d)) k=f (some (.lk a b d)):=rfl
theorem Kp{f:Option (Option Sl)->Prop}{k:Kt f}:bS (some (some (.lk a b d))) k=f (some (some (.lk a b d))):=rfl
theorem HW:Ni (some (some (.lk a b d))) Q=Q .bo d:=rfl
def dn'(o:Option (Option Sl))(k:Bool->L2.Q.D->Prop):Prop:=match o with
 |some (some (.ow fl d))=>k fl d
 |_=>False
theorem I_{k:Bool->L2.Q.D->Prop}:dn' (some (some (.ow b d))) k=k b d:=rfl
theorem Jh:uc te ρ LQ=te ρ fun m d=>lY m/\bS d (f:=fun d=>vv d fun xs=>LQ (l_ xs)) ⟨⟩:=by unfold uc bS vv;rfl
theorem IW:i_ te ρ LQ=te ρ fun _ d=>bS d (f:=fun d=>vv d LQ) ⟨⟩:=by unfold i_ bS vv;rfl
def wpAt(d:L2.Q.D)(i:Int)(P:Bool->L2.Q.D->(Bool->L2.Q.D->Env)->Prop)(up:Bool->L2.Q.D->Env):Prop:=match d with
 |.list ds=>∃ j d',oC ds.length i=some j/\ds[j]? = some d'/\d'.flat=false/\bS d' (f:=fun d'=>P true d' fun fl2 d2=>up fl2 (.list (ds.set j d2))) ⟨⟩
 |.tup ds=>∃ j d',oC ds.length i=some j/\ds[j]? = some d'/\d'.flat=false/\bS d' (f:=fun d'=>P true d' fun fl2 d2=>up fl2 (.tup (ds.set j d2))) ⟨⟩
 |_=>False
section
variable {P:Bool->L2.Q.D->(Bool->L2.Q.D->Env)->Prop}{up:Bool->L2.Q.D->Env}
theorem Mz:Nw p te ρ P=p ρ fun fl d up=>te ρ fun _ y=>fl=true/\bS y (f:=fun y=>int' y fun i=>bS d (f:=fun d=>wpAt d i P up) ⟨⟩) ⟨⟩:=by
 unfold Nw bS int' wpAt
 rfl
end
end
end L2.Q.R
namespace L2
open PySem PySem.Spec PyProof.Rows Builtin Builtin.Str Builtin.Int
end L2
namespace L2
open PySem PySem.Spec PyProof.Rows
end L2
namespace L2.Q
open PySem PySem.Spec PyProof.Rows
section
variable {X:Cx}{K:PySem.W.Frag}{e a b:Expr}{ta tb:WE}{p pos:Pos}{x:Str}{id:String}
theorem Gp{H:Hp}{bs:List Bool}{vs:List V}(r:aI K H (bs.map D.bl) vs):vs=bs.map V.bl:=by
 induction bs generalizing vs with
 |nil=>exact r.n0
 |cons b bs ih =>
  obtain⟨u,us,rfl,r1,rs⟩:=aI.c (d:=D.bl b) r
  cases r1
  rw[ih rs];rfl
theorem Ao:bootBuiltins "min" = some (.builtin "min"):=by decide +kernel
def BR:R2:=fun x y H Q=>match x,y with
 |.int i,.int j=>Q (.int (if j<i then j else i)) H
 |_,_=>False
def zM:W2:=fun _ x _ y Q=>match x,y with
 |.int i,.int j=>Q .sh (.int (if j<i then j else i))
 |_,_=>False
theorem wg:jS K BR zM:=by
 intro Hs H m x v As n y u Bs Qd Qv w rx ry h f
 have r1:=rx.rep w
 have r2:=ry.rep w
 cases r1 with
 |int i=>cases r2 with
  |int j=>exact f.sh w (.int _) h
  |_=>exact h.elim
 |_=>cases r2<;>exact h.elim
theorem vA{r:R2}{f:W2}(hc:iO X (.builtin id) fun xs H Q=>∃ x y,xs=[x,y]/\r x y H Q)(br:jS K r f)(hg:Gl X x)(hm:X.mg x=none)(hv:bootBuiltins x=some (.builtin id))(ha:QE X K a ta)(hb:QE X K b tb)
  (hs:starEach [a,b] X.env=(false,eval a X.env) :: starEach [b] X.env:=by rfl) (sN:starEach [b] X.env=(false,eval b X.env) :: starEach [] X.env:=by rfl) (hn:x ≠ "__name__" := by decide) (iP:(x == ("__debug__" : Str))=false:=by decide)
  (gI:(backTo pos (starEach [b] X.env)).any (·.1)=false:=by rfl):QE X K (.Call (.Name x p) [a,b] [] pos) (ax f ta tb):=by
 refine PE.imp (O_ hc hg hm hv (oz ha (oz hb sL sN) hs) hn iP hs gI) fun σ H Qv h=>?_
 obtain⟨Hs,ρ,ae,Q,sr,h,fin⟩:=kh br σ H Qv h
 exact⟨Hs,ρ,ae,Q,sr,h,fun v H1 aE m x As g1 r1 f1 q1=>by
  obtain⟨ay,eS,df,Q2,ip,h2,fin2⟩:=fin v H1 aE m x As g1 r1 f1 q1
  exact⟨ay,eS,df,Q2,ip,h2,fun u H2 eh n y Bs g2 r2 f2 q2=>⟨v,u,rfl,fin2 u H2 eh n y Bs g2 r2 f2 q2⟩⟩⟩
theorem Ba (hc:X.calm=true:=by rfl):iO X (.builtin "min") fun xs H Q=>∃ x y,xs=[x,y]/\BR x y H Q:=fun pins s σ H xs us Q I r dc=>by
 obtain⟨x,y,e,q⟩:=dc
 subst e
 unfold BR at q
 split at q
 ·exact Z5 hc pins s σ H _ us Q I r ⟨_,_,rfl,q⟩
 ·exact q.elim
end
end L2.Q
namespace L2.Q.R
open PySem PySem.Spec PyProof.Rows L2.Q
section
variable {Q:Md->L2.Q.D->Prop}{m m':Md}{a b:Int}
theorem JQ:zM m (.int a) m' (.int b) Q=Q .sh (.int (if b<a then b else a)):=rfl
end
end L2.Q.R
namespace L2.Q
open PySem PySem.Spec PyProof.Rows
theorem cD{g:WG}{tc:WT}{te:WE}(O:Nat->List D->Prop)(Iv:Env->Prop):∀ (xs:List D) (i:Nat) (pre:List D) (ρ:Env) (k:List D->Prop),Iv ρ->O i pre ->
  (∀ j x,xs[j]? = some x->∀ ρ,Iv ρ->∀ out,O (i+j) out->∀ N1:Env->Prop,∀ N2:Env->D->Prop,(∀ bP d,Iv bP->O (i+j+1) (out++[d])->N2 bP d)->g x ρ fun oi=>tc oi fun b=>if b=true then te oi fun m d=>P8 m d/\N2 oi d else N1 oi) ->
  (∀ out,O (i+xs.length) (pre++out)->k out)->ir g tc te xs ρ k
 |[],i,pre,_,k,_,h0,_,h=>h [] (by simpa using h0)
 |x :: xs,i,pre,ρ,k,iv,h0,hs,h=>by
  refine hs 0 x rfl ρ iv pre h0 _ _ (fun bP d Nv o'=>?_)
  refine cD O Iv xs (i+1) (pre++[d]) bP _ Nv o' (fun j y hy ρ iv out ho=>?_) fun out ho=>?_
  ·have:=hs (j+1) y (by simpa using hy) ρ iv out (by rwa[show i+(j+1)=i+1+j by lia])
   rwa[show i+(j+1)+1=i+1+j+1 by lia] at this
  ·refine h (d :: out) ?_
   rw[xo] at ho
   rwa[sv,show i+(xs.length+1)=i+1+xs.length by lia]
end L2.Q
namespace TS
open PySem PySem.SetTable
def fk:Nat->Nat->Nat
 |0,s=>s
 |k+1,s=>5*fk k s+1
theorem G6(a b s:Nat):fk (a+b) s=fk b (fk a s):=by
 induction b with
 |zero=>rfl
 |succ b ih=>show 5*fk (a+b) s+1=5*fk b (fk a s)+1;rw[ih]
theorem vR(n s:Nat):4*fk n s+1=5 ^ n*(4*s+1):=by
 induction n with
 |zero=>simp[fk]
 |succ n ih =>
  show 4*(5*fk n s+1)+1=5 ^ (n+1)*(4*s+1)
  rw[zh,Ou (5 ^ n) 5,G0,<- ih];lia
theorem zq(m:Nat):∃ q,5 ^ 2 ^ m=1+2 ^ (m+2)*q/\q % 2=1:=by
 induction m with
 |zero=>exact⟨1,by decide,by decide⟩
 |succ m ih =>
  obtain⟨q,e,o⟩:=ih
  refine⟨q+2 ^ (m+1)*(q*q),?_,?_⟩
  ·have hp:5 ^ 2 ^ (m+1)=(5 ^ 2 ^ m) ^ 2:=by rw[zh 2 m,Nat.pow_mul]
   rw[hp,e]
   clear e hp
   have e1:2 ^ (m+1+2)=2*2 ^ (m+2):=by rw[show m+1+2=(m+2)+1 by exact EL ..,zh];lia
   have e2:2 ^ (m+2)=2*2 ^ (m+1):=by rw[show m+2=(m+1)+1 by rfl,zh];lia
   rw[e1,e2]
   generalize 2 ^ (m+1)=y
   rw[Nat.pow_two]
   simp only[Nat.mul_add,Nat.add_mul,Nat.one_mul,Nat.mul_one]
   have a1:2*y*q*(2*y*q)=2*(2*y)*(y*(q*q)):=by
    simp only[G0,Nat.mul_left_comm,Ou]
   have a2:2*(2*y)*q=2*y*q+2*y*q:=by
    rw[G0 2 (2*y) q];lia
   rw[a1,a2];lia
  ·have:2 ^ (m+1)*(q*q) % 2=0:=by
    rw[zh,Ou (2 ^ m) 2,G0,Nat.mul_mod_right]
   lia
theorem B_(m x:Nat):∃ r,fk (2 ^ m) x=x+2 ^ m*r/\r % 2=1:=by
 obtain⟨q,e,o⟩:=zq m
 have c:=vR (2 ^ m) x
 rw[e] at c
 refine⟨q*(4*x+1),?_,?_⟩
 ·have e2:2 ^ (m+2)=4*2 ^ m:=by rw[Nat.pow_add];lia
  rw[e2,Nat.add_mul,Nat.one_mul,G0,G0] at c
  lia
 ·rw[Nat.mul_mod,o,Nat.one_mul];lia
theorem GK(m s e:Nat):∃ k,k+1<=2 ^ m/\fk k s % 2 ^ m=e % 2 ^ m:=by
 induction m with
 |zero=>exact⟨0,by decide,by simp[Nat.mod_one]⟩
 |succ m ih =>
  obtain⟨k,hk,h⟩:=ih
  have hp:2 ^ (m+1)=2 ^ m*2:=zh ..
  have Tj:0<2 ^ m:=Nat.pow_pos (by decide)
  have key:∀ a:Nat,a % (2 ^ m*2)=a % 2 ^ m+2 ^ m*(a / 2 ^ m % 2):=fun a=>Nat.mod_mul
  by_cases c:fk k s / 2 ^ m % 2=e / 2 ^ m % 2
  ·exact⟨k,by walk_at "s4",by rw[hp,key,key,h,c]⟩
  ·refine⟨k+2 ^ m,by lia,?_⟩
   obtain⟨r,er,ro⟩:=B_ m (fk k s)
   rw[G6,er,hp,key,key,Nat.add_mul_mod_self_left,h,Nat.add_mul_div_left _ _ Tj]
   have:(fk k s / 2 ^ m+r) % 2=e / 2 ^ m % 2:=by lia
   rw[this]
def qE(M:Nat)(p:Probe):Probe :=
 if p.more>0 then { p with j:=p.j+1,more:=p.more-1 } else
 { p with j:=(leap M p.i p.perturb).1,more:=runEnd M (leap M p.i p.perturb).1-(leap M p.i p.perturb).1,i:=(leap M p.i p.perturb).1,perturb:=(leap M p.i p.perturb).2 }
def ps(M:Nat)(h:Int):Nat->Probe
 |0=>{ j:=bits h % (M+1),more:=runEnd M (bits h % (M+1))-bits h % (M+1),i:=bits h % (M+1),perturb:=bits h,dummy:=none }
 |n+1=>qE M (ps M h n)
def J(M:Nat)(h:Int)(n:Nat):Nat:=(ps M h n).j
theorem sU{M i:Nat}(h:i<=M):i<=runEnd M i/\runEnd M i<=M/\runEnd M i<=i+9:=by
 unfold runEnd;split<;>lia
theorem CZ(M:Nat)(h:Int):∀ n,(ps M h n).i<=M/\(ps M h n).j+(ps M h n).more<=M/\(ps M h n).dummy=none/\(ps M h n).more<=9
 |0=>by
  have h0:bits h % (M+1)<=M:=L7 (HK _ (tT _))
  have:=sU h0
  exact⟨h0,by show bits h % (M+1)+(runEnd M (bits h % (M+1))-bits h % (M+1))<=M;lia,rfl,by show runEnd M (bits h % (M+1))-bits h % (M+1)<=9;lia⟩
 |n+1=>by
  obtain⟨a,b,c,d⟩:=CZ M h n
  show(qE M (ps M h n)).i<=M/\_/\(qE M (ps M h n)).dummy=none/\_
  unfold qE
  by_cases hm:(ps M h n).more>0
  ·simp only[hm,if_true]
   show _/\(qE M (ps M h n)).j+(qE M (ps M h n)).more<=M/\_/\(qE M (ps M h n)).more<=9
   simp only[qE,hm,if_true]
   exact⟨a,by lia,c,by walk_at "s4"⟩
  ·simp only[hm,if_false]
   show _/\(qE M (ps M h n)).j+(qE M (ps M h n)).more<=M/\_/\(qE M (ps M h n)).more<=9
   simp only[qE,hm,if_false]
   have h0:(leap M (ps M h n).i (ps M h n).perturb).1<=M:=L7 (HK _ (tT _))
   have:=sU h0
   exact⟨h0,by lia,c,by lia⟩
theorem Tn(M:Nat)(h:Int)(n:Nat):J M h n<=M:=by
 have:=CZ M h n
 unfold J;lia
theorem vH(M:Nat)(h:Int)(n:Nat):∀ r,r<=(ps M h n).more->ps M h (n+r)={ ps M h n with j:=(ps M h n).j+r,more:=(ps M h n).more-r }
 |0,_=>rfl
 |r+1,hr=>by
  show qE M (ps M h (n+r))=_
  rw[vH M h n r (by exact kD ‹_›)]
  unfold qE
  rw[if_pos (show(ps M h n).more-r>0 by lia)]
  simp only[Probe.mk.injEq,true_and,and_true]
  walk_at "s1"
def lp(M:Nat)(h:Int):Nat->Nat × Nat
 |0=>(bits h % (M+1),bits h)
 |k+1=>leap M (lp M h k).1 (lp M h k).2
def i5(M:Nat)(h:Int):Nat->Nat
 |0=>0
 |k+1=>i5 M h k+(runEnd M (lp M h k).1-(lp M h k).1)+1
theorem Cg(M:Nat)(h:Int):∀ k,(lp M h k).1<=M
 |0=>L7 (HK _ (tT _))
 |k+1=>L7 (HK _ (tT _))
theorem vC(M:Nat)(h:Int):∀ k,i5 M h k<=10*k
 |0=>bT _
 |k+1=>by
  have:=vC M h k
  have:=sU (Cg M h k)
  show i5 M h k+_+1<=_;lia
theorem tD(M:Nat)(h:Int):∀ k,ps M h (i5 M h k)={ j:=(lp M h k).1,more:=runEnd M (lp M h k).1-(lp M h k).1,i:=(lp M h k).1,perturb:=(lp M h k).2,dummy:=none }
 |0=>rfl
 |k+1=>by
  have ih:=tD M h k
  have e:=vH M h (i5 M h k) (runEnd M (lp M h k).1-(lp M h k).1) (by rw[ih];exact bT _)
  show qE M (ps M h (i5 M h k+(runEnd M (lp M h k).1-(lp M h k).1)))=_
  rw[e,ih]
  unfold qE
  rw[if_neg (by simp)]
  rfl
theorem Aw(M:Nat)(h:Int):∀ k,(lp M h k).2=bits h / 32 ^ k
 |0=>by simp[lp]
 |k+1=>by
  show(lp M h k).2 / 32=_
  rw[Aw M h k,Nat.div_div_eq_div_mul,zh]
theorem Ck(h:Int):bits h<2 ^ 64:=by
 unfold bits
 have h1:=OD h (show(2 ^ 64:Int)≠0 by decide)
 have h2:=Rb h (show(0:Int)<2 ^ 64 by decide)
 lia
theorem xj(M:Nat)(h:Int):∀ k,(lp M h (13+k)).1 % (M+1)=fk k (lp M h 13).1 % (M+1)
 |0=>rfl
 |k+1=>by
  have e:(lp M h (13+k)).2=0:=by
   rw[Aw]
   refine Nat.div_eq_of_lt (kP (Ck h) ?_)
   exact iN (by decide:2 ^ 64<=32 ^ 13) (Nat.pow_le_pow_right (by decide) (by exact xt _ _))
  show(leap M (lp M h (13+k)).1 (lp M h (13+k)).2).1 % (M+1)=_
  unfold leap
  rw[e]
  show((lp M h (13+k)).1*5+1+0 / 32) % (M+1) % (M+1)=(5*fk k (lp M h 13).1+1) % (M+1)
  rw[Nat.mod_mod,Nat.zero_div,HG,Nat.add_mod,Nat.mul_mod,xj M h k,<- Nat.mul_mod,<- Nat.add_mod,Ou]
theorem cover{M m:Nat}(hM:M+1=2 ^ m)(h:Int){e:Nat}(he:e<=M):∃ k,k<=M+13/\(lp M h k).1=e:=by
 obtain⟨k,hk,q⟩:=GK m (lp M h 13).1 e
 rw[<- hM] at hk q
 refine⟨13+k,by lia,?_⟩
 have:=xj M h k
 rw[q] at this
 rwa[Nat.mod_eq_of_lt (vS (Cg M h _)),Nat.mod_eq_of_lt (vS he)] at this
theorem Gw(M:Nat)(h:Int)(k:Nat):J M h (i5 M h k)=(lp M h k).1:=by unfold J;rw[tD]
theorem uq{M m:Nat}(hM:M+1=2 ^ m)(h:Int)(iq:Nat->Bool){e:Nat}(he:e<=M)(hf:iq e=false):∃ n,n<=10*(M+13)/\iq (J M h n)=false/\∀ k<n,iq (J M h k)=true:=by
 obtain⟨k,hk,q⟩:=cover hM h he
 have hb:=vC M h k
 have hB:iq (J M h (i5 M h k))=false:=by rw[Gw,q];exact hf
 generalize i5 M h k=b at hb hB
 have go:∀ b,iq (J M h b)=false->∃ n,n<=b/\iq (J M h n)=false/\∀ k<n,iq (J M h k)=true:=by
  intro b
  induction b using Nat.strongRecOn with
  |ind b ih =>
   intro hB
   by_cases c:∃ k,k<b/\iq (J M h k)=false
   ·obtain⟨k,h1,h2⟩:=c
    obtain⟨n,a1,a2,a3⟩:=ih k h1 h2
    exact⟨n,by walk_at "s2",a2,a3⟩
   ·refine⟨b,bT _,hB,fun k hk=>?_⟩
    cases z:iq (J M h k) with
    |true=>rfl
    |false=>exact absurd ⟨k,hk,z⟩ c
 obtain⟨n,a1,a2,a3⟩:=go b hB
 exact⟨n,by lia,a2,a3⟩
def Up(xs:Array Nat):Prop:=∀ i j:Nat,i<j->j<xs.size->xs.getD i 0<xs.getD j 0
theorem tU{xs:Array Nat}{i d d':Nat}(h:i<xs.size):xs.getD i d=xs.getD i d':=by simp[Array.getD,h]
theorem nu{xs:Array Nat}(U:Up xs)(j:Nat):∀ (fuel lo hi:Nat),hi-lo<=fuel->lo<=hi->hi<=xs.size->(∀ i<lo,xs.getD i 0<j)->(∀ i,hi<=i->i<xs.size->j<=xs.getD i 0) ->
  below.go xs j fuel lo hi<=xs.size/\(∀ i<below.go xs j fuel lo hi,xs.getD i 0<j)/\(∀ i,below.go xs j fuel lo hi<=i->i<xs.size->j<=xs.getD i 0)
 |0,lo,hi,hf,h1,h2,h3,h4=>by
  obtain rfl:lo=hi:=by lia
  exact⟨h2,h3,h4⟩
 |fuel+1,lo,hi,hf,h1,h2,h3,h4=>by
  unfold below.go
  by_cases c:lo<hi
  ·rw[if_pos c]
   dsimp only
   have hm:(lo+hi) / 2<xs.size:=by lia
   by_cases d:xs.getD ((lo+hi) / 2) j<j
   ·rw[if_pos d]
    rw[tU (d':=0) hm] at d
    refine nu U j fuel _ _ (by lia) (by lia) h2 (fun i kA=>?_) h4
    by_cases e:i=(lo+hi) / 2
    ·rw[e];exact d
    ·exact Q7 (U i _ (by lia) hm) d
   ·rw[if_neg d]
    rw[tU (d':=0) hm] at d
    refine nu U j fuel _ _ (by lia) (by lia) (by exact kD ‹_›) h3 fun i kA hs=>?_
    by_cases e:i=(lo+hi) / 2
    ·rw[e];exact pz ‹_›
    ·have:=U ((lo+hi) / 2) i (by lia) hs;lia
  ·rw[if_neg c]
   obtain rfl:lo=hi:=by lia
   exact⟨h2,h3,h4⟩
theorem bF{xs:Array Nat}(U:Up xs)(j:Nat):below xs j<=xs.size/\(∀ i<below xs j,xs.getD i 0<j)/\(∀ i,below xs j<=i->i<xs.size->j<=xs.getD i 0) :=
 nu U j xs.size 0 xs.size (by exact Oq _ _) (by exact dz _) (bT _) (fun i h=>absurd h (Dx i)) fun i h1 h2=>by lia
theorem below_at{xs:Array Nat}(U:Up xs){i:Nat}(h:i<xs.size):below xs (xs.getD i 0)=i:=by
 obtain⟨a,b,c⟩:=bF U (xs.getD i 0)
 by_cases h1:below xs (xs.getD i 0)<i
 ·have:=c _ (bT _) (by walk_at "s2")
  have:=U _ i h1 h
  lia
 ·by_cases h2:i<below xs (xs.getD i 0)
  ·have:=b i h2;exact absurd ‹_› (pE _)
  ·lia
theorem uR{xs:Array Nat}(U:Up xs){i:Nat}(h:i<xs.size):below xs (xs.getD i 0+1)=i+1:=by
 obtain⟨a,b,c⟩:=bF U (xs.getD i 0+1)
 by_cases h1:below xs (xs.getD i 0+1)<i+1
 ·have:=c i (by lia) h;exact absurd ‹_› (pE _)
 ·by_cases h2:i+1<below xs (xs.getD i 0+1)
  ·have:=b (i+1) h2
   have:=U i (i+1) (by exact bT _) (by walk_at "s1");lia
  ·lia
def taken(xs:Array Nat)(j:Nat):Bool:=xs[below xs j]? == some j
theorem wY{xs:Array Nat}{i j:Nat}(h:xs[i]? = some j):i<xs.size/\xs.getD i 0=j:=by
 obtain⟨h1,h2⟩:=HL.mp h
 exact⟨h1,by simp[Array.getD,h1,h2]⟩
theorem wX{xs:Array Nat}{i:Nat}(h:i<xs.size):xs[i]? = some (xs.getD i 0):=by simp[Array.getD,h]
theorem fu{xs:Array Nat}(U:Up xs){j:Nat}:taken xs j=true↔∃ i,i<xs.size/\xs.getD i 0=j:=by
 unfold taken
 rw[beq_iff_eq]
 constructor
 ·intro h;exact⟨_,wY h⟩
 ·rintro⟨i,h,rfl⟩
  rw[below_at U h]
  exact wX h
theorem jH{xs:Array Nat}(U:Up xs){j:Nat}(h:taken xs j=true):below xs j<xs.size/\xs.getD (below xs j) 0=j:=by
 unfold taken at h
 rw[beq_iff_eq] at h
 exact wY h
theorem cX{α:Type}(xs:Array α){p:Nat}(x:α)(h:p<=xs.size):(insertAt xs p x).size=xs.size+1:=by
 unfold insertAt
 simp
 lia
theorem O8{α:Type}(xs:Array α){p:Nat}(x:α)(h:p<=xs.size)(i:Nat):(insertAt xs p x)[i]? = if i<p then xs[i]? else if i=p then some x else xs[i-1]? := by
 unfold insertAt
 have hs:((xs.extract 0 p).push x).size=p+1:=by simp;exact Nat.min_eq_left ‹_›
 by_cases h1:i<p
 ·rw[if_pos h1,Array.getElem?_append_left (by lia),Array.getElem?_push,if_neg (by simp;lia),Oy]
  rw[if_pos (by lia)];simp
 ·rw[if_neg h1]
  by_cases h2:i=p
  ·rw[if_pos h2,Array.getElem?_append_left (by lia),Array.getElem?_push,if_pos (by simp;lia)]
  ·rw[if_neg h2,Array.getElem?_append_right (by lia),hs,Oy]
   by_cases h3:i-(p+1)<min xs.size xs.size-p
   ·rw[if_pos h3]
    congr 1;lia
   ·rw[if_neg h3,DF (by lia)]
theorem dH{xs:Array Nat}{p x:Nat}(h:p<=xs.size)(i:Nat):(insertAt xs p x).getD i 0=if i<p then xs.getD i 0 else if i=p then x else xs.getD (i-1) 0:=by
 have e:∀ (ys:Array Nat) (k:Nat),ys.getD k 0=ys[k]?.getD 0:=fun ys k=>by
  simp[DE]
 rw[e,O8 xs x h]
 split
 ·rw[e]
 ·split
  ·rfl
  ·rw[e]
theorem Al{xs:Array Nat}(U:Up xs){j:Nat}(hj:taken xs j=false):Up (insertAt xs (below xs j) j):=by
 obtain⟨a,b,c⟩:=bF U j
 have ne:∀ i,i<xs.size->xs.getD i 0≠j:=fun i hi e=>by
  have:=(fu U (j:=j)).mpr ⟨i,hi,e⟩
  rw[hj] at this;cases this
 intro i k hik hk
 rw[cX xs j a] at hk
 rw[dH a,dH a]
 by_cases h1:k<below xs j
 ·rw[if_pos (by walk_at "s2"),if_pos h1];exact U i k hik (by walk_at "s1")
 ·rw[if_neg h1]
  by_cases h2:k=below xs j
  ·rw[if_pos h2,if_pos (by lia)];exact b i (by lia)
  ·rw[if_neg h2]
   by_cases h3:i<below xs j
   ·rw[if_pos h3];exact U i (k-1) (by lia) (by lia)
   ·rw[if_neg h3]
    by_cases h4:i=below xs j
    ·rw[if_pos h4]
     have:=c (k-1) (by lia) (by lia)
     have:=ne (k-1) (by lia)
     lia
    ·rw[if_neg h4];exact U (i-1) (k-1) (by lia) (by lia)
theorem xX{xs:Array Nat}(U:Up xs){j k:Nat}(hj:taken xs j=false):taken (insertAt xs (below xs j) j) k=(decide (k=j) || taken xs k):=by
 have a:=(bF U j).1
 have U':=Al U hj
 apply xA.mpr
 rw[fu U',Bool.or_eq_true,decide_eq_true_eq,fu U]
 rw[cX xs j a]
 constructor
 ·rintro⟨i,hi,e⟩
  rw[dH a] at e
  by_cases h1:i<below xs j
  ·rw[if_pos h1] at e;exact .inr ⟨i,by lia,e⟩
  ·rw[if_neg h1] at e
   by_cases h2:i=below xs j
   ·rw[if_pos h2] at e;exact .inl e.symm
   ·rw[if_neg h2] at e;exact .inr ⟨i-1,by lia,e⟩
 ·rintro(rfl|⟨i,hi,e⟩)
  ·exact⟨below xs k,by exact vS ‹_›,by rw[dH a,if_neg (by lia),if_pos rfl]⟩
  ·by_cases h1:i<below xs j
   ·exact⟨i,by exact ot ‹_›,by rw[dH a,if_pos h1];exact e⟩
   ·exact⟨i+1,by exact vS ‹_›,by rw[dH a,if_neg (by lia),if_neg (by lia)];exact e⟩
def Reach(M:Nat)(place:Array Nat)(h:Int)(j:Nat):Prop:=∃ n,n<=10*(M+13)/\J M h n=j/\∀ k<n,taken place (J M h k)=true
structure TI{α:Type}(t:SetTable)(es:Array (Int × α)):Prop where
 pw:∃ m,t.mask+1=2 ^ m/\3<=m
 sz:t.place.size=es.size
 up:Up t.place
 le:∀ i,i<t.place.size->t.place.getD i 0<=t.mask
 dm:t.dummies = #[]
 few:es.size*5<t.mask*3
 path:∀ i h x,es[i]? = some (h,x)->Reach t.mask t.place h (t.place.getD i 0)
section
variable {α:Type}{t:SetTable}{es:Array (Int × α)}
theorem TI.slot(T:TI t es)(j:Nat):t.slot j=if taken t.place j then .live (below t.place j) else .empty:=by
 unfold SetTable.slot taken
 dsimp only
 split
 ·rfl
 ·have:has t.dummies j=false:=by rw[T.dm];rfl
  rw[this];rfl
theorem TI.fits(T:TI t es):t.fits es.size=true:=by
 have:=T.few
 simp only[SetTable.fits,fill,T.dm,T.sz,lI,beq_iff_eq,decide_eq_true_eq,true_and]
 simp;lia
theorem TI.odd(T:TI t es):t.gaveWay=false:=by
 obtain⟨m,h,h3⟩:=T.pw
 unfold SetTable.gaveWay
 rw[beq_eq_false_iff_ne]
 have:2 ^ m=2*2 ^ (m-1):=by
  rw[show m=(m-1)+1 by lia,zh];simp;lia
 lia
theorem TI.free(T:TI t es):∃ e,e<=t.mask/\taken t.place e=false:=by
 have hf:=T.few
 have hs:=T.sz
 by_cases c:∃ e,e<=t.mask/\taken t.place e=false
 ·exact c
 ·exfalso
  have all:∀ e,e<=t.mask->taken t.place e=true:=fun e he=>by
   cases z:taken t.place e with
   |true=>rfl
   |false=>exact absurd ⟨e,he,z⟩ c
  -- slot e stands at place at most e
  have go:∀ e,e<=t.mask->e<=below t.place e:=by
   intro e
   induction e with
   |zero=>intro _;exact dz _
   |succ e ih =>
    intro he
    have h1:=jH T.up (all e (by exact kD ‹_›))
    have h2:=jH T.up (all (e+1) he)
    have:=ih (by exact kD ‹_›)
    obtain⟨_,b,c⟩:=bF T.up (e+1)
    by_cases z:below t.place e<below t.place (e+1)
    ·walk_at "s1"
    ·have:=c (below t.place e) (by exact pz ‹_›) h1.1
     lia
  have:=go t.mask (bT _)
  have:=(jH T.up (all t.mask (bT _))).1
  lia
theorem TI.put(T:TI t es){h:Int}{x:α}{j:Nat}(hj:j<=t.mask)(hn:taken t.place j=false)(hr:Reach t.mask t.place h j){t':SetTable}(ht:t'.mask=t.mask)(hp:t'.place=insertAt t.place (below t.place j) j)(hd:t'.dummies = #[])
  (hf:(es.size+1)*5<t.mask*3):TI t' (insertAt es (below t.place j) (h,x)):=by
 have a:=(bF T.up j).1
 have a':below t.place j<=es.size:=by rw[<- T.sz];exact a
 refine⟨by rw[ht];exact T.pw,by rw[hp,cX _ _ a,cX _ _ a',T.sz],by rw[hp];exact Al T.up hn,fun i hi=>?_,hd,by rw[cX _ _ a',ht];exact hf,fun i g y e=>?_⟩
 ·rw[hp,cX _ _ a] at hi
  rw[hp,dH a,ht]
  split
  ·exact T.le i (by walk_at "s1")
  ·split
   ·exact hj
   ·exact T.le (i-1) (by lia)
 ·have mono:∀ {g:Int} {k:Nat},Reach t.mask t.place g k->Reach t'.mask t'.place g k:=fun {g k} ⟨n,h1,h2,h3⟩=>⟨n,by rw[ht];exact h1,by rw[ht];exact h2,fun q hq=>by
   rw[hp,ht,xX T.up hn,h3 q hq,Bool.or_true]⟩
  rw[O8 es _ a'] at e
  rw[hp,dH a,<- hp]
  by_cases h1:i<below t.place j
  ·rw[if_pos h1] at e ⊢
   exact mono (T.path i g y e)
  ·rw[if_neg h1] at e ⊢
   by_cases h2:i=below t.place j
   ·rw[if_pos h2] at e ⊢
    cases e
    exact mono hr
   ·rw[if_neg h2] at e ⊢
    exact mono (T.path (i-1) g y e)
end
theorem iy{α:Type}[DecidableEq α]:∀ {l m:List α},l.Nodup->(∀ x∈l,x∈m)->l.length<=m.length
 |[],_,_,_=>dz _
 |x :: l,m,nd,h=>by
  rw[ly] at nd
  have hx:=h x cf
  have:=iy (l:=l) (m:=m.erase x) nd.2 fun y hy=>(List.mem_erase_of_ne (fun e=>nd.1 (by rw[<- e];exact hy))).mpr (h y (cc _ hy))
  rw[List.length_erase_of_mem hx] at this
  have:0<m.length:=List.length_pos_of_mem hx
  simp only[sv];lia
def iq(owner:Array (Option Nat))(j:Nat):Bool:=(owner.getD j (some 0)).isSome
theorem qF{M:Nat}(h:Int)(owner:Array (Option Nat)):∀ (fuel k:Nat),(∀ q<i5 M h k,iq owner (J M h q)=true)->(∃ K,k<=K/\K<k+fuel/\K<=M+13/\iq owner (lp M h K).1=false) ->
  ∃ j n,layClean.free M owner fuel (lp M h k).1 (lp M h k).2=some j/\J M h n=j/\n<=10*(M+13)/\iq owner j=false/\∀ q<n,iq owner (J M h q)=true
 |0,k,_,⟨K,h1,h2,_⟩=>by lia
 |fuel+1,k,hq,⟨K,h1,h2,h3,h4⟩=>by
  have To:∀ r,r<=runEnd M (lp M h k).1-(lp M h k).1->J M h (i5 M h k+r)=(lp M h k).1+r:=fun r hr=>by
   unfold J
   rw[vH M h (i5 M h k) r (by rw[tD];exact hr),tD]
  have hle:=sU (Cg M h k)
  have e:∀ r,(owner.getD ((lp M h k).1+r) (some 0)).isNone = !iq owner ((lp M h k).1+r):=fun r=>by
   unfold iq;cases owner.getD ((lp M h k).1+r) (some 0)<;>rfl
  unfold layClean.free
  cases hf:(List.range (runEnd M (lp M h k).1+1-(lp M h k).1)).find? fun r=>(owner.getD ((lp M h k).1+r) (some 0)).isNone with
  |some r =>
   obtain⟨a1,a2,a3⟩:=List.find?_range_eq_some.mp hf
   have a2:r<runEnd M (lp M h k).1+1-(lp M h k).1:=by simpa using a2
   rw[e] at a1
   have a1:iq owner ((lp M h k).1+r)=false:=by simpa using a1
   have occs:∀ q<i5 M h k+r,iq owner (J M h q)=true:=fun q Qb=>by
    by_cases z:q<i5 M h k
    ·exact hq q z
    ·have:=a3 (q-i5 M h k) (by lia)
     rw[e] at this
     have hj:=To (q-i5 M h k) (by lia)
     rw[show i5 M h k+(q-i5 M h k)=q by exact sA (pz ‹_›)] at hj
     rw[hj]
     simpa using this
   refine⟨_,i5 M h k+r,rfl,To r (by lia),?_,a1,occs⟩
   have hb:=vC M h K
   by_cases z:i5 M h k+r<=i5 M h K
   ·lia
   ·have:=occs (i5 M h K) (by exact L5 ‹_›)
    rw[Gw,h4] at this;cases this
  |none =>
   have hn:=List.find?_eq_none.mp hf
   have Xl:∀ r,r<=runEnd M (lp M h k).1-(lp M h k).1->iq owner ((lp M h k).1+r)=true:=fun r hr=>by
    have:=hn r (by simp;lia)
    rw[e] at this
    simpa using this
   dsimp only
   have hK:K≠k:=fun z=>by
    subst z
    have:=Xl 0 (dz _)
    rw[HG,h4] at this;cases this
   refine qF h owner fuel (k+1) (fun q Qb=>?_) ⟨K,by lia,by lia,h3,h4⟩
   by_cases z:q<i5 M h k
   ·exact hq q z
   ·have Qb:q<i5 M h k+(runEnd M (lp M h k).1-(lp M h k).1)+1:=Qb
    have hj:=To (q-i5 M h k) (by lia)
    rw[show i5 M h k+(q-i5 M h k)=q by exact sA (pz ‹_›)] at hj
    rw[hj]
    exact Xl _ (by lia)
structure OI(M:Nat)(hs:List Int)(owner:Array (Option Nat)):Prop where
 sz:owner.size=M+1
 lt:∀ j v:Nat,owner[j]? = some (some v)->v<hs.length
 inj:∀ j j' v:Nat,owner[j]? = some (some v)->owner[j']? = some (some v)->j=j'
 all:∀ v:Nat,v<hs.length->∃ j:Nat,owner[j]? = some (some v)
 path:∀ j v:Nat,owner[j]? = some (some v)->∃ n,n<=10*(M+13)/\J M (hs.getD v 0) n=j/\∀ q<n,iq owner (J M (hs.getD v 0) q)=true
theorem sO{owner:Array (Option Nat)}{j:Nat}(h:j<owner.size):iq owner j=true↔∃ v,owner[j]? = some (some v):=by
 unfold iq
 rw[zi h]
 simp only[Array.getD,h,dite_true,Option.some.injEq]
 cases hh:owner[j] with
 |none =>
  have:owner.getInternal j h=none:=hh
  rw[this];simp
 |some v =>
  have:owner.getInternal j h=some v:=hh
  rw[this];simp
theorem OI.free{M:Nat}{hs:List Int}{owner:Array (Option Nat)}(O:OI M hs owner)(hl:hs.length<=M):∃ e,e<=M/\iq owner e=false:=by
 by_cases c:∃ e,e<=M/\iq owner e=false
 ·exact c
 ·exfalso
  have all:∀ e,e<=M->∃ v,owner[e]? = some (some v):=fun e he=>by
   refine(sO (by rw[O.sz];exact vS ‹_›)).mp ?_
   cases z:iq owner e with
   |true=>rfl
   |false=>exact absurd ⟨e,he,z⟩ c
  have nd:((List.range (M+1)).map fun j=>(owner.getD j none).getD 0).Nodup:=by
   rw[Oa,rp]
   refine List.Pairwise.imp_of_mem ?_ (Oa.mp List.nodup_range)
   intro a b ha hb jv z
   obtain⟨va,ea⟩:=all a (by have:=rq.mp ha;lia)
   obtain⟨vb,eb⟩:=all b (by have:=rq.mp hb;lia)
   rw[DE,DE,ea,eb] at z
   have z:va=vb:=z
   subst z
   exact jv (O.inj _ _ _ ea eb)
  have:=iy (m:=List.range hs.length) nd fun x hx=>by
   obtain⟨j,hj,rfl⟩:=dn.mp hx
   obtain⟨v,e⟩:=all j (by have:=rq.mp hj;lia)
   rw[DE,e]
   exact rq.mpr (O.lt _ _ e)
  simp at this
  lia
theorem OI.lay{M m:Nat}{hs:List Int}{owner:Array (Option Nat)}(hM:M+1=2 ^ m)(O:OI M hs owner)(hl:hs.length<=M)(h:Int) :
  ∃ j,layClean.free M owner (turns M) (bits h % (M+1)) (bits h)=some j/\OI M (hs++[h]) (owner.setIfInBounds j (some hs.length)):=by
 obtain⟨e,he,hf⟩:=O.free hl
 obtain⟨K,hK,hKe⟩:=cover hM h he
 obtain⟨j,n,e1,e2,e3,e4,e5⟩:=qF h owner (turns M) 0 (fun q hq=>absurd hq (Dx q)) ⟨K,dz _,by unfold turns;lia,hK,by rw[hKe];exact hf⟩
 refine⟨j,e1,?_⟩
 have hj:j<owner.size:=by rw[O.sz,<- e2];exact vS (Tn M h n)
 have get:∀ i,(owner.setIfInBounds j (some hs.length))[i]? = if j=i then some (some hs.length) else owner[i]? := fun i=>by
  rw[Array.getElem?_setIfInBounds]
  by_cases z:j=i
  ·subst z;simp[hj]
  ·simp[z]
 have oc:∀ i,iq owner i=true->iq (owner.setIfInBounds j (some hs.length)) i=true:=fun i hi=>by
  unfold iq at hi ⊢
  rw[DE] at hi ⊢
  rw[get]
  split
  ·rfl
  ·exact hi
 have jv:∀ v,owner[j]?≠some (some v):=fun v z=>by
  have:=(sO hj).mpr ⟨v,z⟩
  rw[e4] at this;cases this
 refine⟨by rw[Array.size_setIfInBounds];exact O.sz,fun i v z=>?_,fun i i' v z z'=>?_,fun v hv=>?_,fun i v z=>?_⟩
 ·rw[get] at z
  split at z
  ·cases z;simp
  ·have:=O.lt i v z;simp;exact ot ‹_›
 ·rw[get] at z z'
  split at z
  ·cases z
   split at z'
   ·lia
   ·exact absurd (O.lt _ _ z') (pE _)
  ·split at z'
   ·cases z'
    exact absurd (O.lt _ _ z) (pE _)
   ·exact O.inj i i' v z z'
 ·simp at hv
  by_cases c:v=hs.length
  ·exact⟨j,by rw[get,if_pos rfl,c]⟩
  ·obtain⟨i,hi⟩:=O.all v (by lia)
   refine⟨i,?_⟩
   rw[get,if_neg (fun z=>jv v (by rw[z];exact hi))]
   exact hi
 ·rw[get] at z
  split at z
  ·rename_i Tp
   cases z
   refine⟨n,e3,?_,fun q hq=>oc _ ?_⟩
   ·rw[LM,y6 (bT _)]
    simp[e2,Tp]
   ·have:=e5 q hq
    rw[LM,y6 (bT _)]
    simpa using this
  ·have hv:=O.lt i v z
   obtain⟨n',a1,a2,a3⟩:=O.path i v z
   have eg:(hs++[h]).getD v 0=hs.getD v 0:=by
    rw[LM,LM,EG hv]
   rw[eg]
   exact⟨n',a1,a2,fun q hq=>oc _ (a3 q hq)⟩
theorem OI.nil(M:Nat):OI M [] (Array.replicate (M+1) none):=by
 have no:∀ (j v:Nat),¬ (Array.replicate (M+1) (none:Option Nat))[j]? = some (some v):=fun j v z=>by
  rw[Array.getElem?_replicate] at z
  split at z<;>cases z
 exact⟨by simp,fun j v z=>absurd z (no j v),fun j j' v z _=>absurd z (no j v),fun v hv=>absurd hv (Dx v),fun j v z=>absurd z (no j v)⟩
theorem Ci{M m:Nat}(hM:M+1=2 ^ m)(hs:Array Int)(hl:hs.size<=M):∃ owner,layClean M hs=some owner/\OI M hs.toList owner:=by
 have go:∀ (l pre:List Int) (owner:Array (Option Nat)),OI M pre owner->pre.length+l.length<=M->∃ Xm,l.foldl (fun acc h=>do
   let (owner,k) ← acc
   let j ← layClean.free M owner (turns M) (bits h % (M+1)) (bits h)
   pure (owner.setIfInBounds j (some k),k+1)) (some (owner,pre.length))=some (Xm,pre.length+l.length)/\OI M (pre++l) Xm:=by
  intro l
  induction l with
  |nil=>intro pre owner O _;exact⟨owner,rfl,by rw[nL];exact O⟩
  |cons h l ih =>
   intro pre owner O hz
   rw[sv] at hz
   obtain⟨j,e,O'⟩:=O.lay hM (by lia) h
   obtain⟨o2,e2,O2⟩:=ih (pre++[h]) _ O' (by simp;lia)
   refine⟨o2,?_,by rw[xo] at O2;exact O2⟩
   rw[List.foldl_cons]
   have:(do
    let (owner,k) ← (some (owner,pre.length):Option (Array (Option Nat) × Nat))
    let j ← layClean.free M owner (turns M) (bits h % (M+1)) (bits h)
    pure (owner.setIfInBounds j (some k),k+1))=some (owner.setIfInBounds j (some pre.length),(pre++[h]).length):=by
    simp[e]
   rw[this,e2]
   simp;exact Nat.add_right_comm ..
 obtain⟨o,e,O⟩:=go hs.toList [] _ (OI.nil M) (by simpa using hl)
 refine⟨o,?_,by simpa using O⟩
 unfold layClean
 rw[<- Array.foldl_toList]
 have e':=e
 simp only[List.length_nil] at e'
 rw[e']
 rfl
theorem jd{n:Nat}:∀ (fuel a:Nat),3<=a->n<2 ^ (a+fuel)->∃ b,3<=b/\sizeAbove.go n fuel (2 ^ a)=2 ^ b/\n<2 ^ b/\(2 ^ b<=2*n\/b=a)
 |0,a,ha,h=>⟨a,ha,rfl,by simpa using h,.inr rfl⟩
 |fuel+1,a,ha,h=>by
  unfold sizeAbove.go
  by_cases c:2 ^ a<=n
  ·rw[if_pos c]
   obtain⟨b,h1,h2,h3,h4⟩:=jd fuel (a+1) (by exact ot ‹_›) (by rw[show a+1+fuel=a+(fuel+1) by exact Nat.add_right_comm ..];exact h)
   refine⟨b,h1,by rw[zh] at h2;exact h2,h3,?_⟩
   rcases h4 with h4|h4
   ·exact .inl h4
   ·left
    rw[h4,zh];lia
  ·rw[if_neg c]
   exact⟨a,ha,rfl,by exact L5 ‹_›,.inr rfl⟩
theorem lW{n:Nat}(h:n<2 ^ 60):∃ b,3<=b/\sizeAbove n=2 ^ b/\n<2 ^ b/\(2 ^ b<=2*n\/b=3) :=
 jd 64 3 (bT _) (Q7 h (by decide))
section
variable {α:Type}
def bN(M:Nat)(owner:Array (Option Nat)):List (Nat × Nat):=(List.range (M+1)).filterMap fun j=>(owner.getD j none).map (j,·)
theorem eV{M:Nat}{owner:Array (Option Nat)}{p:Nat × Nat}:p∈bN M owner↔p.1<M+1/\owner[p.1]? = some (some p.2):=by
 unfold bN
 rw[QR]
 constructor
 ·rintro⟨j,hj,e⟩
  rw[DE] at e
  cases h:owner[j]? with
  |none=>rw[h] at e;cases e
  |some o =>
   rw[h] at e
   cases o with
   |none=>cases e
   |some v =>
    cases e
    exact⟨rq.mp hj,h⟩
 ·rintro⟨h1,h2⟩
  exact⟨p.1,rq.mpr h1,by rw[DE,h2];rfl⟩
theorem rR(M:Nat)(owner:Array (Option Nat)):((bN M owner).map (·.1)).Pairwise (· < ·):=by
 unfold bN
 rw[rp,List.pairwise_filterMap]
 refine List.Pairwise.imp ?_ List.pairwise_lt_range
 intro a b Nz p hp q hq
 cases h1:owner.getD a none with
 |none=>rw[h1] at hp;cases hp
 |some x =>
  cases h2:owner.getD b none with
  |none=>rw[h2] at hq;cases hq
  |some y =>
   rw[h1] at hp;rw[h2] at hq
   cases hp;cases hq
   exact Nz
theorem ue{l:List Nat}(h:l.Pairwise (· < ·)):Up l.toArray:=fun i j gi hj=>by
 have hj:j<l.length:=by simpa using hj
 have:=CF.mp h i j (by walk_at "s1") hj gi
 have e:∀ k (hk:k<l.length),l.toArray.getD k 0=l[k]:=fun k hk=>by simp[Array.getD,hk]
 rw[e i (by walk_at "s1"),e j hj]
 exact this
theorem tQ{β:Type}{f:α->Option β}:∀ {l:List α},(∀ x∈l,(f x).isSome=true)->(l.filterMap f).length=l.length/\∀ i:Nat,(l.filterMap f)[i]? = (l[i]?).bind f
 |[],_=>⟨rfl,fun i=>by simp⟩
 |x :: l,h=>by
  obtain⟨a,b⟩:=tQ (f:=f) (l:=l) fun y hy=>h y (cc _ hy)
  have hx:=h x cf
  cases e:f x with
  |none=>rw[e] at hx;cases hx
  |some y =>
   rw[y8,e]
   refine⟨by simp[a],fun i=>?_⟩
   cases i with
   |zero=>simp[e]
   |succ i=>simpa using b i
theorem uf(es:Array (Int × α)):(List.range es.size).filterMap (fun i=>es[i]?)=es.toList:=by
 apply CH
 intro i
 rw[(tQ (l:=List.range es.size) fun x hx=>by
  have:=rq.mp hx
  simp[this]).2 i]
 by_cases h:i<es.size
 ·rw[List.getElem?_range h,mE];rfl
 ·rw[tP (by simpa using h),tP (by simpa using h)];rfl
theorem BP{M m finger moves:Nat}{led plain:Bool}(hM:M+1=2 ^ m)(hm:3<=m){es:Array (Int × α)}(hf:es.size*5<M*3) :
  ∃ t order,laid M finger moves led plain (es.map (·.1))=some (t,order)/\t.plain=plain/\t.led=led/\t.mask=M/\TI t (order.filterMap fun i=>es[i]?)/\(order.filterMap fun i=>es[i]?).size=es.size/\(order.filterMap fun i=>es[i]?).toList.Perm es.toList/\order.toList.Perm (List.range es.size):=by
 obtain⟨owner,e,O⟩:=Ci hM (es.map (·.1)) (by rw[Array.size_map];lia)
 have hn:(es.map (·.1)).toList.length=es.size:=by simp
 refine⟨{ mask:=M,place:=((bN M owner).map (·.1)).toArray,dummies:=#[],finger,led,moves,plain },((bN M owner).map (·.2)).toArray,?_,rfl,rfl,rfl,?_⟩
 ·unfold laid
  rw[e];rfl
 have Xn:∀ p∈bN M owner,p.2<es.size:=fun p hp=>by
  have:=O.lt _ _ (eV.mp hp).2
  lia
 have nd:((bN M owner).map (·.2)).Nodup:=by
  rw[Oa,rp]
  have:=rR M owner
  rw[rp] at this
  refine List.Pairwise.imp_of_mem ?_ this
  intro p q hp hq da z
  have:=O.inj _ _ _ (eV.mp hp).2 (by rw[z];exact(eV.mp hq).2)
  lia
 have pm:((bN M owner).map (·.2)).Perm (List.range es.size):=by
  refine(List.perm_ext_iff_of_nodup nd List.nodup_range).mpr fun v=>⟨fun hv=>?_,fun hv=>?_⟩
  ·obtain⟨p,hp,rfl⟩:=dn.mp hv
   exact rq.mpr (Xn p hp)
  ·obtain⟨j,hj⟩:=O.all v (by rw[hn];exact rq.mp hv)
   have Xo:=(HL.mp hj).1
   rw[O.sz] at Xo
   exact dn.mpr ⟨(j,v),eV.mpr ⟨Xo,hj⟩,rfl⟩
 have hlen:(bN M owner).length=es.size:=by
  have:=pm.length_eq
  simpa using this
 have Kk:(((bN M owner).map (·.2)).toArray.filterMap fun i=>es[i]?).toList=(bN M owner).filterMap fun p=>es[p.2]? := by
  rw[Array.toList_filterMap,QV];rfl
 obtain⟨f1,f2⟩:=tQ (l:=bN M owner) (f:=fun p=>es[p.2]?) fun p hp=>by simp[Xn p hp]
 have ds':∀ i:Nat,(((bN M owner).map (·.2)).toArray.filterMap fun i=>es[i]?)[i]? = ((bN M owner)[i]?).bind fun p=>es[p.2]? := fun i=>by
  rw[<- mE,Kk];exact f2 i
 have hsz:(((bN M owner).map (·.2)).toArray.filterMap fun i=>es[i]?).size=es.size:=by
  rw[<- A3,Kk,f1,hlen]
 have gI:∀ i:Nat,∀ p,(bN M owner)[i]? = some p->((bN M owner).map (·.1)).toArray.getD i 0=p.1:=fun i p hp=>by
  rw[DE]
  simp[hp]
 have tk:∀ j,iq owner j=true->j<=M->taken ((bN M owner).map (·.1)).toArray j=true:=fun j hj hM'=>by
  obtain⟨v,hv⟩:=(sO (by rw[O.sz];exact vS ‹_›)).mp hj
  obtain⟨i,hi⟩:=LV.mp (eV.mpr (show((j,v):Nat × Nat).1<M+1/\owner[((j,v):Nat × Nat).1]? = some (some ((j,v):Nat × Nat).2) from⟨by show j<M+1;exact vS ‹_›,hv⟩))
  exact(fu (ue (rR M owner))).mpr ⟨i,by
   have:=(hV.mp hi).1
   simpa using this,gI i _ hi⟩
 refine⟨?_,hsz,?_,by simpa using pm⟩
 ·refine⟨⟨m,hM,hm⟩,?_,ue (rR M owner),fun i hi=>?_,rfl,by rw[hsz];exact hf,fun i h x hx=>?_⟩
  ·rw[hsz];simp[hlen]
  ·have hi:i<(bN M owner).length:=by simpa using hi
   have e1:=mz hi
   show((bN M owner).map (·.1)).toArray.getD i 0<=M
   rw[gI i _ e1]
   have:=(eV.mp (mB e1)).1
   lia
  ·rw[ds'] at hx
   cases hp:(bN M owner)[i]? with
   |none=>rw[hp] at hx;cases hx
   |some p =>
    rw[hp] at hx
    have hx:es[p.2]? = some (h,x):=hx
    have D5:=eV.mp (mB hp)
    obtain⟨n,a1,a2,a3⟩:=O.path _ _ D5.2
    have hh:(es.map (·.1)).toList.getD p.2 0=h:=by
     rw[LM,mE,Array.getElem?_map,hx];rfl
    rw[hh] at a2 a3
    refine⟨n,a1,?_,fun q hq=>tk _ (a3 q hq) (Tn M h q)⟩
    show J M h n=((bN M owner).map (·.1)).toArray.getD i 0
    rw[gI i _ hp];exact a2
 ·rw[Kk]
  have:=pm.filterMap fun i=>es[i]?
  rw[uf,QV] at this
  exact this
theorem xZ{t:SetTable}{es:Array (Int × α)}(hn:es.size<=10000) :
  ∃ t' order,t.relaid (es.map (·.1)) (grown es.size)=some (t',order)/\t'.plain=t.plain/\t'.led=t.led/\sizeAbove (grown es.size)<=16777216/\(es.size<=1000->t'.mask<=8191)/\TI t' (order.filterMap fun i=>es[i]?)/\(order.filterMap fun i=>es[i]?).size=es.size/\(order.filterMap fun i=>es[i]?).toList.Perm es.toList/\order.toList.Perm (List.range es.size):=by
 have hg:grown es.size=es.size*4:=by unfold grown;rw[if_neg (by lia)]
 obtain⟨b,h3,e,da,hle⟩:=lW (n:=es.size*4) (by lia)
 have h8:8<=2 ^ b:=Nat.pow_le_pow_right (n:=2) (by decide) h3
 unfold relaid
 rw[hg,e]
 obtain⟨t',order,q1,q2,q3,qm,q4⟩:=BP (M:=2 ^ b-1) (m:=b) (finger:=t.finger) (moves:=t.movedTo (2 ^ b-1)) (led:=t.led) (plain:=t.plain) (by lia) h3 (es:=es) (by lia)
 refine⟨t',order,q1,q2,q3,?_,fun hz=>?_,q4⟩
 ·rcases hle with hle|rfl
  ·lia
  ·decide
 ·rw[qm]
  rcases hle with hle|rfl
  ·lia
  ·decide
end
section
variable {α:Type}{t:SetTable}{es:Array (Int × α)}
theorem ug(T:TI t es)(hashAt:Nat->Int)(h:Int):∀ (fuel n:Nat),(∃ N,n<=N/\N<n+fuel/\taken t.place (J t.mask h N)=false) ->
  ∃ n',n<=n'/\n'<n+fuel/\(∀ q,n<=q->q<n'->taken t.place (J t.mask h q)=true/\hashAt (below t.place (J t.mask h q))≠h) /\
   ((taken t.place (J t.mask h n')=false/\probe.go t hashAt h fuel (ps t.mask h n)=some (.empty (J t.mask h n') none)) \/
    (taken t.place (J t.mask h n')=true/\hashAt (below t.place (J t.mask h n'))=h/\probe.go t hashAt h fuel (ps t.mask h n)=some (.candidate (J t.mask h n') (below t.place (J t.mask h n')) (ps t.mask h (n'+1)))))
 |0,n,⟨N,h1,h2,_⟩=>by lia
 |fuel+1,n,⟨N,h1,h2,h3⟩=>by
  unfold probe.go
  have hs:=T.slot (J t.mask h n)
  have hd:=(CZ t.mask h n).2.2.1
  by_cases c:taken t.place (J t.mask h n)=true
  ·rw[if_pos c] at hs
   have hs:t.slot (ps t.mask h n).j=.live (below t.place (J t.mask h n)):=hs
   rw[hs]
   dsimp only
   by_cases e:hashAt (below t.place (J t.mask h n))=h
   ·rw[if_pos (by simpa using e)]
    exact⟨n,bT _,by lia,fun q a b=>by lia,.inr ⟨c,e,rfl⟩⟩
   ·rw[if_neg (by simpa using e)]
    have hN:N≠n:=fun z=>by rw[z,c] at h3;cases h3
    obtain⟨n',a1,a2,a3,a4⟩:=ug T hashAt h fuel (n+1) ⟨N,by lia,by lia,h3⟩
    refine⟨n',by exact kD ‹_›,by lia,fun q b1 b2=>?_,a4⟩
    by_cases z:q=n
    ·subst z;exact⟨c,e⟩
    ·exact a3 q (by lia) b2
  ·have c:taken t.place (J t.mask h n)=false:=by simpa using c
   rw[if_neg (by rw[c];exact gV)] at hs
   have hs:t.slot (ps t.mask h n).j=.empty:=hs
   rw[hs]
   dsimp only
   rw[hd]
   exact⟨n,bT _,by lia,fun q a b=>by lia,.inl ⟨c,rfl⟩⟩
end
section
variable {prog:Program}{w:World}{K:Type}[DecidableEq K]{knd:KeyKind prog w K}
abbrev aW(knd:KeyKind prog w K)(k:List K):Int:=tupleKeyHash knd k
def yP(knd:KeyKind prog w K)(p:List K × Addr):Int × Value:=(aW knd p.1,.ref p.2)
structure Kx(knd:KeyKind prog w K)(h:Heap)(a:Addr)(ks:List (List K × Addr)):Prop where
 ob:∃ o es ep t,h.get? a=some o/\o.ExactSet/\o.data=.set es ep t/\TI t es/\t.mask<=8191/\t.led=(!w.params.followText "set-order")/\es.toList=ks.map (yP knd)
 nd:(ks.map (·.1)).Nodup
 is:∀ p∈ks,IsTupleKey knd h p.1 p.2
variable {A:Around}{E:Value->Shared->Prop}{s:Shared}
theorem jO{k:List K}{a:Addr}{Q:Bool->Shared->Prop}(hk:IsTupleKey knd s.heap k a)(h:Q false s):wpAny (model prog w) A (ofAClassStatement 8 (.ref a)) Q E s:=by
 have hT:=hk.typeIs
 obtain⟨o,items,n,ho,_,hd,hi⟩:=hk
 unfold ofAClassStatement
 refine ai (wpAny_typeOf hT ?_)
 dsimp only
 refine ai ?_
 refine aS ?_
 simp only[Ov,gu,if_false]
 refine ai (wpAny_seqItems ho hd ?_)
 dsimp only
 refine ai ?_
 rw[<- Array.forIn_toList]
 refine wpAny_forIn_list _ (fun rest r s'=>r.1=none/\s'=s/\∀ v∈rest,carriedByValue v=true) _ ?_ ?_ _ _ ⟨rfl,rfl,hi.byValue⟩
 ·rintro v rest r s' ⟨hr,rfl,oI⟩
  have hv:=oI v cf
  have e:ofAClassStatement 7 v=pure false:=by
   cases v with
   |ref a=>cases hv
   |_=>rfl
  rw[e]
  refine ai (aS ?_)
  simp only[gu,if_false]
  exact aS ⟨rfl,rfl,fun u FD=>oI u (cc _ FD)⟩
 ·rintro⟨r1,r2⟩ s' ⟨hr,rfl,_⟩
  simp only at hr
  subst hr
  exact aS h
theorem iI{k:List K}{a:Addr}{Q:Bool->Shared->Prop}(hk:IsTupleKey knd s.heap k a)(BH:∀ k v,knd.is k v=true->v.scannable=true)(h:∀ b,Q b s):wpAny (model prog w) A (hashByValue 8 (.ref a)) Q E s:=by
 have hT:=hk.typeIs
 obtain⟨o,items,n,ho,_,hd,hi⟩:=hk
 have dt':∀ v∈items.toList,v.scannable=true:=by
  clear ho hd
  generalize items.toList=l at hi
  induction hi with
  |nil=>intro v hv;cases hv
  |cons h1 _ ih =>
   intro v hv
   rcases cS.mp hv with rfl|hv
   ·exact BH _ _ h1
   ·exact ih v hv
 unfold hashByValue
 refine ai (wpAny_specialOf hT F.slot_tuple_hash.lookup ?_)
 dsimp only
 refine ai (wpAny_seqItems ho hd ?_)
 dsimp only[Option.getD]
 refine ai ?_
 rw[<- Array.forIn_toList]
 refine wpAny_forIn_list _ (fun rest r s'=>s'=s/\∀ v∈rest,v.scannable=true) _ ?_ ?_ _ _ ⟨rfl,dt'⟩
 ·rintro v rest r s' ⟨rfl,oI⟩
  rw[hashByValue_scannable 7 (oI v cf)]
  refine ai (aS ?_)
  split
  ·exact aS (aS (h _))
  ·exact aS ⟨rfl,fun u FD=>oI u (cc _ FD)⟩
 ·rintro⟨r1,r2⟩ s' ⟨rfl,_⟩
  cases r1 with
  |none=>exact aS (h true)
  |some b=>exact aS (h b)
end
local macro_rules | `(tactic| walk_at $s:str) => do
 let x:=s.getString
 if x.startsWith "PV" then `(tactic| exact $(Lean.mkIdent (.str (.str (.num (.str (.str (.str .anonymous "_private") "PySem") "SetOps") 0) "PySem") (x.drop 2).toString)))
 else Lean.Macro.throwUnsupported
abbrev vP:Array (Int × Value)->Nat->Int:=by walk_at "PVstoredHashAt"
abbrev Du:Array (Int × Value)->Option (SetTable × Array Nat)->Sem (Array (Int × Value) × SetTable):=by walk_at "PVreordered"
abbrev m8:Array (Int × Value)->SetTable->Bool:=by walk_at "PVdrawn"
abbrev Io:Array (Int × Value)->SetTable->Sem Unit:=by walk_at "PVmustBeLedForItsPlaces"
def rF:Array (Int × Value)->Nat->Int:=vP
theorem pH(es:Array (Int × Value))(i:Nat):rF es i=(es[i]?.map (·.1)).getD 0:=rfl
section
variable {prog:Program}{w:World}{K:Type}[DecidableEq K]{knd:KeyKind prog w K}{A:Around}{E:Value->Shared->Prop}{s:Shared}
theorem uz{k:List K}{a:Addr}{ys:List Value}{Q:Bool->Shared->Prop}(hk:IsTupleKey knd s.heap k a)(hy:∀ y∈ys,∃ k' b,y=.ref b/\IsTupleKey knd s.heap k' b)(h:Q false s):wpAny (model prog w) A (searchCouldBeSeen (.ref a) ys) Q E s:=by
 unfold searchCouldBeSeen
 refine ai ?_
 refine wpAny_forIn_list _ (fun rest r s'=>r.1=none/\s'=s/\∀ y∈rest,∃ k' b,y=.ref b/\IsTupleKey knd s.heap k' b) _ ?_ ?_ _ _ ⟨rfl,rfl,hy⟩
 ·rintro y rest r s' ⟨hr,rfl,oI⟩
  obtain⟨k',b,rfl,hb⟩:=oI y cf
  have go:∀ (P:Prop),P->P:=fun _ p=>p
  dsimp only
  split
  ·exact aS ⟨rfl,rfl,fun u FD=>oI u (cc _ FD)⟩
  ·refine ai (wpAny_eqIsQuiet_tuple hk ?_)
   simp only[Ov,gu,if_false]
   refine ai (wpAny_eqIsQuiet_tuple hb ?_)
   simp only[Ov,gu,if_false]
   refine ai (jO hk ?_)
   simp only[gu,if_false]
   refine ai (jO hb ?_)
   simp only[gu,if_false]
   exact aS ⟨rfl,rfl,fun u FD=>oI u (cc _ FD)⟩
 ·rintro⟨r1,r2⟩ s' ⟨hr,rfl,_⟩
  simp only at hr
  subst hr
  exact aS h
theorem HH{K G:Prop}(pk:K)(h:K->G):G:=h pk
theorem qd{a x:Addr}{k:List K}{ks:List (List K × Addr)}{o:Obj}{es:Array (Int × Value)}{ep:Nat}{t:SetTable}(hu:A.units<cLine)(ho:s.heap.get? a=some o)(hd:o.data=.set es ep t)(T:TI t es)(he:es.toList=ks.map (yP knd))
  (w_:∀ p∈ks,IsTupleKey knd s.heap p.1 p.2) (hx:IsTupleKey knd s.heap k x) {Q:SetFound->Shared->Prop} (Xp:k∈ks.map (·.1)->Q (.there none) s)
  (nf:Nat) (hnf:nf<=10*(t.mask+13)) (D1:taken t.place (J t.mask (aW knd k) nf)=false) (Xq:∀ q<nf,taken t.place (J t.mask (aW knd k) q)=true)
  (DT:k∉ks.map (·.1)->Q (.free (J t.mask (aW knd k) nf) false) s) :
  ∀ (fuel n:Nat) (stand:Option Probe),stand.getD (t.probeStart (aW knd k))=ps t.mask (aW knd k) n->n<=nf->nf<n+fuel ->
   (∀ q<n,∀ p,ks[below t.place (J t.mask (aW knd k) q)]? = some p->p.1≠k)->wpAny (model prog w) A (setSearchFrom a (.ref x) (aW knd k) true fuel stand) Q E s
 |0,n,stand,_,h1,h2,_=>by lia
 |fuel+1,n,stand,kE,h1,h2,hq=>by
  have Tq:∀ i:Nat,es[i]? = (ks[i]?).map (yP knd):=fun i=>by rw[<- mE,he,kN]
  unfold setSearchFrom
  refine ai (wpAny_setState_of ho hd T.fits ?_)
  dsimp only
  rw[if_neg (by rw[T.odd];exact gV)]
  obtain⟨n',a1,a2,a3,a4⟩:=ug T (rF es) (aW knd k) (10*turns t.mask) n ⟨nf,h1,by unfold turns;lia,D1⟩
  have Rm:n'<=nf:=by
   by_cases z:n'<=nf
   ·exact z
   ·have:=(a3 nf h1 (by exact L5 ‹_›)).1
    rw[D1] at this;cases this
  rcases a4 with⟨c1,c2⟩|⟨c1,c2,c3⟩
  ·have c2:t.probe (rF es) (aW knd k) (stand.getD (t.probeStart (aW knd k)))=some (.empty (J t.mask (aW knd k) n') none):=by rw[kE];exact c2
   have e:n'=nf:=by
    by_cases z:n'<nf
    ·have:=Xq n' z
     rw[c1] at this;cases this
    ·lia
   have c2:t.probe (vP es) (aW knd k) (stand.getD (t.probeStart (aW knd k)))=some (.empty (J t.mask (aW knd k) n') none):=c2
   rw[c2]
   dsimp only
   rw[e]
   refine aS (DT fun hm=>?_)
   obtain⟨p,hp,rfl⟩:=dn.mp hm
   obtain⟨i,hi⟩:=LV.mp hp
   have ei:es[i]? = some (aW knd p.1,.ref p.2):=by rw[Tq,hi];rfl
   have Xr:i<t.place.size:=by rw[T.sz];exact(HL.mp ei).1
   obtain⟨ni,b1,b2,b3⟩:=T.path i _ _ ei
   have bt:below t.place (J t.mask (aW knd p.1) ni)=i:=by rw[b2];exact below_at T.up Xr
   have tk:taken t.place (J t.mask (aW knd p.1) ni)=true:=by rw[b2];exact(fu T.up).mpr ⟨i,Xr,rfl⟩
   have da:ni<nf:=by
    by_cases z:nf<ni
    ·have:=b3 nf z
     rw[D1] at this;cases this
    ·have:ni≠nf:=fun z=>by rw[z,D1] at tk;cases tk
     lia
   by_cases z:ni<n
   ·exact hq ni z p (by rw[bt];exact hi) rfl
   ·refine(a3 ni (by exact pz ‹_›) (by lia)).2 ?_
    rw[bt,pH,ei];rfl
  ·have c3:t.probe (vP es) (aW knd k) (stand.getD (t.probeStart (aW knd k)))=some (.candidate (J t.mask (aW knd k) n') (below t.place (J t.mask (aW knd k) n')) (ps t.mask (aW knd k) (n'+1))):=by rw[kE];exact c3
   rw[c3]
   dsimp only
   have tk:=jH T.up c1
   have Qc:t.slot (J t.mask (aW knd k) n')=.live (below t.place (J t.mask (aW knd k) n')):=by rw[T.slot,if_pos c1]
   generalize hi:below t.place (J t.mask (aW knd k) n')=i at tk c2 Qc ⊢
   have hil:i<es.size:=by rw[<- T.sz];exact tk.1
   obtain⟨p,hp⟩:∃ p,ks[i]? = some p:=by
    have:i<ks.length:=by
     have:=congrArg List.length he
     simp at this;lia
    exact⟨_,mz this⟩
   have ei:es[i]? = some (aW knd p.1,.ref p.2):=by rw[Tq,hp];rfl
   have FE:=mB hp
   have jv:n'≠nf:=fun z=>by rw[z,D1] at c1;cases c1
   have again:¬ p.1=k->wpAny (model prog w) A (setSearchFrom a (.ref x) (aW knd k) true fuel (some (ps t.mask (aW knd k) (n'+1)))) Q E s:=fun hpk =>
    qd hu ho hd T he w_ hx Xp nf hnf D1 Xq DT fuel (n'+1) (some (ps t.mask (aW knd k) (n'+1))) rfl (by lia) (by lia) fun q Qb p' iX=>by
     by_cases z:q<n
     ·exact hq q z p' iX
     ·by_cases z2:q=n'
      ·subst z2
       rw[hi,hp] at iX
       cases iX
       exact hpk
      ·intro e'
       have:=(a3 q (by exact pz ‹_›) (by lia)).2
       refine this ?_
       rw[pH,Tq,iX]
       show aW knd p'.1=_
       rw[e']
   have aw:p.1=k->k∈ks.map (·.1):=fun e=>e ▸ dn.mpr ⟨p,FE,rfl⟩
   have seen:∀ y∈List.map (fun x=>x.snd) (Array.filter (fun x=>x.fst == aW knd k) es).toList,∃ k' b,y=.ref b/\IsTupleKey knd s.heap k' b:=fun y hy=>by
    obtain⟨e',PD,rfl⟩:=dn.mp hy
    rw[Array.toList_filter] at PD
    have:=(Dp.mp PD).1
    rw[he] at this
    obtain⟨p',iX,rfl⟩:=dn.mp this
    exact⟨p'.1,p'.2,rfl,w_ p' iX⟩
   refine HH ?pk (K:=?K) fun key=>?main
   case main =>
    split
    ·refine ai (uz hx seen ?_)
     rw[if_neg gV]
     exact key
    ·exact key
   rw[ei]
   dsimp only
   refine ai (wpAny_holding (wpAny_eqBool_tuple hu (w_ p FE) hx ?_))
   refine ai (wpAny_setState_of ho hd T.fits ?_)
   dsimp only
   by_cases e:p.1=k
   ·rw[if_pos (by simp[e])]
    exact aS (Xp (aw e))
   ·rw[if_neg (by simp[e])]
    have Sr:t.sameMemory t.moves t.mask=some true:=by unfold sameMemory;rw[if_pos (by simp)]
    rw[Sr]
    dsimp only
    rw[if_pos rfl,Qc]
    dsimp only
    rw[ei]
    dsimp only
    refine ai (m:=isSame (.ref p.2) (.ref p.2)) ?_
    unfold isSame
    dsimp only
    rw[if_pos (by simp)]
    refine aS (ai (aS ?_))
    rw[if_pos rfl]
    dsimp only
    rw[if_neg (by simp[e])]
    exact again e
end
theorem ji{α β:Type}{f:α->β}:∀ {l l2:List β},l.Perm l2->∀ {m:List α},l2=m.map f->∃ m':List α,l=m'.map f/\m'.Perm m:=by
 intro l l2 p
 induction p with
 |nil=>intro m e;exact⟨m,by rw[<- e],.refl _⟩
 |cons x _ ih =>
  intro m e
  cases m with
  |nil=>cases e
  |cons y m =>
   simp only[fz,List.cons.injEq] at e
   obtain⟨m',e1,p1⟩:=ih e.2
   exact⟨y :: m',by rw[fz,<- e1,e.1],p1.cons _⟩
 |swap x y l =>
  intro m e
  match m,e with
  |a :: b :: m,e =>
   simp only[fz,List.cons.injEq] at e
   exact⟨b :: a :: m,by simp[e.1,e.2.1,e.2.2],.swap ..⟩
 |trans _ _ ih1 SX =>
  intro m e
  obtain⟨m',e1,p1⟩:=SX e
  obtain⟨m2,e2,p2⟩:=ih1 e1
  exact⟨m2,e2,p2.trans p1⟩
theorem u_{α:Type}(xs:Array α)(p:Nat)(x:α):(insertAt xs p x).toList=xs.toList.take p++x :: xs.toList.drop p:=by
 unfold insertAt
 simp
 rw[Od (by simp)]
theorem qK{prog:Program}{w:World}{A:Around}{E:Value->Shared->Prop}{s:Shared}{es:Array (Int × Value)}{t:SetTable}{order:Array Nat}{Q:Array (Int × Value) × SetTable->Shared->Prop}(hz:(order.filterMap fun i=>es[i]?).size=es.size)
  (h:Q (order.filterMap fun i=>es[i]?,t) s):wpAny (model prog w) A (Du es (some (t,order))) Q E s:=by
 show wpAny _ _ (if ((order.filterMap fun i=>es[i]?).size != es.size)=true then (do unsupported "internal:set-table-lost-an-element";pure (order.filterMap fun i=>es[i]?,t)) else pure (order.filterMap fun i=>es[i]?,t)) _ _ _
 rw[if_neg (by simp[hz])]
 exact aS h
section
variable {prog:Program}{w:World}{K:Type}[DecidableEq K]{knd:KeyKind prog w K}{A:Around}{E:Value->Shared->Prop}{s:Shared}
theorem IsTupleKey.eM{h h':Heap}{k:List K}{a:Addr}(hk:IsTupleKey knd h k a)(e:∀ o,h.get? a=some o->h'.get? a=some o):IsTupleKey knd h' k a:=by
 obtain⟨o,items,n,ho,r⟩:=hk
 exact⟨o,items,n,e o ho,r⟩
theorem Kx.ne{h:Heap}{a x:Addr}{k:List K}{ks:List (List K × Addr)}(S:Kx knd h a ks)(hx:IsTupleKey knd h k x):x≠a:=by
 obtain⟨⟨o,es,ep,t,ho,hex,_⟩,_,_⟩:=S
 obtain⟨o',items,n,mI,hc,_⟩:=hx
 intro z
 subst z
 rw[ho] at mI
 cases mI
 rw[hex.1] at hc
 exact absurd hc (by decide)
theorem Gs{a x:Addr}{k:List K}{ks:List (List K × Addr)}(S:Kx knd s.heap a ks)(hx:IsTupleKey knd s.heap k x)(hz:ks.length<1000)(hu:A.units<cLine)(BH:∀ k v,knd.is k v=true->v.scannable=true){Q:Bool->Shared->Prop}
  (h:∀ (b:Bool) (h':Heap) (fm:List (List K × Addr)),Heap.SameBut a s.heap h'->Kx knd h' a fm->(k∈ks.map (·.1)/\fm=ks\/k∉ks.map (·.1)/\fm.Perm ((k,x) :: ks))->Q b { s with heap:=h' }) :
  wpAny (model prog w) A (setAddHashed a (.ref x) (aW knd k)) Q E s:=by
 obtain⟨⟨o,es,ep,t,ho,hex,hd,T,hM,hL,he⟩,nd,is⟩:=id S
 have hlen:es.size=ks.length:=by
  have:=congrArg List.length he
  simpa using this
 obtain⟨m,hm,_⟩:=T.pw
 obtain⟨e0,he0,hf0⟩:=T.free
 obtain⟨nf,n1,n2,n3⟩:=uq hm (aW knd k) (taken t.place) he0 hf0
 unfold setAddHashed setAddHashedIn
 refine wpAny_holding (ai (wpAny_setState_of ho hd T.fits ?_))
 dsimp only
 have hbs:byScan (.ref x) es=false:=by simp[byScan,Value.scannable]
 rw[hbs]
 simp only[gu,if_false]
 refine ai ?_
 unfold setSearch
 refine qd hu ho hd T he is hx (fun aw=>?_) nf n1 n2 n3 (fun mh=>?_) 100000 0 none rfl (dz _) (by lia) fun q hq=>absurd hq (Dx q)
 ·dsimp only
  refine aS ?_
  have e:s={ s with heap:=s.heap }:=by cases s;rfl
  rw[e]
  exact h _ _ ks (Heap.SameBut.refl a s.heap) S (.inl ⟨aw,rfl⟩)
 ·dsimp only
  generalize hj:J t.mask (aW knd k) nf=j at n2 ⊢
  have hjm:j<=t.mask:=by rw[<- hj];exact Tn ..
  have hre:Reach t.mask t.place (aW knd k) j:=⟨nf,n1,hj,n3⟩
  refine ai (wpAny_setState_of ho hd T.fits ?_)
  dsimp only
  have dD':t.put j=({ t with place:=insertAt t.place (below t.place j) j,dummies:=#[] },below t.place j):=by
   unfold SetTable.put
   have:has t.dummies j=false:=by rw[T.dm];rfl
   simp only[this,gu,if_false]
   rw[T.dm]
  rw[dD']
  dsimp only
  have aw:(insertAt es (below t.place j) (aW knd k,.ref x)).toList=(ks.take (below t.place j)++(k,x) :: ks.drop (below t.place j)).map (yP knd):=by
   rw[u_,he,AV,fz,List.map_take,List.map_drop];rfl
  have KG:(ks.take (below t.place j)++(k,x) :: ks.drop (below t.place j)).Perm ((k,x) :: ks):=by
   refine List.perm_middle.trans ?_
   rw[Oe]
  have KL:below t.place j<=es.size:=by rw[<- T.sz];exact(bF T.up j).1
  have AH:(insertAt es (below t.place j) (aW knd k,Value.ref x)).size=es.size+1:=cX _ _ KL
  have hxa:=S.ne hx
  have Xs:∀ h',Heap.SameBut a s.heap h'->∀ fm:List (List K × Addr),fm.Perm ((k,x) :: ks)->∀ p∈fm,IsTupleKey knd h' p.1 p.2:=fun h' sb fm pm p hp=>by
   have:IsTupleKey knd s.heap p.1 p.2:=by
    rcases cS.mp (pm.mem_iff.mp hp) with rfl|hp
    ·exact hx
    ·exact is p hp
   exact IsTupleKey.eM this fun o' mI=>sb.extBut _ _ (S.ne this) mI
  have Xt:∀ fm:List (List K × Addr),fm.Perm ((k,x) :: ks)->(fm.map (·.1)).Nodup:=fun fm pm=>by
   rw[(pm.map _).nodup_iff,fz,ly]
   exact⟨mh,nd⟩
  -- behind the flag
  have main:∀ pl:Bool,wpAny (model prog w) A (do
    storeSet a (insertAt es (below t.place j) (aW knd k,.ref x)) { t with place:=insertAt t.place (below t.place j) j,dummies:=#[],plain:=pl }
    if (!false && ({ t with place:=insertAt t.place (below t.place j) j,dummies:=#[],plain:=pl }:SetTable).tooFull)=true then do
      setRelay a (grown (es.size+1))
      pure true
     else pure true) Q E s:=fun pl=>by
   generalize NB:({ t with place:=insertAt t.place (below t.place j) j,dummies:=#[],plain:=pl }:SetTable)=t'
   have tm:t'.mask=t.mask:=by rw[<- NB]
   have tp:t'.place=insertAt t.place (below t.place j) j:=by rw[<- NB]
   have td:t'.dummies = #[]:=by rw[<- NB]
   have Xu:t'.fill=es.size+1:=by
    unfold SetTable.fill
    rw[tp,td,cX _ _ (bF T.up j).1,T.sz];simp
   refine ai (wpAny_storeSet_of ho hd ?_ (by rw[AH,sizeLine_eq];lia))
   have AF:(s.heap.update a (Obj.putSet (insertAt es (below t.place j) (aW knd k,.ref x)) t')).get? a=some { o with data:=.set (insertAt es (below t.place j) (aW knd k,.ref x)) (ep+1) t' }:=by
    have:=GV (Obj.putSet (insertAt es (below t.place j) (aW knd k,.ref x)) t') ho (by rw[putSet_of _ _ hd];rfl)
    rw[putSet_of _ _ hd] at this;exact this
   have yB:=Heap.SameBut.update s.heap a (Obj.putSet (insertAt es (below t.place j) (aW knd k,.ref x)) t')
   by_cases c:t'.tooFull=true
   ·rw[if_pos (by rw[c];rfl)]
    have Xc:t'.fits (insertAt es (below t.place j) (aW knd k,Value.ref x)).size=true:=by
     have:=T.few
     simp only[SetTable.fits,Xu,lI,beq_iff_eq,decide_eq_true_eq]
     rw[tp,cX _ _ (bF T.up j).1,AH,T.sz,tm]
     exact⟨rfl,by lia⟩
    obtain⟨t2,order,r1,r2,r3,r4,r5,r6,r7,r8,_⟩:=xZ (t:=t') (es:=insertAt es (below t.place j) (aW knd k,Value.ref x)) (by lia)
    rw[AH] at r1 r4
    unfold setRelay
    refine ai (ai (wpAny_setState_of AF rfl Xc ?_))
    dsimp only
    rw[if_neg (by rw[sizeLine_eq];lia)]
    refine ai ?_
    rw[r1]
    obtain⟨fm,ek,pk⟩:=ji r8 aw
    refine qK r7 ?_
    dsimp only
    refine wpAny_storeSet_of AF rfl ?_ (by rw[r7,AH,sizeLine_eq];lia)
    refine aS ?_
    have KP:=yB.trans (Heap.SameBut.update _ a (Obj.putSet (order.filterMap fun i=>(insertAt es (below t.place j) (aW knd k,Value.ref x))[i]?) t2))
    have qa:=GV (Obj.putSet (order.filterMap fun i=>(insertAt es (below t.place j) (aW knd k,Value.ref x))[i]?) t2) AF (by rw[putSet_of _ _ rfl];rfl)
    rw[putSet_of _ _ rfl] at qa
    exact h true _ fm KP ⟨⟨_,_,_,_,qa,hex,rfl,r6,r5 (by lia),by rw[r3,<- NB];exact hL,ek⟩,Xt fm (pk.trans KG),Xs _ KP fm (pk.trans KG)⟩ (.inr ⟨mh,pk.trans KG⟩)
   ·rw[if_neg (by simpa using c)]
    refine aS ?_
    have x3:(es.size+1)*5<t.mask*3:=by
     unfold SetTable.tooFull at c
     rw[Xu,tm] at c
     simpa using c
    exact h true _ _ yB ⟨⟨_,_,_,_,AF,hex,rfl,T.put hjm n2 hre tm tp td x3,by rw[tm];exact hM,by rw[<- NB];exact hL,aw⟩,Xt _ KG,Xs _ yB _ KG⟩ (.inr ⟨mh,KG⟩)
  split
  ·refine ai (iI hx BH fun b=>?_)
   cases b with
   |true=>exact main t.plain
   |false=>exact main false
  ·exact ai (aS (main t.plain))
end
end TS
namespace TS
open PySem PySem.SetTable PyProof.Rows
section
variable {prog:Program}{w:World}{A:Around}{R:Result->Shared->Prop}{I:Addr}{fp wr:List Addr}{n:Nat}{P:Nat->Value->Prop}{St:Nat->Heap->Prop}
theorem Ab(W:Walks prog w A.in1 I fp wr n P St)(S:Addr)(FG:S∉fp)(SI:Nat->Heap->Prop)(keep:∀ i h h',SI i h->(∀ b o,b∉wr->h.get? b=some o->h'.get? b=some o)->SI i h')
  (step:∀ (i:Nat) (v:Value) (s':Shared) (E':Value->Shared->Prop) (Q:Bool->Shared->Prop),P i v->SI i s'.heap->(∀ b h' tk,Heap.SameBut S s'.heap h'->SI (i+1) h'->Q b { s' with heap:=h',toks:=tk })->wpAny (model prog w) A.in1 (setAdd S v) Q E' s') :
  ∀ (k i:Nat) (s:Shared),n-i=k->i<=n->St i s.heap->SI i s.heap ->
   (∀ h' tk,SI n h'->(∀ b o,b∉wr->b≠S->s.heap.get? b=some o->h'.get? b=some o)->R (.ok (.ret .none)) { s with heap:=h',toks:=tk }) ->
   codeAny (model prog w) A (.builtin "set.update.loop" ⟨[.ref S,.ref I],[]⟩) R s:=by
 have hSw:S∉wr:=fun h=>FG (W.sub _ h)
 intro k
 induction k with
 |zero =>
  intro i s hk hi kE hS hR
  have aw:i=n:=by lia
  subst aw
  refine codeAny_builtin F.entry_set_update_loop ?_
  rw[Around.under_plainId F.plain_set_update_loop _]
  show wpAny _ A.in1 (pyNext (.ref I) >>= _) _ _ s
  refine ai (W.done s _ _ kE fun h' tk iS=>?_)
  show wpAny _ A.in1 (ret Value.none) _ _ _
  exact aS (hR h' tk (keep _ _ _ hS iS) fun b o hb _ e=>iS b o hb e)
 |succ k ih =>
  intro i s hk hi kE hS hR
  have da:i<n:=by lia
  refine codeAny_builtin F.entry_set_update_loop ?_
  rw[Around.under_plainId F.plain_set_update_loop _]
  show wpAny _ A.in1 (pyNext (.ref I) >>= _) _ _ s
  refine ai (W.item i s _ _ da kE fun v h' tk hP dE' iS=>?_)
  show wpAny _ A.in1 (holding [v] (setAdd S v) >>= _) _ _ _
  refine ai (wpAny_holding (step i v _ _ _ hP (keep _ _ _ hS iS) fun b h2 Qe sb hS2=>?_))
  refine aS ⟨plainId_quiet F.plain_set_update_loop _,ih (i+1) _ (by lia) da (W.frame _ _ _ dE' fun b hb o e=>?_) hS2 fun h3 tk3 hS3 Fh=>?_⟩
  ·exact sb.extBut b o (fun z=>FG (by rw[<- z];exact hb)) e
  ·exact hR h3 tk3 hS3 fun b o hb NC e=>Fh b o hb NC (sb.extBut b o NC (iS b o hb e))
end
section
variable {prog:Program}{w:World}{A:Around}{E:Value->Shared->Prop}{s:Shared}
theorem wH(a:Value){Q₁:Value->Shared->Prop}
  (h:Q₁ (.ref s.heap.objs.size) { s with heap:=s.heap.push { cls:=.type "set",dict:=none,data:=.set #[] 0 (.fresh 0 0 (!w.params.followText "set-order")) } }) :
  codeAny (model prog w) A (.call (.builtin "set.__new__") ⟨[.type "set",a],[]⟩) (wants Q₁ E) s:=by
 refine codeAny_of_tree ?_
 show wpAny _ A.in1 (do checkBuiltinCall "set.__new__" ⟨[.type "set",a],[]⟩;again (.builtin "set.__new__" ⟨[.type "set",a],[]⟩)) _ _ s
 refine ai (wpAny_of_eq (F.newCall_set_1 a) (aS ⟨plainId_quiet F.plain_set_new _,codeAny_builtin F.entry_set_new ?_⟩))
 rw[Around.under_plainId F.plain_set_new _]
 unfold Builtin.«set.__new__» Builtin.Frozenset.newClass
 have Tr:=sub_set_self
 obtain⟨hp,g,d,tk,os⟩:=s
 dsimp only
 wp_walk
 refine wpAny_askSetting (aS ?_)
 dsimp only
 simp only[newObj]
 refine ai (wpAny_alloc (aS ?_))
 exact aS h
theorem qz{l:Addr}{items:Array Value}{Q:Value->Shared->Prop}(hh:A.handled=none)(hl:s.heap.IsList l items)(SI:Nat->Heap->Prop)
  (h0:∀ h,h.get? s.heap.objs.size=some { cls:=.type "set",dict:=none,data:=.set #[] 0 (.fresh 0 0 (!w.params.followText "set-order")) }->(∀ b o,s.heap.get? b=some o->h.get? b=some o)->SI 0 h)
  (keep:∀ i h h',SI i h->(∀ b o,b<=s.heap.objs.size->h.get? b=some o->h'.get? b=some o)->SI i h')
  (step:∀ (i:Nat) (v:Value) (s':Shared) (E':Value->Shared->Prop) (Q:Bool->Shared->Prop),items[i]? = some v->SI i s'.heap->(∀ b h' tk,Heap.SameBut s.heap.objs.size s'.heap h'->SI (i+1) h'->Q b { s' with heap:=h',toks:=tk }) ->
   wpAny (model prog w) A.in1.in1.in1 (setAdd s.heap.objs.size v) Q E' s')
  (h:∀ (h':Heap) (tk:Nat),SI items.size h'->(∀ b o,b<s.heap.objs.size->s.heap.get? b=some o->h'.get? b=some o)->Q (.ref s.heap.objs.size) { s with heap:=h',toks:=tk }) :
  wpAny (model prog w) A (call (.type "set") [.ref l]) Q E s:=by
 obtain⟨c,tl,gC'⟩:=F.called_set.mro
 have gD':=F.called_set.made
 have Tr:=F.called_set.sub
 refine wpAny_call (codeAny_of_tree ?_)
 show wpAny _ _ (callAny (.type "set") _) _ _ _
 refine aS ⟨Code.quiet_builtin _ (by decide +kernel),codeAny_builtin F.entry_type_call ?_⟩
 rw[Around.under_plain (weight_type_call_type "set" [.ref l] []) rfl]
 have h1:=F.called_set.notType
 have h2:=F.called_set.canCreate
 have hct:=F.typeCall_set_1 (.ref l)
 repeat (any_goals (first|assumption|wp_step))
 refine codeAny_mono (wH (.ref l) (E:=E) (Q₁:=fun obj dS=>obj=.ref s.heap.objs.size/\dS={ s with heap:=s.heap.push { cls:=.type "set",dict:=none,data:=.set #[] 0 (.fresh 0 0 (!w.params.followText "set-order")) } }) ⟨rfl,rfl⟩) fun r dS hr=>?_
 cases r with
 |error e=>exact hr
 |ok fl =>
  cases fl with
  |ret obj =>
   obtain⟨rfl,rfl⟩:=hr
   generalize gF':(!w.params.followText "set-order")=led at h0 ⊢
   have hS:(s.heap.push { cls:=.type "set",dict:=none,data:=.set #[] 0 (.fresh 0 0 led) }).get? s.heap.objs.size=some { cls:=.type "set",dict:=none,data:=.set #[] 0 (.fresh 0 0 led) }:=i9 _ rfl
   have hT:Shared.TypeIs { s with heap:=s.heap.push { cls:=.type "set",dict:=none,data:=.set #[] 0 (.fresh 0 0 led) } } (.ref s.heap.objs.size) "set" := ⟨_,hS,rfl⟩
   have hli:=F.called_set.init.lookup
   have hbi:=F.called_set.init.bind (.ref s.heap.objs.size)
   repeat (any_goals (first|assumption|wp_step))
   refine codeAny_mono (codeAny_call_builtin (R:=wants (fun r E3=>r=.none/\∃ h' tk,E3={ s with heap:=h',toks:=tk }/\SI items.size h' /\
     (∀ b o,b<s.heap.objs.size->s.heap.get? b=some o->h'.get? b=some o)) E) F.called_set.init.plain F.entry_set_init (check_set_init_1 hT ?_)) fun dI' E3 Ts=>?_
   ·obtain⟨ol,Tt,uk,nl,Xv⟩:=hl
    obtain⟨gI',dJ',gJ',dK'⟩:=ol
    simp only at uk Xv
    subst uk;subst Xv
    have dL':(s.heap.push { cls:=.type "set",dict:=none,data:=.set #[] 0 (.fresh 0 0 led) }).get? l=some { cls:=.type "list",dict:=dJ',data:=.seq items nl,slots:=dK' }:=eW _ Tt
    have gK':=F.sub_list_set
    have gL':=F.sub_list_frozenset
    have jv:(Value.type "list" == Value.type "dict")=false:=by decide
    have IX:(s.heap.push { cls:=.type "set",dict:=none,data:=.set #[] 0 (.fresh 0 0 led) }).IsList l items:=⟨_,dL',rfl,nl,rfl⟩
    unfold Builtin.«set.__init__» noKeywords Builtin.Frozenset.updateFrom
    generalize hPI:pyIter=PI
    wp_walk
    subst hPI
    refine wpAny_pyIter_list IX ?_
    refine ai (wpAny_runValue ?_)
    have Xw:l<s.heap.objs.size:=dk Tt
    have hh3:A.in1.in1.in1.handled=none:=by simp[hh]
    have hsz:(s.heap.push { cls:=.type "set",dict:=none,data:=.set #[] 0 (.fresh 0 0 led) }).objs.size=s.heap.objs.size+1:=Heap.size_push ..
    have dO':l≠(s.heap.push { cls:=.type "set",dict:=none,data:=.set #[] 0 (.fresh 0 0 led) }).objs.size:=by
     rw[hsz];exact eI (ot Xw)
    have FG:s.heap.objs.size∉[(s.heap.push { cls:=.type "set",dict:=none,data:=.set #[] 0 (.fresh 0 0 led) }).objs.size,l]:=by
     rw[hsz];simp only[cS,kC,EI,or_false,not_or]
     exact⟨eI (L8 _),He Xw⟩
    refine Ab (Walks.list hh3 _ l dO' items) s.heap.objs.size FG SI (fun i h h' hi hk=>keep i h h' hi fun b o hb e=>hk b o ?_ e) (fun i v s' E' Q' hP hi hq=>step i v s' E' Q' hP hi hq) (items.size-0) 0 _ (by rfl) (dz _)
     ⟨⟨_,i9 _ rfl,rfl,rfl⟩,(IX.push _)⟩ ?hS0 ?hR
    ·rw[hsz]
     simp only[cS,EI,or_false]
     exact eI (vS hb)
    case hS0 =>
     exact h0 _ (eW _ hS) fun b o e=>eW _ (eW _ e)
    case hR =>
     intro h' ND NF iS
     show wpAny _ _ _ _ _ _
     refine aS ?_
     show wpAny _ _ (ret Value.none) _ _ _
     refine aS ⟨rfl,h',ND,rfl,NF,fun b o hb e=>?_⟩
     refine iS b o ?_ (eI hb) (eW _ (eW _ e))
     rw[hsz]
     simp only[cS,EI,or_false]
     exact eI (ot hb)
   ·cases dI' with
    |error e=>exact Ts
    |ok dQ' =>
     cases dQ' with
     |ret r =>
      obtain⟨rfl,h',tk,rfl,NF,iS⟩:=Ts
      repeat (any_goals (first|assumption|wp_step))
      exact h _ _ NF iS
     |_=>exact Ts.elim
  |_=>exact hr.elim
end
theorem pF:Manifest.owners.lookup (String.ofList ['r','o','t','a','r','e','t','i','_','t','e','s'].reverse)=some Manifest.sig_set_iterator:=by kernel_rfl
theorem bW:Slot "set_iterator" "__next__" "set_iterator.__next__" :=
 .of (owner := "set_iterator") (n := "__next__") (by rw[typeLookup_type,builtinLookup_eq_fast];kernel_rfl) (by decide +kernel) (by decide +kernel) (by decide +kernel)
  (by first|exact .inl (by decide +kernel)|exact .inr (by decide +kernel)) (by rw[isSubtype_type];kernel_rfl)
theorem lO:entryFor table "set_iterator.__next__" = some Builtin.«set_iterator.__next__» := entryFor_of_tree (by kernel_rfl)
theorem oG (a:Value):argsOk "set_iterator.__next__" ⟨[a],[]⟩:=by
 unfold argsOk;rw[signature?_of (id := "set_iterator.__next__") (n:=['_','_','t','x','e','n','_','_']) (o:=['r','o','t','a','r','e','t','i','_','t','e','s']) (by kernel_rfl) pF];kernel_rfl
theorem g8:Slot "set_iterator" "__iter__" "set_iterator.__iter__" :=
 .of (owner := "set_iterator") (n := "__iter__") (by rw[typeLookup_type,builtinLookup_eq_fast];kernel_rfl) (by decide +kernel) (by decide +kernel) (by decide +kernel)
  (by first|exact .inl (by decide +kernel)|exact .inr (by decide +kernel)) (by rw[isSubtype_type];kernel_rfl)
theorem lJ:entryFor table "set.__iter__" = some Builtin.«frozenset.__iter__» :=
 entryFor_alias (id' := "frozenset.__iter__") (by kernel_rfl) rfl (by decide +kernel) (by kernel_rfl)
theorem iV{α:Type}:∀ (l:List α) (i:Nat) (h:i<l.length),(l[i] :: l.eraseIdx i).Perm l
 |x :: l,0,_=>.refl _
 |x :: l,i+1,h=>by
  have ih:=iV l i (by simpa using h)
  exact(List.Perm.swap _ _ _).trans (ih.cons x)
theorem xJ{α:Type}(next:Nat->Nat):∀ (fuel k:Nat) (left:List α) (out:Array α),left.length=fuel->(pickOrder.go next fuel k left out).toList.Perm (out.toList++left)
 |0,k,left,out,h=>by
  have:left=[]:=Ob.mp h
  subst this
  unfold pickOrder.go
  rw[nL]
 |fuel+1,k,left,out,h=>by
  unfold pickOrder.go
  have da:next k % left.length<left.length:=HK _ (by lia)
  rw[mz da]
  dsimp only
  refine(xJ next fuel (k+1) _ _ (by rw[Oh];split<;>lia)).trans ?_
  rw[nS,xo]
  refine List.Perm.append_left _ ?_
  exact iV _ _ da
theorem lC{α:Type}(next:Nat->Nat)(xs:Array α):(pickOrder next xs).toList.Perm xs.toList:=by
 unfold pickOrder
 have:=xJ next xs.size 0 xs.toList #[] (by simp)
 simpa using this
section
variable {prog:Program}{w:World}{A:Around}{E:Value->Shared->Prop}{s:Shared}
theorem qb{M:Model}{src:Source}{n:Nat}{Q:Nat->Shared->Prop}(hn:n≠0)(h:∀ i d,i<n->Q i { s with drawn:=d }):wpAny M A (choose src n) Q E s:=fun Γ p _=>⟨hn,h _ _ (HK _ (Nat.pos_of_ne_zero hn))⟩
theorem Dg{α:Type}(n:Nat):∀ (xs:List α) (s:Shared) (Q:List α->Shared->Prop),xs.length=n->(∀ ys d,ys.Perm xs->Q ys { s with drawn:=d })->wpAny (model prog w) A (drawOrder n xs) Q E s:=by
 induction n with
 |zero =>
  intro xs s Q h q
  have:xs=[]:=Ob.mp h
  subst this
  unfold drawOrder
  exact aS (q [] s.drawn (.refl _))
 |succ n ih =>
  intro xs s Q h q
  cases xs with
  |nil=>cases h
  |cons x xs =>
   unfold drawOrder
   refine ai (qb (by simp) fun i d hi=>?_)
   rw[mz hi]
   dsimp only
   refine ai (ih _ _ _ (by rw[Oh,if_pos hi];simp at h ⊢;lia) fun ys d' py=>?_)
   refine aS ?_
   exact q _ d' ((py.cons _).trans (iV _ _ hi))
def qS(h:Heap)(I:Addr)(first:Value)(i:Nat)(a:Addr)(n ep:Nat):Prop :=
 h.get? I=some { cls:=.type "set_iterator",dict:=none,data:=.fields #[first,.int i 0,.ref a,.int n 0,.int ep 0],slots:=#[] }
def AQ(h:Heap)(a:Addr)(es:Array (Int × Value))(ep:Nat)(t:SetTable):Prop:=∃ o,h.get? a=some o/\o.data=.set es ep t
variable {a I:Addr}{es:Array (Int × Value)}{ep:Nat}{t:SetTable}{first:Value}{i n:Nat}
theorem qS.typeIs (h:qS s.heap I first i a n ep):s.TypeIs (.ref I) "set_iterator" := ⟨_,h,rfl⟩
theorem xu{Q:Option Value->Shared->Prop}(hit:qS s.heap I first i a n ep)
  (h:wpAny (model prog w) A.in1 (Builtin.«set_iterator.__next__» ⟨[.ref I],[]⟩) (fun fin s'=>∃ v,fin=.done (.ret v)/\Q (some v) s') (fun e s'=>wpAny (model prog w) A (isInstance e (.type "StopIteration")) (fun b DS=>b=true/\Q none DS) E s') s) :
  wpAny (model prog w) A (pyNext (.ref I)) Q E s:=by
 unfold pyNext
 refine ai (wpAny_attempt (wpAny_callSpecial?_slot (name:=Str.ofString "__next__") hit.typeIs bW
  (wpAny_call_entry bW hit.typeIs lO ?_ (oG _))))
 refine pj h (fun fin s' ⟨v,e,q⟩=>⟨v,e,aS q⟩) fun e s' q=>?_
 refine ai (pj q (fun b DS dc=>?_) fun _ _ x=>x)
 obtain⟨e,q⟩:=dc
 subst e
 rw[if_pos rfl]
 exact aS q
theorem wK{P:Fin->Shared->Prop}{Q:Option Value->Shared->Prop}(hh:A.handled=none)(hQ:∀ h',(∀ b o,s.heap.get? b=some o->h'.get? b=some o)->Q none { s with heap:=h' }) :
  wpAny (model prog w) A.in1 (newExc (.type "StopIteration") [] >>= fun e=>raiseNew e) P (fun e s'=>wpAny (model prog w) A (isInstance e (.type "StopIteration")) (fun b DS=>b=true/\Q none DS) E s') s:=by
 refine ai ?_
 simp only[newExc,newTuple]
 refine ai (wpAny_newObj_type ?_ (by size_fits))
 refine ai (m:=firstArgMember _ _) (wpAny_of_eq (a:=Value.none) (by first|rfl|(simp only[firstArgMember];rfl)) ?_)
 refine wpAny_newObj_type ?_ (by size_fits)
 simp only[raiseNew]
 refine ai (wpAny_handled ?_)
 rw[show A.in1.handled=none from hh]
 refine ai (aS (wpAny_throw ?_))
 refine wpAny_isInstance (T := "StopIteration") (b:=true) ⟨_,i9 _ rfl,rfl⟩ isSubtype_stop ⟨rfl,?_⟩
 exact hQ _ fun b o e=>eW _ (eW _ e)
theorem iw{Q:Option Value->Shared->Prop}{slot:Nat}{r:Option (Value × Nat)}(hh:A.handled=none)(jv:a≠I)(hit:qS s.heap I (.int slot 0) i a es.size ep)(FH:AQ s.heap a es ep t)(hf:t.fits es.size=true)
  (hr:∀ (A':Around) (E':Value->Shared->Prop) (Q':Option (Value × Nat)->Shared->Prop),Q' r s->wpAny (model prog w) A' (setNext a slot i ep) Q' E' s)
  (h1:∀ x nx h',r=some (x,nx)->qS h' I (.int nx 0) (i+1) a es.size ep->Heap.SameBut I s.heap h'->Q (some x) { s with heap:=h' })
  (h2:∀ h',r=none->(∀ b o,b≠I->s.heap.get? b=some o->h'.get? b=some o)->Q none { s with heap:=h' }) :
  wpAny (model prog w) A (pyNext (.ref I)) Q E s:=by
 obtain⟨o,ho,hd⟩:=FH
 refine xu hit ?_
 unfold Builtin.«set_iterator.__next__»
 refine ai (m:=slotArgs "__next__" 0 ⟨[.ref I],[]⟩) (wpAny_of_eq (a:=(.ref I,[])) rfl ?_)
 dsimp only
 refine ai (wpAny_fieldsOf hit rfl ?_)
 dsimp only
 refine ai (wpAny_setEntries_of ho hd hf ?_)
 rw[if_neg (by simp)]
 simp only[HM]
 refine ai (hr _ _ _ ?_)
 cases r with
 |some p =>
  obtain⟨x,nx⟩:=p
  dsimp only
  refine ai (wpAny_setField_rec hit (by simp) fun g1 e1 yB=>?_)
  refine ai (wpAny_setField_rec (s:={ s with heap:=g1 }) e1 (by simp) fun g2 e2 KP=>?_)
  exact aS ⟨x,rfl,h1 x nx g2 rfl (by unfold qS;simpa[rawInt] using e2) (yB.trans KP)⟩
 |none =>
  dsimp only
  refine ai (wpAny_setField_rec hit (by simp) fun g1 e1 yB=>?_)
  exact wK (s:={ s with heap:=g1 }) hh fun h' k=>h2 h' rfl fun b o hb e=>k b o (yB.extBut b o hb e)
theorem mq{Q:Option Value->Shared->Prop}{T:Addr}{ix:List Nat}{oT:Obj}{kT:Nat}(hh:A.handled=none)(hit:qS s.heap I (.ref T) i a es.size ep)(FH:AQ s.heap a es ep t)(hf:t.fits es.size=true)
  (hT:s.heap.get? T=some oT) (hTd:oT.data=.seq (ix.map fun(k:Nat)=>Value.int k 0).toArray kT)
  (h1:∀ k e h',ix[i]? = some k->es[k]? = some e->qS h' I (.ref T) (i+1) a es.size ep->Heap.SameBut I s.heap h'->Q (some e.2) { s with heap:=h' }) (w4:∀ k∈ix,k<es.size)
  (h2:∀ h',ix[i]? = none->(∀ b o,b≠I->s.heap.get? b=some o->h'.get? b=some o)->Q none { s with heap:=h' }) :
  wpAny (model prog w) A (pyNext (.ref I)) Q E s:=by
 obtain⟨o,ho,hd⟩:=FH
 refine xu hit ?_
 unfold Builtin.«set_iterator.__next__»
 refine ai (m:=slotArgs "__next__" 0 ⟨[.ref I],[]⟩) (wpAny_of_eq (a:=(.ref I,[])) rfl ?_)
 dsimp only
 refine ai (wpAny_fieldsOf hit rfl ?_)
 dsimp only
 refine ai (wpAny_setEntries_of ho hd hf ?_)
 rw[if_neg (by simp)]
 refine ai (wpAny_seqItems hT hTd ?_)
 dsimp only
 simp only[HM,List.getElem?_toArray,kN]
 cases hk:ix[i]? with
 |some k =>
  dsimp only[Option.map]
  have kG:=w4 k (mB hk)
  refine ai ?_
  unfold setNextDrawn
  refine ai (wpAny_setState_of ho hd hf ?_)
  dsimp only
  simp only[HM]
  rw[if_neg (by simp),zi kG]
  refine aS ?_
  refine ai (wpAny_setField_rec hit (by simp) fun g1 e1 yB=>?_)
  exact aS ⟨_,rfl,h1 k es[k] g1 hk (zi kG) (by unfold qS;simpa[rawInt] using e1) yB⟩
 |none =>
  dsimp only[Option.map]
  refine ai (wpAny_setField_rec hit (by simp) fun g1 e1 yB=>?_)
  refine ai (wpAny_setField_rec (s:={ s with heap:=g1 }) e1 (by simp) fun g2 e2 KP=>?_)
  exact wK (s:={ s with heap:=g2 }) hh fun h' k=>h2 h' hk fun b o hb e=>k b o ((yB.trans KP).extBut b o hb e)
theorem m_ (a:Value):argsOk "set_iterator.__iter__" ⟨[a],[]⟩:=by
 unfold argsOk;rw[signature?_of (id := "set_iterator.__iter__") (n:=['_','_','r','e','t','i','_','_']) (o:=['r','o','t','a','r','e','t','i','_','t','e','s']) (by kernel_rfl) pF];kernel_rfl
theorem lH:entryFor table "set_iterator.__iter__" = some Builtin.«dict_keyiterator.__iter__» :=
 entryFor_alias (id' := "dict_keyiterator.__iter__") (by kernel_rfl) rfl (by decide +kernel) (by kernel_rfl)
theorem lE{Q:Value->Shared->Prop}(hit:qS s.heap I first i a n ep)(h:Q (.ref I) s):wpAny (model prog w) A (pyIter (.ref I)) Q E s:=by
 refine wpAny_pyIter_slot hit.typeIs g8 (wpAny_call_entry g8 hit.typeIs lH ?_ (m_ _))
 show wpAny _ _ (ret (.ref I)) _ _ s
 exact aS ⟨_,rfl, "set_iterator",_,hit.typeIs,bW.lookup,h⟩
theorem pW {slot:Nat} {Q:Option (Value × Nat)->Shared->Prop} (hb:w.params.followText "set-order" = true) (FH:AQ s.heap a es ep t) (hf:t.fits es.size=true)
  (h:Q (((pickOrder (w.params.setOrder a ep) es)[i]?).map fun e=>(e.2,slot)) s):wpAny (model prog w) A (setNext a slot i ep) Q E s:=by
 obtain⟨o,ho,hd⟩:=FH
 unfold setNext
 refine ai (wpAny_setState_of ho hd hf ?_)
 dsimp only
 unfold setsByText
 refine ai (ai (wpAny_askSetting (aS ?_)))
 dsimp only
 rw[if_pos (by exact hb),if_neg (by simp)]
 refine ai ?_
 unfold setWalk
 refine ai (wpAny_setState_of ho hd hf ?_)
 dsimp only
 unfold setsByText
 refine ai (ai (wpAny_askSetting (aS ?_)))
 dsimp only
 rw[if_pos (by exact hb)]
 refine ai (wpAny_askSetting (aS ?_))
 exact aS h
theorem mO {slot:Nat} {Q:Option (Value × Nat)->Shared->Prop} (hb:w.params.followText "set-order" = false) (hl:t.led=true) (KW:(!t.plain && decide (es.size>1))=false) (FH:AQ s.heap a es ep t) (hf:t.fits es.size=true)
  (h:Q (match es[below t.place slot]?,t.place[below t.place slot]? with
  |some (_,x),some j=>some (x,j+1)
  |_,_=>none) s):wpAny (model prog w) A (setNext a slot i ep) Q E s:=by
 obtain⟨o,ho,hd⟩:=FH
 unfold setNext
 refine ai (wpAny_setState_of ho hd hf ?_)
 dsimp only
 unfold setsByText
 refine ai (ai (wpAny_askSetting (aS ?_)))
 dsimp only
 rw[if_neg (by rw[show(model prog w).w.params.followText "set-order" = false from hb];exact gV)]
 have e0:m8 es t=(!t.plain && decide (es.size>1)):=rfl
 unfold m8 at e0
 rw[e0,KW,if_neg gV]
 refine ai (m:=Io es t) ?_
 show wpAny _ _ (if (!t.led && !es.isEmpty)=true then unsupported "set:maker-not-led" else pure ()) _ _ s
 rw[if_neg (by rw[hl];simp)]
 exact aS (aS h)
def PV(ys:List (Int × Value))(i:Nat)(v:Value):Prop:=∃ e,ys[i]? = some e/\v=e.2
theorem qS.keep{h h':Heap}(x:qS h I first i a n ep)(e:∀ o,h.get? I=some o->h'.get? I=some o):qS h' I first i a n ep:=e _ x
theorem AQ.keep{h h':Heap}(x:AQ h a es ep t)(e:∀ o,h.get? a=some o->h'.get? a=some o):AQ h' a es ep t:=let ⟨o,ho,r⟩:=x;⟨o,e _ ho,r⟩
theorem xW (hh:A.handled=none) (jv:a≠I) (hb:w.params.followText "set-order" = true) (hf:t.fits es.size=true) :
  Walks prog w A I [I,a] [I] es.size (PV (pickOrder (w.params.setOrder a ep) es).toList) (fun i h=>(∃ slot:Nat,qS h I (.int slot 0) i a es.size ep)/\AQ h a es ep t) where
 sub:=fun b hb=>by simp at hb;simp[hb]
 frame:=fun _ _ _ ⟨⟨sl,x⟩,y⟩ hk=>⟨⟨sl,x.keep fun o e=>hk I (by simp) o e⟩,y.keep fun o e=>hk a (by simp) o e⟩
 item:=fun i s Q E hi ⟨⟨sl,x⟩,y⟩ hQ=>by
  have hlen:(pickOrder (w.params.setOrder a ep) es).size=es.size:=by
   have:=(lC (w.params.setOrder a ep) es).length_eq
   simpa using this
  refine iw hh jv x y hf (r:=((pickOrder (w.params.setOrder a ep) es)[i]?).map fun e=>(e.2,sl)) (fun A' E' Q' q=>pW hb y hf q) (fun v nx h' e x' sb=>?_) fun h' e k=>?_
  ·rw[zi (by lia)] at e
   cases e
   exact hQ _ h' s.toks ⟨_,by rw[mE];exact zi (by lia),rfl⟩ ⟨⟨_,x'⟩,y.keep fun o e=>sb.extBut _ _ jv e⟩ fun b o hb e=>sb.extBut b o (fun h=>hb (by simp[h])) e
  ·rw[zi (by lia)] at e
   cases e
 done:=fun s Q E ⟨⟨sl,x⟩,y⟩ hQ=>by
  have hlen:(pickOrder (w.params.setOrder a ep) es).size=es.size:=by
   have:=(lC (w.params.setOrder a ep) es).length_eq
   simpa using this
  refine iw hh jv x y hf (r:=((pickOrder (w.params.setOrder a ep) es)[es.size]?).map fun e=>(e.2,sl)) (fun A' E' Q' q=>pW hb y hf q) (fun v nx h' e x' sb=>?_) fun h' e k=>?_
  ·rw[DF (by lia)] at e
   cases e
  ·exact hQ h' s.toks fun b o hb e=>k b o (fun h=>hb (by simp[h])) e
 self:=fun _ _ _ _ ⟨⟨sl,x⟩,y⟩ hQ=>lE x hQ
def slotAt(t:SetTable):Nat->Nat
 |0=>0
 |i+1=>t.place.getD i 0+1
theorem je(U:Up t.place){i:Nat}(h:i<=t.place.size):below t.place (slotAt t i)=i:=by
 cases i with
 |zero =>
  obtain⟨_,b,_⟩:=bF U 0
  by_cases z:below t.place 0=0
  ·exact z
  ·exact absurd (b 0 (Nat.pos_of_ne_zero z)) (Dx _)
 |succ i=>exact uR U (by assumption)
theorem uo (hh:A.handled=none) (jv:a≠I) (hb:w.params.followText "set-order" = false) (hl:t.led=true) (KW:(!t.plain && decide (es.size>1))=false) (U:Up t.place) (hz:t.place.size=es.size) (hf:t.fits es.size=true) :
  Walks prog w A I [I,a] [I] es.size (PV es.toList) (fun i h=>qS h I (.int (slotAt t i:Nat) 0) i a es.size ep/\AQ h a es ep t) where
 sub:=fun b hb=>by simp at hb;simp[hb]
 frame:=fun _ _ _ ⟨x,y⟩ hk=>⟨x.keep fun o e=>hk I (by simp) o e,y.keep fun o e=>hk a (by simp) o e⟩
 item:=fun i s Q E hi ⟨x,y⟩ hQ=>by
  have KL:=je (t:=t) U (i:=i) (by lia)
  have e1:es[below t.place (slotAt t i)]? = some es[i]:=by rw[KL];exact zi hi
  have e2:t.place[below t.place (slotAt t i)]? = some (t.place.getD i 0):=by rw[KL];exact wX (by lia)
  refine iw hh jv x y hf (r:=some (es[i].2,t.place.getD i 0+1)) (fun A' E' Q' q=>mO hb hl KW y hf (by rw[e1,e2];exact q)) (fun v nx h' e x' sb=>?_) fun h' e k=>nomatch e
  cases e
  exact hQ _ h' s.toks ⟨_,by rw[mE];exact zi hi,rfl⟩ ⟨x',y.keep fun o e=>sb.extBut _ _ jv e⟩ fun b o hb e=>sb.extBut b o (fun h=>hb (by simp[h])) e
 done:=fun s Q E ⟨x,y⟩ hQ=>by
  have KL:=je (t:=t) U (i:=es.size) (by lia)
  have e1:es[below t.place (slotAt t es.size)]? = none:=by rw[KL];exact DF (bT _)
  refine iw hh jv x y hf (r:=none) (fun A' E' Q' q=>mO hb hl KW y hf (by rw[e1];exact q)) (fun v nx h' e x' sb=>nomatch e) fun h' e k=>?_
  exact hQ h' s.toks fun b o hb e=>k b o (fun h=>hb (by simp[h])) e
 self:=fun _ _ _ _ ⟨x,y⟩ hQ=>lE x hQ
theorem uv{T:Addr}{ix:List Nat}{kT:Nat}(hh:A.handled=none)(jv:a≠I)(hTI:T≠I)(hf:t.fits es.size=true)(hp:ix.Perm (List.range es.size)) :
  Walks prog w A I [I,a,T] [I] es.size (PV (ix.filterMap fun k=>es[k]?)) (fun i h=>qS h I (.ref T) i a es.size ep/\AQ h a es ep t/\∃ o,h.get? T=some o/\o.data=.seq (ix.map fun(k:Nat)=>Value.int k 0).toArray kT):=by
 have hlen:ix.length=es.size:=by simpa using hp.length_eq
 have w4:∀ k∈ix,k<es.size:=fun k hk=>rq.mp (hp.mem_iff.mp hk)
 obtain⟨f1,f2⟩:=tQ (l:=ix) (f:=fun k=>es[k]?) fun k hk=>by simp[w4 k hk]
 exact {
  sub:=fun b hb=>by simp at hb;simp[hb]
  frame:=fun _ _ _ ⟨x,y,o,z,zd⟩ hk=>⟨x.keep fun o e=>hk I (by simp) o e,y.keep fun o e=>hk a (by simp) o e,o,hk T (by simp) o z,zd⟩
  item:=fun i s Q E hi ⟨x,y,o,z,zd⟩ hQ=>by
   refine mq hh x y hf z zd (fun k e h' e1 e2 x' sb=>?_) w4 fun h' e k=>?_
   ·refine hQ _ h' s.toks ⟨e,by rw[f2,e1];exact e2,rfl⟩ ⟨x',y.keep fun o e=>sb.extBut _ _ jv e,o,sb.extBut _ _ hTI z,zd⟩ fun b o hb e=>sb.extBut b o (fun h=>hb (by simp[h])) e
   ·rw[mz (by lia)] at e;cases e
  done:=fun s Q E ⟨x,y,o,z,zd⟩ hQ=>by
   refine mq hh x y hf z zd (fun k e h' e1 e2 x' sb=>?_) w4 fun h' e k=>?_
   ·rw[tP (by lia)] at e1;cases e1
   ·exact hQ h' s.toks fun b o hb e=>k b o (fun h=>hb (by simp[h])) e
  self:=fun _ _ _ _ ⟨x,_⟩ hQ=>lE x hQ }
end
section
variable {prog:Program}{w:World}{A:Around}{E:Value->Shared->Prop}{s:Shared}{a:Addr}{o:Obj}{es:Array (Int × Value)}{ep:Nat}{t:SetTable}
theorem zH {Q:Value->Shared->Prop} (hh:A.handled=none) (ho:s.heap.get? a=some o) (hex:o.ExactSet) (hd:o.data=.set es ep t) (hf:t.fits es.size=true) (U:Up t.place) (hz:t.place.size=es.size) (hl:t.led=(!w.params.followText "set-order")) (hn:es.size<=sizeLine)
  (h:∀ (I:Addr) (h2:Heap) d (fp:List Addr) (St:Nat->Heap->Prop) (ys:List (Int × Value)),(∀ b o,s.heap.get? b=some o->h2.get? b=some o)->s.heap.objs.size<=I->(∀ b∈fp,b=a\/s.heap.objs.size<=b)->ys.Perm es.toList ->
   Walks prog w A I fp [I] es.size (PV ys) St->St 0 h2->Q (.ref I) { s with heap:=h2,drawn:=d }):wpAny (model prog w) A (pyIter (.ref a)) Q E s:=by
 have hT:s.TypeIs (.ref a) "set" := ⟨o,ho,hex.1⟩
 have da:a<s.heap.objs.size:=dk ho
 refine wpAny_pyIter_slot hT F.slot_set_iter (wpAny_call_entry F.slot_set_iter hT lJ ?_ (F.args_set_iter_1 _))
 unfold Builtin.«frozenset.__iter__»
 refine ai (m:=Builtin.Frozenset.slot0 "__iter__" ⟨[.ref a],[]⟩) (wpAny_of_eq (a:=a) rfl ?_)
 refine ai ?_
 unfold Builtin.Frozenset.sizeOf
 refine ai (wpAny_setEntries_of ho hd hf (aS ?_))
 refine ai ?_
 unfold setDrawn
 refine ai (wpAny_setState_of ho hd hf ?_)
 dsimp only
 unfold setsByText
 refine ai (ai (wpAny_askSetting (aS ?_)))
 refine aS ?_
 have e0:m8 es t=(!t.plain && decide (es.size>1)):=rfl
 unfold m8 at e0
 rw[e0]
 show wpAny _ _ (if (!w.params.followText "set-order" && (!t.plain && decide (es.size>1)))=true then _ else _) _ _ s
 cases hb:w.params.followText "set-order" with
 |true =>
  rw[if_neg (by simp)]
  refine ai (aS ?_)
  refine ai (wpAny_setEpoch_of ho hd hf ?_)
  refine ai (wpAny_newObj_type ?_)
  refine aS ⟨_,rfl, "set_iterator",_,⟨_,i9 _ rfl,rfl⟩,bW.lookup,?_⟩
  have mI:(s.heap.push { cls:=.type "set_iterator",data:=.fields #[rawInt 0,rawInt 0,.ref a,rawInt es.size,rawInt ep] }).get? a=some o:=eW _ ho
  exact h s.heap.objs.size _ s.drawn _ _ _ (fun b o e=>eW _ e) (bT _) (fun b hb=>by
   rcases cS.mp hb with rfl|hb
   ·exact .inr (bT _)
   ·exact .inl (kC.mp hb)) (lC _ _) (xW (ep:=ep) hh (eI da) hb hf) ⟨⟨0,i9 _ rfl⟩,o,mI,hd⟩
 |false =>
  cases KW:(!t.plain && decide (es.size>1)) with
  |false =>
   rw[if_neg (by simp)]
   refine ai (aS ?_)
   refine ai (wpAny_setEpoch_of ho hd hf ?_)
   refine ai (wpAny_newObj_type ?_)
   refine aS ⟨_,rfl, "set_iterator",_,⟨_,i9 _ rfl,rfl⟩,bW.lookup,?_⟩
   have mI:(s.heap.push { cls:=.type "set_iterator",data:=.fields #[rawInt 0,rawInt 0,.ref a,rawInt es.size,rawInt ep] }).get? a=some o:=eW _ ho
   exact h s.heap.objs.size _ s.drawn _ _ _ (fun b o e=>eW _ e) (bT _) (fun b hb=>by
    rcases cS.mp hb with rfl|hb
    ·exact .inr (bT _)
    ·exact .inl (kC.mp hb)) (.refl _) (uo (ep:=ep) hh (eI da) hb (by rw[hl,hb];rfl) KW U hz hf) ⟨i9 _ rfl,o,mI,hd⟩
  |true =>
   rw[if_pos (by simp)]
   refine ai (Dg es.size (List.range es.size) s _ (by simp) fun ix d hp=>?_)
   refine ai (wpAny_newObj_type ?_ ?hzz)
   case hzz =>
    have:=hp.length_eq
    rw[QY] at this
    show(ix.map fun(i:Nat)=>rawInt i).toArray.size<=sizeLine
    rw[kf,cK,this];exact hn
   have AF:(s.heap.push { cls:=.type "tuple",data:=.seq (ix.map fun(i:Nat)=>rawInt i).toArray }).get? a=some o:=eW _ ho
   refine ai (wpAny_setEpoch_of AF hd hf ?_)
   refine ai (wpAny_newObj_type ?_)
   refine aS ⟨_,rfl, "set_iterator",_,⟨_,i9 _ rfl,rfl⟩,bW.lookup,?_⟩
   have Qf:(s.heap.push { cls:=.type "tuple",data:=.seq (ix.map fun(i:Nat)=>rawInt i).toArray }).objs.size=s.heap.objs.size+1:=Heap.size_push ..
   refine h (s.heap.push { cls:=.type "tuple",data:=.seq (ix.map fun(i:Nat)=>rawInt i).toArray }).objs.size _ d [(s.heap.push { cls:=.type "tuple",data:=.seq (ix.map fun(i:Nat)=>rawInt i).toArray }).objs.size,a,s.heap.objs.size] _ (ix.filterMap fun k=>es[k]?) (fun b o e=>eW _ (eW _ e)) (by rw[Qf];exact Nat.le_succ _) (fun b hb=>?_) ?_
    (uv (ep:=ep) (kT:=0) (T:=s.heap.objs.size) (ix:=ix) (t:=t) hh (by rw[Qf];exact eI (ot da)) (by rw[Qf];exact eI (L8 _)) hf hp) ⟨i9 _ rfl,⟨o,eW _ AF,hd⟩,_,eW _ (i9 _ rfl),rfl⟩
   ·rcases cS.mp hb with rfl|hb
    ·exact .inr (by rw[Qf];exact Nat.le_succ _)
    ·rcases cS.mp hb with rfl|hb
     ·exact .inl rfl
     ·rw[kC.mp hb];exact .inr (bT _)
   ·have:=hp.filterMap fun k=>es[k]?
    rw[uf] at this
    exact this
theorem z7 {Q:Bool->Shared->Prop} (hT:s.TypeIs (.ref a) "set") (h:Q false s):wpAny (model prog w) A (Builtin.List.listLengthHint (.ref a)) Q E s:=by
 unfold Builtin.List.listLengthHint
 refine ai (wpAny_specialOf hT PySem.F.slot_set_len.lookup ?_)
 generalize Xx:("set.__len__" : String)=id0
 wp_delta
 rw[show splitId id0=some ("set", "__len__") from by subst Xx;decide +kernel]
 subst Xx
 refine ai (wpAny_isInstance (T := "set") (b:=true) hT (by rw[isSubtype_type];kernel_rfl) ?_)
 refine wpAny_ite_split (fun Nz=>absurd Nz (by decide)) (fun _=>?_)
 refine wpAny_ite_split (fun _=>?_) (fun Nz=>absurd (by decide +kernel) Nz)
 refine ai (wpAny_typeOf hT ?_)
 exact aS h
theorem Cd {R:Result->Shared->Prop} (hh:A.handled=none) (ho:s.heap.get? a=some o) (hex:o.ExactSet) (hd:o.data=.set es ep t) (hf:t.fits es.size=true) (U:Up t.place) (hz:t.place.size=es.size) (hl:t.led=(!w.params.followText "set-order")) (hn:es.size<=sizeLine)
  (S:Addr) (Xy:S≠a) (res:Value) (c₀:Nat) (hS:s.heap.get? S=some { cls:=.type "list",data:=.seq #[] c₀ })
  (hR:∀ h' tk d yb c' ys,(∀ b o,b≠S->s.heap.get? b=some o->h'.get? b=some o)->h'.get? S=some { cls:=.type "list",dict:=none,data:=.seq yb c',slots:=#[] }->ys.Perm es.toList->ItemsOf (PV ys) yb es.size->R (.ok (.ret res)) { s with heap:=h',toks:=tk,drawn:=d }) :
  wpAny (model prog w) A.in1 (Builtin.List.listExtendWith (.ref S) (.ref a) res)
   (fun fin s'=>match fin with|.done f=>R (.ok f) s'|.again c'=>c'.quiet=true/\codeAny (model prog w) A c' R s') (fun e s'=>R (.error e) s') s:=by
 have hT:s.TypeIs (.ref a) "set" := ⟨o,ho,hex.1⟩
 have hSl:=dk hS
 unfold Builtin.List.listExtendWith
 refine ai (wpAny_typeOf hT ?_)
 have h1:Builtin.List.listSameRef (.ref S) (.ref a)=false:=by simp[Builtin.List.listSameRef,Xy]
 simp only[h1,show(Value.type "set" == Value.type "list")=false by decide,show(Value.type "set" == Value.type "tuple")=false by decide,Bool.or_false,gu,if_false]
 refine ai (zH (A:=A.in1) hh ho hex hd hf U hz hl hn fun I h2 d fp St ys kp hI hfp hp W st=>?_)
 have FG:S∉fp:=fun hm=>by
  rcases hfp S hm with z|z
  ·exact Xy z
  ·exact absurd hSl (Nat.not_lt.mpr z)
 have key:∀ (h:Heap) (c₁ tk:Nat),St 0 h->(∀ b o,b≠S->s.heap.get? b=some o->h.get? b=some o) ->
   h.get? S=some { cls:=.type "list",data:=.seq #[] c₁ }->codeAny (model prog w) A (.builtin "list.extend.loop" ⟨[.ref S,.ref I,res],[]⟩) R { s with heap:=h,toks:=tk,drawn:=d }:=by
  intro h c₁ tk kE hk NH
  refine codeAny_extend_loopS W.toS hn S FG res es.size 0 _ #[] c₁ rfl (dz _) kE NH (ItemsOf.nil _) fun s' yb c' hm NF BI=>?_
  rw[Moved.eq_with hm]
  refine hR s'.heap s'.toks d yb c' ys (fun b o hb e=>hm.heap b o (fun Ng=>?_) (hk b o hb e)) NF hp BI
  rcases cS.mp Ng with e'|Ng
  ·exact hb e'
  ·exact absurd (dk e) (by rw[kC.mp Ng];exact Nat.not_lt.mpr hI)
 have NH:h2.get? S=some { cls:=.type "list",data:=.seq #[] c₀ }:=kp _ _ hS
 refine ai (wpAny_holding (z7 (s:={ s with heap:=h2,drawn:=d }) ⟨o,kp _ _ ho,hex.1⟩ ?_))
 refine wpAny_ite_split (fun _=>?_) (fun _=>aS ⟨plainId_quiet PySem.F.plain_extend_loop _,key _ c₀ _ st (fun b o _ e=>kp b o e) NH⟩)
 refine ai (wpAny_rule ?_)
 refine ai ?_
 show wpAny _ _ (updateSeq S (·.push .none) >>= fun _=>updateSeq S (·.pop)) _ _ _
 refine ai (wpAny_updateSeq NH rfl ?_)
 have Xz:=GV (Obj.mapSeq (·.push Value.none)) NH rfl
 refine wpAny_updateSeq (hz:=by seq_fits) Xz rfl ?_
 have dX':=GV (Obj.mapSeq (·.pop)) Xz rfl
 refine aS ⟨plainId_quiet PySem.F.plain_extend_loop _,key _ _ _ ?_ (fun b o hb e=>?_) dX'⟩
 ·refine W.frame 0 _ _ st fun b hb o e=>?_
  have NC:b≠S:=fun h=>FG (h ▸ hb)
  exact(L4 _ _ (Ne.symm NC)).trans ((L4 _ _ (Ne.symm NC)).trans e)
 ·exact(L4 _ _ (Ne.symm hb)).trans ((L4 _ _ (Ne.symm hb)).trans (kp _ _ e))
theorem uU{ys:List (Int × Value)}{acc:Array Value}{n:Nat}(h:ItemsOf (PV ys) acc n)(hn:ys.length=n):acc.toList=ys.map (·.2):=by
 apply CH
 intro i
 rw[kN]
 by_cases hi:i<n
 ·have kA:i<acc.size:=by rw[h.1];exact hi
  have e1:acc[i]? = some acc[i]:=zi kA
  obtain⟨e,he,hv⟩:=h.2 i acc[i] e1
  rw[mE,e1,he,hv];rfl
 ·rw[tP (by rw[A3,h.1];exact pz ‹_›),tP (by lia)];rfl
theorem jA {R:Result->Shared->Prop} (hh:A.handled=none) (ho:s.heap.get? a=some o) (hex:o.ExactSet) (hd:o.data=.set es ep t) (hf:t.fits es.size=true) (U:Up t.place) (hz:t.place.size=es.size) (hl:t.led=(!w.params.followText "set-order")) (hn:es.size<=sizeLine)
  (hR:∀ h' tk d yb c' ys,(∀ b o,s.heap.get? b=some o->h'.get? b=some o)->h'.get? s.heap.objs.size=some { cls:=.type "list",dict:=none,data:=.seq yb c',slots:=#[] }->ys.Perm es.toList->ItemsOf (PV ys) yb es.size->R (.ok (.ret (.ref s.heap.objs.size))) { s with heap:=h',toks:=tk,drawn:=d }) :
  codeAny (model prog w) A (.builtin "proto.collect" ⟨[.ref a],[]⟩) R s:=by
 have da:a<s.heap.objs.size:=dk ho
 have hS:(s.heap.push { cls:=.type "list",data:=.seq ([]:List Value).toArray }).get? s.heap.objs.size=some { cls:=.type "list",data:=.seq ([]:List Value).toArray }:=i9 _ rfl
 refine codeAny_builtin F.entry_proto_collect ?_
 rw[Around.under_plainId F.plain_proto_collect _]
 show wpAny _ A.in1 (newList [] >>= fun l=>again (.builtin "list.__iadd__" ⟨[l,.ref a],[]⟩)) _ _ s
 refine ai (wpAny_newObj_type ?_)
 refine aS ⟨plainId_quiet F.plain_list_iadd _,codeAny_builtin F.entry_list_iadd ?_⟩
 rw[Around.under_plainId F.plain_list_iadd _]
 show wpAny _ A.in1 (Builtin.List.listExtendWith (.ref s.heap.objs.size) (.ref a) (.ref s.heap.objs.size)) _ _ _
 exact Cd (R:=R) (s:={ s with heap:=s.heap.push { cls:=.type "list",data:=.seq ([]:List Value).toArray } }) hh (eW _ ho) hex hd hf U hz hl hn s.heap.objs.size (He da) _ 0 hS fun h' tk d yb c' ys kp eo hp ia =>
  hR h' tk d yb c' ys (fun b o e=>kp b o (eI (dk e)) (eW _ e)) eo hp ia
theorem rC {Q:List Value->Shared->Prop} (hh:A.handled=none) (ho:s.heap.get? a=some o) (hex:o.ExactSet) (hd:o.data=.set es ep t) (hf:t.fits es.size=true) (U:Up t.place) (hz:t.place.size=es.size) (hl:t.led=(!w.params.followText "set-order")) (hn:es.size<=sizeLine)
  (hQ:∀ h' tk d vs,(∀ b o,s.heap.get? b=some o->h'.get? b=some o)->s.heap.objs.size<=h'.objs.size->vs.Perm (es.toList.map (·.2))->Q vs { s with heap:=h',toks:=tk,drawn:=d }):wpAny (model prog w) A (collect (.ref a)) Q E s:=by
 unfold collect
 refine ai (wpAny_runValue (jA hh ho hex hd hf U hz hl hn fun h' tk d acc c ys kp eo hp ia=>?_))
 show wpAny _ A (load s.heap.objs.size >>= _) _ _ { s with heap:=h',toks:=tk,drawn:=d }
 refine ai (wpAny_load eo ?_)
 refine aS (hQ h' tk d _ kp (kD (dk eo)) ?_)
 rw[uU ia (by rw[hp.length_eq];simp)]
 exact hp.map _
end
end TS
namespace x6
open PySem PyProof.Rows
section
variable {prog:Program}{w:World}{A:Around}{E:Value->Shared->Prop}{s:Shared}{κ:SortKind}{r:Value->Int}{P:Value->Prop}
theorem rT{v:Value}{R:List Value->Prop}{Q:Value->Shared->Prop}
  (SN:∀ (A':Around) (E':Value->Shared->Prop) (Q':List Value->Shared->Prop),A'.handled=A.handled->(∀ vs h1 tk d,R vs->(∀ b o,s.heap.get? b=some o->h1.get? b=some o)->s.heap.objs.size<=h1.objs.size->Q' vs { s with heap:=h1,toks:=tk,drawn:=d })->wpAny (model prog w) A' (collect v) Q' E' s)
  (hsz:∀ vs,R vs->vs.length<=sizeLine) (hP:∀ vs,R vs->∀ v∈vs,P v)
  (hk:∀ vs,R vs->2<=vs.length->∀ (A':Around) (E':Value->Shared->Prop) (s':Shared),(∀ b o,s.heap.get? b=some o->s'.heap.get? b=some o)->∀ (Q:SortKind->Shared->Prop),Q κ s'->wpAny (model prog w) A' (keyKind' vs.toArray) Q E' s')
  (C:∀ (s':Shared),(∀ b o,s.heap.get? b=some o->s'.heap.get? b=some o)->lT prog w A.in1.in1 s' κ r P)
  (h:∀ (vs:List Value) (h':Heap) (a:Addr) (out:List Value) (n tk:Nat) d,R vs->out.Perm vs->(out.Pairwise fun x y=>r x<=r y)->(∀ b o,s.heap.get? b=some o->h'.get? b=some o)->s.heap.objs.size<=a->h'.get? a=some (seqObj "list" out.toArray n)->Q (.ref a) { s with heap:=h',toks:=tk,drawn:=d }) :
  wpAny (model prog w) A (call (.builtin "sorted") [v]) Q E s:=by
 refine Calls.call_function_entry kind_sorted plain_sorted entry_sorted (args_sorted1 _) ?_
 unfold Builtin.«sorted»
 refine ai (m:=checkCount "sorted" 1 1 _) (aS ?_)
 refine ai (SN _ _ _ rfl fun vs h1 tk d hR kp hz=>?_)
 have AH:=hsz vs hR
 refine ai (wpAny_newList ?_ (by simpa using AH))
 have wc:(h1.push (seqObj "list" vs.toArray 0)).get? h1.objs.size=some (seqObj "list" vs.toArray 0):=i9 _ rfl
 have old:∀ b o,s.heap.get? b=some o->(dw (h1.push (seqObj "list" vs.toArray 0)) h1.objs.size vs).get? b=some o:=fun b o e=>by
  have da:b<h1.objs.size:=dk (kp b o e)
  rw[gr (eI da) (by rw[size_push'];exact ot da)]
  exact eW _ (kp b o e)
 show wpAny _ _ _ _ _ { s with heap:=h1.push (seqObj "list" vs.toArray 0),toks:=tk,drawn:=d }
 refine ai (wpAny_holding (wpAny_call_entry slot_list_sort ⟨_,wc,rfl⟩ entry_list_sort (fL (r:=r) (s:={ s with heap:=h1.push (seqObj "list" vs.toArray 0),toks:=tk,drawn:=d }) wc AH (hP vs hR)
  (fun h2=>hk vs hR h2 _ _ _ old) (fun h2=>C _ old) fun out a1 a2=>⟨_,rfl,?_⟩) (args_list_sort _)))
 obtain⟨n,e⟩:=sortedHeap_at (out:=out) wc
 refine aS ⟨_,rfl,h vs _ h1.objs.size out.toList n tk d hR a1 a2 (fun b o e=>?_) hz (by rw[Oz];exact e)⟩
 have da:b<h1.objs.size:=dk (kp b o e)
 rw[sortedHeap_old (eI da) (by rw[size_push'];exact ot da)]
 exact eW _ (kp b o e)
end
end x6
namespace TS
open PySem PySem.SetTable PyProof.Rows
section
variable {prog:Program}{w:World}{K:Type}[DecidableEq K]{knd:KeyKind prog w K}{A:Around}{E:Value->Shared->Prop}{s:Shared}
theorem Aa{α:Type}(led:Bool):TI (α:=α) (SetTable.fresh 0 0 led) #[] :=
 ⟨⟨3,rfl,bT _⟩,rfl,fun i j h hj=>absurd hj (Dx _),fun i hi=>absurd hi (Dx _),rfl,(by show 0*5<7*3;decide),fun i h x e=>by simp at e⟩
theorem qG{l:Addr}{items:Array Value}{xs:List (List K × Addr)}{Q:Value->Shared->Prop}(hh:A.handled=none)(hu:A.units+8<cLine)(hl:s.heap.IsList l items)(hi:items.toList=xs.map fun p=>Value.ref p.2)
  (w_:∀ p∈xs,IsTupleKey knd s.heap p.1 p.2) (hz:xs.length<=1000) (BH:∀ k v,knd.is k v=true->v.scannable=true)
  (h:∀ h' tk ks,Kx knd h' s.heap.objs.size ks->(∀ k,k∈ks.map (·.1)↔k∈xs.map (·.1))->(∀ p∈ks,p∈xs)->(∀ b o,s.heap.get? b=some o->h'.get? b=some o)->Q (.ref s.heap.objs.size) { s with heap:=h',toks:=tk }) :
  wpAny (model prog w) A (call (.type "set") [.ref l]) Q E s:=by
 have lt:∀ p∈xs,p.2<s.heap.objs.size:=fun p hp=>by
  obtain⟨o,_,_,ho,_⟩:=w_ p hp
  exact dk ho
 refine qz hh hl (fun i h=>∃ ks,Kx knd h s.heap.objs.size ks/\(∀ k,k∈ks.map (·.1)↔k∈(xs.take i).map (·.1))/\(∀ p∈ks,p∈xs)/\ks.length<=i/\∀ p∈xs,IsTupleKey knd h p.1 p.2) (fun h e k=>?_) (fun i h h' ⟨ks,S,m1,m2,m3,m4⟩ k=>?_) (fun i v s' E' Q' hv ⟨ks,S,m1,m2,m3,m4⟩ q=>?_) fun h' tk ⟨ks,S,m1,m2,m3,m4⟩ k=>?_
 ·exact⟨[],⟨⟨_,#[],0,_,e,⟨rfl,rfl,rfl⟩,rfl,Aa _,(by show 7<=8191;decide),rfl,rfl⟩,oq,fun p hp=>nomatch hp⟩,fun k=>by simp,(fun p hp=>nomatch hp),bT _,fun p hp=>IsTupleKey.eM (w_ p hp) fun o ho=>k _ _ ho⟩
 ·obtain⟨⟨o,es,ep,t,ho,r⟩,nd,is⟩:=S
  exact⟨ks,⟨⟨o,es,ep,t,k _ _ (bT _) ho,r⟩,nd,fun p hp=>IsTupleKey.eM (is p hp) fun o ho=>k _ _ (kD (lt p (m2 p hp))) ho⟩,m1,m2,m3,fun p hp=>IsTupleKey.eM (m4 p hp) fun o ho=>k _ _ (kD (lt p hp)) ho⟩
 ·have tF:items.toList[i]? = some v:=by rw[mE];exact hv
  rw[hi,kN] at tF
  cases ex:xs[i]? with
  |none=>rw[ex] at tF;cases tF
  |some p =>
   rw[ex] at tF
   cases tF
   have hp:=mB ex
   have hil:i<xs.length:=(hV.mp ex).1
   have tk1:(xs.take (i+1)).map (·.1)=(xs.take i).map (·.1)++[p.1]:=by
    rw[EH,ex,AV];rfl
   unfold setAdd
   refine wpAny_holding (ai (wpAny_pyHash_tuple (by show A.units+3<cLine;lia) (m4 p hp) ?_))
   refine Gs (s:={ s' with toks:=s'.toks+(p.1.length+1) }) S (m4 p hp) (by lia) (by show A.units+3<cLine;lia) BH fun b h' fm sb S' c=>?_
   refine q b h' _ sb ⟨fm,S',fun k=>?_,fun p' iX=>?_,?_,fun p' iX=>IsTupleKey.eM (m4 p' iX) fun o ho=>sb.extBut _ _ (eI (lt p' iX)) ho⟩
   ·rw[tk1,dy,kC,<- m1]
    rcases c with⟨c1,rfl⟩|⟨c1,c2⟩
    ·exact⟨.inl,fun z=>z.elim id fun e=>e ▸ c1⟩
    ·rw[(c2.map _).mem_iff,fz,cS]
     exact⟨fun z=>z.symm,fun z=>z.symm⟩
   ·rcases c with⟨c1,rfl⟩|⟨c1,c2⟩
    ·exact m2 p' iX
    ·rcases cS.mp (c2.mem_iff.mp iX) with rfl|z
     ·exact hp
     ·exact m2 p' z
   ·rcases c with⟨c1,rfl⟩|⟨c1,c2⟩
    ·exact L6 ‹_›
    ·rw[c2.length_eq];simp;lia
 ·have e:items.size=xs.length:=by
   have:=congrArg List.length hi
   simpa using this
  rw[e,CM] at m1
  exact h h' tk ks S m1 m2 fun b o ho=>k b o (dk ho) ho
end
end TS
namespace L2
open PySem PySem.Spec PyProof.Rows
section
variable {X:Cx}{pins:List (Addr × Obj)}{σ:St}{H:Hp}{s:Shared}
theorem Inv.drawn{d}(I:Inv X pins σ H s):Inv X pins σ H { s with drawn:=d }:=⟨I.ok,I.os,I.bare,I.base,I.loc,I.cell,I.free,I.nV,I.pin,I.aT,I.len⟩
theorem zR{prog:Program}{w:World}:∀ (k:Key) (v:Value),(kQ prog w).is k v=true->v.scannable=true:=fun k v h=>by
 rcases zt h with⟨i,t,rfl,rfl⟩|⟨x,t,rfl,rfl⟩<;>rfl
def ik(K:PySem.W.Frag):V->Hp->VK->Prop:=fun x H Q=>match x with
 |.ref p=>∃ ys ks b0 sh,dQ K H p ys/\ys.length<=1000/\cT H ys ks/\(∀ k∈ks,gL k=b0 :: sh) /\
   ∀ zs ms l,cT H zs ms->ms.Nodup->(∀ k,k∈ms↔k∈ks)->(ms.Pairwise fun a b=>ft b a=false)->H l=none->Q (.ref l) (upd H l (.lst zs))
 |_=>False
theorem cT.pairs{H:Hp}{ys:List V}{ks:List (List Key)}{vs:List Value}(h:cT H ys ks)(hv:Vals ys vs):∃ xs:List (List Key × Addr),vs=xs.map (fun p=>Value.ref p.2)/\xs.map (·.1)=ks/\∀ p∈xs,H p.2=some (.tup (p.1.map kV)):=by
 induction ys generalizing ks vs with
 |nil=>exact⟨[],Paired.n0 hv,(show ks=[] from Paired.n0 h).symm,fun p hp=>nomatch hp⟩
 |cons y ys ih =>
  obtain⟨k,ks,rfl,⟨b,rfl,g⟩,t⟩:=Paired.c h
  obtain⟨v,vs,rfl,rfl,rs⟩:=Paired.c hv
  obtain⟨xs,e1,e2,e3⟩:=ih t rs
  refine⟨(k,b) :: xs,by rw[e1];rfl,by rw[<- e2];rfl,fun p hp=>?_⟩
  rcases cS.mp hp with rfl|hp
  ·exact g
  ·exact e3 p hp
end
section
variable {X:Cx}{e:Expr}{te:TE}{p p2 pos FI:Pos}
theorem rP (hc:X.calm=true) (hu:X.A.units+64<cLine) (hg:Gl X "sorted") (hm:X.mg "sorted" = none) (Tv:Gl X "set") (qh:X.mg "set" = none) (he:PE X e te)
  (hv:bootBuiltins "sorted" = some (.builtin "sorted")) (hv2:bootBuiltins "set" = some (.type "set"))
  (sN:starEach [e] X.env=(false,eval e X.env) :: starEach [] X.env:=by rfl)
  (hs:starEach [.Call (.Name "set" p2) [e] [] FI] X.env=(false,eval (.Call (.Name "set" p2) [e] [] FI) X.env) :: starEach [] X.env:=by rfl) :
  PE X (.Call (.Name "sorted" p) [.Call (.Name "set" p2) [e] [] FI] [] pos) (Vu (ik X.K) te):=by
 intro pins s σ H Q I h
 refine wpAny_Call_Name_kw (EX I hg hm hv ?_ (by decide) (by decide))
 refine PyProof.Rows.callWith_builtin1 ?_ hs rfl
 rw[hs]
 refine Calls.spliced_cons ?_
 refine wpAny_Call_Name_kw (EX I Tv qh hv2 ?_ (by decide) (by decide))
 refine PyProof.Rows.callWith_type1 ?_ sN rfl
 rw[sN]
 refine Calls.spliced_cons (cq (he pins s σ H _ I h) fun u s1 cx=>L2.gv cx fun x H1 I1 r1 q1=>Calls.spliced_nil ?_)
 have q1:ik X.K x H1 Q:=q1
 obtain⟨a,rfl⟩:∃ a,x=.ref a:=by
  unfold ik at q1
  split at q1
  ·exact⟨_,rfl⟩
  ·exact q1.elim
 obtain⟨ys,ks,b0,sh,hl,Qg,ht,IE,q⟩:=q1
 cases r1
 obtain⟨vs,rv,pl,hz⟩:=I1.list hl
 obtain⟨xs,ex,ek,hx⟩:=ht.pairs rv
 have Qh:X.A.handled=none:=I1.ok.hd hc
 have hlen:xs.length=ys.length:=by rw[rv.length,ex,cK]
 have w_:∀ p∈xs,IsTupleKey (kQ X.prog X.w) s1.heap p.1 p.2:=fun p hp=>by
  obtain⟨us,ru,o,e1,c1,n1,d1⟩:=I1.tup (hx p hp)
  exact⟨o,us.toArray,n1,e1,c1,d1,by simpa using R1 ru⟩
 refine TS.qG (knd:=kQ X.prog X.w) Qh (by lia) pl.isList (by simpa using ex) w_ (by lia) zR fun h2 tk fm S m1 m2 kp=>?_
 refine Calls.spliced_nil ?_
 obtain⟨⟨o,es,ep,t,ho,hex,hd,T,hM,hL,Kk⟩,nd,is⟩:=S
 have ea':es.toList.map (·.2)=fm.map fun p=>Value.ref p.2:=by rw[Kk,kg];rfl
 have gM':fm.length<=1000:=by
  have:=TS.iy nd (m:=ks) fun k hk=>by rw[<- ek];exact(m1 k).mp hk
  rw[cK] at this
  have:ks.length=xs.length:=by rw[<- ek,cK]
  lia
 have eb':es.size=fm.length:=by
  have:=congrArg List.length Kk
  simpa using this
 have ec':∀ p∈fm,p.1∈ks:=fun p hp=>by rw[<- ek];exact dn.mpr ⟨p,m2 p hp,rfl⟩
 have mem:∀ iL:List Value,iL.Perm (fm.map fun p=>Value.ref p.2)->∀ v∈iL,∃ b k,v=.ref b/\H1 b=some (.tup (k.map kV))/\k∈ks:=fun iL pv v hv=>by
  obtain⟨p,hp,rfl⟩:=dn.mp (pv.mem_iff.mp hv)
  exact⟨p.2,p.1,rfl,hx p (m2 p hp),ec' p hp⟩
 have XA:s1.heap.objs.size<=h2.objs.size:=kD (dk ho)
 refine x6.rT (s:={ s1 with heap:=h2,toks:=tk }) (κ:=tuples' true) (R:=fun iL=>iL.Perm (fm.map fun p=>Value.ref p.2)) (r:=fun v=>I0 ks (lR H1 v)) (P:=fun v=>∃ b k,v=.ref b/\H1 b=some (.tup (k.map kV))/\gL k=b0 :: sh/\k∈ks)
  (fun A' E' Q' hA hQ=>TS.rC (s:={ s1 with heap:=h2,toks:=tk }) (hA.trans Qh) ho hex hd T.fits T.up T.sz hL (by rw[eb',sizeLine_eq];lia) fun h' ND d iL FK NJ pv=>hQ iL h' ND d (by rw[<- ea'];exact pv) FK NJ)
  (fun iL pv=>by rw[pv.length_eq,cK,sizeLine_eq];lia) (fun iL pv v hv=>?_) (fun iL pv h2' A' E' s' FK Q' q'=>?_) (fun s' FK=>sX I1 fun b o e=>FK b o (kp b o e)) fun iL h' a' out n ND d pv pm pw FK ha eo=>?_
 ·obtain⟨b,k,e1,e2,e3⟩:=mem iL pv v hv
  exact⟨b,k,e1,e2,IE k e3,e3⟩
 ·obtain⟨zs,z1,z2⟩:=cT.of (H:=H1) (ks:=ks) iL (mem iL pv)
  obtain⟨fs,f1,f2,f3⟩:=kat_tups I1 (s':=s') (fun b o e=>FK b o (kp b o e)) z1 z2 fun k hk=>by
   obtain⟨v,hv,rfl⟩:=dn.mp hk
   obtain⟨b,k,rfl,e2,e3⟩:=mem iL pv v hv
   rw[cR e2];exact IE k e3
  cases b0 with
  |true =>
   refine PySem.W.kat_kind (T:=.type "int") f1 (by lia) (fun f hf=>?_) (by decide) q'
   obtain⟨i,t,rfl⟩:=(f3 f hf).1 rfl
   exact .now
  |false =>
   refine PySem.W.kat_kind (T:=.type "str") f1 (by lia) (fun f hf=>?_) (by decide) q'
   obtain⟨i,t,rfl⟩:=(f3 f hf).2 rfl
   exact .now
 ·have NK:=pm.trans pv
  obtain⟨zs,z1,z2⟩:=cT.of (H:=H1) (ks:=ks) out fun v hv=>mem _ NK v hv
  have zl:=z2.length
  have ol:=NK.length_eq
  rw[cK] at ol
  have ekk:(fm.map fun p=>Value.ref p.2).map (lR H1)=fm.map (·.1):=by
   rw[kg]
   exact Oi fun p hp=>cR (hx p (m2 p hp))
  have Qi:(out.map (lR H1)).Perm (fm.map (·.1)):=by rw[<- ekk];exact NK.map _
  refine⟨.ref a',_,(I1.laid (a:=a') (t':=ND) (fun b o e=>FK b o (kp b o e)) (iN XA ha) (show eT X.prog X.w _ h' _ (.lst zs) from⟨by rw[sizeLine_eq];lia,out,n,z2,eo⟩)).drawn,rfl,
   q zs _ _ z1 (Qi.nodup_iff.mpr nd) (fun k=>by rw[Qi.mem_iff,m1,ek]) ?_ (I1.aT.fresh (iN XA ha))⟩
  rw[rp]
  refine pw.imp_of_mem fun {x y} mx my hle=>?_
  obtain⟨b,k,rfl,hb,kk⟩:=mem _ NK x mx
  obtain⟨c,m,rfl,EW,km⟩:=mem _ NK y my
  rw[cR hb,cR EW] at *
  have:=vg (L:=ks) ((IE m km).trans (IE k kk).symm) km
  rw[<- this]
  exact decide_eq_false (by lia)
end
end L2
namespace TS
open PySem PySem.SetTable PyProof.Rows
end TS
namespace L2
open PySem PySem.Spec PyProof.Rows
end L2
namespace L2.Q
open PySem PySem.Spec PyProof.Rows
section
variable {X:Cx}{K:PySem.W.Frag}{e:Expr}{te:WE}{p p2 pos FI:Pos}
theorem Fj:bootBuiltins "set" = some (.type "set"):=by decide +kernel
def fM:W1:=fun _ x Q=>match x with
 |.list xs=>∃ (ks:List (List Key)) (sh:List Bool),xs=ks.map mn/\ks.length<=1000/\(∀ k∈ks,gL k=false :: sh)/\∀ ms:List (List Key),ms.Nodup->(∀ k,k∈ms↔k∈ks)->(ms.Pairwise fun a b=>ft b a=false)->Q (.ow true) (.list (ms.map mn))
 |_=>False
theorem qX:S0 K (ik K) fM:=by
 intro Hs H m x v As Qd Qv w rx h f
 have r1:=rx.rep w
 cases r1 with
 |list z s q =>
  obtain⟨ks,sh,rfl,hz,hs,h⟩:=h
  obtain⟨ta,ok⟩:=BW q
  have hl:=q.length
  rw[cK] at hl
  refine⟨_,ks,false,sh,s,by lia,ta,hs,fun zs ms l tz nd mm pw Qj=>?_⟩
  have rr:=oY (K:=K) tz fun k hk=>ok k ((mm k).mp hk)
  have:ms.length<=ks.length:=TS.iy nd fun k hk=>(mm k).mp hk
  exact f.lst w (by rw[cK,sizeLine_eq];lia) rr (iD ms) (h ms nd mm pw) l Qj
 |_=>exact h.elim
theorem uw (hu:X.A.units+64<cLine) (hg:Gl X "sorted") (hm:X.mg "sorted" = none) (Tv:Gl X "set") (qh:X.mg "set" = none) (he:QE X K e te) (hc:X.calm=true:=by rfl) (hK:X.K=K:=by rfl)
  (sN:starEach [e] X.env=(false,eval e X.env) :: starEach [] X.env:=by rfl)
  (hs:starEach [.Call (.Name "set" p2) [e] [] FI] X.env=(false,eval (.Call (.Name "set" p2) [e] [] FI) X.env) :: starEach [] X.env:=by rfl) :
  QE X K (.Call (.Name "sorted" p) [.Call (.Name "set" p2) [e] [] FI] [] pos) (g9 fM te):=by
 subst hK
 refine PE.imp (rP hc hu hg hm Tv qh he gQ Fj sN hs) fun σ H Qv dc=>?_
 obtain⟨Hs,ρ,ae,Q,sr,h,fin⟩:=dc
 exact⟨Hs,ρ,ae,_,sr,h,fun v H1 aE m x As g1 r1 f1 q1=>qX aE H1 m x v As Q Qv g1.wf r1 q1 (Fin.after fin g1)⟩
end
end L2.Q
namespace L2.Q.R
open PySem PySem.Spec PyProof.Rows L2.Q
section
variable {Q:Md->L2.Q.D->Prop}{m:Md}{xs:List L2.Q.D}
theorem Ez:fM m (.list xs) Q = ∃ (ks:List (List Key)) (sh:List Bool),xs=ks.map mn/\ks.length<=1000/\(∀ k∈ks,gL k=false :: sh)/\∀ ms:List (List Key),ms.Nodup->(∀ k,k∈ms↔k∈ks)->(ms.Pairwise fun a b=>ft b a=false)->Q (.ow true) (.list (ms.map mn)):=rfl
end
end L2.Q.R
namespace L2
open PySem PySem.Spec PyProof.Rows
end L2
namespace L2.Q
open PySem PySem.Spec PyProof.Rows
end L2.Q
namespace L2.Q.R
open PySem PySem.Spec PyProof.Rows L2.Q
end L2.Q.R
namespace L2.Q
open PySem PySem.Spec PyProof.Rows PySem.W
abbrev XB:List Value:=[.type "ValueError",.type "Exception",.type "BaseException",.type "object"]
structure nK(K:PySem.W.Frag)(C:Addr):Prop where
 ex:excIn K C XB "ValueError.__new__" = true
 gx:findIn K (.ref C) "__getattr__" = some none
 ga:findIn K (.ref C) "__getattribute__" = some (some (.builtin "BaseException.__getattribute__"))
 cl:findIn K (.ref C) "__class__" = some (some (.builtin "object.__class__"))
 ob:mroIn K C (.type "object")=some true
theorem nK.obj{K:PySem.W.Frag}{C:Addr}{h:Heap}(x:nK K C)(X:K.In h):∃ bm N nm q bs hdct sn sub ab col dd k0 k1 k2 k3 k5 mN,
  h.get? C=some (excClassObj nm q C N bs bm hdct sn sub ab col dd k0 k1 k2 k3 k5 "ValueError.__new__")/\h.Ns N mN/\mN "__init__" = none/\OwnTail h XB bm:=by
 have q:=x.ex
 unfold excIn at q
 split at q
 ·rename_i dd cd sl ho
  split at q
  ·rename_i C' bm k0 k1 k2 k3 n k5 hm hs
   simp only[lI,beq_iff_eq,Q8] at q
   obtain⟨⟨⟨⟨⟨e1,e2⟩,XC⟩,ht⟩,aT⟩,B8⟩:=q
   cases e1;cases e2
   cases cd
   dsimp only at hm XC aT B8
   cases hm;cases XC
   have Qc:sl = #[k0,k1,k2,k3,some (.builtin "ValueError.__new__"),k5]:=by
    cases sl
    dsimp only at hs
    rw[hs]
   cases Qc
   exact⟨bm,_,_,_,_,_,_,_,_,_,dd,k0,k1,k2,k3,k5,_,X _ _ ho,.of_isNs (isNs_of_in X aT),nsMap_none_of_in X aT B8,tail_of_in X ht⟩
  ·cases q
 ·cases q
section
variable {prog:Program}{w:World}{A:Around}{E:Value->Shared->Prop}{h:Heap}{g:Array GenState}{d:Drawn}{t:Nat}{os:OsState}{a C:Addr}{o:Obj}{K:PySem.W.Frag}
theorem yx{R:Result->Shared->Prop}(x:nK K C)(X:K.In h)(hx:h.get? a=some o)(hc:o.cls=.ref C)(hq:R (.ok (.ret (.ref C))) ⟨h,g,d,t,os⟩) :
  codeAny (model prog w) A (.call (.builtin "getset_descriptor.__get__") ⟨[.builtin "object.__class__",.ref a,.ref C],[]⟩) R ⟨h,g,d,t,os⟩:=by
 obtain⟨bm,N,nm,q,bs,hdct,sn,sub,ab,col,dd,k0,k1,k2,k3,k5,mN,hC,hN,B8,T⟩:=x.obj X
 have XD:(⟨h,g,d,t,os⟩:Shared).TypeIs (.builtin "object.__class__") "getset_descriptor" := F.typeOf_object_class
 have NM:(Value.ref C :: bm).contains (.type (".".intercalate ("object.__class__".cutAt '.').dropLast))=true:=by
  rw[F.owner_object_class,QX,T.hasType (X := "object") (b:=true) rfl];rfl
 refine codeAny_call_builtin F.slot_gs_get.plain F.entry_gs_get (F.slot_gs_get.check _ _ _ _ _ _ _ _ XD (F.args_gs_get _ _ _) ?_)
 repeat (any_goals (first|assumption|(with_reducible refine wpAny_loadPart_at hx ?_;rw[hc])|(with_reducible refine wpAny_isSubtype_exc hC ?_;rw[NM])|wp_step))
 refine⟨Code.quiet_builtin _ (by decide +kernel),codeAny_builtin F.entry_object_class ?_⟩
 repeat (any_goals (first|assumption|(with_reducible refine wpAny_loadPart_at hx ?_;rw[hc])|wp_step))
theorem uD{tk:Tok}{Q:PySem.Fin->Shared->Prop}(x:nK K C)(X:K.In h)(hx:h.get? a=some o)(hc:o.cls=.ref C)(hq:Q (.done (.ret (.ref C))) ⟨h,g,d,t,os⟩) :
  wpAny (model prog w) A (Builtin.«object.__getattribute__» ⟨[.ref a,.str "__class__" tk],[]⟩) Q E ⟨h,g,d,t,os⟩:=by
 have XD:(⟨h,g,d,t,os⟩:Shared).TypeIs (.builtin "object.__class__") "getset_descriptor" := F.typeOf_object_class
 have f5:=F.typeOf_object_class
 have f6:=F.slot_gs_get.lookup
 have f7:=F.slot_gs_set.lookup
 have Lk:=looks_findIn (M:=model prog w) X x.cl
 repeat (any_goals (first|assumption|(with_reducible refine wpAny_loadPart_at hx ?_;rw[hc])|with_reducible refine Lk.at ?_|wp_step))
 refine yx x X hx hc ?_
 repeat (any_goals (first|assumption|wp_step))
theorem CV{tk:Tok}{Q:Value->Shared->Prop}(x:nK K C)(X:K.In h)(hx:h.get? a=some o)(hc:o.cls=.ref C)(hq:Q (.ref C) ⟨h,g,d,t,os⟩) :
  wpAny (model prog w) A (getAttrBy (.ref a) (.str "__class__" tk) false) Q E ⟨h,g,d,t,os⟩:=by
 have f3:=F.attr_ValueError.ga.bind (.ref a)
 have NP:(Value.builtin "BaseException.__getattribute__" == Value.builtin "object.__getattribute__")=false:=by decide +kernel
 have XE:(onTheHeap (Value.ref C) && Value.builtin "BaseException.__getattribute__" == Value.builtin "object.__getattribute__")=false:=by rw[NP];rfl
 have Lk:=looks_findIn (M:=model prog w) X x.ga
 have Lg:=looks_findIn (M:=model prog w) X x.gx
 repeat (any_goals (first|assumption|(with_reducible refine wpAny_loadPart_at hx ?_;rw[hc])|with_reducible refine Lk.at ?_|with_reducible refine Lg.at ?_|wp_step))
 obtain⟨bm,N,nm,q,bs,hdct,sn,sub,ab,col,dd,k0,k1,k2,k3,k5,mN,hC,hN,B8,T⟩:=x.obj X
 have hk:builtinKind "BaseException.__getattribute__" = some .slot:=by decide +kernel
 have hsplit:splitId "BaseException.__getattribute__" = some ("BaseException", "__getattribute__"):=by decide +kernel
 have NM:(Value.ref C :: bm).contains (.type "BaseException")=true:=by rw[QX,T.hasType (X := "BaseException") (b:=true) rfl];rfl
 have chk:∀ {Q':Unit->Shared->Prop} {E':Value->Shared->Prop} {A':Around},Q' () ⟨h,g,d,t,os⟩->wpAny (model prog w) A' (checkBuiltinCall "BaseException.__getattribute__" ⟨[.ref a,.str "__class__" tk],[]⟩) Q' E' ⟨h,g,d,t,os⟩:=fun {Q' E' A'} Qk=>by
  have ha:=F.args_bexc_ga (.ref a) (.str "__class__" tk)
  simp only[checkBuiltinCall,hk,hsplit]
  refine ai ?_
  unfold isInstance
  repeat (first|(with_reducible refine wpAny_loadPart_at hx ?_;rw[hc])|(with_reducible refine wpAny_isSubtype_exc hC ?_;rw[NM])|wp_step)
  exact Qk
 refine codeAny_call_builtin F.attr_ValueError.ga.plain F.entry_bexc_ga (chk (uD x X hx hc ?_))
 repeat (any_goals (first|assumption|wp_step))
theorem vX {Q:Option Value->Shared->Prop} (x:nK K C) (X:K.In h) (hx:h.get? a=some o) (hc:o.cls=.ref C) (hq:Q (some (.ref C)) ⟨h,g,d,t+1,os⟩):wpAny (model prog w) A (getAttr? (.ref a) "__class__") Q E ⟨h,g,d,t,os⟩:=by
 unfold getAttr? getAttrBy?
 repeat (any_goals (first|assumption|with_reducible apply CV x X hx hc|wp_step))
end
def XF(a C:Addr)(h:Heap):Prop:=∃ o,h.get? a=some o/\o.cls=.ref C
theorem nK.ef'{K:PySem.W.Frag}{C:Addr}{h:Heap}{M:Model}(x:nK K C)(X:K.In h):Looks M h (isType (.ref C)) true:=by
 obtain⟨bm,N,nm,q,bs,hdct,sn,sub,ab,col,dd,k0,k1,k2,k3,k5,mN,hC,hN,B8,T⟩:=x.obj X
 intro A' Q' E' s' k q
 unfold isType loadHead
 exact ai (wpAny_loadPart (k _ _ hC) (aS q))
theorem yJ{K:PySem.W.Frag}{a C:Addr}(x:nK K C):KitX K (.ref a) (.ref C) (XF a C) where
 ty:=fun M h X p=>by
  obtain⟨o,h1,h2⟩:=p
  exact h2 ▸ (Looks.ld h1).andThen .now
 it:=fun M h X p=>x.ef' X
 ne:=fun h tp dd its n sl X htp=>by
  obtain⟨bm,N,nm,q,bs,hdct,sn,sub,ab,col,dd,k0,k1,k2,k3,k5,mN,hC,hN,B8,T⟩:=x.obj X
  refine Bool.eq_false_iff.mpr fun q=>?_
  have e:C=tp:=Value.ref.inj (beq_iff_eq.mp q)
  subst e
  have z:=congrArg (fun o=>o.map (·.data)) (hC.symm.trans htp)
  cases z
 ca:=fun {prog w A E Q s} X p k=>by
  obtain⟨h,g,d,t,os⟩:=s
  obtain⟨o,h1,h2⟩:=p
  exact vX x X h1 h2 k
theorem qR{M:Model}{A:Around}{E:Value->Shared->Prop}{K:PySem.W.Frag}{a C R:Addr}{h:Heap}{g:Array GenState}{d:Drawn}{t:Nat}{os:OsState}{Q:Bool->Shared->Prop}(x:nK K C)(r:nK K R)(sub:mroIn K C (.ref R)=some true)(X:K.In h)(p:XF a C h)
  (hq:Q true ⟨h,g,d,t,os⟩):wpAny M A (excMatches (.ref a) (.ref R)) Q E ⟨h,g,d,t,os⟩:=by
 obtain⟨bm,N,nm,q,bs,hdct,sn,gO',ab,col,dd,k0,k1,k2,k3,k5,mN,hC,hN,B8,T⟩:=r.obj X
 obtain⟨oe,he,Rl⟩:=p
 have NM:(Value.ref R :: bm).contains (.type "BaseException")=true:=by rw[QX,T.hasType (X := "BaseException") (b:=true) rfl];rfl
 have f:=tc_notTuple
 have Lk:=looks_mroIn (M:=M) X sub
 unfold excMatches
 repeat (first|(with_reducible refine wpAny_loadPart_at he ?_;rw[Rl])|with_reducible refine wpAny_loadPart_at hC ?_|(with_reducible refine wpAny_isSubtype_exc hC ?_;rw[NM])|with_reducible refine Lk.at ?_|wp_step)
 exact hq
theorem FunFrames.rebase{h base B:Heap}:∀ {l:List PySem.Env},h.FunFrames base l->(∀ b∈fe l,B.get? b=none)->h.FunFrames B l
 |[],_,_=>trivial
 |env :: rest,⟨hk,⟨L,o,hf,hn,ho,hd⟩,hr⟩,hB=>⟨hk,⟨L,o,hf,hB L (by unfold fe;rw[y8,hf];exact cf),ho,hd⟩,
   FunFrames.rebase hr fun b hb=>hB b (by unfold fe;rw[y8,hf];exact cc _ hb)⟩
theorem eT.there{P:Program}{w:World}{H:Hp}{h:Heap}{a:Addr}{o:HO}(x:eT P w H h a o):∃ u,h.get? a=some u:=by
 cases o with
 |lst xs=>obtain⟨_,_,_,_,e⟩:=x;exact⟨_,e⟩
 |tup xs=>obtain⟨_,_,_,_,e,_⟩:=x;exact⟨_,e⟩
 |dK kvs=>obtain⟨_,_,_,_,o,_,_,e,_⟩:=x;exact⟨_,e⟩
 |dT kvs=>obtain⟨_,_,_,_,o,_,_,e,_⟩:=x;exact⟨_,e⟩
 |set S n=>obtain⟨o,_,_,_,e,_⟩:=x;exact⟨_,e⟩
 |ins C dx fs=>obtain⟨_,_,_,e,_⟩:=x;exact⟨_,e⟩
 |own y=>exact x
 |xd fs=>obtain⟨_,⟨_,_,_,e,_⟩,_⟩:=x;exact⟨_,e⟩
 |OO lo hi=>obtain⟨_,_,_,e⟩:=x;exact⟨_,e⟩
 |mG ob u=>obtain⟨e,_⟩:=x;exact⟨_,e⟩
 |DH ps=>exact⟨_,(show h.get? a=some _ from x)⟩
 |met f y=>exact⟨_,(show h.get? a=some _ from x)⟩
 |ext φ=>obtain⟨_,e,_⟩:=x;exact e
def yT(B:Heap)(fs:List Addr)(H':Hp)(h₀ h:Heap):Prop:=∀ b o,h.get? b=some o->(H' b≠none\/h₀.get? b≠none)->b∉fs->B.get? b=some o
def om(P:Program)(w:World)(mg:Str->Option Value)(rn:List Str):xI:=fun outer H s E e s' =>
 ∃ a n C a0 H' B,e=.ref a/\(n∈rn/\mg n=some (.ref C))/\s'.os=s.os/\AllBare s'.gens/\Un (fe outer) [] H H' s.heap s'.heap/\fE P w H' s'.heap /\
  Heap.FlyingW B outer a (.ref C) a0 s'.heap/\yT B (fe outer) H' s.heap s'.heap/\(∀ b∈fe outer,H' b=none)/\E (.ref C) none H'
structure eX(fs:List Addr)(H':Hp)(h₀ h h':Heap):Prop where
 keep:∀ b o,h.get? b=some o->(H' b≠none\/h₀.get? b≠none)->b∉fs->h'.get? b=some o
 slot:∀ b o,h.get? b=some o->b∈fs->∃ sl,h'.get? b=some { o with slots:=sl }
theorem eX.of{B:Heap}{l:List PySem.Env}{base:Heap}{H':Hp}{h₀ h h':Heap}(c:yT B (fe l) H' h₀ h)(st:B.StaysIn h')(up:h.UpToSlots h')(ff:h.FunFrames base l):eX (fe l) H' h₀ h h' :=
 ⟨fun b o e k n=>st b o (c b o e k n),fun b o e m=>by
  obtain⟨_,o',e',d⟩:=ff.mem m
  rw[e] at e';cases e'
  exact up b o e d⟩
theorem eX.trans{fs:List Addr}{H':Hp}{h₀ h h1 h2:Heap}(a:eX fs H' h₀ h h1)(b:eX fs H' h₀ h1 h2):eX fs H' h₀ h h2 :=
 ⟨fun x o e k n=>b.keep x o (a.keep x o e k n) k n,fun x o e m=>by
  obtain⟨_,e1⟩:=a.slot x o e m
  obtain⟨sl,e2⟩:=b.slot x _ e1 m
  exact⟨sl,e2⟩⟩
theorem eX.un{fs:List Addr}{H H':Hp}{h₀ h h':Heap}(m:eX fs H' h₀ h h')(u:Un fs [] H H' h₀ h):Un fs [] H H' h₀ h' where
 keep:=fun b o e n nb nx=>m.keep b o (u.keep b o e n nb nx) (.inr (by rw[e];exact fun z=>nomatch z)) nb
 slot:=fun b o e n hb nx=>by
  obtain⟨_,e1⟩:=u.slot b o e n hb nx
  obtain⟨sl,e2⟩:=m.slot b _ e1 hb
  exact⟨sl,e2⟩
 free:=u.free
 there:=fun b o e nx=>by
  obtain⟨o',e1⟩:=u.there b o e nx
  by_cases hb:b∈fs
  ·obtain⟨sl,e2⟩:=m.slot b o' e1 hb
   exact⟨_,e2⟩
  ·exact⟨o',m.keep b o' e1 (.inr (by rw[e];exact fun z=>nomatch z)) hb⟩
 ja:=u.ja
 sF:=u.sF
 ui:=u.ui
theorem eX.aT{P:Program}{w:World}{fs:List Addr}{H':Hp}{h₀ h h':Heap}(m:eX fs H' h₀ h h')(f:∀ b∈fs,H' b=none)(x:fE P w H' h):fE P w H' h':=fun a o e =>
 (x a o e).eM (fun b u hb q=>by
  have hH:H' b≠none:=by
   rcases hb with z|z
   ·rw[z,e];exact fun z=>nomatch z
   ·rw[z];exact fun z=>nomatch z
  exact m.keep b u q (.inl hH) fun z=>hH (f b z)) (fun _ q=>q) fun _ _ q=>q
section
variable {X:Cx}{pins:List (Addr × Obj)}{σ:St}{H H':Hp}{s:Shared}{e:Value}
theorem yT.up{B h h':Heap}(kE:X.stack=X.env :: X.outer)(hf:X.env.frame=some X.env.locals)(hex:X.ex=[])(I:Inv X pins σ H s)(un:Un (fe X.stack) [] H H' s.heap h)(c:yT B (fe X.stack) H' s.heap h)(m:eX (fe X.stack) H' s.heap h h')(fr:∀ b∈fe X.stack,H' b=none)(aT:fE X.prog X.w H' h) :
  Un X.fs [] X.xC H' X.eK.heap h'/\yT B X.fs H' X.eK.heap h':=by
 have hs:∀ b,b∈fe X.stack↔b=X.env.locals\/b∈X.fs:=fun b=>by
  rw[kE];unfold fe;rw[y8,hf];exact cS
 have MA:∀ b o,X.eK.heap.get? b=some o->b≠X.env.locals:=fun b o e=>eI (kP (dk e) I.ok.above)
 have K0:∀ b:Addr,b∉X.ex:=fun b z=>by rw[hex] at z;exact nomatch z
 have m':=m.un un
 have th:∀ b o,X.eK.heap.get? b=some o->∃ o',s.heap.get? b=some o':=fun b o e=>I.base.there b o e (K0 b)
 refine⟨⟨fun b o e n nb nx=>?_,fun b o e n hb nx=>?_,fun b o e n nx=>?_,fun b o e nx=>?_,fun b xs e=>un.ja b xs (I.base.ja b xs e),fun b ob u e=>un.sF b ob u (I.base.sF b ob u e),fun b ps e=>?_⟩,fun b o e k nb=>?_⟩
 ·exact m'.keep b o (I.base.keep b o e n nb (K0 b)) (I.base.free b o e n (K0 b)) (fun z=>((hs b).mp z).elim (MA b o e) nb) (by simp)
 ·obtain⟨_,e1⟩:=I.base.slot b o e n hb (K0 b)
  obtain⟨sl,e2⟩:=m'.slot b _ e1 (I.base.free b o e n (K0 b)) ((hs b).mpr (.inr hb)) (by simp)
  exact⟨sl,e2⟩
 ·obtain⟨o',e1⟩:=th b o e
  exact un.free b o' e1 (I.base.free b o e n (K0 b)) (by simp)
 ·obtain⟨o',e1⟩:=th b o e
  exact m'.there b o' e1 (by simp)
 ·obtain⟨m1,e1⟩:=I.base.ui b ps e
  obtain⟨m2,e2⟩:=un.ui b _ e1
  exact⟨m1++m2,by rw[e2,Mb]⟩
 ·have key:∀ o',h.get? b=some o'->(H' b≠none\/s.heap.get? b≠none)->b∉fe X.stack->B.get? b=some o:=fun o' e' k' n'=>by
   have:=m.keep b o' e' k' n'
   rw[e] at this;cases this
   exact c b o e' k' n'
  rcases k with k|k
  ·have nf:b∉fe X.stack:=fun z=>k (fr b z)
   cases q:H' b with
   |none=>exact absurd q k
   |some u =>
    obtain⟨o',e'⟩:=eT.there (aT b u q)
    exact key o' e' (.inl k) nf
  ·cases q:X.eK.heap.get? b with
   |none=>exact absurd q k
   |some o0 =>
    obtain⟨o1,e1⟩:=th b o0 q
    obtain⟨o2,e2⟩:=un.there b o1 e1 (by simp)
    exact key o2 e2 (.inr (by rw[e1];exact fun z=>nomatch z)) fun z=>((hs b).mp z).elim (MA b o0 q) nb
end
section
variable {P:Program}{w:World}{K:PySem.W.Frag}{mg:Str->Option Value}{base:Heap}{N:List Str}{qual:Str}{scope:Scope}{f:Addr}{cd:Value}{A:Around}{outer:List PySem.Env}{eK:Shared}{xC:Hp}{E:XK}{rn:List Str}
theorem xR{env:PySem.Env}{L b:Addr}{l:List PySem.Env}(hf:env.frame=some L)(h:b∈fe l):b∈fe (env :: l):=by
 unfold fe;rw[y8,hf];exact cc _ h
theorem FZ:Passes (om P w mg rn) (sM (om P w mg rn) P w K mg base N qual scope f cd A outer eK xC E) E:=by
 intro pins σ H s e s' I hx
 obtain⟨a,n,C,a0,H',B,he,hn,os,bare,un,aT,D6,cov,fr,hE⟩:=hx
 subst he
 refine wpAny_leaves_onW I.ok.frames rfl D6 fun h' XG up=>?_
 have mv:=eX.of cov XG.1 up D6.2.2.1
 obtain⟨u1,c1⟩:=yT.up (X:=sM (om P w mg rn) P w K mg base N qual scope f cd A outer eK xC E) rfl rfl rfl I un cov mv fr aT
 exact⟨a,n,C,a0,H',B,rfl,hn,os.trans I.os,bare,u1,mv.aT fr aT,XG,c1,fun b hb=>fr b (xR rfl hb),hE⟩
def qZ(X:Cx)(rn:List Str)(E:XK):Prop:=∀ (pins:List (Addr × Obj)) (σ:St) (H:Hp) (s:Shared) (h':Heap) (e:Addr) (n:Str) (C:Addr) (vs:List Value),Inv X pins σ H s->Heap.MadeExcOf s.heap h' e (.ref C) vs ->
 n∈rn->X.mg n=some (.ref C)->E (.ref C) none H->X.xe (.ref e) { s with heap:=h' }
theorem Hk:qZ (sM (om P w mg rn) P w K mg base N qual scope f cd A outer eK xC E) rn E:=by
 intro pins σ H s h' e n C vs I hx hn hm hE
 have st:=I.stack
 have ff:s.heap.FunFrames (hideAll s.heap (fe (envOfC qual scope eK.heap.objs.size f cd :: outer))) (envOfC qual scope eK.heap.objs.size f cd :: outer):=FunFrames.rebase st fun b hb=>hideAll_none _ hb
 refine wpAny_leaves_madeW (h:=s.heap) I.ok.frames rfl (fun b o q=>of_hideAll _ q) ff hx fun Tw t D6 tup hnt up=>?_
 have ff':h'.FunFrames (hideAll s.heap (fe (envOfC qual scope eK.heap.objs.size f cd :: outer))) (envOfC qual scope eK.heap.objs.size f cd :: outer):=ff.of_keeps fun b o q _=>⟨o,hx.keeps b o q,rfl⟩
 have aT:fE P w H h':=I.aT.kept hx.keeps
 have fr:∀ b∈fe (envOfC qual scope eK.heap.objs.size f cd :: outer),H b=none:=I.Rh
 have cov:yT (hideAll s.heap (fe (envOfC qual scope eK.heap.objs.size f cd :: outer))) (fe (envOfC qual scope eK.heap.objs.size f cd :: outer)) H s.heap h':=fun b o q k nb=>by
  have ho:∃ o1,s.heap.get? b=some o1:=by
   rcases k with k|k
   ·cases z:H b with
    |none=>exact absurd z k
    |some u=>exact eT.there (I.aT b u z)
   ·exact Option.ne_none_iff_exists'.mp k
  obtain⟨o1,e1⟩:=ho
  have e2:=hx.keeps b o1 e1
  rw[q] at e2;cases e2
  exact hideAll_get _ e1 nb
 have mv:eX (fe (envOfC qual scope eK.heap.objs.size f cd :: outer)) H s.heap h' Tw:=eX.of cov D6.1 up ff'
 obtain⟨u1,c1⟩:=yT.up (X:=sM (om P w mg rn) P w K mg base N qual scope f cd A outer eK xC E) rfl rfl rfl I (Un.kept hx.keeps) cov mv fr aT
 exact⟨e,n,C,_,H,_,rfl,⟨hn,hm⟩,I.os,I.bare,u1,mv.aT fr aT,D6,c1,fun b hb=>fr b (xR rfl hb),hE⟩
theorem HF{X:Cx}:Passes (om P w mg rn) X E0:=by
 intro _ _ _ _ _ _ _ hx
 obtain⟨_,_,_,_,_,_,_,_,_,_,_,_,_,_,_,h⟩:=hx
 exact h.elim
def LX(rn:List Str)(mg:Str->Option Value)(E:XK):Str->Hp->Prop:=fun n H'=>n∈rn->∀ C,mg n=some (.ref C)->E (.ref C) none H'
def fJ(K:PySem.W.Frag)(rn:List Str)(mg:Str->Option Value)(sp:fP):Sp:=fun vs H Qv E=>∃ ds Qd,aI K H ds vs/\sp ds Qd /\
 (∀ v H' av m d As,aC H av->Wf av H'->RM K av H' m d v As->As.Nodup->(∀ a∈As,av a=none)->Qd m d->Qv v H') /\
 ∀ n H',aC H H'->Qd (.ow false) (.str n)->LX rn mg E n H'
theorem uE{sp:fP}{t:WS}{vs:List V}{H:Hp}{Qv:VK}(h:fJ K rn mg sp vs H Qv E)(hp:∀ ds Q,sp ds Q->t { nx:=fun _=>Q .sh .non,rt:=Q } (aY N.length ds)) :
  yk K (LX rn mg E) t { nx:=fun _ H'=>Qv .non H',rt:=Qv } (start N vs) H:=by
 obtain⟨ds,Qd,rs,hs,fin,fx⟩:=h
 have hl:=rs.length
 refine⟨H,aY N.length ds,[],{ nx:=fun _=>Qd .sh .non,rt:=Qd },⟨?_,⟨aC.refl _,fun _ _ e=>e⟩,oq,fun a h=>nomatch h⟩,hp ds Qd hs,?_,?_,?_,?_,fx⟩
 ·unfold aY start
  rw[hl]
  exact SR.start rs
 ·exact fun bp H' av bP bX s sr q=>fin .non H' av .sh .non [] s sr.wf ⟨rfl,.non⟩ oq (fun a h=>nomatch h) q
 ·exact fun bp H' av bP bX s sr q=>q.elim
 ·exact fun bp H' av bP bX s sr q=>q.elim
 ·exact fun v H' av m d As s w r nd own q=>fin v H' av m d As s w r nd own q
theorem XH.ok{x:Str}{st:Stmt}{fd:FuncData}{ps:List Str}{k:Nat}{sp:fP}{t:WS}(F:gX K x qual st f fd)(S:kK N ps (b6 st))(len:∀ ds Q,sp ds Q->ds.length=ps.length)
  (Bn:∀ (cy:Value) (A:Around) (outer:List PySem.Env) (s:Shared) (H:Hp) (E:XK),ku k (A.deeper (envOfC qual (b6 st) s.heap.objs.size f cy))->qA (sM (om P w mg rn) P w K mg base N qual (b6 st) f cy A outer s H E) K (LX rn mg E) (hJ st) t)
  (hp:∀ ds Q,sp ds Q->t { nx:=fun _=>Q .sh .non,rt:=Q } (aY N.length ds)):gE P w K mg base (om P w mg rn) (k+1) f fd ps (fJ K rn mg sp):=by
 obtain⟨oc,od,kV,doc,pm,an,cy,ct,Bi,rfl,lk,ox⟩:=F.ex
 exact VR lk ox S (fun vs H Q E ⟨ds,Qd,rs,hs,_⟩=>by rw[<- rs.length];exact len ds Qd hs) fun A outer s H vs Q E hr z5=>⟨_,Bn cy A outer s H E hr,uE z5 hp⟩
structure B9(P:Program)(w:World)(K:PySem.W.Frag)(mg:Str->Option Value)(base:Heap)(rn:List Str)(k:Nat)(x:Str)(ps:List Str)(sp:fP):Prop where
 ex:∃ (g:Addr) (fd:FuncData),mg x=some (.ref g)/\PySem.W.keepIn K (.ref g)=true/\Binds K fd ps []/\gE P w K mg base (om P w mg rn) k g fd ps (fJ K rn mg sp)
theorem gX.XI{k:Nat}{x qual:Str}{st:Stmt}{f:Addr}{fd:FuncData}{ps:List Str}{sp:fP}(F:gX K x qual st f fd)(hm:mg x=some (.ref f))(ok:gE P w K mg base (om P w mg rn) k f fd ps (fJ K rn mg sp))
  (h:∀ (kV doc pm:Value) (an:Option Addr) (cy ct:Value) (us:List Value),us.length=ps.length->bindArgs (PySem.W.fnOf x qual (kz st) (hJ st) (b6 st) .none kV doc pm an cy ct) ⟨us,[]⟩=pure (ps.zip us)):B9 P w K mg base rn k x ps sp:=⟨f,fd,hm,F.kp,F.binds h,ok⟩
end
def XJ(K:PySem.W.Frag)(mg:Str->Option Value)(n:Str):Prop:=∃ C,mg n=some (.ref C)/\nK K C
def vw(m:Md)(d:D)(Y:Str->Prop)(N:Prop):Prop:=match m,d with
 |.ow false,.str n=>Y n
 |_,_=>N
theorem wV{K:PySem.W.Frag}{Hs H:Hp}{m:Md}{d:D}{v:V}{As:List Addr}{Y:Str->Prop}{N:Prop}(r:RM K Hs H m d v As)(h:vw m d Y N):N:=by
 unfold vw at h
 split at h
 ·obtain⟨r,ne⟩:=r
  cases r
  exact absurd rfl ne
 ·exact h
section
variable {X:Cx}{K:PySem.W.Frag}{rn:List Str}{E:XK}{e:Expr}{es:List Expr}{te:WE}{t:WA}{pos:Pos}
def v_(n:Str)(te:WE):WS:=fun E ρ=>te ρ fun _ _=>E.rt (.ow false) (.str n)
theorem Ad {x:Str} {C:Addr} {ta:TA} {np dr:Pos} (hc:X.calm=true) (ok:qZ X rn E) (hn:x∈rn) (hm:X.mg x=some (.ref C)) (xc:nK X.K C) (ha:PA X [e] ta) (hg:Gl X x) (iP:(x == ("__debug__" : Str))=false)
  (he:starEach [e] X.env=[(false,eval e X.env)]):PS X (.Raise (some (.Call (.Name x np) [e] [] dr)) none pos) (fun D σ H=>ta σ H fun vs H1=>vs.length<=sizeLine/\E (.ref C) none H1):=by
 intro pins s σ H D I h
 obtain⟨bm,N,nm,q,bs,hdct,sn,sub,ab,col,dd,k0,k1,k2,k3,k5,mN,hC,hN,B8,T⟩:=xc.obj I.mod.OS
 refine wpAny_Raise_call_subT (C:=C) (nm:=nm) (q:=q) (N:=N) (bs:=bs) (bm:=bm) (hdct:=hdct) (sn:=sn) (sub:=sub) (ab:=ab) (col:=col) (dd:=dd) (k0:=k0) (k1:=k1) (k2:=k2) (k3:=k3) (k5:=k5)
  F.excBase_ValueError (mN:=mN) (T.hasType F.excBase_ValueError.hasBase) (I.ok.hd hc) (by rw[he];rfl) B8 (OW I hg hm ⟨rfl,?_⟩ iP)
 have h2:=ha dr pins s σ H _ I h
 rw[he] at h2 ⊢
 exact Calls.evalArgs_plain (cq h2 fun vs s1 ⟨xs,H1,I1,r,hl,q⟩=>⟨rfl,by rw[<- r.length];exact hl,I1.bk _ _ hC,hN.keeps I1.bk,T.keeps I1.bk,fun h' e' hx=>ok pins σ H1 s1 h' e' x C vs I1 hx hn hm q⟩)
theorem yE {x:Str} {np dr:Pos} (hc:X.calm=true) (ok:qZ X rn E) (xc:XJ K X.mg x) (hn:x∈rn) (he:QE X K e te) (hg:Gl X x:=by rfl) (iP:(x == ("__debug__" : Str))=false:=by decide) (hK:X.K=K:=by rfl)
  (hs:starEach [e] X.env=[(false,eval e X.env)]:=by rfl):QS X K (LX rn X.mg E) (.Raise (some (.Call (.Name x np) [e] [] dr)) none pos) (v_ x te):=by
 subst hK
 obtain⟨C,hm,xc⟩:=xc
 refine PS.imp (Ad hc ok hn hm xc (oz he sL hs) hg iP hs) fun D σ H hx=>iG hx fun Hs ρ ae E' sr h k1 k2 k3 k4 kx=>?_
 exact⟨Hs,ρ,ae,_,sr,h,fun v H1 aE m d As g1 r1 f1 q1=>⟨(by decide:1<=sizeLine),kx x H1 (g1.sh.trans g1.wf.sub) q1 hn C hm⟩⟩
section
variable {k:Nat}{x:Str}{ps:List Str}{sp:fP}{p dr:Pos}
theorem xq (C:B9 X.prog X.w X.K X.mg X.base rn k x ps sp) (hr:ku k X.A) (hx:Passes (om X.prog X.w X.mg rn) X E) {ta:TA} (ha:PA X (e :: es) ta) (hg:Gl X x) (iP:(x == ("__debug__" : Str))=false) (he:starEach (e :: es) X.env=(false,eval e X.env) :: starEach es X.env)
  (gI:(backTo pos (starEach es X.env)).any (·.1)=false):PE X (.Call (.Name x p) (e :: es) [] pos) (MN (fJ X.K rn X.mg sp) [] E ta):=by
 obtain⟨g,fd,hm,hk,hb,F⟩:=C.ex
 exact VH F hr hg hm hk hb .nil hx ha iP he gI
theorem mC{σ:St}{H:Hp}{Qv:VK}{Hs:Hp}{ρ:Env}{ae:List Addr}{Y:Str->Prop}{Q:Md->D->Prop}(sr:dv K Hs ρ σ H ae)(h:t ρ fun ps=>sp (ps.map (·.2)) fun m d=>vw m d Y (bS (m,d) (f:=fun p=>Q (w9 p.1 p.2) p.2) ⟨⟩))
  (f:∀ v H' av m d As,eL Hs H av H'->RM K av H' m d v As->cU av H As->Q m d->Qv v H') (fx:∀ n H',aC Hs H'->Y n->LX rn X.mg E n H'):MN (fJ K rn X.mg sp) [] E (SV K t) σ H Qv:=by
 refine⟨Hs,ρ,ae,_,sr,h,fun vs H1 aE ps As g1 r1 f1 q1=>?_⟩
 refine⟨_,_,by rw[nL];exact r1.reps g1.wf,q1,fun v H' av m d As s w r nd own q=>?_,fun n H' s q=>fx n H' (g1.sh.trans (g1.wf.sub.trans s)) q⟩
 obtain⟨fF,r',fr⟩:=nR g1.wf s w r nd own
 exact Fin.after f g1 v H' _ (w9 m d) d fF (fG g1.wf s w) r' fr (wV r q)
def pO(sp:fP)(t:WA):WE:=fun ρ Q=>t ρ fun ps=>sp (ps.map (·.2)) fun m d=>vw m d (fun _=>False) (bS (m,d) (f:=fun p=>Q (w9 p.1 p.2) p.2) ⟨⟩)
def qi(sp:fP)(t:WA):WS:=fun E ρ=>t ρ fun ps=>sp (ps.map (·.2)) fun m d=>vw m d (fun n=>E.rt (.ow false) (.str n)) (bS (m,d) (f:=fun _=>E.nx ρ) ⟨⟩)
variable (C:B9 X.prog X.w X.K X.mg X.base rn k x ps sp)(hr:ku k X.A)
include C hr
theorem xO (ha:QA X K (e :: es) t) (hK:X.K=K:=by rfl) (hg:Gl X x:=by rfl) (iP:(x == ("__debug__" : Str))=false:=by decide) (he:starEach (e :: es) X.env=(false,eval e X.env) :: starEach es X.env:=by rfl)
  (gI:(backTo pos (starEach es X.env)).any (·.1)=false:=by rfl):QE X K (.Call (.Name x p) (e :: es) [] pos) (pO sp t):=by
 subst hK
 exact PE.imp (xq C hr HF ha hg iP he gI) fun σ H Qv h=>i3 h fun Hs ρ ae Q sr h f=>mC sr h f fun n H' _ z=>z.elim
variable (hx:Passes (om X.prog X.w X.mg rn) X E)
include hx
theorem nM (ha:QA X K (e :: es) t) (hs:swapsWith (.Call (.Name x p) (e :: es) [] dr) none pos.line X.env=pure false:=by rfl) (hK:X.K=K:=by rfl) (hg:Gl X x:=by rfl) (iP:(x == ("__debug__" : Str))=false:=by decide) (he:starEach (e :: es) X.env=(false,eval e X.env) :: starEach es X.env:=by rfl)
  (gI:(backTo dr (starEach es X.env)).any (·.1)=false:=by rfl):QS X K (LX rn X.mg E) (.Expr (.Call (.Name x p) (e :: es) [] dr) pos) (qi sp t):=by
 subst hK
 exact PS.imp (OY (xq C hr hx ha hg iP he gI) hs) fun D σ H hx=>iG hx fun Hs ρ ae E' sr h k1 k2 k3 k4 kx=>mC (Q:=fun _ _=>E'.nx ρ) sr h (fun v H1 aE m d As g1 r1 f1 q1=>k1 σ H1 aE ρ ae g1.sh (sr.grow g1) q1) kx
end
def Tx(j:Nat)(a:Addr)(b:Bool):WE:=fun ρ Q=>ρ[j]? = some (some (.xc a))/\Q .sh (.bl b)
theorem Jr {j:Nat} {a C:Addr} {oe:Obj} {c:Value} {vc:V} {b:Bool} {e2:Expr} {p:Pos} (hm:X.mg "isinstance" = none) (hp:(a,oe)∈X.pn) (uk:oe.cls=.ref C) (xc:nK X.K C) (hk:kitOne X.K (.ref C) c=some b) (he:PE X e (DJ j)) (ht:PE X e2 (tC vc)) (hvc:∀ u,RelV vc u->u=c)
  (hg:Gl X "isinstance" := by rfl) (hs:starEach (e :: [e2]) X.env=(false,eval e X.env) :: starEach [e2] X.env:=by rfl) (sN:starEach (e2 :: []) X.env=(false,eval e2 X.env) :: starEach [] X.env:=by rfl) (gI:(backTo pos (starEach [e2] X.env)).any (·.1)=false:=by rfl) :
  QE X K (.Call (.Name "isinstance" p) [e,e2] [] pos) (Tx j a b):=by
 have hc:iO X (.builtin "isinstance") (fun xs H Q=>xs=[.ref a,vc]/\Q (.bl b) H):=by
  intro pins s σ H xs us Q I r h
  obtain⟨rfl,q⟩:=h
  obtain⟨u,v,rfl,ru,rv⟩:=Vals.two r
  obtain rfl:u=Value.ref a:=ru
  obtain rfl:=hvc v rv
  obtain⟨ho,_⟩:=I.pin (a,oe) (kc _ hp)
  exact kia_one (yJ xc) I.kr ⟨oe,ho,uk⟩ hk (fun z=>nomatch z) fun tk=>⟨.bl b,H,I.tok tk,rfl,q⟩
 refine PE.imp (O_ hc hg hm iz (oz he (oz ht sL sN) hs) (by decide) (by decide) hs gI) fun σ H Qv hx=>i3 hx fun Hs ρ ae Q sr h f=>?_
 obtain⟨ea,q⟩:=h
 obtain⟨v,e1,r⟩:=sr.sr.get ea
 have r:v=V.ref a:=r
 subst r
 exact⟨_,e1,rfl,Fin.sh f sr.wf (.bl _) q⟩
end
abbrev gf(X:Cx)(pn:List (Addr × Obj))(xe:Value->Shared->Prop):Cx:={ X with pn:=pn,xe:=xe }
abbrev Cb(X:Cx)(pn:List (Addr × Obj))(a:Addr):Cx:={ X with A:=X.A.mark (some (.ref a)),calm:=false,pn:=pn,xe:=fun _ _=>False }
abbrev CW(X:Cx)(H:Hp)(s:Shared)(p:Addr × Obj):Prop:=s.heap.get? p.1=some p.2/\H p.1=none/\p.1≠X.env.locals/\p.1∉X.fs/\∀ v,p.2.data≠.cell v
section
variable {X:Cx}{pins mM pn:List (Addr × Obj)}{σ:St}{H:Hp}{s:Shared}{xe:Value->Shared->Prop}{a:Addr}
theorem Inv.gf(I:Inv X pins σ H s)(h:∀ p∈pn++mM,CW X H s p):Inv (gf X pn xe) mM σ H s :=
 ⟨⟨I.ok.mod,I.ok.kind,I.ok.glob,I.ok.blt,I.ok.above,I.ok.inj,I.ok.has,I.ok.zv,I.ok.hd,I.ok.frames,I.ok.A6,I.ok.A7,I.ok.bs,I.ok.uj,I.ok.zC,I.ok.zD,I.ok.pS,I.ok.xD⟩,I.os,I.bare,I.base,I.loc,I.cell,I.free,I.nV,h,I.aT,I.len⟩
theorem Inv.lg(I:Inv (L2.Q.gf X pn xe) mM σ H s)(h:∀ p∈X.pn++pins,p∈pn++mM):Inv X pins σ H s :=
 ⟨⟨I.ok.mod,I.ok.kind,I.ok.glob,I.ok.blt,I.ok.above,I.ok.inj,I.ok.has,I.ok.zv,I.ok.hd,I.ok.frames,I.ok.A6,I.ok.A7,I.ok.bs,I.ok.uj,I.ok.zC,I.ok.zD,I.ok.pS,I.ok.xD⟩,I.os,I.bare,I.base,I.loc,I.cell,I.free,I.nV,fun p hp=>I.pin p (h p hp),I.aT,I.len⟩
theorem Inv.Cb{XM XO:List (Addr × Obj)}(I:Inv (L2.Q.gf X pn xe) mM σ H s)(h:∀ p∈XM++XO,CW X H s p):Inv (L2.Q.Cb X XM a) XO σ H s :=
 ⟨⟨I.ok.mod,I.ok.kind,I.ok.glob,I.ok.blt,I.ok.above,I.ok.inj,I.ok.has,I.ok.zv,(fun z=>nomatch z),I.ok.frames,I.ok.A6,I.ok.A7,I.ok.bs,I.ok.uj,I.ok.zC,I.ok.zD,I.ok.pS,I.ok.xD⟩,I.os,I.bare,I.base,I.loc,I.cell,I.free,I.nV,h,I.aT,I.len⟩
theorem Inv.Jg{xe2:Value->Shared->Prop}(I:Inv (L2.Q.gf X pn xe) pins σ H s):Inv (L2.Q.gf X pn xe2) pins σ H s :=
 ⟨⟨I.ok.mod,I.ok.kind,I.ok.glob,I.ok.blt,I.ok.above,I.ok.inj,I.ok.has,I.ok.zv,I.ok.hd,I.ok.frames,I.ok.A6,I.ok.A7,I.ok.bs,I.ok.uj,I.ok.zC,I.ok.zD,I.ok.pS,I.ok.xD⟩,I.os,I.bare,I.base,I.loc,I.cell,I.free,I.nV,I.pin,I.aT,I.len⟩
theorem Inv.CN(I:Inv (L2.Q.Cb X pn a) mM σ H s)(hd:X.calm=true->X.A.handled=none)(h:∀ p∈X.pn++pins,p∈pn++mM):Inv X pins σ H s :=
 ⟨⟨I.ok.mod,I.ok.kind,I.ok.glob,I.ok.blt,I.ok.above,I.ok.inj,I.ok.has,I.ok.zv,hd,I.ok.frames,I.ok.A6,I.ok.A7,I.ok.bs,I.ok.uj,I.ok.zC,I.ok.zD,I.ok.pS,I.ok.xD⟩,I.os,I.bare,I.base,I.loc,I.cell,I.free,I.nV,fun p hp=>I.pin p (h p hp),I.aT,I.len⟩
theorem SP.lg{D:Ends}{f:Flow}(h:SP (L2.Q.gf X pn xe) mM D f s)(hp:∀ p∈X.pn++pins,p∈pn++mM):SP X pins D f s:=by
 cases f with
 |next=>obtain⟨bp,H',I,q⟩:=h;exact⟨bp,H',Inv.lg I hp,q⟩
 |brk=>obtain⟨bp,H',I,q⟩:=h;exact⟨bp,H',Inv.lg I hp,q⟩
 |cont=>obtain⟨bp,H',I,q⟩:=h;exact⟨bp,H',Inv.lg I hp,q⟩
 |ret u=>obtain⟨v,bp,H',I,r,q⟩:=h;exact⟨v,bp,H',Inv.lg I hp,r,q⟩
theorem Inv.forget{h':Heap}{m:Str->Option Value}{t:Nat}(I:Inv X pins σ H s)(hn:h'.Ns X.env.locals m)(hs:Heap.SameBut X.env.locals s.heap h'):Inv X pins (List.replicate X.N.length none) H { s with heap:=h',toks:=t }:=by
 have ne:∀ b o,X.eK.heap.get? b=some o->b≠X.env.locals:=fun b o e=>eI (kP (dk e) I.ok.above)
 refine⟨I.ok,I.os,I.bare,⟨fun b o e n hb hx=>(hs.2 b (ne b o e)).trans (I.base.keep b o e n hb hx),fun b o e n hb hx=>?_,I.base.free,fun b o e hx=>?_,I.base.ja,I.base.sF,I.base.ui⟩,⟨m,hn,fun i x v e1 e2=>?_⟩,fun x c e=>?_,I.free,I.nV,fun p hp=>?_,fun b o e=>?_,QL⟩
 ·obtain⟨sl,e1⟩:=I.base.slot b o e n hb hx
  exact⟨sl,(hs.2 b (ne b o e)).trans e1⟩
 ·obtain⟨o',e1⟩:=I.base.there b o e hx
  exact⟨o',(hs.2 b (ne b o e)).trans e1⟩
 ·rw[QJ] at e2
  split at e2<;>cases e2
 ·obtain⟨v,z⟩:=I.cell x c e
  exact⟨v,z.sameBut hs (I.A8 x c e)⟩
 ·obtain⟨e,n,nl,nf,d⟩:=I.pin p hp
  exact⟨(hs.2 p.1 nl).trans e,n,nl,nf,d⟩
 ·refine(I.aT b o e).eM (fun c u hc q=>(hs.2 c ?_).trans q) (fun _ q=>q) fun _ _ q=>q
  intro z
  rcases hc with w|w
  ·rw[<- w,z,I.free] at e;cases e
  ·rw[z,I.free] at w;cases w
end
theorem SR.XQ{K:PySem.W.Frag}{Hs H:Hp}:∀ σ:St,SR K Hs H (List.replicate σ.length none) σ []
 |[]=>.nil
 |_ :: σ=>.non (SR.XQ σ)
theorem SR.exc{K:PySem.W.Frag}{Hs H:Hp}{a:Addr}:∀ (σ:St) (j:Nat),SR K Hs H ((List.replicate σ.length none).set j (some (.xc a))) (σ.set j (some (.ref a))) []
 |[],_=>.nil
 |_ :: σ,0=>.xc (SR.XQ σ)
 |_ :: σ,j+1=>.non (SR.exc σ j)
theorem yT.next{P:Program}{w:World}{B:Heap}{fs:List Addr}{H':Hp}{h₀ h h':Heap}(c:yT B fs H' h₀ h)(m:eX fs H' h₀ h h')(aT:fE P w H' h)(th:∀ b o,h₀.get? b=some o->∃ o',h.get? b=some o'):yT B fs H' h₀ h':=fun b o e k nb=>by
 have ho:∃ o',h.get? b=some o':=by
  rcases k with k|k
  ·cases z:H' b with
   |none=>exact absurd z k
   |some u=>exact eT.there (aT b u z)
  ·obtain⟨o0,e0⟩:=Option.ne_none_iff_exists'.mp k
   exact th b o0 e0
 obtain⟨o',e'⟩:=ho
 have e2:=m.keep b o' e' k nb
 rw[e] at e2;cases e2
 exact c b o e' k nb
structure GZ(K:PySem.W.Frag)(mg:Str->Option Value)(rn:List Str)(R:Str):Prop where
 ex:∃ r,mg R=some (.ref r)/\nK K r/\∀ n C,n∈rn->mg n=some (.ref C)->nK K C/\mroIn K C (.ref r)=some true
end L2.Q
namespace L2.Q
open PySem PySem.Spec PyProof.Rows
end L2.Q
namespace L2.Q.R
open PySem PySem.Spec PyProof.Rows L2.Q
section
variable {E:jw}{ρ:Env}{Q:Md->L2.Q.D->Prop}{te:WE}{tar:WA}{j:Nat}{a:Addr}{b:Bool}{sp:fP}{n:Str}{d:L2.Q.D}{Y:Str->Prop}{N:Prop}
theorem Ig:v_ n te E ρ=te ρ fun _ _=>E.rt (.ow false) (.str n):=rfl
theorem Jk:pO sp tar ρ Q=tar ρ fun ps=>sp (ps.map (·.2)) fun m d=>vw m d (fun _=>False) (bS (m,d) (f:=fun p=>Q (w9 p.1 p.2) p.2) ⟨⟩):=rfl
theorem Hy:qi sp tar E ρ=tar ρ fun ps=>sp (ps.map (·.2)) fun m d=>vw m d (fun n=>E.rt (.ow false) (.str n)) (bS (m,d) (f:=fun _=>E.nx ρ) ⟨⟩):=rfl
theorem Mr:Tx j a b ρ Q=(ρ[j]? = some (some (.xc a))/\Q .sh (.bl b)):=rfl
theorem MF:vw (.ow false) (.str n) Y N=Y n:=rfl
theorem Kl:vw .sh d Y N=N:=rfl
theorem J2:vw .bo d Y N=N:=rfl
theorem Kz:vw (.ow true) d Y N=N:=rfl
end
end L2.Q.R
namespace L2.Q
open PySem PySem.Spec PyProof.Rows PySem.W
theorem zr{α:Type}{l:List α}(h:l.Nodup){i j:Nat}{x:α}(a:l[i]? = some x)(b:l[j]? = some x):i=j:=by
 obtain⟨hi,ei⟩:=hV.mp a
 obtain⟨hj,ej⟩:=hV.mp b
 exact(List.getElem_inj h).mp (ei.trans ej.symm)
section
variable {X:Cx}{pins:List (Addr × Obj)}{σ:St}{H:Hp}{s:Shared}
theorem Inv.Jd{h':Heap}{m:Str->Option Value}{t j:Nat}{en:Str}{v:Option Value}(I:Inv X pins σ H s)(hN:X.N.Nodup)(hj:X.N[j]? = some en)(lk:∀ (i:Nat) (x:Str) (v:V),X.N[i]? = some x->σ[i]? = some (some v)->My X.env.scope x->∃ u,RelV v u/\Look X.env s.heap m x u)
  (hn:h'.Ns X.env.locals fun x=>if x=en then v else m x) (hs:Heap.SameBut X.env.locals s.heap h'):Inv X pins (σ.set j none) H { s with heap:=h',toks:=t }:=by
 have F:=Inv.forget (t:=t) I hn hs
 refine⟨F.ok,F.os,F.bare,F.base,⟨_,hn,fun i x v' e1 e2 vs=>?_⟩,F.cell,F.free,F.nV,F.pin,F.aT,by rw[List.length_set];exact I.len⟩
 have gi:j≠i:=fun z=>by
  subst z
  rw[List.getElem?_set] at e2
  split at e2
  ·split at e2<;>cases e2
  ·rename_i z;exact z rfl
 rw[GO gi] at e2
 obtain⟨u,r,l⟩:=lk i x v' e1 e2 vs
 refine⟨u,r,?_⟩
 rcases l with⟨a,b⟩|⟨a,c,b,d⟩
 ·refine .inl ⟨a,?_⟩
  show(if x=en then v else m x)=some u
  rw[if_neg fun z=>gi ?_]
  ·exact b
  ·subst z
   exact zr hN hj e1
 ·exact .inr ⟨a,c,b,d.sameBut hs (I.A8 x c b)⟩
end
def CP(body:WS)(ρk:Addr->Env)(wr:Addr->Str->WS):WS:=fun E ρ =>
 body { E with nx:=fun _=>False,rt:=fun m d=>vw m d (fun n=>∀ a,wr a n E (ρk a)) (E.rt m d) } ρ
theorem zX{X:Cx}{K:PySem.W.Frag}{L:Str->Hp->Prop}{rn:List Str}{R:Str}{body rest:List Stmt}{np Tj pos p1 p2 p3:Pos}{i j:Nat}{en y:Str}{wb:WS}{ρk:Addr->Env}{wr:Addr->Str->WS}
  (xr:GZ X.K X.mg rn R) (hN:X.N.Nodup) (hj:X.N[j]? = some en) (hl:X.env.scope.names.lookup en=some .local) (hi:X.N[i]? = some y) (hy:X.env.scope.names.lookup y=some .local) (kE:X.stack=X.env :: X.outer) (hf:X.env.frame=some X.env.locals)
  (hρ:∀ a,ρk a=(List.replicate X.N.length none).set i (some (.xc a)))
  (hb:∀ pn xe E1,Passes (om X.prog X.w X.mg rn) (gf X pn xe) E1->qA (gf X pn xe) K (LX rn X.mg E1) body wb)
  (hk:∀ pn a oe n C,n∈rn->X.mg n=some (.ref C)->nK X.K C->(a,oe)∈pn->oe.cls=.ref C->qA (gf X pn X.xe) K L rest (wr a n)) (gi:i≠j:=by decide) (hg:Gl X R:=by rfl) (iP:(R == ("__debug__" : Str))=false:=by decide)
  (hd1:(en == ("__debug__" : Str))=false:=by decide) (hd2:(en == ("__classdict__" : Str))=false:=by decide) (MZ:swapsWith (.Name en p2) (some (.Name y p1)) p3.line X.env=pure false:=by rfl) :
  qA X K L (.Try body [.ExceptHandler (some (.Name R np)) (some en) [.Assign [.Name y p1] (.Name en p2) p3] Tj] [] [] pos :: rest) (CP wb ρk wr):=by
 intro pins s σ H D I hx
 obtain⟨Hs,ρ,ae,E,sr,h,k1,k2,k3,k4,kx⟩:=hx
 obtain⟨r,hm,xr,sub⟩:=xr.ex
 have sp0:∀ p∈X.pn++pins,p∈(X.pn++pins)++[]:=fun p hp=>by rw[nL];exact hp
 have Bn:=hb (X.pn++pins) (fun e s'=>∃ mM bp H1 s1,Inv (gf X (X.pn++pins) X.xe) mM bp H1 s1/\om X.prog X.w X.mg rn X.stack H1 s1 (fun c _ H'=>∃ n C,c=.ref C/\n∈rn/\X.mg n=some (.ref C)/\aC Hs H'/\∀ a,wr a n E (ρk a)) e s') _
  (fun mM bp H1 s1 e s' I1 c=>⟨mM,bp,H1,s1,Inv.Jg I1,c⟩)
  [] s σ H { D with nx:=fun _ _=>False } (Inv.gf I fun p hp=>I.pin p (by rw[nL] at hp;exact hp)) ⟨Hs,ρ,ae,_,sr,h,fun _ _ _ _ _ _ _ z=>z,k2,k3,fun v H' av m d As s2 w2 r2 nd own q=>k4 v H' av m d As s2 w2 r2 nd own (wV r2 q),fun n H' s2 q hn C hC=>⟨n,C,rfl,hn,hC,s2,q⟩⟩
 refine wpAny_execs_cons (wpAny_Try_except (pj Bn (fun f s1 hs=>?_) fun e s' hx=>?_))
 ·have hs:=SP.lg hs sp0
  cases f with
  |next =>
   obtain⟨bp,H',I',q⟩:=hs
   exact q.elim
  |brk=>exact hs
  |cont=>exact hs
  |ret u=>exact hs
 ·obtain⟨mM,bp,H1,s1,I1,a,n',C,a0,H',B,rfl,Rm,os,bare,un,aT,D6,cov,fr,n,C2,eC,hn,qh,sm,hq⟩:=hx
  cases eC
  obtain⟨xc,Tr⟩:=sub n C hn qh
  obtain⟨Tz,g',d',t',RH⟩:=s'
  obtain rfl:RH=s1.os:=os
  have eo':Heap.FlyingW B (X.env :: X.outer) a (.ref C) a0 Tz:=kE ▸ D6
  have th:∀ b o,s1.heap.get? b=some o->∃ o',Tz.get? b=some o':=fun b o e=>un.there b o e (by simp)
  refine wpAny_looks_onW (kE ▸ I.ok.frames) hf eo' fun h4 held up4=>wpAny_landsW held fun h5 Ql up5=>?_
  have TB:eX (fe X.stack) H' s1.heap Tz h5:=eX.of cov Ql.1 (up4.trans up5) D6.2.2.1
  have XR:=cov.next TB aT th
  have TC:=TB.un un
  have TF:=TB.aT fr aT
  have I5:Inv (gf X (X.pn++pins) X.xe) mM bp H' ⟨h5,g',d',t',s1.os⟩:=I1.call (h':=h5) (g':=g') (d':=d') (t':=t') (ch:=[]) TC TF bare (fun b z=>absurd z (by simp))
  refine wpAny_handleBy_cons (codeAny_handlers_test ?_) (by intro q;cases q)
  refine OW (X:=Cb X (X.pn++pins) a) (pins:=mM) (Inv.Cb I5 fun p hp=>I5.pin p hp) hg hm ?_ iP
  refine qR xc xr Tr I5.kr Ql.there (codeAny_handlers_suite_as ?_)
  refine lands_againW Ql fun h6 Qm up6=>?_
  have ff5:h5.FunFrames B X.stack:=kE ▸ Ql.2.2.1
  have TH:eX (fe X.stack) H' s1.heap h5 h6:=eX.of XR Qm.1 up6 ff5
  have un6:=TH.un TC
  have ew':=TH.aT fr TF
  have I6:Inv (gf X (X.pn++pins) X.xe) mM bp H' ⟨h6,g',d',t',s1.os⟩:=I1.call (h':=h6) (g':=g') (d':=d') (t':=t') (ch:=[]) un6 ew' bare (fun b z=>absurd z (by simp))
  obtain⟨oe,vs,he,uk,NQ,_⟩:=Qm.first
  have nf:a∉fe X.stack:=fun z=>by
   have ff6:h6.FunFrames B X.stack:=kE ▸ Qm.2.2.1
   obtain⟨_,o,e1,d1⟩:=ff6.mem z
   rw[he] at e1;cases e1
   exact d1 vs NQ
  have na:H' a=none:=by
   cases z:H' a with
   |none=>rfl
   |some u =>
    have:=(XR.next TH TF fun b o e=>TC.there b o e (by simp)) a oe he (.inl (by rw[z];exact fun z=>nomatch z)) nf
    rw[Qm.2.1] at this;cases this
  have frm:∀ b,b∈fe X.stack↔b=X.env.locals\/b∈X.fs:=fun b=>by
   rw[kE];unfold fe;rw[y8,hf];exact cS
  have pa:CW X H' ⟨h6,g',d',t',s1.os⟩ (a,oe):=⟨he,na,fun z=>nf ((frm a).mpr (.inl z)),fun z=>nf ((frm a).mpr (.inr z)),fun v z=>by rw[NQ] at z;cases z⟩
  have I6h:Inv (Cb X ((a,oe) :: (X.pn++pins)) a) [] bp H' ⟨h6,g',d',t',s1.os⟩:=Inv.Cb I6 fun p hp=>by
   rw[nL] at hp
   rcases cS.mp hp with z|z
   ·rw[z];exact pa
   ·exact I6.pin p (kc _ z)
  refine Rk (X:=Cb X ((a,oe) :: (X.pn++pins)) a) (v:=.ref a) I6h hN hj (.inl hl) rfl (fun s7 I7 _=>?_) (.inr hl)
  refine pj (Rp (Rv (X:=Cb X ((a,oe) :: (X.pn++pins)) a) hN hi (.inl hy) (Ro hj (.inl hl) hd1 hd2) MZ (.inr hy)) [] s7 (bp.set j (some (.ref a))) H' { nx:=fun XS H8=>XS=(bp.set j (some (.ref a))).set i (some (.ref a))/\H8=H',rt:=fun _ _=>False } I7 ⟨.ref a,?_,rfl,rfl⟩) (fun f s8 hs=>?_) fun _ _ z=>z.elim
  ·rw[Oc (by rw[show bp.length=X.N.length from I1.len];exact(hV.mp hj).1)]
  cases f with
  |next =>
   obtain⟨XS,H8,I8,rfl,rfl⟩:=hs
   have I9:Inv (gf X ((a,oe) :: (X.pn++pins)) X.xe) [] _ H8 s8:=Inv.CN (X:=gf X ((a,oe) :: (X.pn++pins)) X.xe) I8 I.ok.hd fun p hp=>hp
   obtain⟨m,hn8,lk⟩:=id I9.loc
   refine wpAny_nameGoes_keeps hl hn8 (by rw[I9.ok.kind];rfl) fun h9 v hn9 sb=>?_
   refine cq (hk ((a,oe) :: (X.pn++pins)) a oe n C hn qh xc cf uk [] _ _ H8 D (Inv.Jd I9 hN hj lk hn9 sb) ⟨H8,ρk a,[],E,⟨?_,⟨aC.refl _,fun _ _ e=>e⟩,oq,fun a h=>nomatch h⟩,hq a,
    fun gy H2 ay eS df s2=>k1 gy H2 ay eS df (sm.trans s2),fun gy H2 ay eS df s2=>k2 gy H2 ay eS df (sm.trans s2),fun gy H2 ay eS df s2=>k3 gy H2 ay eS df (sm.trans s2),fun v H2 ay m d As s2=>k4 v H2 ay m d As (sm.trans s2),fun n H2 s2=>kx n H2 (sm.trans s2)⟩) fun f Wi hs=>SP.lg hs fun p hp=>kc _ (cc _ hp)
   rw[List.set_comm _ _ gi,List.set_set,hρ a,show X.N.length=(bp.set j none).length by rw[List.length_set];exact I1.len.symm]
   exact SR.exc (bp.set j none) i
  |brk=>obtain⟨_,_,_,z⟩:=hs;exact z.elim
  |cont=>obtain⟨_,_,_,z⟩:=hs;exact z.elim
  |ret u=>obtain⟨_,_,_,_,_,z⟩:=hs;exact z.elim
end L2.Q
namespace L2.Q.R
open PySem PySem.Spec PyProof.Rows L2.Q
theorem KN{E:jw}{ρ:Env}{t:WS}{ρk:Addr->Env}{wr:Addr->Str->WS}:CP t ρk wr E ρ=t { E with nx:=fun _=>False,rt:=fun m d=>vw m d (fun n=>∀ a,wr a n E (ρk a)) (E.rt m d) } ρ:=rfl
end L2.Q.R
namespace L2.Q
open PySem PySem.Spec PyProof.Rows
def NR(m:Md)(d:D)(S:D->D->Prop)(O:D->D->Prop):Prop:=match m,d with
 |.sh,.tup [a,b]=>S a b
 |.ow true,.tup [a,b]=>a.flat=false/\b.flat=false/\O a b
 |_,_=>False
def Cv(i j:Nat)(te:WE):WS:=fun E ρ=>te ρ fun m d=>NR m d (fun a b=>E.nx ((ρ.set i (some (.sh a))).set j (some (.sh b)))) fun a b=>E.nx ((ρ.set i (some (.ow true a))).set j (some (.ow true b)))
theorem BJ{X:Cx}{K:PySem.W.Frag}{L:Str->Hp->Prop}{e:Expr}{te:WE}{i j:Nat}{x y:Str}{k:Nat}{p1 p2 p3 pos:Pos}(hc:X.calm=true)(hN:X.N.Nodup)(hi:X.N[i]? = some x)(hx:Loc X.env.scope x)(hj:X.N[j]? = some y)(hy:Loc X.env.scope y)(he:QE X K e te)(hK:X.K=K:=by rfl)
  (hf:X.fn x=true\/X.env.scope.names.lookup x=some .local:=by first|exact .inl rfl|exact .inr rfl|assumption) (hf2:X.fn y=true\/X.env.scope.names.lookup y=some .local:=by first|exact .inl rfl|exact .inr rfl|assumption)
  (hn:(assignEach [.Name x p1,.Name y p2] X.env).length=2:=by rfl) (kE:(assignEach [.Name x p1,.Name y p2] X.env).findIdx? (·.1)=none:=by rfl)
  (hs:swapsWithSole [.Tuple [.Name x p1,.Name y p2] k p3] e pos.line X.env=pure false:=by rfl) (hw:swappedStores [.Tuple [.Name x p1,.Name y p2] k p3] e X.env=pure none:=by rfl)
  (h1:(assignEach [.Tuple [.Name x p1,.Name y p2] k p3] X.env).map (·.2)=[assign (.Tuple [.Name x p1,.Name y p2] k p3) X.env]:=by rfl) (h2:(assignEach [.Name x p1,.Name y p2] X.env).map (·.2)=assign (.Name x p1) X.env :: (assignEach [.Name y p2] X.env).map (·.2):=by rfl)
  (h3:(assignEach [.Name y p2] X.env).map (·.2)=assign (.Name y p2) X.env :: (assignEach [] X.env).map (·.2):=by rfl) :
  QS X K L (.Assign [.Tuple [.Name x p1,.Name y p2] k p3] e pos) (Cv i j te):=by
 subst hK
 refine PS.imp (Zr he (Vo hc (Rt (Rr hN hi hx hf) (Rt (Rr hN hj hy hf2) Vn h3) h2) hn kE) hs hw h1) fun D σ H hx=>gj hx fun Hs ρ ae E sr h k1 k2 k3 k4=>?_
 refine⟨Hs,ρ,ae,_,sr,h,fun v H1 aE m d As g1 r1 f1 q1=>?_⟩
 have Qn:=sr.grow g1
 unfold NR at q1
 split at q1
 ·rename_i a b
  obtain⟨_,r⟩:=r1
  cases r with
  |tup z e rs =>
   cases rs with
   |cons ra rs=>cases rs with
    |cons rb rs=>cases rs with
     |nil =>
      obtain⟨t1,m1,s1⟩:=Qn.Cz i ra
      obtain⟨t2,m2,s2⟩:=s1.Cz j rb
      exact⟨_,_,rfl,.inl (.inl (g1.wf.sub _ _ e)),rfl,_,_,rfl,_,_,rfl,rfl,k1 _ H1 aE _ t2 g1.sh s2 q1⟩
 ·rename_i a b
  obtain⟨fa,fb,q1⟩:=q1
  obtain⟨r,ne⟩:=r1
  cases r with
  |sh _ _=>exact absurd rfl ne
  |tup z e n rs =>
   cases rs with
   |@cons _ v1 _ _ A1 _ ra rs=>cases rs with
    |@cons _ v2 _ _ A2 _ rb rs=>cases rs with
     |nil =>
      obtain⟨nd,fr⟩:=f1
      rw[nL] at nd fr
      obtain⟨n1,n2,n3⟩:=i7.mp nd
      have dj:∀ c∈A1++A2,c∉ae:=fun c hc z=>(sr.sr.own c z).ne (fr c hc).2
      obtain⟨t1,a1,b1,c1⟩:=SR.wR (ra.ne fa) ra n1 i Qn.sr Qn.sQ fun c hc=>dj c (kc _ hc)
      obtain⟨t2,a2,b2,c2⟩:=SR.wR (rb.ne fb) rb n2 j c1 a1 fun c hc z=>by
       rcases b1 c z with w|w
       ·exact dj c (fh _ hc) w
       ·exact n3 c w c hc rfl
      refine⟨_,_,rfl,.inl (.inl (g1.wf.sub _ _ e)),rfl,_,_,rfl,_,_,rfl,rfl,k1 _ H1 aE _ t2 g1.sh ⟨c2,g1.wf,a2,fun c hc=>?_⟩ q1⟩
      rcases b2 c hc with w|w
      ·rcases b1 c w with w|w
       ·exact Qn.own c w
       ·exact(fr c (kc _ w)).1
      ·exact(fr c (fh _ w)).1
 ·exact q1.elim
end L2.Q
namespace L2.Q.R
open PySem PySem.Spec PyProof.Rows L2.Q
section
variable {E:jw}{ρ:Env}{te:WE}{i j:Nat}{x y:L2.Q.D}{S O:L2.Q.D->L2.Q.D->Prop}
theorem JN:Cv i j te E ρ=te ρ fun m d=>bS (m,d) (f:=fun p=>NR p.1 p.2 (fun a b=>E.nx ((ρ.set i (some (.sh a))).set j (some (.sh b)))) fun a b=>E.nx ((ρ.set i (some (.ow true a))).set j (some (.ow true b)))) ⟨⟩:=rfl
theorem HX:NR .sh (.tup [x,y]) S O=S x y:=rfl
theorem Jt:NR (.ow true) (.tup [x,y]) S O=(x.flat=false/\y.flat=false/\O x y):=rfl
end
end L2.Q.R
namespace L2
open PySem PySem.Spec PyProof.Rows Builtin Builtin.Str Builtin.Int
end L2
namespace L2.Q
open PySem PySem.Spec PyProof.Rows
section
variable {X:Cx}{K:PySem.W.Frag}{a:Expr}{ta:WE}
def TJ(t:WE):WE:=fun ρ Q=>t ρ fun m d=>lY m/\Q .sh d
theorem eC'(h:QE X K a ta):QE X K a (TJ ta):=by
 refine PE.imp h fun σ H Qv hx=>i3 hx fun Hs ρ ae Q sr h fin=>?_
 refine⟨Hs,ρ,ae,_,sr,h,fun v H1 aE m d As g1 r1 f1 q1=>?_⟩
 obtain⟨nb,q⟩:=q1
 cases m with
 |sh=>exact fin v H1 aE .sh d As g1 r1 f1 q
 |bo=>exact nb.elim
 |ow fl =>
  obtain⟨r,ne⟩:=r1
  have hn:∀ a∈As,aE a=none:=fun a h=>(f1.2 a h).1
  have s:=gO (H:=H1) hn
  refine fin v H1 (tj aE H1 As) .sh d [] ⟨g1.all,g1.sh.trans s,vZ g1.wf r.own,fun c hc=>?_⟩ ⟨rfl,r.rep s fun c hc=>by unfold tj;rw[if_pos hc]⟩ ⟨oq,fun _ h=>B1 h⟩ q
  unfold tj at hc
  split at hc
  ·rename_i m
   exact .inr (f1.2 c m).2
  ·exact g1.new c hc
def Ct(ys:List D)(x:D):Bool:=ys.any fun z=>gS z x
def Qo(neg:Bool):W2:=fun _ x _ y Q=>∃ ys,(y=.list ys\/y=.tup ys)/\ck 12 x=true/\ck 12 y=true/\Q .sh (.bl (if neg then !Ct ys x else Ct ys x))
def TK(K:PySem.W.Frag)(neg:Bool):R2:=fun x y H Q=>∃ d e xs,L2.Rep K H d x/\L2.Rep K H e y/\(e=.list xs\/e=.tuple xs)/\d.canLay0=true/\PyData.canLayAll0 xs=true/\d.depth<=60/\Q (.bl (if neg then !(xs.any fun z=>PyData.eqv z d) else xs.any fun z=>PyData.eqv z d)) H
theorem xU(hu:X.A.units+64<cLine):cE X (compareOp .NotIn) (TK X.K true):=by
 intro pins s σ H x y v u Q I rx ry h
 obtain⟨d,e,xs,h1,h2,h3,h4,h5,h6,q⟩:=h
 obtain⟨as,r1⟩:=h1.reads I rx
 obtain⟨bs,r2⟩:=h2.reads I ry
 rcases h3 with rfl|rfl
 ·exact PySem.SeqAt.notIn_list_reads r2 r1 h5 h4 (by lia) ⟨.bl _,H,I,rfl,q⟩
 ·exact PySem.SeqAt.notIn_tuple_reads r2 r1 h5 h4 (by lia) ⟨.bl _,H,I,rfl,q⟩
theorem Dy(hu:X.A.units+64<cLine)(hK:X.K=K:=by rfl):cE X (compareOp .NotIn) (TK K true):=by subst hK;exact xU hu
theorem BK(ys:List D)(x:D):((kU ys).any fun z=>PyData.eqv z x.py)=Ct ys x:=by
 induction ys with
 |nil=>rfl
 |cons y ys ih =>
  rw[kU,AY,ih]
  rfl
theorem Fz{neg:Bool}:jS K (TK K neg) (Qo neg):=by
 intro Hs H m x v As n y u Bs Qd Qv w rx ry h f
 obtain⟨ys,hy,o1,o2,q⟩:=h
 have l1:=jo 12 x o1
 have l2:=jo 12 y o2
 refine⟨x.py,y.py,kU ys,(rx.rep w).l2 o1,(ry.rep w).l2 o2,?_,l1.1,?_,by lia,?_⟩
 ·rcases hy with rfl|rfl
  ·exact .inl rfl
  ·exact .inr rfl
 ·rcases hy with rfl|rfl
  ·exact l2.1
  ·exact l2.1
 ·rw[BK]
  exact f.sh w (.bl _) q
def FL(o:Option (Option Sl))(k:List D->Prop):Prop:=match o with
 |some (some (.ow true (.list xs)))=>k xs
 |_=>False
def intD(y:D)(k:Int->Prop):Prop:=match y with
 |.int i=>k i
 |_=>False
def eD'(d:D):Md:=bif d.flat then .sh else .ow true
end
end L2.Q
namespace L2.Q.R
open PySem PySem.Spec PyProof.Rows L2.Q
section
variable {ρ:Env}{te:WE}{m m':Md}{x:L2.Q.D}{ys:List L2.Q.D}{Q:Md->L2.Q.D->Prop}
theorem Ke{k:List L2.Q.D->Prop}:FL (some (some (.ow true (.list ys)))) k=k ys:=rfl
theorem JW{i:Int}{k:Int->Prop}:intD (.int i) k=k i:=rfl
theorem eE':TJ te ρ Q=te ρ fun m d=>lY m/\Q .sh d:=rfl
theorem JX{neg:Bool}:Qo neg m x m' (.list ys) Q=(ck 12 x=true/\ck 12 (.list ys)=true/\Q .sh (.bl (if neg then !Ct ys x else Ct ys x))):=by
 apply propext
 exact⟨fun⟨zs,h,a,b,c⟩=>by rcases h with h|h<;>cases h;exact⟨a,b,c⟩,fun⟨a,b,c⟩=>⟨ys,.inl rfl,a,b,c⟩⟩
theorem JV{neg:Bool}:Qo neg m x m' (.tup ys) Q=(ck 12 x=true/\ck 12 (.tup ys)=true/\Q .sh (.bl (if neg then !Ct ys x else Ct ys x))):=by
 apply propext
 exact⟨fun⟨zs,h,a,b,c⟩=>by rcases h with h|h<;>cases h;exact⟨a,b,c⟩,fun⟨a,b,c⟩=>⟨ys,.inr rfl,a,b,c⟩⟩
end
end L2.Q.R
namespace L2
open PySem PySem.Spec PyProof.Rows
end L2
namespace L2.Q
open PySem PySem.Spec PyProof.Rows
section
variable {X:Cx}{K:PySem.W.Frag}{a b:Expr}{ta tb tc:WE}{apos dr:Pos}
def TL(x:D)(f:List (Key × D)->Prop)(g:List (List Key × D)->Prop):Prop:=match x with
 |.dK kvs=>f kvs
 |.dT kvs=>g kvs
 |_=>False
def Qp(y:D)(k:List D->Prop):Prop:=match y with
 |.tup ys=>k ys
 |_=>False
def D7(o:Option D)(m n:Md)(z:D)(Q:Md->D->Prop):Prop:=match o with
 |some d=>Q (kX m d) d
 |none=>Q n z
def K2(ta tb tc:WE):WE:=fun ρ Q=>ta ρ fun m x=>TL x (fun kvs=>tb ρ fun _ y=>tc ρ fun n z=>∃ k,y.key1=some k/\D7 (dP kvs k) m n z Q)
 (fun kvs=>tb ρ fun _ y=>tc ρ fun n z=>Qp y fun ys=>∃ ks,eE ys=some ks/\D7 (dP kvs ks) m n z Q)
theorem yt{σ:St}{H:Hp}{Qv:VK}(hx:kS K (K2 ta tb tc) σ H Qv):bi' (kS K ta) (kS K tb) (kS K tc) σ H Qv:=i3 hx fun Hs ρ ae Q sr h fin=>by
 refine⟨Hs,ρ,ae,_,sr,h,fun v H1 aE m x As g1 r1 f1 q1=>?_⟩
 have got:∀ {o:Option V} {d? : Option D} {H2 H3 ay eh:Hp} {w:V} {n:Md} {z:D} {Cs:List Addr},eL aE H1 ay H2->eL ay H2 eh H3->RM K eh H3 n z w Cs->cU eh H2 Cs->(match d? with
   |some d=>∃ v,o=some v/\Rep K H3 d v/\(m=.sh->Rep K eh d v)
   |none=>o=none)->D7 d? m n z Q->Qv (o.getD w) H3:=by
  intro o d? H2 H3 ay eh w n z Cs g2 g3 r3 f3 l q
  cases d? with
  |none=>rw[show o=none from l];exact fin w H3 eh n z Cs ((g1.trans g2).trans g3) r3 (f3.of (g1.trans g2).all) q
  |some d =>
   obtain⟨v',e,u1,u2⟩:=l
   rw[e]
   exact(Fin.after fin ((g1.trans g2).trans g3)).kX g3.wf u1 u2 q
 have core:∀ G:Hp,aC G H1->(∀ H3 eh,eL aE H1 eh H3->∀ d v,Rep K G d v->Rep K H3 d v/\(m=.sh->Rep K eh d v))->Rep K G x v->∃ a,v=.ref a/\Pn H1 a/\kS K tb σ H1 fun y H2=>kS K tc σ H2 fun z H3=>∃ o,kL H3 a y o/\Qv (o.getD z) H3:=by
  intro G sg up r
  cases r with
  |dK kk s q =>
   refine⟨_,rfl,.inl ⟨_,aC.rd sg s⟩,aE,ρ,ae,_,sr.grow g1,q1,fun u H2 ay n y Bs g2 r2 f2 q2=>⟨ay,ρ,ae,_,(sr.grow g1).grow g2,q2,fun w H3 eh n3 z Cs g3 r3 f3 q3=>?_⟩⟩
   have ry:=(r2.grow g3).rep g3.wf
   obtain⟨k,hk,q4⟩:=q3
   have ev:=ry.key hk
   subst ev
   refine⟨_,kL.k' (aC.rd (g2.trans g3).all (aC.rd sg s)),got g2 g3 r3 f3 ?_ q4⟩
   have z:=zip_get (k:=k) q
   split
   ·rename_i d e
    rw[e] at z
    obtain⟨v',e',r'⟩:=z
    exact⟨v',e',up _ _ (g2.trans g3) _ _ r'⟩
   ·rename_i e
    rw[e] at z
    exact z
  |dT kk s q =>
   refine⟨_,rfl,.inr ⟨_,aC.rd sg s⟩,aE,ρ,ae,_,sr.grow g1,q1,fun u H2 ay n y Bs g2 r2 f2 q2=>⟨ay,ρ,ae,_,(sr.grow g1).grow g2,q2,fun w H3 eh n3 z Cs g3 r3 f3 q3=>?_⟩⟩
   have ry:=(r2.grow g3).rep g3.wf
   cases ry with
   |tup t2 e2 p2 =>
    obtain⟨k,hk,q4⟩:=q3
    obtain⟨b',eb,e3⟩:=Rep.mn (.tup t2 e2 p2) hk
    cases eb
    refine⟨_,kL.t' (aC.rd (g2.trans g3).all (aC.rd sg s)) e3,got g2 g3 r3 f3 ?_ q4⟩
    have z:=zip_get (k:=k) q
    split
    ·rename_i d e
     rw[e] at z
     obtain⟨v',e',r'⟩:=z
     exact⟨v',e',up _ _ (g2.trans g3) _ _ r'⟩
    ·rename_i e
     rw[e] at z
     exact z
   |_=>exact q3.elim
  |_=>exact q1.elim
 rcases r1.here g1.wf with⟨hm,r⟩|⟨hm,r⟩
 ·exact core aE g1.wf.sub (fun H3 eh g d v q=>⟨q.same (g1.wf.sub.trans g.all),fun _=>q.same g.sh⟩) r
 ·exact core H1 (aC.refl H1) (fun H3 eh g d v q=>⟨q.same g.all,fun z=>absurd z hm⟩) r
theorem wM (hu:X.A.units+64<cLine) (ha:QE X K a ta) (hb:QE X K b tb) (hm:M1 X a "get" apos b dr:=by exact⟨rfl,rfl,rfl,rfl⟩):QE X K (.Call (.Attribute a "get" apos) [b] [] dr) (K2 ta tb (wC .non)) :=
 PE.imp (bj' (by lia) ha hb hm) fun σ H Qv hx=>sZ (yt hx) fun x H1 ⟨a,e,d,q⟩=>⟨a,e,d,sZ q fun y H2 q2=>i3 q2 fun Hs ρ ae Q sr q f=>f .non H2 Hs .sh .non [] (eL.refl sr.wf) ⟨rfl,.non⟩ ⟨oq,fun _ h=>B1 h⟩ q⟩
def eF'(o:Option (Option Sl))(k:List (List Key × D)->Prop):Prop:=match o with
 |some (some (.ow true (.dT kvs)))=>k kvs
 |_=>False
end
end L2.Q
namespace L2
open PySem PySem.Spec PyProof.Rows
end L2
namespace L2.Q
open PySem PySem.Spec PyProof.Rows
section
variable {K:PySem.W.Frag}{a b c:Expr}
theorem SR.take{Hs H:Hp}{ρ:Env}{σ:St}{ae:List Addr}(i:Nat){fl:Bool}{d:D}(s:SR K Hs H ρ σ ae):ρ[i]? = some (some (.ow fl d))->ae.Nodup ->
  ∃ (v:V) (As bX:List Addr),σ[i]? = some (some v)/\bI K Hs H fl d v As/\As.Sublist ae/\bX.Sublist ae/\(∀ a∈As,a∉bX)/\SR K Hs H (ρ.set i none) σ bX:=by
 induction s generalizing i with
 |nil=>intro e;simp at e
 |non q ih =>
  intro e n
  cases i with
  |zero=>simp at e
  |succ i =>
   obtain⟨v,As,t,o,a,b,c,d,f⟩:=ih i e n
   exact⟨v,As,t,o,a,b,c,d,.non f⟩
 |sh r q ih =>
  intro e n
  cases i with
  |zero=>simp at e
  |succ i =>
   obtain⟨v,As,t,o,a,b,c,d,f⟩:=ih i e n
   exact⟨v,As,t,o,a,b,c,d,.sh r f⟩
 |xc q ih =>
  intro e n
  cases i with
  |zero=>simp at e
  |succ i =>
   obtain⟨v,As,t,o,a,b,c,d,f⟩:=ih i e n
   exact⟨v,As,t,o,a,b,c,d,.xc f⟩
 |ow ne r q ih =>
  intro e n
  obtain⟨n1,n2,n3⟩:=i7.mp n
  cases i with
  |zero =>
   simp at e
   obtain⟨rfl,rfl⟩:=e
   exact⟨_,_,_,rfl,r,LN _ _,px _ _,fun a h m=>n3 a h a m rfl,.non q⟩
  |succ i =>
   obtain⟨v,As,t,o,a,b,c,d,f⟩:=ih i e n2
   exact⟨v,As,_,o,a,b.trans (px _ _),c.append_left _,nj n b d,.ow ne r f⟩
 |lk ne r q ih =>
  intro e n
  obtain⟨n1,n2,n3⟩:=i7.mp n
  cases i with
  |zero=>simp at e
  |succ i =>
   obtain⟨v,As,t,o,a,b,c,d,f⟩:=ih i e n2
   exact⟨v,As,_,o,a,b.trans (px _ _),c.append_left _,nj n b d,.lk ne r f⟩
theorem Az{o:Option (Option Sl)}{k:List D->Prop}(h:FL o k):∃ xs,o=some (some (.ow true (.list xs)))/\k xs:=by
 unfold FL at h
 split at h
 ·exact⟨_,rfl,h⟩
 ·exact h.elim
theorem Cu{i j:Nat}(gi:i≠j){Hs H:Hp}{ρ:Env}{σ:St}{ae:List Addr}{hs xs:List D}(sr:dv K Hs ρ σ H ae)(ei:ρ[i]? = some (some (.ow true (.list hs))))(ej:ρ[j]? = some (some (.ow true (.list xs))))
  (fl:cv xs=true) (Qg:hs.length<sizeLine) :
  ∃ a ws c vs df,σ[i]? = some (some (.ref a))/\H a=some (.lst ws)/\ws.length<sizeLine/\σ[j]? = some (some (.ref c))/\upd H a (.lst (ws++[.ref c])) c=some (.lst vs)/\aI K Hs xs vs/\vs.length<=sizeLine /\
   dv K Hs ((ρ.set j none).set i (some (.ow true (.list (hs++[.list xs]))))) σ (upd H a (.lst (ws++[.ref c]))) df:=by
 obtain⟨v,As,bX,e1,r,sb,st,dj,s1⟩:=SR.take j sr.sr ej sr.sQ
 have ei':(ρ.set j none)[i]? = some (some (.ow true (.list hs))):=by rw[GO (Ne.symm gi)];exact ei
 obtain⟨u,Ai,_,e2,ne,ri,si,g⟩:=SR.put i s1 ei' (st.nodup sr.sQ)
 cases r with
 |sh hf _=>exact absurd (hf rfl) (by simp[D.flat])
 |@list c vs _ B hz ec rs =>
  cases ri with
  |sh _ _=>exact absurd rfl ne
  |@list a ws _ A hw ea ra =>
   have XT:c≠a:=fun z=>dj c cf (si.subset (z ▸ cf))
   have nd1:=si.nodup (st.nodup sr.sQ)
   obtain⟨na,nA⟩:=ly.mp nd1
   have ndj:=sb.nodup sr.sQ
   have dA:∀ x∈c :: B,x∉a :: A:=fun x hx m=>dj x hx (si.subset m)
   have nB:∀ x∈c :: B,x≠a:=fun x hx z=>dA x hx (z ▸ cf)
   have hl:=ra.length
   have r3:bI K Hs (upd H a (.lst (ws++[.ref c]))) true (.list (hs++[.list xs])) (.ref a) (a :: (A++((c :: B)++[]))):=by
    refine .list (by rw[tS,<- hl];exact Qg) ki ((ra.eM (H':=upd H a (.lst (ws++[.ref c]))) (aC.refl _) fun b hb=>eJ fun z=>na (by subst z;exact hb)).append (.cons (.list hz ((eJ XT).trans ec) (rs.eM (aC.refl _) fun b hb=>eJ (nB b (cc _ hb)))) .nil))
   obtain⟨df,n2,i2,s2⟩:=g Hs _ true _ _ (aC.refl _) r3 (by simp) (ly.mpr ⟨fun m=>(dy.mp m).elim na fun m=>nB a (by simpa using m) rfl,i7.mpr ⟨nA,by simpa using ndj,fun x hx y hy e=>dA y (by simpa using hy) (e ▸ cc _ hx)⟩⟩)
    (fun b hb m=>by
     rcases cS.mp hb with rfl|hb
     ·exact cf
     ·rcases dy.mp hb with hb|hb
      ·exact cc _ hb
      ·exact absurd m (dj b (by simpa using hb)))
    (fun b _ nb=>eJ fun z=>nb (z ▸ cf))
   have Ha:Hs a=none:=sr.own a (st.subset (si.subset cf))
   refine⟨a,ws,c,vs,df,e2,ea,by lia,e1,(eJ XT).trans ec,(rs.reps sr.wf.sub fun _ _=>rfl).jf sr.wf.ja fl,hz,s2,vM sr.wf Ha (fun _ z=>nomatch z),n2,fun b hb=>?_⟩
   rcases i2 b hb with m|m
   ·exact sr.own b (st.subset m)
   ·rcases cS.mp m with rfl|m
    ·exact Ha
    ·rcases dy.mp m with m|m
     ·exact sr.own b (st.subset (si.subset (cc _ m)))
     ·exact sr.own b (sb.subset (by simpa using m))
end
end L2.Q
namespace L2.Q.R
open PySem PySem.Spec PyProof.Rows L2.Q
section
variable {ρ:Env}{te tb tc:WE}{m:Md}{x y:L2.Q.D}{ys:List L2.Q.D}{Q:Md->L2.Q.D->Prop}{k:Nat}
theorem K9:K2 te tb tc ρ Q=te ρ fun m x=>bS x (f:=fun x=>TL x (fun kvs=>tb ρ fun _ y=>tc ρ fun n z=>∃ k,y.key1=some k/\D7 (dP kvs k) m n z Q)
 (fun kvs=>tb ρ fun _ y=>tc ρ fun n z=>bS y (f:=fun y=>Qp y fun ys=>∃ ks,eE ys=some ks/\D7 (dP kvs ks) m n z Q) ⟨⟩)) ⟨⟩:=rfl
theorem Lh{kvs:List (List Key × L2.Q.D)}{f:List (Key × L2.Q.D)->Prop}{g:List (List Key × L2.Q.D)->Prop}:TL (.dT kvs) f g=g kvs:=rfl
theorem Lp{k:List L2.Q.D->Prop}:Qp (.tup ys) k=k ys:=rfl
theorem K_{kvs:List (List Key × L2.Q.D)}{k:List (List Key × L2.Q.D)->Prop}:eF' (some (some (.ow true (.dT kvs)))) k=k kvs:=rfl
end
end L2.Q.R
namespace L2
open PySem PySem.Spec PyProof.Rows
section
variable {X:Cx}
def Qq(K:PySem.W.Frag):List V->Hp->VK->Prop:=fun xs H Q=>match xs with
 |[.ref a]=>∃ bs:List Bool,dQ K H a (bs.map V.bl)/\Q (.bl (bs.any id)) H
 |_=>False
theorem wQ (hc:X.calm=true):iO X (.builtin "any") (Qq X.K):=by
 intro pins s σ H xs us Q I r h
 unfold Qq at h
 split at h
 ·rename_i a
  obtain⟨bs,e,q⟩:=h
  obtain⟨u,rfl,ru⟩:=Vals.one r
  cases ru
  obtain⟨its,rv,pl,hz⟩:=I.list e
  have hl:s.heap.IsList a its.toArray:=pl.isList
  obtain⟨o,ho,OV,n,E7⟩:=id hl
  have hlen:=rv.length
  rw[cK] at hlen
  refine call_any_walk (wpAny_pyIter_list hl ?_)
  have jv:a≠s.heap.objs.size:=eI (dk ho)
  have Qh:X.A.in1.handled=none:=I.ok.hd hc
  refine⟨s.heap.objs.size,_,_,_,_,_,fun i=>bs.getD i false,rfl,Walks.list Qh s.heap.objs.size a jv its.toArray,⟨⟨_,i9 _ rfl,rfl,rfl⟩,⟨_,eW _ ho,OV,n,E7⟩⟩,?_,fun h' tk hk=>?_⟩
  ·intro i v s' Q' E' hv hq
   have tF:its[i]? = some v:=by simpa using (show its.toArray[i]? = some v from hv)
   have hi:i<bs.length:=by
    have:=(hV.mp tF).1
    lia
   obtain⟨w',e1,r1⟩:=rv.get (i:=i) (x:=V.bl bs[i]) (by simp[hi])
   rw[tF] at e1
   cases e1
   cases (show v=Value.bool bs[i] from r1)
   have hq:Q' (bs.getD i false) s':=hq
   rw[show bs.getD i false=bs[i] by simp[List.getD,hi]] at hq
   exact wpAny_truthy_bool hq
  ·have e3:((List.range its.toArray.size).any fun i=>bs.getD i false)=bs.any id:=by
    rw[kf,<- hlen]
    apply xA.mpr
    simp only[EJ,rq,id]
    constructor
    ·rintro⟨i,hi,h⟩
     exact⟨bs[i],CY hi,by simpa[List.getD,hi] using h⟩
    ·rintro⟨b,hb,h⟩
     obtain⟨i,hi,rfl⟩:=QQ.mp hb
     exact⟨i,hi,by simpa[List.getD,hi] using h⟩
   rw[e3]
   refine⟨.bl (bs.any id),H,?_,rfl,q⟩
   exact I.kept (t':=tk) fun b o e=>hk b o (by simp;exact eI (dk e)) (eW _ e)
 ·exact h.elim
end
end L2
namespace L2.Q
open PySem PySem.Spec PyProof.Rows
section
variable {X:Cx}{K:PySem.W.Frag}
theorem XU (hc:X.calm=true:=by rfl) (hK:X.K=K:=by rfl):iO X (.builtin "any") (Qq K):=by subst hK;exact wQ hc
theorem Ak:bootBuiltins "any" = some (.builtin "any"):=by decide +kernel
def Qr:W1:=fun _ x Q=>match x with
 |.list xs=>∃ bs:List Bool,xs=bs.map D.bl/\Q .sh (.bl (bs.any (fun b=>b)))
 |_=>False
theorem Bt:AO K (Qq K) Qr:=by
 intro Hs H m x v As Qd Qv w rx h f
 have r1:=rx.rep w
 cases r1 with
 |list z s q =>
  obtain⟨bs,rfl,h⟩:=h
  cases Gp q
  exact⟨bs,s,f.sh w (.bl _) h⟩
 |_=>exact h.elim
theorem wU:bootBuiltins "int" = some (.type "int"):=by decide +kernel
def Qs:W1:=fun _ x Q=>match x with
 |.int i=>Q .sh (.int i)
 |.bl b=>Q .sh (.int (if b then 1 else 0))
 |_=>False
theorem Hn:AO K (fun xs H Q=>(∃ i,xs=[.int i]/\Q (.int i) H)\/∃ k,xs=[.bl k]/\Q (.int (if k then 1 else 0)) H) Qs:=by
 intro Hs H m x v As Qd Qv w rx h f
 have r1:=rx.rep w
 cases r1 with
 |int i=>exact .inl ⟨i,rfl,f.sh w (.int _) h⟩
 |bl b=>exact .inr ⟨b,rfl,f.sh w (.int _) h⟩
 |_=>exact h.elim
end
end L2.Q
namespace L2.Q.R
open PySem PySem.Spec PyProof.Rows L2.Q
section
variable {m:Md}{Q:Md->L2.Q.D->Prop}{xs:List L2.Q.D}{k:List L2.Q.D->Prop}
def eJ'(d:L2.Q.D)(k:List L2.Q.D->Prop):Prop:=match d with
 |.list xs=>k xs
 |_=>False
theorem Li:eJ' (.list xs) k=k xs:=rfl
theorem JG{d z:L2.Q.D}{n:Md}:D7 (some d) m n z Q=Q (kX m d) d:=rfl
theorem K5{z:L2.Q.D}{n:Md}:D7 none m n z Q=Q n z:=rfl
theorem Ko{i:Int}:Qs m (.int i) Q=Q .sh (.int i):=rfl
theorem J5{b:Bool}:Qs m (.bl b) Q=Q .sh (.int (if b then 1 else 0)):=rfl
theorem Ls:Qr m (.list xs) Q = ∃ bs:List Bool,xs=bs.map L2.Q.D.bl/\Q .sh (.bl (bs.any (fun b=>b))):=rfl
end
end L2.Q.R
namespace PySem.SeqAt
open AutoSeq1 (wpAny_loadPart')
open MeetsSeq MeetsSeq2 MeetsSeq3 SeqRoads2
def nh(A:Around)(s:Shared)(u v:Value)(b:Bool):Prop:=∀ (prog:Program) (w:World) (Q:Value->Shared->Prop) (E:Value->Shared->Prop),Q (.bool b) s->wpAny (model prog w) A (richCompare .Lt u v) Q E s
def tI(e f:Nat->Bool)(m n:Nat):Nat->Nat->Bool
 |0,_=>decide (m<n)
 |k+1,i=>if e i then tI e f m n k (i+1) else f i
theorem yq(l b:Addr)(items cw:Array Value)(n n2:Nat)(dd rz:Option Addr)(sl rL:Array (Option Value))(e f:Nat->Bool)(k:Nat) :
  ∀ i:Nat,min items.size cw.size-i=k->i<=min items.size cw.size->Meets (Builtin.«list.__eq__.loop» ⟨[.ref l,.ref b,rawInt i,rawInt 0],[]⟩)
   (fun A R s=>s.heap.get? l=some { cls:=.type "list",dict:=dd,data:=.seq items n,slots:=sl }/\s.heap.get? b=some { cls:=.type "list",dict:=rz,data:=.seq cw n2,slots:=rL } /\
    (∀ j (h1:j<items.size) (h2:j<cw.size),EqAt A.in1 s items[j] cw[j] (e j))/\(∀ j (h1:j<items.size) (h2:j<cw.size),e j=false->nh A.in1 s items[j] cw[j] (f j)) /\
    R (.ok (.ret (.bool (tI e f items.size cw.size k i)))) s):=by
 induction k with
 |zero =>
  intro i hk hle prog w A R s h
  obtain⟨hp,g,d,tk,os⟩:=s;obtain⟨hl,hb,he,hf,h⟩:=h
  wp_walk using wpAny_loadPart' hl,wpAny_loadPart' hb
  rcases (show items.size<=i\/cw.size<=i by lia) with z|z
  ·have kF:items[((i:Nat):Int).toNat]? = none:=by simp;lia
   rw[kF]
   wp_walk using wpAny_loadPart' hl,wpAny_loadPart' hb
   exact h
  ·have hX:cw[((i:Nat):Int).toNat]? = none:=by simp;lia
   rw[hX]
   cases items[((i:Nat):Int).toNat]?<;>wp_walk using wpAny_loadPart' hl,wpAny_loadPart' hb<;>exact h
 |succ k ih =>
  intro i hk hle prog w A R s h
  obtain⟨hp,g,d,tk,os⟩:=s;obtain⟨hl,hb,he,hf,h⟩:=h
  wp_walk using wpAny_loadPart' hl,wpAny_loadPart' hb
  have da:i<items.size:=by lia
  have TN:i<cw.size:=by lia
  have kF:items[((i:Nat):Int).toNat]? = some items[i]:=by simp[da]
  have hX:cw[((i:Nat):Int).toNat]? = some cw[i]:=by simp[TN]
  have hc:((i:Int)+1)=((i+1:Nat):Int):=by push_cast;rfl
  rw[kF,hX]
  refine ai (he i da TN prog w _ _ ?_)
  cases FP:e i with
  |true =>
   rw[tI,FP,if_pos rfl] at h
   wp_walk
   rw[hc]
   exact⟨plainId_quiet plain_eq_loop _,codeAny_builtin entry_eq_loop (by
    rw[Around.under_plainId plain_eq_loop _]
    exact ih (i+1) (by lia) (by lia) prog w A R _ ⟨hl,hb,he,hf,h⟩)⟩
  |false =>
   rw[tI,FP,if_neg gV] at h
   wp_walk using wpAny_loadPart' hl,wpAny_loadPart' hb
   rw[kF,hX]
   refine ai (hf i da TN FP prog w _ _ ?_)
   wp_walk
   exact h
theorem wI(l b:Addr)(items cw:Array Value)(n n2:Nat)(dd rz:Option Addr)(sl rL:Array (Option Value))(e f:Nat->Bool) :
  Meets (Builtin.«list.__lt__» ⟨[.ref l,.ref b],[]⟩)
   (fun A R s=>s.heap.get? l=some { cls:=.type "list",dict:=dd,data:=.seq items n,slots:=sl }/\s.heap.get? b=some { cls:=.type "list",dict:=rz,data:=.seq cw n2,slots:=rL } /\
    (∀ j (h1:j<items.size) (h2:j<cw.size),EqAt A.in1 s items[j] cw[j] (e j))/\(∀ j (h1:j<items.size) (h2:j<cw.size),e j=false->nh A.in1 s items[j] cw[j] (f j)) /\
    R (.ok (.ret (.bool (tI e f items.size cw.size (min items.size cw.size) 0)))) s):=by
 intro prog w A R s h
 obtain⟨hp,g,d,tk,os⟩:=s;obtain⟨hl,hb,he,hf,h⟩:=h
 have f3:=AutoSeq1.sub_list_list
 wp_walk using wpAny_loadPart' hl,wpAny_loadPart' hb
 exact⟨plainId_quiet plain_eq_loop _,codeAny_builtin entry_eq_loop (by
  rw[Around.under_plainId plain_eq_loop _]
  exact yq l b items cw n n2 dd rz sl rL e f _ 0 (Nat.sub_zero _) (dz _) prog w A R _ ⟨hl,hb,he,hf,h⟩)⟩
theorem vd(l b:Addr)(items cw:Array Value)(n n2:Nat)(dd rz:Option Addr)(sl rL:Array (Option Value))(e f:Nat->Bool) :
  Meets (Builtin.«tuple.__lt__» ⟨[.ref l,.ref b],[]⟩)
   (fun A R s=>s.heap.get? l=some { cls:=.type "tuple",dict:=dd,data:=.seq items n,slots:=sl }/\s.heap.get? b=some { cls:=.type "tuple",dict:=rz,data:=.seq cw n2,slots:=rL } /\
    (∀ j (h1:j<items.size) (h2:j<cw.size),EqAt A.in1 s items[j] cw[j] (e j))/\(∀ j (h1:j<items.size) (h2:j<cw.size),e j=false->nh A.in1 s items[j] cw[j] (f j)) /\
    R (.ok (.ret (.bool (tI e f items.size cw.size (min items.size cw.size) 0)))) s) :=
 .of_wp fun prog w A R s h=>by
  obtain⟨hp,g,d,tk,os⟩:=s;obtain⟨hl,hb,he,hf,h⟩:=h
  have f2:=AutoSeq1.sub_tuple_tuple
  have hZ:(items.toList.zip cw.toList).length=min items.size cw.size:=by simp
  wp_walk using wpAny_loadPart' hl,wpAny_loadPart' hb,wpAny_forIn_list _ (fun rest b s'=>b.1=none/\s'=⟨hp,g,d,tk,os⟩/\∃ i,rest=(items.toList.zip cw.toList).drop i/\i<=min items.size cw.size /\
   R (.ok (.ret (.bool (tI e f items.size cw.size (min items.size cw.size-i) i)))) ⟨hp,g,d,tk,os⟩) _
  case turn =>
   rintro⟨y,x⟩ rest b s' ⟨FP,rfl,i,hz,hi,hR⟩
   have da:i<(items.toList.zip cw.toList).length:=by
    rcases xv i (items.toList.zip cw.toList).length with h'|h'
    ·exact h'
    ·rw[QK h'] at hz;cases hz
   have hm:i<min items.size cw.size:=hZ ▸ da
   have h1:i<items.size:=kP hm (Nat.min_le_left _ _)
   have h2:i<cw.size:=kP hm (Nat.min_le_right _ _)
   rw[xk da] at hz
   injection hz with XW eK'
   have hy:y=items[i]:=by have:=congrArg Prod.fst XW;simpa using this
   have hx:x=cw[i]:=by have:=congrArg Prod.snd XW;simpa using this
   subst hy hx
   rw[show min items.size cw.size-i=(min items.size cw.size-(i+1))+1 by lia,tI] at hR
   refine ai (he i h1 h2 prog w _ _ ?_)
   cases hy:e i with
   |true =>
    rw[hy,if_pos rfl] at hR
    wp_walk
    exact⟨rfl,rfl,i+1,eK',hm,hR⟩
   |false =>
    rw[hy,if_neg gV] at hR
    simp only[Bool.not_false,if_true]
    refine ai (wpAny_rule ?_)
    refine ai (hf i h1 h2 hy prog w _ _ ?_)
    wp_walk
    exact⟨_,rfl,hR⟩
  case fin =>
   rintro⟨b1,b2⟩ s' ⟨FP,rfl,i,hz,hi,hR⟩
   simp only at FP
   subst FP
   have oQ:min items.size cw.size<=i:=by
    rcases xv i (items.toList.zip cw.toList).length with h'|h'
    ·rw[xk h'] at hz;cases hz
    ·exact hZ ▸ h'
   rw[show min items.size cw.size-i=0 by lia,tI] at hR
   wp_walk
   exact⟨_,rfl,by simpa[Builtin.Tuple.tupleCompareSizes] using hR⟩
  case h =>
   exact⟨rfl,rfl,0,rfl,dz _,h⟩
section
variable {A:Around}{s:Shared}
theorem nh.tuples{l b:Addr}{items cw:Array Value}{e f:Nat->Bool}(hl:s.heap.IsTuple l items)(hb:s.heap.IsTuple b cw)(hu:A.units<cLine)
  (he:∀ j (h1:j<items.size) (h2:j<cw.size),EqAt A.in1 s items[j] cw[j] (e j)) (hf:∀ j (h1:j<items.size) (h2:j<cw.size),e j=false->nh A.in1 s items[j] cw[j] (f j)) :
  nh A s (.ref l) (.ref b) (tI e f items.size cw.size (min items.size cw.size) 0):=fun prog w Q E h=>by
 obtain⟨⟨cls,dd,data,sl⟩,ho,hc,n,hd⟩:=id hl
 obtain⟨⟨RK,rz,data2,rL⟩,qa,xS,n2,hd2⟩:=id hb
 simp only at hc hd xS hd2
 subst hc hd xS hd2
 exact richCompare_meets_room (op:=.Lt) ⟨_,ho,rfl⟩ ⟨_,qa,rfl⟩ F.slot_tuple_lt F.entry_tuple_lt (F.args_tuple_lt_2 _ _) (vd l b items cw n n2 dd rz sl rL e f)
  ⟨ho,qa,he,hf,show Value.bool _≠Value.notImplemented/\Q (.bool _) s from⟨(fun x=>nomatch x),h⟩⟩ hu
theorem nh.lists{l b:Addr}{items cw:Array Value}{e f:Nat->Bool}(hl:s.heap.IsList l items)(hb:s.heap.IsList b cw)(hu:A.units<cLine)
  (he:∀ j (h1:j<items.size) (h2:j<cw.size),EqAt A.in1 s items[j] cw[j] (e j)) (hf:∀ j (h1:j<items.size) (h2:j<cw.size),e j=false->nh A.in1 s items[j] cw[j] (f j)) :
  nh A s (.ref l) (.ref b) (tI e f items.size cw.size (min items.size cw.size) 0):=fun prog w Q E h=>by
 obtain⟨⟨cls,dd,data,sl⟩,ho,hc,n,hd⟩:=id hl
 obtain⟨⟨RK,rz,data2,rL⟩,qa,xS,n2,hd2⟩:=id hb
 simp only at hc hd xS hd2
 subst hc hd xS hd2
 exact richCompare_meets_room (op:=.Lt) ⟨_,ho,rfl⟩ ⟨_,qa,rfl⟩ F.slot_list_lt F.entry_list_lt (F.args_list_lt_2 _ _) (wI l b items cw n n2 dd rz sl rL e f)
  ⟨ho,qa,he,hf,show Value.bool _≠Value.notImplemented/\Q (.bool _) s from⟨(fun x=>nomatch x),h⟩⟩ hu
theorem nh.int(a:Int)(t:Tok)(b:Int)(u:Tok):nh A s (.int a t) (.int b u) (decide (a<b)):=fun prog w Q E h=>(show wpAny _ _ (compareOp .Lt _ _) _ _ _ from PyProof.Rows.lt_int h)
theorem nh.str(a:Str)(t:Tok)(b:Str)(u:Tok):nh A s (.str a t) (.str b u) (decide (a.cps.toList<b.cps.toList)):=fun prog w Q E h=>(show wpAny _ _ (compareOp .Lt _ _) _ _ _ from PySem.P.lt_str h)
end
def nk(lt:PyData->PyData->Bool):List PyData->List PyData->Bool
 |[],ys=>!ys.isEmpty
 |_ :: _,[]=>false
 |x :: xs,y :: ys=>if PyData.eqv x y then nk lt xs ys else lt x y
def b5:Nat->PyData->PyData->Bool
 |_,.int i,.int j=>decide (i<j)
 |_,.str x,.str y=>decide (x.cps.toList<y.cps.toList)
 |n+1,.list xs,.list ys=>nk (b5 n) xs ys
 |n+1,.tuple xs,.tuple ys=>nk (b5 n) xs ys
 |_,_,_=>false
def oo:Nat->PyData->PyData->Prop
 |_,.int _,.int _=>True
 |_,.str _,.str _=>True
 |n+1,.list xs,.list ys=>∀ (j:Nat) (x y:PyData),xs[j]? = some x->ys[j]? = some y->PyData.eqv x y=false->oo n x y
 |n+1,.tuple xs,.tuple ys=>∀ (j:Nat) (x y:PyData),xs[j]? = some x->ys[j]? = some y->PyData.eqv x y=false->oo n x y
 |_,_,_=>False
def at2(g:PyData->PyData->Bool)(xs ys:List PyData)(j:Nat):Bool:=match xs[j]?,ys[j]? with
 |some x,some y=>g x y
 |_,_=>false
theorem mQ{g:PyData->PyData->Bool}{xs ys:List PyData}{j:Nat}{x y:PyData}(hx:xs[j]? = some x)(hy:ys[j]? = some y):at2 g xs ys j=g x y:=by
 unfold at2
 rw[hx,hy]
theorem Br(lt:PyData->PyData->Bool)(xs ys:List PyData)(k:Nat):∀ i,min xs.length ys.length-i=k->i<=min xs.length ys.length->tI (at2 PyData.eqv xs ys) (at2 lt xs ys) xs.length ys.length k i=nk lt (xs.drop i) (ys.drop i):=by
 induction k with
 |zero =>
  intro i hk hi
  rw[tI]
  rcases xv xs.length ys.length with z|z
  ·rw[decide_eq_true z,QK (show xs.length<=i by lia),xk (show i<ys.length by lia)]
   rfl
  ·rw[decide_eq_false (by lia),QK (show ys.length<=i by lia)]
   cases xs.drop i<;>rfl
 |succ k ih =>
  intro i hk hi
  have h1:i<xs.length:=by lia
  have h2:i<ys.length:=by lia
  rw[tI,mQ (mz h1) (mz h2),mQ (mz h1) (mz h2),ih (i+1) (by lia) (by lia),
   xk h1,xk h2,nk]
theorem dg{h:Heap}{xs:List PyData}:∀ {vs:List Value} {as:List Addr},ReadsAll h vs xs as->∀ (j:Nat) (v:Value),vs[j]? = some v->∃ x bs,xs[j]? = some x/\Reads h v x bs:=by
 induction xs with
 |nil =>
  intro vs as r j v hv
  cases r
  simp at hv
 |cons x xs ih =>
  intro vs as r j v hv
  cases r with
  |cons r rs =>
   cases j with
   |zero =>
    simp at hv
    subst hv
    exact⟨x,_,rfl,r⟩
   |succ j=>exact ih rs j v (by simpa using hv)
theorem jm{xs:List PyData}(h:PyData.canLayAll0 xs=true){j:Nat}{x:PyData}(hx:xs[j]? = some x):x.canLay0=true:=by
 induction xs generalizing j with
 |nil=>simp at hx
 |cons y xs ih =>
  have h:y.canLay0=true/\PyData.canLayAll0 xs=true:=by simpa[PyData.canLayAll0] using h
  cases j with
  |zero=>simp at hx;subst hx;exact h.1
  |succ j=>exact ih h.2 (by simpa using hx)
theorem oh{xs:List PyData}{j:Nat}{x:PyData}(hx:xs[j]? = some x):x.depth<=PyData.depthAll xs:=by
 induction xs generalizing j with
 |nil=>simp at hx
 |cons y xs ih =>
  simp only[PyData.depthAll]
  cases j with
  |zero=>simp at hx;subst hx;lia
  |succ j=>have:=ih (j:=j) (by simpa using hx);lia
theorem z_(n:Nat):∀ (d e:PyData) (A:Around) (s:Shared) (a b:Value) (as bs:List Addr),Reads s.heap a d as->Reads s.heap b e bs->d.canLay0=true->e.canLay0=true->oo n d e->d.depth<=20->A.units+n+30<cLine->nh A s a b (b5 n d e):=by
 induction n with
 |zero =>
  intro d e A s a b as bs ra rb _ _ c _ _
  cases ra<;>cases rb<;>first|(rw[b5];exact nh.int _ _ _ _)|(rw[b5];exact nh.str _ _ _ _)|exact absurd c (by simp[oo])
 |succ n ih =>
  intro d e A s a b as bs ra rb la lb c dd hu
  cases ra with
  |int i t=>cases rb<;>first|(rw[b5];exact nh.int _ _ _ _)|exact absurd c (by simp[oo])
  |str x t=>cases rb<;>first|(rw[b5];exact nh.str _ _ _ _)|exact absurd c (by simp[oo])
  |@list l o vs m xs TQ h1 h2 h3 h4 =>
   cases rb with
   |@list l' o' iL m' ys XX k1 k2 k3 k4 =>
    have n1:vs.size=xs.length:=by simpa using ReadsAll.length _ _ _ h4
    have n2:iL.size=ys.length:=by simpa using ReadsAll.length _ _ _ k4
    have NS:∀ j (h1:j<vs.size),∃ x cs,xs[j]? = some x/\Reads s.heap vs[j] x cs:=fun j hj=>dg h4 j vs[j] (by simp[hj])
    have NT:∀ j (h1:j<iL.size),∃ x cs,ys[j]? = some x/\Reads s.heap iL[j] x cs:=fun j hj=>dg k4 j iL[j] (by simp[hj])
    have dx:PyData.depthAll xs<20:=by simp only[PyData.depth] at dd;lia
    have:=nh.lists (A:=A) (s:=s) (e:=at2 PyData.eqv xs ys) (f:=at2 (b5 n) xs ys) ⟨_,h1,h2,_,h3⟩ ⟨_,k1,k2,_,k3⟩ (by lia) (fun j j1 j2=>by
     obtain⟨x,cs,ex,rx⟩:=NS j j1
     obtain⟨y,TR,ey,ry⟩:=NT j j2
     rw[mQ ex ey]
     have:=oh ex
     exact eqAt_reads x y A.in1 s _ _ _ _ rx ry (jm la ex) (jm lb ey) (by show A.units+1+_<cLine;lia)) (fun j j1 j2 ne=>by
     obtain⟨x,cs,ex,rx⟩:=NS j j1
     obtain⟨y,TR,ey,ry⟩:=NT j j2
     rw[mQ ex ey] at ne ⊢
     have:=oh ex
     exact ih x y A.in1 s _ _ _ _ rx ry (jm la ex) (jm lb ey) (c j x y ex ey ne) (by lia) (by show A.units+1+n+30<cLine;lia))
    rw[n1,n2,Br (b5 n) xs ys _ 0 (Nat.sub_zero _) (dz _)] at this
    exact this
   |_=>exact absurd c (by simp[oo])
  |@tuple l o vs m xs TQ h1 h2 h3 h4 =>
   cases rb with
   |@tuple l' o' iL m' ys XX k1 k2 k3 k4 =>
    have n1:vs.size=xs.length:=by simpa using ReadsAll.length _ _ _ h4
    have n2:iL.size=ys.length:=by simpa using ReadsAll.length _ _ _ k4
    have NS:∀ j (h1:j<vs.size),∃ x cs,xs[j]? = some x/\Reads s.heap vs[j] x cs:=fun j hj=>dg h4 j vs[j] (by simp[hj])
    have NT:∀ j (h1:j<iL.size),∃ x cs,ys[j]? = some x/\Reads s.heap iL[j] x cs:=fun j hj=>dg k4 j iL[j] (by simp[hj])
    have dx:PyData.depthAll xs<20:=by simp only[PyData.depth] at dd;lia
    have:=nh.tuples (A:=A) (s:=s) (e:=at2 PyData.eqv xs ys) (f:=at2 (b5 n) xs ys) ⟨_,h1,h2,_,h3⟩ ⟨_,k1,k2,_,k3⟩ (by lia) (fun j j1 j2=>by
     obtain⟨x,cs,ex,rx⟩:=NS j j1
     obtain⟨y,TR,ey,ry⟩:=NT j j2
     rw[mQ ex ey]
     have:=oh ex
     exact eqAt_reads x y A.in1 s _ _ _ _ rx ry (jm la ex) (jm lb ey) (by show A.units+1+_<cLine;lia)) (fun j j1 j2 ne=>by
     obtain⟨x,cs,ex,rx⟩:=NS j j1
     obtain⟨y,TR,ey,ry⟩:=NT j j2
     rw[mQ ex ey] at ne ⊢
     have:=oh ex
     exact ih x y A.in1 s _ _ _ _ rx ry (jm la ex) (jm lb ey) (c j x y ex ey ne) (by lia) (by show A.units+1+n+30<cLine;lia))
    rw[n1,n2,Br (b5 n) xs ys _ 0 (Nat.sub_zero _) (dz _)] at this
    exact this
   |_=>exact absurd c (by simp[oo])
  |_=>cases rb<;>exact absurd c (by simp[oo])
end PySem.SeqAt
namespace L2
open PySem PySem.Spec PyProof.Rows PySem.SeqAt
structure iA(lt:PyData->PyData->Bool)(S:PyData->Prop):Prop where
 pe:∀ x,S x->lt x x=false
 tr:∀ x y z,S x->S y->S z->lt x y=true->lt y z=true->lt x z=true
 ae:∀ x y,S x->S y->lt x y=false->lt y x=false->x=y
 eqv:∀ x y,S x->S y->(PyData.eqv x y=true↔x=y)
theorem iA.int(n:Nat):iA (b5 n) fun x=>∃ i,x=.int i where
 pe:=by rintro x ⟨i,rfl⟩;rw[b5];simp
 tr:=by rintro x y z ⟨i,rfl⟩ ⟨j,rfl⟩ ⟨k,rfl⟩;rw[b5,b5,b5];simp only[decide_eq_true_eq];lia
 ae:=by rintro x y ⟨i,rfl⟩ ⟨j,rfl⟩;rw[b5,b5];simp only[decide_eq_false_iff_not,PyData.int.injEq];lia
 eqv:=by rintro x y ⟨i,rfl⟩ ⟨j,rfl⟩;simp[PyData.eqv]
theorem iA.str(n:Nat):iA (b5 n) fun x=>∃ s,x=.str s where
 pe:=by rintro x ⟨i,rfl⟩;rw[b5];exact vy i
 tr:=by rintro x y z ⟨i,rfl⟩ ⟨j,rfl⟩ ⟨k,rfl⟩;rw[b5,b5,b5];exact fun h g=>Am (y:=j) h g
 ae:=by rintro x y ⟨i,rfl⟩ ⟨j,rfl⟩;rw[b5,b5];exact fun h g=>by rw[wJ (x:=i) (y:=j) h g]
 eqv:=by rintro x y ⟨i,rfl⟩ ⟨j,rfl⟩;simp[PyData.eqv]
section
variable {lt:PyData->PyData->Bool}{S:PyData->Prop}
theorem Ag(T:iA lt S)(xs:List PyData)(h:∀ x∈xs,S x):nk lt xs xs=false:=by
 induction xs with
 |nil=>rfl
 |cons x xs ih =>
  rw[nk,if_pos ((T.eqv x x (h x cf) (h x cf)).mpr rfl)]
  exact ih fun y hy=>h y (cc _ hy)
open Classical in
theorem dC(T:iA lt S){x y:PyData}{xs ys:List PyData}(hx:S x)(hy:S y):nk lt (x :: xs) (y :: ys)=if x=y then nk lt xs ys else lt x y:=by
 rw[nk]
 by_cases e:x=y
 ·rw[if_pos e,if_pos ((T.eqv x y hx hy).mpr e)]
 ·rw[if_neg e,if_neg fun z=>e ((T.eqv x y hx hy).mp z)]
theorem zf(T:iA lt S)(xs:List PyData):∀ ys:List PyData,(∀ x∈xs,S x)->(∀ y∈ys,S y)->nk lt xs ys=false->nk lt ys xs=false->xs=ys:=by
 induction xs with
 |nil =>
  intro ys _ _ h _
  cases ys with
  |nil=>rfl
  |cons y ys=>cases h
 |cons x xs ih =>
  intro ys hx hy h1 h2
  cases ys with
  |nil=>cases h2
  |cons y ys =>
   have sx:=hx x cf
   have sy:=hy y cf
   rw[dC T sx sy] at h1
   rw[dC T sy sx] at h2
   by_cases e:x=y
   ·subst e
    rw[if_pos rfl] at h1 h2
    rw[ih ys (fun z hz=>hx z (cc _ hz)) (fun z hz=>hy z (cc _ hz)) h1 h2]
   ·rw[if_neg e] at h1
    rw[if_neg fun z=>e z.symm] at h2
    exact absurd (T.ae x y sx sy h1 h2) e
theorem Df(T:iA lt S)(xs:List PyData):∀ ys zs:List PyData,(∀ x∈xs,S x)->(∀ y∈ys,S y)->(∀ z∈zs,S z)->nk lt xs ys=true->nk lt ys zs=true->nk lt xs zs=true:=by
 induction xs with
 |nil =>
  intro ys zs _ _ _ h1 h2
  cases zs with
  |cons z zs=>rfl
  |nil =>
   cases ys with
   |nil=>cases h1
   |cons y ys=>cases h2
 |cons x xs ih =>
  intro ys zs hx hy hz h1 h2
  cases ys with
  |nil=>cases h1
  |cons y ys =>
   cases zs with
   |nil=>cases h2
   |cons z zs =>
    have sx:=hx x cf
    have sy:=hy y cf
    have sz:=hz z cf
    rw[dC T sx sy] at h1
    rw[dC T sy sz] at h2
    rw[dC T sx sz]
    have tl:=ih ys zs (fun z hz=>hx z (cc _ hz)) (fun z hz=>hy z (cc _ hz)) fun w hw=>hz w (cc _ hw)
    by_cases e1:x=y
    ·subst e1
     rw[if_pos rfl] at h1
     by_cases e2:x=z
     ·subst e2
      rw[if_pos rfl] at h2 ⊢
      exact tl h1 h2
     ·rw[if_neg e2] at h2 ⊢
      exact h2
    ·rw[if_neg e1] at h1
     by_cases e2:y=z
     ·subst e2
      rw[if_neg e1]
      exact h1
     ·rw[if_neg e2] at h2
      have t:=T.tr x y z sx sy sz h1 h2
      by_cases e3:x=z
      ·subst e3
       rw[T.pe x sx] at t
       cases t
      ·rw[if_neg e3];exact t
theorem uC(T:iA lt S)(xs:List PyData):∀ ys:List PyData,(∀ x∈xs,S x)->(∀ y∈ys,S y)->(PyData.eqvAll xs ys=true↔xs=ys):=by
 induction xs with
 |nil=>intro ys _ _;cases ys<;>simp[PyData.eqvAll]
 |cons x xs ih =>
  intro ys hx hy
  cases ys with
  |nil=>simp[PyData.eqvAll]
  |cons y ys =>
   have h1:=T.eqv x y (hx x cf) (hy y cf)
   have h2:=ih ys (fun z hz=>hx z (cc _ hz)) fun z hz=>hy z (cc _ hz)
   simp only[PyData.eqvAll,lI,List.cons.injEq]
   exact and_congr h1 h2
end
theorem iA.list{n:Nat}{S:PyData->Prop}(T:iA (b5 n) S):iA (b5 (n+1)) fun x=>∃ xs,x=.list xs/\∀ y∈xs,S y where
 pe:=by rintro x ⟨xs,rfl,h⟩;rw[b5];exact Ag T xs h
 tr:=by rintro x y z ⟨xs,rfl,h⟩ ⟨ys,rfl,h'⟩ ⟨zs,rfl,Tw⟩;rw[b5,b5,b5];exact Df T xs ys zs h h' Tw
 ae:=by
  rintro x y ⟨xs,rfl,h⟩ ⟨ys,rfl,h'⟩
  rw[b5,b5]
  exact fun h1 h2=>by rw[zf T xs ys h h' h1 h2]
 eqv:=by
  rintro x y ⟨xs,rfl,h⟩ ⟨ys,rfl,h'⟩
  rw[PyData.list.injEq]
  exact uC T xs ys h h'
open Classical in
theorem dY{n:Nat}{S U:PyData->Prop}(T:iA (b5 n) S)(T2:iA (b5 n) U){a b c d:PyData}(ha:S a)(hb:U b)(hc:S c)(hd:U d):nk (b5 n) [a,b] [c,d]=if a=c then b5 n b d else b5 n a c:=by
 rw[dC T ha hc,dC T2 hb hd]
 by_cases e:b=d
 ·subst e
  rw[if_pos rfl,show nk (b5 n) [] []=false from rfl,T2.pe b hb]
 ·rw[if_neg e]
theorem iA.pair{n:Nat}{S U:PyData->Prop}(T:iA (b5 n) S)(T2:iA (b5 n) U):iA (b5 (n+1)) fun x=>∃ a b,x=.tuple [a,b]/\S a/\U b where
 pe:=by rintro x ⟨a,b,rfl,ha,hb⟩;rw[b5,dY T T2 ha hb ha hb,if_pos rfl];exact T2.pe b hb
 tr:=by
  rintro x y z ⟨a,b,rfl,ha,hb⟩ ⟨c,d,rfl,hc,hd⟩ ⟨e,f,rfl,he,hf⟩
  rw[b5,b5,b5,dY T T2 ha hb hc hd,dY T T2 hc hd he hf,dY T T2 ha hb he hf]
  intro h1 h2
  by_cases e1:a=c
  ·subst e1
   rw[if_pos rfl] at h1
   by_cases e2:a=e
   ·subst e2
    rw[if_pos rfl] at h2 ⊢
    exact T2.tr b d f hb hd hf h1 h2
   ·rw[if_neg e2] at h2 ⊢
    exact h2
  ·rw[if_neg e1] at h1
   by_cases e2:c=e
   ·subst e2
    rw[if_neg e1];exact h1
   ·rw[if_neg e2] at h2
    have t:=T.tr a c e ha hc he h1 h2
    by_cases e3:a=e
    ·subst e3
     rw[T.pe a ha] at t;cases t
    ·rw[if_neg e3];exact t
 ae:=by
  rintro x y ⟨a,b,rfl,ha,hb⟩ ⟨c,d,rfl,hc,hd⟩
  rw[b5,b5,dY T T2 ha hb hc hd,dY T T2 hc hd ha hb]
  intro h1 h2
  by_cases e:a=c
  ·subst e
   rw[if_pos rfl] at h1 h2
   rw[T2.ae b d hb hd h1 h2]
  ·rw[if_neg e] at h1
   rw[if_neg fun z=>e z.symm] at h2
   exact absurd (T.ae a c ha hc h1 h2) e
 eqv:=by
  rintro x y ⟨a,b,rfl,ha,hb⟩ ⟨c,d,rfl,hc,hd⟩
  have h1:=T.eqv a c ha hc
  have h2:=T2.eqv b d hb hd
  simp only[PyData.eqv,PyData.eqvAll,lI,Ow,PyData.tuple.injEq,List.cons.injEq,and_true]
  exact and_congr h1 h2
section
variable {prog:Program}{w:World}{A:Around}{E:Value->Shared->Prop}{s:Shared}{Q:Bool->Shared->Prop}
theorem zu{n:Nat}(xs:List PyData):∀ (ys:List PyData) (us vs:List Value) (as bs:List Addr) (i:Nat),ReadsAll s.heap us xs as->ReadsAll s.heap vs ys bs->PyData.canLayAll0 xs=true->PyData.canLayAll0 ys=true->PyData.depthAll xs<=20 ->
  (∀ (j:Nat) (x y:PyData),xs[j]? = some x->ys[j]? = some y->PyData.eqv x y=false->oo n x y)->(i=0->∀ x y,xs[0]? = some x->ys[0]? = some y->(∃ k,x=.int k)/\∃ k,y=.int k)->xs.length=ys.length->A.units+n+30<cLine->Q (nk (b5 n) xs ys) s ->
  PySem.W.KatLex prog w A true false Q (us.zip vs) i s:=by
 induction xs with
 |nil =>
  intro ys us vs as bs i ra rb _ _ _ _ _ hl _ q
  cases ys with
  |cons y ys=>cases hl
  |nil =>
   cases ra
   exact PySem.W.kat_nil q
 |cons x xs ih =>
  intro ys us vs as bs i ra rb la lb dp c hi hl hu q
  cases ys with
  |nil=>cases hl
  |cons y ys =>
   cases ra with
   |cons r rs =>
    cases rb with
    |cons r' TV =>
     have TX:x.canLay0=true/\PyData.canLayAll0 xs=true:=by simpa[PyData.canLayAll0] using la
     have TY:y.canLay0=true/\PyData.canLayAll0 ys=true:=by simpa[PyData.canLayAll0] using lb
     have XY:x.depth<=20/\PyData.depthAll xs<=20:=by simp only[PyData.depthAll] at dp;lia
     rw[xl]
     rw[nk] at q
     refine PySem.W.kat_cons (eqAt_reads x y A s _ _ _ _ r r' TX.1 TY.1 (by lia) prog w _ _ (PySem.W.kat_go (fun h=>PySem.W.kat_yes ?_) (fun h=>PySem.W.kat_no ?_)))
     ·rw[if_pos h] at q
      exact ih ys _ _ _ _ (i+1) rs TV TX.2 TY.2 XY.2 (fun j=>c (j+1)) (fun z=>by lia) (by simpa using hl) hu q
     ·rw[if_neg (by rw[h];exact gV)] at q
      by_cases h0:i=0
      ·obtain⟨⟨a,rfl⟩,⟨b,rfl⟩⟩:=hi h0 x y rfl rfl
       subst h0
       cases r
       cases r'
       rw[b5] at q
       exact oneLt_int q
      ·rw[show(true && i == 0)=false by simp[h0]]
       exact PySem.W.kat_one _ _ (z_ n x y A s _ _ _ _ r r' TX.1 TY.1 (c 0 x y rfl rfl h) XY.1 (by lia) prog w _ _ q)
structure FR(n:Nat)(S:PyData->Prop):Prop where
 ae:iA (b5 (n+1)) S
 tup:∀ x,S x->∃ i xs,x=.tuple (.int i :: xs)/\x.canLay0=true/\x.depth<=20
 len:∀ xs ys,S (.tuple xs)->S (.tuple ys)->xs.length=ys.length
 cm:∀ x y,S x->S y->oo (n+1) x y
open Classical in
def kj(h:Heap)(v:Value):PyData:=if z:∃ d as,Reads h v d as/\d.canLay0=true then z.choose else .none
theorem fV{h:Heap}{v:Value}{d:PyData}{as:List Addr}(r:Reads h v d as)(l:d.canLay0=true):kj h v=d:=by
 have z:∃ d as,Reads h v d as/\d.canLay0=true:=⟨d,as,r,l⟩
 unfold kj
 rw[dif_pos z]
 obtain⟨bs,r2,l2⟩:=z.choose_spec
 exact Reads.unique _ _ _ _ _ l2 r2 r
def FT(n:Nat)(L:List PyData)(d:PyData):Int:=(L.countP fun e=>b5 n e d:Nat)
theorem Bc{n:Nat}{S:PyData->Prop}(T:iA (b5 n) S){L:List PyData}(hL:∀ d∈L,S d){a b:PyData}(ha:a∈L)(hb:S b):decide (FT n L a<FT n L b)=b5 n a b:=by
 have sa:=hL a ha
 unfold FT
 cases h:b5 n a b with
 |true =>
  have:=oW (fun j=>b5 n j a) (fun j=>b5 n j b) a (T.pe a sa) h L ha fun x hx z=>T.tr x a b (hL x hx) sa hb z h
  exact decide_eq_true (by lia)
 |false =>
  refine decide_eq_false ?_
  cases g:b5 n b a with
  |false =>
   rw[T.ae a b sa hb h g]
   lia
  |true =>
   have:=count_le (fun j=>b5 n j b) (fun j=>b5 n j a) L fun x hx z=>T.tr x b a (hL x hx) hb sa z g
   lia
theorem yF{n:Nat}{S:PyData->Prop}(K:FR n S){h0:Heap}(kp:∀ b o,h0.get? b=some o->s.heap.get? b=some o){L:List PyData}(hL:∀ d∈L,S d)(hu:A.units+n+31<cLine) :
  x6.lT prog w A s (tuples' true) (fun v=>FT (n+1) L (kj h0 v)) (fun v=>∃ d as,d∈L/\Reads h0 v d as):=by
 rintro x y ⟨d,as,md,rd⟩ ⟨e,bs,me,re⟩ Q E q
 have sd:=hL d md
 have se:=hL e me
 obtain⟨i,xs,rfl,ld,dd⟩:=K.tup d sd
 obtain⟨j,ys,rfl,le,de⟩:=K.tup e se
 replace q:Q (decide (FT (n+1) L (kj h0 x)<FT (n+1) L (kj h0 y))) s:=q
 rw[fV rd ld,fV re le,Bc K.ae hL md se,b5] at q
 have rd':=PyProof.Rows.Reads.keeps kp rd
 have re':=PyProof.Rows.Reads.keeps kp re
 have cm:=K.cm _ _ sd se
 have hl:=K.len _ _ sd se
 cases rd' with
 |@tuple a o us m _ TQ h1 h2 h3 h4 =>
  cases re' with
  |@tuple b o' vs m' _ XX k1 k2 k3 k4 =>
   have n1:us.size=(PyData.int i :: xs).length:=by simpa using ReadsAll.length _ _ _ h4
   have n2:vs.size=(PyData.int j :: ys).length:=by simpa using ReadsAll.length _ _ _ k4
   refine PySem.W.kat_lt h1 h3 k1 k3 ?_
   rw[show decide (us.size<vs.size)=false from decide_eq_false (by lia)]
   exact zu (n:=n) _ _ _ _ _ _ 0 h4 k4 ld le (by simp only[PyData.depth] at dd;lia) cm (fun _ x y hx hy=>by cases hx;cases hy;exact⟨⟨_,rfl⟩,_,rfl⟩) hl (by lia) q
end
section
variable {X:Cx}{pins:List (Addr × Obj)}{σ:St}{H:Hp}{s:Shared}
theorem vz(I:Inv X pins σ H s):∀ {ds:List PyData} {ys:List V} {vs:List Value},aI X.K H ds ys->Vals ys vs->∀ v∈vs,∃ d y as,d∈ds/\Rep X.K H d y/\RelV y v/\Reads s.heap v d as
 |_,_,_,.nil,.nil,v,hv=>nomatch hv
 |_,_,_,.cons r rs,.cons q qs,v,hv=>by
  rcases cS.mp hv with rfl|hv
  ·obtain⟨as,z⟩:=r.reads I q
   exact⟨_,_,as,cf,r,q,z⟩
  ·obtain⟨d,y,as,a,b,c,z⟩:=vz I rs qs v hv
   exact⟨d,y,as,cc _ a,b,c,z⟩
theorem sV{h0:Heap}{n:Nat}{S:PyData->Prop}(K:FR n S):∀ (vs:List Value),(∀ v∈vs,∃ d as,S d/\Reads h0 v d as)->∃ fs:List Value,PySem.W.KatTups h0 vs fs/\fs.length=vs.length/\∀ f∈fs,∃ i t,f=Value.int i t
 |[],_=>⟨[],.nil,rfl,fun f hf=>nomatch hf⟩
 |v :: vs,h=>by
  obtain⟨fs,f1,f2,f3⟩:=sV K vs fun u hu=>h u (cc _ hu)
  obtain⟨d,as,sd,r⟩:=h v cf
  obtain⟨i,xs,rfl,_,_⟩:=K.tup d sd
  cases r with
  |@tuple a o us m _ TQ h1 h2 h3 h4 =>
   obtain⟨us⟩:=us
   cases h4 with
   |cons r rs =>
    cases r with
    |int _ t =>
     exact⟨_ :: fs,.cons h1 h2 h3 rfl f1,by simp[f2],fun f hf=>by
      rcases cS.mp hf with rfl|hf
      ·exact⟨_,_,rfl⟩
      ·exact f3 f hf⟩
def FU:Value->V
 |.ref a=>.ref a
 |_=>.non
theorem xm{n:Nat}{S:PyData->Prop}(K:FR n S){h0:Heap}{d:PyData}{y:V}{v:Value}{as:List Addr}(sd:S d)(q:RelV y v)(r:Reads h0 v d as):FU v=y:=by
 obtain⟨i,xs,rfl,_,_⟩:=K.tup d sd
 cases r with
 |tuple h1 h2 h3 h4 =>
  cases y with
  |ref b=>cases (show Value.ref _=Value.ref b from q);rfl
  |_=>simp[RelV] at q
theorem sS{n:Nat}{S:PyData->Prop}(K:FR n S)(I:Inv X pins σ H s):∀ {ds:List PyData} {ys:List V} {vs:List Value},aI X.K H ds ys->Vals ys vs->(∀ d∈ds,S d)->vs.map (fun v=>(kj s.heap v,FU v))=ds.zip ys
 |_,_,_,.nil,.nil,_=>rfl
 |_,_,_,.cons r rs,.cons q qs,h=>by
  obtain⟨as,z⟩:=r.reads I q
  have sd:=h _ cf
  obtain⟨_,_,_,l,_⟩:=K.tup _ sd
  rw[fz,fV z l,xm K sd q z,sS K I rs qs fun d hd=>h d (cc _ hd),xl]
def mR(K:PySem.W.Frag)(n:Nat)(S:PyData->Prop):List V->Hp->VK->Prop:=fun xs H Q=>match xs with
 |[.ref p]=>∃ ys ds,dQ K H p ys/\aI K H ds ys/\(∀ d∈ds,S d)/\∀ (ps:List (PyData × V)) l,ps.Perm (ds.zip ys)->(ps.Pairwise fun a b=>b5 (n+1) b.1 a.1=false)->H l=none->Q (.ref l) (upd H l (.lst (ps.map (·.2))))
 |_=>False
theorem uP {n:Nat} {S:PyData->Prop} (K:FR n S) (hu:X.A.units+n+40<cLine):iO X (.builtin "sorted") (mR X.K n S):=by
 intro pins s σ H xs us Q I r h
 unfold mR at h
 split at h
 ·rename_i p
  obtain⟨ys,ds,hl,hr,hS,q⟩:=h
  obtain⟨u,rfl,ru⟩:=Vals.one r
  cases ru
  obtain⟨vs,rv,pl,hz⟩:=I.list hl
  have lay:∀ d∈ds,d.canLay0=true:=fun d hd=>by obtain⟨_,_,_,l,_⟩:=K.tup d (hS d hd);exact l
  have mem:=vz I hr rv
  have hlen:=rv.length
  refine x6.vB (κ:=tuples' true) (r:=fun v=>FT (n+1) ds (kj s.heap v)) (P:=fun v=>∃ d as,d∈ds/\Reads s.heap v d as) pl.isList (by lia) (fun v hv=>?_) (fun h2 A' E' s' kp Q' q'=>?_) (fun h2 s' kp=>yF K kp hS (by show X.A.units+1+1+n+31<cLine;lia)) fun h' out m pm pw kp eo=>?_
  ·obtain⟨d,y,as,a,b,c,z⟩:=mem v hv
   exact⟨d,as,a,z⟩
  ·obtain⟨fs,f1,f2,f3⟩:=sV (h0:=s'.heap) K vs fun v hv=>by
    obtain⟨d,y,as,a,b,c,z⟩:=mem v hv
    exact⟨d,as,hS d a,PyProof.Rows.Reads.keeps kp z⟩
   refine PySem.W.kat_kind (T:=.type "int") f1 (by lia) (fun f hf=>?_) (by decide) q'
   obtain⟨i,t,rfl⟩:=f3 f hf
   exact .now
  ·have back:∀ v∈out,∃ d y as,d∈ds/\Rep X.K H d y/\RelV y v/\Reads s.heap v d as:=fun v hv=>mem v (pm.mem_iff.mp hv)
   have rel:∀ l:List Value,(∀ v∈l,v∈out)->Vals (l.map FU) l:=by
    intro l
    induction l with
    |nil=>exact fun _=>.nil
    |cons v l ih =>
     intro hm
     obtain⟨d,y,as,a,b,c,z⟩:=back v (hm v cf)
     exact .cons (by rw[xm K (hS d a) c z];exact c) (ih fun u hu=>hm u (cc _ hu))
   have z2:=rel out fun _ h=>h
   have ol:=pm.length_eq
   have e2:(out.map fun v=>(kj s.heap v,FU v)).map (·.2)=out.map FU:=by rw[kg];rfl
   have q':=q (out.map fun v=>(kj s.heap v,FU v)) (s.heap.objs.size+1) (by rw[<- sS K I hr rv hS];exact pm.map _) ?_ (I.aT.fresh (Nat.le_succ _))
   ·rw[e2] at q'
    exact⟨.ref (s.heap.objs.size+1),_,I.laid (a:=s.heap.objs.size+1) (t':=s.toks) kp (Nat.le_succ _) (show eT X.prog X.w _ h' _ (.lst (out.map FU)) from⟨by rw[cK];lia,out,m,z2,eo⟩),rfl,q'⟩
   rw[rp]
   refine pw.imp_of_mem fun {x y} mx my hle=>?_
   obtain⟨d,_,as,md,_,_,rd⟩:=back x mx
   obtain⟨e,_,bs,me,_,_,re⟩:=back y my
   rw[fV rd (lay d md),fV re (lay e me)] at *
   have:=Bc K.ae hS me (hS d md)
   rw[<- this]
   exact decide_eq_false (by lia)
 ·exact h.elim
end
end L2
namespace L2.Q
open PySem PySem.Spec PyProof.Rows PySem.SeqAt
section
variable {X:Cx}{K:PySem.W.Frag}{Hs H:Hp}
theorem iH(xs:List D):kU xs=xs.map D.py:=by
 induction xs with
 |nil=>rfl
 |cons x xs ih=>rw[kU,ih];rfl
theorem yK{xs:List D}:∀ {vs:List V},aI K H xs vs->∀ p∈xs.zip vs,Rep K H p.1 p.2:=by
 induction xs with
 |nil=>intro vs r p hp;simp at hp
 |cons x xs ih =>
  intro vs r p hp
  obtain⟨u,us,rfl,r1,rs⟩:=r.c
  rw[xl] at hp
  rcases cS.mp hp with rfl|hp
  ·exact r1
  ·exact ih rs p hp
theorem uZ(l:List (D × V))(h:∀ p∈l,Rep K H p.1 p.2):aI K H (l.map (·.1)) (l.map (·.2)):=by
 induction l with
 |nil=>exact .nil
 |cons p l ih=>exact .cons (h p cf) (ih fun q hq=>h q (cc _ hq))
def Bv(n:Nat)(S:PyData->Prop):W1:=fun m x Q=>match x with
 |.list xs=>m=.sh/\(∀ d∈xs,ck 12 d=true/\S d.py)/\∀ ms:List D,ms.Perm xs->(ms.Pairwise fun a b=>b5 (n+1) b.py a.py=false)->Q (.ow false) (.list ms)
 |_=>False
theorem yG{n:Nat}{S:PyData->Prop}:AO K (mR K n S) (Bv n S):=by
 intro Hs H m x v As Qd Qv w rx h f
 have r1:=rx.rep w
 cases r1 with
 |@list _ _ Qt z s q =>
  obtain⟨rfl,hS,h⟩:=h
  obtain⟨_,rx⟩:=rx
  cases rx with
  |@list _ iL _ z' s' q' =>
   have hl:=q'.length
   have ez:(kU Qt).zip iL=(Qt.zip iL).map fun p=>(p.1.py,p.2):=by
    rw[iH,List.zip_map_left]
    rfl
   refine⟨_,kU Qt,aC.seq w.sub s',Rep.SW.2 (q'.same w.sub) 12 fun d hd=>(hS d hd).1,fun d hd=>?_,fun ps l hp hw hn=>?_⟩
   ·rw[iH] at hd
    obtain⟨e,he,rfl⟩:=dn.mp hd
    exact(hS e he).2
   ·obtain⟨m',rfl,pm⟩:=TS.ji hp ez
    have p1:(m'.map (·.1)).Perm Qt:=by
     have:=pm.map (·.1)
     rwa[LZ (HC hl)] at this
    have rr:=uZ (K:=K) (H:=Hs) m' fun p hp=>yK q' p (pm.mem_iff.mp hp)
    rw[show(m'.map fun p=>(p.1.py,p.2)).map (·.2)=m'.map (·.2) by rw[kg];rfl]
    refine f.Nh w (by rw[p1.length_eq];lia) rr (h _ p1 ?_) l hn
    rw[rp] at hw ⊢
    exact hw
 |_=>exact h.elim
theorem Ga {n:Nat} {S:PyData->Prop} (KS:FR n S) (hu:X.A.units+n+40<cLine) (hK:X.K=K:=by rfl):iO X (.builtin "sorted") (mR K n S):=by subst hK;exact uP KS hu
end
end L2.Q
namespace L2
open PySem PySem.Spec PyProof.Rows PySem.SeqAt
section
variable {X:Cx}
def Ed(K:PySem.W.Frag):V->List V->Hp->VK->Prop:=fun x xs H Q=>∃ l ys ds y d,∃ j:Nat,x=.ref l/\xs=[y]/\dQ K H l ys/\aI K H ds ys/\Rep K H d y/\(∀ e∈ds,e.canLay0=true/\e.depth<=20)/\d.canLay0=true /\
 (∃ e,ds[j]? = some e/\PyData.eqv e d=true)/\(∀ (m:Nat) e,m<j->ds[m]? = some e->PyData.eqv e d=false)/\Q (.int j) H
theorem zO (hu:X.A.units+64<cLine):Ph X "list.index" (Ed X.K):=by
 intro pins s σ H x vs v us Q I rx rv h
 obtain⟨l,ys,ds,y,d,j,rfl,rfl,hl,hr,hd,hS,ld,⟨e,ej,eq⟩,DT,q⟩:=h
 cases rx
 obtain⟨u,rfl,ru⟩:=Vals.one rv
 obtain⟨its,Qu,pl,hz⟩:=I.list hl
 obtain⟨as,rd⟩:=hd.reads I ru
 obtain⟨bs,ra⟩:=aI.reads I hr Qu
 have len:its.length=ds.length:=ReadsAll.length _ _ _ ra
 have at':∀ (m:Nat) (v:Value),its[m]? = some v->∃ e cs,ds[m]? = some e/\Reads s.heap v e cs/\kj s.heap v=e:=fun m v hv=>by
  obtain⟨e,cs,h1,h2⟩:=dg ra m v hv
  exact⟨e,cs,h1,h2,fV h2 (hS e (mB h1)).1⟩
 have jl:j<ds.length:=(hV.mp ej).1
 have XZ:j<its.toArray.size:=by rw[kf];lia
 have zs:sizeLine<2 ^ 62:=by rw[sizeLine_eq];decide
 have hlen:=Qu.length
 obtain⟨⟨cls,dd,data,sl⟩,ho,hc,n,NQ⟩:=id pl.isList
 simp only at hc NQ
 subst hc NQ
 refine call_meets F.slot_list_index ⟨_,ho,rfl⟩ F.entry_list_index (F.args_list_index_2 _ _) (list_indexAt l its.toArray n dd sl u (fun v=>PyData.eqv (kj s.heap v) d) j XZ (by lia) ?_ fun m hm h'=>?_) ⟨ho,fun v hv=>?_,⟨.int j,H,I.tok _,⟨_,rfl⟩,q⟩⟩
 ·obtain⟨e',cs,h1,_,h3⟩:=at' j its.toArray[j] (by simp at XZ ⊢)
  rw[h3]
  rw[ej] at h1
  cases h1
  exact eq
 ·obtain⟨e',cs,h1,_,h3⟩:=at' m its.toArray[m] (by simp at hm ⊢)
  rw[h3]
  exact DT m e' h' h1
 ·obtain⟨m,hm⟩:=LV.mp (show v∈its by simpa using hv)
  obtain⟨e',cs,h1,h2,h3⟩:=at' m v hm
  rw[h3]
  have:=hS e' (mB h1)
  exact eqAt_reads e' d X.A.in1 s _ _ _ _ h2 rd this.1 ld (by show X.A.units+1+_<cLine;lia)
def nF:List V->Hp->VK->Prop:=fun xs H Q=>match xs with
 |[.ref p]=>∃ kvs b0 sh,Rd H p (.dT kvs)/\(∀ k∈kvs.map (·.1),gL k=b0 :: sh) /\
   ∀ zs ms l,cT H zs ms->ms.Perm (kvs.map (·.1))->(ms.Pairwise fun a b=>ft b a=false)->H l=none->Q (.ref l) (upd H l (.lst zs))
 |_=>False
theorem rZ (hc:X.calm=true):iO X (.builtin "sorted") nF:=by
 intro pins s σ H xs us Q I r h
 unfold nF at h
 split at h
 ·rename_i p
  obtain⟨kvs,b0,sh,e,hs,q⟩:=h
  obtain⟨u,rfl,ru⟩:=Vals.one r
  cases ru
  obtain⟨z,y,ps,rel,o,es,ep,h1,h2,h3,h4,h5⟩:=(show eT X.prog X.w H s.heap p (.dT kvs) from I.rd e)
  obtain⟨ta,va⟩:=wA (prog:=X.prog) (w:=X.w) rel
  have hlen:es.size=kvs.length:=by
   have:=congrArg List.length h4
   rw[A3,cK] at this
   rw[this];exact rel.length.symm
  have gI:ps.length=kvs.length:=rel.length.symm
  refine x6.uJ (κ:=tuples' true) (R:=fun vs=>Vals (ps.map fun q=>V.ref q.2.1) vs) (r:=fun v=>I0 (kvs.map (·.1)) (lR H v)) (P:=fun v=>∃ b k,v=.ref b/\H b=some (.tup (k.map kV))/\gL k=b0 :: sh/\k∈kvs.map (·.1)) (fun A' E' Q' hA hQ=>?_) (fun vs rv=>?_) (fun vs rv v hv=>?_)
   (fun vs rv h2 A' E' s' kp Q' q'=>?_) (fun s' kp=>sX I kp) fun vs h' a out n tk rv pm pw kp ha eo=>?_
  ·refine x6.rE (yf (es:=es) (ep:=ep) y) (hA.trans (I.ok.hd hc)) ⟨o,h1,h2,h3⟩ (by lia) fun h' tk acc kp hz BI=>hQ _ h' tk ?_ kp hz
   have hv:acc.toList=(ps.map (entryOfKey (tupleKind (kQ X.prog X.w)))).map (·.key):=by
    apply CH
    intro i
    by_cases hi:i<es.size
    ·have hX:i<acc.size:=by rw[BI.1];exact hi
     obtain⟨en,e1,e2⟩:=BI.2 i acc[i] (by simp[hX])
     rw[<- h4,kN,mE,mE,e1]
     simp[hX,e2]
    ·rw[<- h4,kN,mE,mE,DF (by rw[BI.1];lia),DF (by lia)]
     rfl
   rw[hv];exact va
  ·have:=rv.length
   rw[cK] at this
   lia
  ·obtain⟨_,mem⟩:=ta.keys rv
   obtain⟨b,k,e1,e2,e3⟩:=mem v hv
   exact⟨b,k,e1,e2,hs k e3,e3⟩
  ·obtain⟨fs,f1,f2,f3⟩:=kat_tups I kp ta rv hs
   cases b0 with
   |true =>
    refine PySem.W.kat_kind (T:=.type "int") f1 (by lia) (fun f hf=>?_) (by decide) q'
    obtain⟨i,t,rfl⟩:=(f3 f hf).1 rfl
    exact .now
   |false =>
    refine PySem.W.kat_kind (T:=.type "str") f1 (by lia) (fun f hf=>?_) (by decide) q'
    obtain⟨i,t,rfl⟩:=(f3 f hf).2 rfl
    exact .now
  ·obtain⟨ek,mem⟩:=ta.keys rv
   obtain⟨zs,z1,z2⟩:=cT.of (H:=H) (ks:=kvs.map (·.1)) out fun v hv=>mem v (pm.mem_iff.mp hv)
   have zl:=z2.length
   have ol:=pm.length_eq
   have vl:=rv.length
   rw[cK] at vl
   have Qi:(out.map (lR H)).Perm (kvs.map (·.1)):=by rw[<- ek];exact pm.map _
   refine⟨.ref a,_,I.laid (a:=a) (t':=tk) kp ha (show eT X.prog X.w _ h' _ (.lst zs) from⟨by lia,out,n,z2,eo⟩),rfl,q zs _ _ z1 Qi ?_ (I.aT.fresh ha)⟩
   rw[rp]
   refine pw.imp_of_mem fun {x y} mx my hle=>?_
   obtain⟨b,k,rfl,hb,kk⟩:=mem x (pm.mem_iff.mp mx)
   obtain⟨c,m,rfl,hc,km⟩:=mem y (pm.mem_iff.mp my)
   rw[cR hb,cR hc] at *
   have:=vg (L:=kvs.map (·.1)) ((hs m km).trans (hs k kk).symm) km
   rw[<- this]
   exact decide_eq_false (by lia)
 ·exact h.elim
end
end L2
namespace L2.Q
open PySem PySem.Spec PyProof.Rows PySem.SeqAt
section
variable {X:Cx}{K:PySem.W.Frag}
def oE:W1:=fun _ x Q=>match x with
 |.dT kvs=>∃ b0 sh,(∀ p∈kvs,gL p.1=b0 :: sh)/\∀ ms:List (List Key),ms.Perm (kvs.map (·.1))->(ms.Pairwise fun a b=>ft b a=false)->Q (.ow true) (.list (ms.map mn))
 |_=>False
theorem qC:AO K nF oE:=by
 intro Hs H m x v As Qd Qv w rx h f
 have r1:=rx.rep w
 cases r1 with
 |@dT a vs kvs kk e q =>
  obtain⟨b0,sh,hs,h⟩:=h
  have hlen:=q.length
  rw[cK] at hlen
  have ez:((kvs.map (·.1)).zip vs).map (·.1)=kvs.map (·.1):=LZ (by rw[cK];exact HC hlen)
  refine⟨_,b0,sh,e,fun k hk=>?_,fun zs ms l tz pm pw hl=>?_⟩
  ·rw[ez] at hk
   obtain⟨p,hp,rfl⟩:=dn.mp hk
   exact hs p hp
  ·rw[ez] at pm
   refine f.lst w (by rw[cK,pm.length_eq,cK];exact kk.1) (oY (K:=K) tz fun k hk=>?_) (iD ms) (h ms pm pw) l hl
   obtain⟨p,hp,rfl⟩:=dn.mp (pm.mem_iff.mp hk)
   exact kk.2 p hp
 |_=>exact h.elim
theorem wj (hc:X.calm=true:=by rfl):iO X (.builtin "sorted") nF:=rZ hc
end
end L2.Q
namespace L2.Q.R
open PySem PySem.Spec PyProof.Rows L2.Q PySem.SeqAt
section
variable {Q:Md->L2.Q.D->Prop}{m:Md}
theorem Hx{kvs:List (List Key × L2.Q.D)}:oE m (.dT kvs) Q = ∃ b0 sh,(∀ p∈kvs,gL p.1=b0 :: sh)/\∀ ms:List (List Key),ms.Perm (kvs.map (·.1))->(ms.Pairwise fun a b=>ft b a=false)->Q (.ow true) (.list (ms.map mn)):=rfl
end
end L2.Q.R
namespace L2
open PySem PySem.Spec PyProof.Rows PySem.SeqAt
section
variable {X:Cx}
def DQ(K:PySem.W.Frag):R2:=fun x y H Q=>∃ l xs n,x=.ref l/\y=.int n/\dQ K H l xs/\0<=n/\n<=1000/\xs.length<=1000/\∀ p,H p=none->Q (.ref p) (upd H p (.lst (List.replicate n.toNat xs).flatten))
theorem zb{xs:List V}{vs:List Value}(h:Vals xs vs)(k:Nat):Vals (List.replicate k xs).flatten (List.replicate k vs).flatten:=by
 induction k with
 |zero=>exact .nil
 |succ k ih=>rw[y9,y9,AU,AU];exact h.append ih
theorem tM{α:Type}(xs:List α)(k:Nat):(List.replicate k xs).flatten.length=xs.length*k:=by
 induction k with
 |zero=>rfl
 |succ k ih=>rw[y9,AU,tS,ih,Nat.mul_succ];lia
theorem Ej:cE X (binaryOp .Mult) (DQ X.K):=by
 intro pins s σ H x y v u Q I rx ry h
 obtain⟨l,xs,n,rfl,rfl,hH,h0,h1,h2,q⟩:=h
 cases rx
 obtain⟨t,rfl⟩:=ry
 obtain⟨its,r,pl,z⟩:=I.list hH
 have hl:=r.length
 obtain⟨⟨cls,dd,data,sl⟩,ho,hc,k,hd⟩:=id pl.isList
 simp only at hc hd
 subst hc hd
 have hm:its.toArray.size*n.toNat<=1000*1000:=Nat.mul_le_mul (by rw[kf];lia) (by lia)
 have hsz:=sizeLine_eq
 refine wpAny_binaryOp_repeat_ref (T := "list") (U := "int") (by decide) ⟨_,ho,rfl⟩ (fun s'=>typeIs_int s' n t) noFill_list_mul PySem.F.fills_int_mul PySem.F.slot_int_rmul repeat_list PySem.F.slot_int_index.lookup
  (call_meets PySem.F.slot_int_rmul (typeIs_int s n t) PySem.F.entry_int_rmul (PySem.F.args_int_rmul_2 _ _) (lm_int_rmul_list_any n t l its.toArray k dd sl)
   ⟨ho,rfl,⟨_,ho,rfl⟩,call_meets PySem.F.slot_list_mul ⟨_,ho,rfl⟩ PySem.F.entry_list_mul (PySem.F.args_list_mul_2 _ _)
    (lm_list_mul_any l its.toArray k dd sl n t (by simp[Builtin.List.listFitsIndex];lia) (by lia) (by simp only[Builtin.List.listTooLong,decide_eq_true_eq];lia))
    ⟨ho,?_⟩⟩)
 rw[listMul_foldl_if]
 exact⟨.ref _,_,I.RW (t':=s.toks) (zb r _) (by
  rw[tM]
  have:xs.length*n.toNat<=1000*1000:=Nat.mul_le_mul h2 (by lia)
  lia),rfl,q _ I.fresh⟩
end
theorem iA.sub{lt:PyData->PyData->Bool}{S U:PyData->Prop}(T:iA lt S)(h:∀ x,U x->S x):iA lt U :=
 ⟨fun x a=>T.pe x (h x a),fun x y z a b c=>T.tr x y z (h x a) (h y b) (h z c),fun x y a b=>T.ae x y (h x a) (h y b),fun x y a b=>T.eqv x y (h x a) (h y b)⟩
def lK(p:Str × Int):PyData:=.tuple [.str p.1,.int p.2]
def tJ(x:PyData):Prop:=∃ (i:Int) (ps:List (Str × Int)),x=.tuple [.int i,.list (ps.map lK)]/\∀ p∈ps,PyData.strOk p.1=true
theorem Dz(p q:Str × Int):oo 1 (lK p) (lK q):=by
 unfold lK
 rw[oo]
 intro j x y hx hy _
 match j with
 |0=>cases hx;cases hy;rw[oo];trivial
 |1=>cases hx;cases hy;rw[oo];trivial
 |j+2=>simp at hx
theorem El(ps:List (Str × Int))(h:∀ p∈ps,PyData.strOk p.1=true):PyData.canLayAll0 (ps.map lK)=true/\PyData.depthAll (ps.map lK)<=2:=by
 induction ps with
 |nil=>exact⟨rfl,by simp[PyData.depthAll]⟩
 |cons p ps ih =>
  have ih:=ih fun q hq=>h q (cc _ hq)
  have hp:=h p cf
  rw[fz]
  constructor
  ·simp only[PyData.canLayAll0,lI]
   refine⟨?_,ih.1⟩
   simp[lK,PyData.canLay0,PyData.canLayAll0,hp]
  ·have h2:=ih.2
   simp only[PyData.depthAll]
   have:(lK p).depth<=2:=by simp[lK,PyData.depth,PyData.depthAll]
   lia
theorem Qw:FR 2 tJ where
 ae:=((iA.pair (iA.int 2) (iA.list (iA.pair (iA.str 0) (iA.int 0)))).sub) fun x ⟨i,ps,e,_⟩=>⟨_,_,e,⟨i,rfl⟩,_,rfl,fun y hy=>by
  obtain⟨p,_,rfl⟩:=dn.mp hy
  exact⟨_,_,rfl,⟨_,rfl⟩,_,rfl⟩⟩
 tup:=by
  rintro x ⟨i,ps,rfl,h⟩
  have:=El ps h
  refine⟨i,_,rfl,?_,?_⟩
  ·simp[PyData.canLay0,PyData.canLayAll0,this.1]
  ·simp only[PyData.depth,PyData.depthAll];lia
 len:=by
  rintro xs ys ⟨i,ps,e,_⟩ ⟨j,qs,e2,_⟩
  cases e;cases e2;rfl
 cm:=by
  rintro x y ⟨i,ps,rfl,_⟩ ⟨j,qs,rfl,_⟩
  rw[oo]
  intro k x y hx hy _
  match k with
  |0=>cases hx;cases hy;rw[oo];trivial
  |1 =>
   cases hx;cases hy
   rw[oo]
   intro k x y hx hy _
   obtain⟨p,_,rfl⟩:=dn.mp (mB hx)
   obtain⟨q,_,rfl⟩:=dn.mp (mB hy)
   exact Dz p q
  |k+2=>simp at hx
end L2
namespace L2.Q
open PySem PySem.Spec PyProof.Rows PySem.SeqAt
section
variable {X:Cx}{K:PySem.W.Frag}{a b:Expr}{ta tb:WE}{pos:Pos}
def zL:W2:=fun _ x _ y Q=>match x with
 |.list xs=>match y with
  |.int n=>(0<=n/\n<=1000/\xs.length<=1000)/\cv xs=true/\Q (.ow true) (.list (List.replicate n.toNat xs).flatten)
  |_=>False
 |_=>False
theorem yZ{H:Hp}{xs:List D}{vs:List V}(h:aI K H xs vs)(k:Nat):aI K H (List.replicate k xs).flatten (List.replicate k vs).flatten:=by
 induction k with
 |zero=>exact .nil
 |succ k ih=>rw[y9,y9,AU,AU];exact h.append ih
theorem vf{xs:List D}(h:cv xs=true)(k:Nat):cv (List.replicate k xs).flatten=true:=by
 induction k with
 |zero=>rfl
 |succ k ih=>rw[y9,AU,fj,h,ih];rfl
theorem Er:jS K (DQ K) zL:=by
 intro Hs H m x v As n y u Bs Qd Qv w rx ry h f
 have r1:=rx.rep w
 have r2:=ry.rep w
 cases r1 with
 |list z s q=>cases r2 with
  |int n =>
   obtain⟨⟨h0,h1,h2⟩,fl,h⟩:=h
   have hl:=q.length
   refine⟨_,_,_,rfl,rfl,s,h0,h1,by lia,?_⟩
   refine f.lst w ?_ (yZ q _) (vf fl _) h
   rw[tM,sizeLine_eq]
   have:List.length _*n.toNat<=1000*1000:=Nat.mul_le_mul h2 (by lia)
   exact iN this (by decide)
  |_=>exact h.elim
 |_=>exact h.elim
theorem HQ(hK:X.K=K:=by rfl):cE X (binaryOp .Mult) (DQ K):=by subst hK;exact Ej
theorem Fx(ha:QE X K a ta)(hb:QE X K b tb)(hK:X.K=K:=by rfl):QE X K (.BinOp a .Mult b pos) (ax zL ta tb):=Fm (HQ hK) Er ha hb
def um(to te:WE):WE:=fun ρ Q=>to ρ fun _ x=>match x with
 |.list xs=>te ρ fun _ y=>ck 12 (.list xs)=true/\ck 12 y=true/\∃ j:Nat,(∃ z,xs[j]? = some z/\gS z y=true)/\(∀ (i:Nat) z,i<j->xs[i]? = some z->gS z y=false)/\Q .sh (.int j)
 |_=>False
theorem Eo{o e:Expr}{to te:WE}{apos dr:Pos}(hu:X.A.units+64<cLine)(ho:QE X K o to)(he:QE X K e te)(hK:X.K=K:=by rfl)
  (BF:attributeBase o "index" X.env (eval o X.env)=eval o X.env:=by rfl)
  (x3:((backTo dr (starEach [e] X.env)).all (fun x=>!x.1) && (backToKw dr (keywordEach [] X.env)).all (fun x=>x.1.isSome)
   && decide ([e].length+([]:List Keyword).length+(if ([]:List Keyword).isEmpty then 0 else 1)<30))=true:=by rfl)
  (hline:(apos.endLine == dr.line)=true:=by rfl) (yA:starEach (e :: []) X.env=(false,eval e X.env) :: starEach [] X.env:=by rfl) (BG:(backTo dr (starEach [] X.env)).any (·.1)=false:=by rfl) :
  QE X K (.Call (.Attribute o "index" apos) [e] [] dr) (um to te):=by
 subst hK
 refine PE.imp (MR PySem.F.plainAttrs_list PySem.F.slot_list_index PySem.F.type_list_index (zO hu) ho (oz he sL yA) BF x3 hline yA BG) fun σ H Qv hx=>i3 hx fun Hs ρ ae Q sr h f=>?_
 refine⟨Hs,ρ,ae,_,sr,h,fun v H1 aE m x As g1 r1 f1 q1=>?_⟩
 have r:=r1.rep g1.wf
 cases r with
 |list hz s rs =>
  refine⟨.inl ⟨rfl,_,s⟩,aE,ρ,ae,_,sr.grow g1,q1,fun y H2 ay m2 x2 fR g2 r2 f2 q2=>?_⟩
  obtain⟨o1,o2,j,⟨z,ez,eq⟩,DT,q⟩:=q2
  have rr:=(r1.grow g2).rep g2.wf
  cases rr with
  |list NJ s' TV =>
   have l2:=jo 12 _ o2
   have X1:∀ d∈_,ck 11 d=true:=GP.mp (show List.all _ (ck 11)=true from o1)
   refine⟨_,_,_,_,_,j,rfl,rfl,s',Rep.SW.2 TV 11 X1,(r2.rep g2.wf).l2 o2,fun e he=>?_,l2.1,⟨z.py,?_,eq⟩,fun m e hm he=>?_,Fin.sh (Fin.after f (g1.trans g2)) g2.wf (.int _) q⟩
   ·rw[iH] at he
    obtain⟨d,hd,rfl⟩:=dn.mp he
    have:=jo 11 d (X1 d hd)
    exact⟨this.1,by lia⟩
   ·rw[iH,kN,ez];rfl
   ·rw[iH,kN] at he
    obtain⟨d,hd,rfl⟩:=OL.mp he
    exact DT m d hm hd
 |_=>exact q1.elim
abbrev yj:W1:=Bv 2 tJ
theorem Hd (hu:X.A.units+64<cLine) (hK:X.K=K:=by rfl):iO X (.builtin "sorted") (mR K 2 tJ):=Ga Qw (by lia) hK
theorem yX:AO K (mR K 2 tJ) yj:=yG
end
end L2.Q
namespace L2.Q.R
open PySem PySem.Spec PyProof.Rows L2.Q PySem.SeqAt
section
variable {Q:Md->L2.Q.D->Prop}{m m':Md}{x y:L2.Q.D}{xs:List L2.Q.D}{Ny te:WE}{ρ:Env}{a:Int}
theorem Kr:zL m (.list xs) m' (.int a) Q=((0<=a/\a<=1000/\xs.length<=1000)/\cv xs=true/\Q (.ow true) (.list (List.replicate a.toNat xs).flatten)):=rfl
theorem JB:um Ny te ρ Q=Ny ρ fun _ x=>bS x (f:=fun x=>vv x fun xs=>te ρ fun _ y=>ck 12 (.list xs)=true/\ck 12 y=true/\∃ j:Nat,(∃ z,xs[j]? = some z/\gS z y=true)/\(∀ (i:Nat) z,i<j->xs[i]? = some z->gS z y=false)/\Q .sh (.int j)) ⟨⟩:=by unfold um bS vv;rfl
theorem Jc:yj m (.list xs) Q=(m=.sh/\(∀ d∈xs,ck 12 d=true/\tJ d.py)/\∀ ms:List L2.Q.D,ms.Perm xs->(ms.Pairwise fun a b=>PySem.SeqAt.b5 3 b.py a.py=false)->Q (.ow false) (.list ms)):=rfl
end
end L2.Q.R
namespace L2
open PySem PySem.Spec PyProof.Rows
end L2
namespace L2.Q
open PySem PySem.Spec PyProof.Rows
section
variable {X:Cx}{K:PySem.W.Frag}{a b c e:Expr}{te:WE}{pos p2:Pos}
theorem SR.view{Hs H:Hp}(G:Hp)(s:aC Hs H){ρ:Env}{σ:St}{ae:List Addr}(r:SR K Hs H ρ σ ae):SR K H G (ρ.map (Option.map Nt)) σ []:=by
 induction r with
 |nil=>exact .nil
 |non _ ih=>exact .non ih
 |sh r _ ih=>exact .sh (r.same s) ih
 |xc _ ih=>exact .xc ih
 |ow _ r _ ih=>exact .sh (r.rep s fun _ _=>rfl) ih
 |lk _ r _ ih=>exact .sh (r.rep s fun _ _=>rfl) ih
def Qx(i j:Nat)(hs xs:List D)(ρ:Env):Env:=(ρ.set j none).set i (some (.ow true (.list (hs++[.list xs]))))
def T1(i j:Nat)(hs xs:List D)(ρ:Env):Env:=((Qx i j hs xs ρ).map (Option.map Nt)).set j (some (.sh (.list xs)))
def eN'(o:Option Sl)(k:Sl->Prop):Prop:=match o with
 |some s=>k s
 |none=>False
def wD(i j:Nat)(te:WE):WS:=fun E ρ=>FL ρ[i]? fun hs=>FL ρ[j]? fun xs=>cv xs=true/\hs.length<sizeLine /\
 te (T1 i j hs xs ρ) fun m d=>eN' (asg (w9 m d) d) fun sl=>E.nx ((Qx i j hs xs ρ).set j (some sl))
theorem zQ{L:Str->Hp->Prop}{i j:Nat}{x:Str}{p1 p2 p3 pos':Pos}(hN:X.N.Nodup)(hj0:X.N[j]? = some x)(hx:Loc X.env.scope x)(hi:PE X a (DJ i))(hj:PE X b (DJ j))(he:QE X K e te)(jv:i≠j:=by decide)(hK:X.K=K:=by rfl)
  (s1:swapsWith (.Call (.Attribute a "append" p1) [b] [] p2) none pos.line X.env=pure false:=by rfl) (b1:attributeBase a "append" X.env (eval a X.env)=eval a X.env:=by rfl)
  (f1:((backTo p2 (starEach [b] X.env)).all (fun x=>!x.1) && (backToKw p2 (keywordEach [] X.env)).all (fun x=>x.1.isSome) && decide ([b].length+([]:List Keyword).length+(if ([]:List Keyword).isEmpty then 0 else 1)<30))=true:=by rfl)
  (l1:(p1.endLine == p2.line)=true:=by rfl) (t1:starEach (b :: []) X.env=(false,eval b X.env) :: starEach [] X.env:=by rfl) (q1:(backTo p2 (starEach [] X.env)).any (·.1)=false:=by rfl)
  (hs:swapsWith e (some (.Name x p3)) pos'.line X.env=pure false:=by rfl) (hf:X.fn x=true\/X.env.scope.names.lookup x=some .local:=by first|exact .inl rfl|exact .inr rfl|assumption) :
  qA X K L [.Expr (.Call (.Attribute a "append" p1) [b] [] p2) pos,.Assign [.Name x p3] e pos'] (wD i j te):=by
 subst hK
 refine mP.imp (Vl (OY (MR PySem.F.plainAttrs_list PySem.F.slot_list_append PySem.F.type_list_append RX hi (oz hj sL t1) b1 f1 l1 t1 q1) s1)
  (Rp (Rv hN hj0 hx he hs hf))) fun D σ H hx=>gj hx fun Hs ρ ae E sr h k1 k2 k3 k4=>?_
 obtain⟨hs,ei,h⟩:=Az h
 obtain⟨xs,ej,fl,Qg,h⟩:=Az h
 obtain⟨a,ws,c,vs,df,u1,u2,u3,u4,u5,u6,u7,ip⟩:=Cu jv sr ei ej fl Qg
 refine⟨_,u1,.inl ⟨rfl,_,.inl (.inl u2)⟩,_,u4,a,ws,_,rfl,rfl,u2,u3,?_⟩
 have rc:Rep X.K (upd H a (.lst (ws++[.ref c]))) (.list xs) (.ref c):=.list u7 (.inl (.inl u5)) (u6.same ip.wf.sub)
 have v0:=SR.view (upd H a (.lst (ws++[.ref c]))) ip.wf.sub ip.sr
 obtain⟨t,st,v1⟩:=v0.vQ rc j
 have e0:σ.set j (some (.ref c))=σ:=by
  apply CH
  intro m
  by_cases hm:j=m
  ·subst hm;rw[Oc (by have:=(hV.mp u4).1;exact this),u4]
  ·rw[GO hm]
 rw[e0] at v1
 have et:t=[]:=List.eq_nil_of_subset_nil st.subset
 subst et
 refine⟨upd H a (.lst (ws++[.ref c])),_,[],_,⟨v1,⟨aC.refl _,fun _ _ z=>z⟩,oq,fun _ h=>B1 h⟩,h,fun v H1 aE m d As g1 r1 f1 q1=>?_⟩
 obtain⟨fF,r',fr⟩:=nR ip.wf g1.sh g1.wf r1 f1.1 fun a ha=>(f1.2 a ha).1
 have gb:=fG ip.wf g1.sh g1.wf
 cases ea:asg (w9 m d) d with
 |none=>rw[ea] at q1;exact q1.elim
 |some sl =>
  rw[ea] at q1
  obtain⟨bX,s'⟩:=(ip.grow gb).set j r' fr.1 (fun a ha=>⟨(fr.2 a ha).1,fun m=>(ip.sr.own a m).ne (fr.2 a ha).2⟩) ea
  exact k1 _ H1 _ _ bX gb.sh s' q1
end
end L2.Q
namespace L2.Q.R
open PySem PySem.Spec PyProof.Rows L2.Q
section
variable {Q:Md->L2.Q.D->Prop}{m:Md}{xs:List L2.Q.D}{te:WE}{ρ:L2.Q.Env}{E:jw}{i j:Nat}
theorem Ir:wD i j te E ρ=bS ρ[i]? (f:=fun o=>FL o fun hs=>bS ρ[j]? (f:=fun o=>FL o fun xs=>cv xs=true/\hs.length<sizeLine /\
 te (T1 i j hs xs ρ) fun m d=>bS (asg (w9 m d) d) (f:=fun o=>put o fun sl=>E.nx ((Qx i j hs xs ρ).set j (some sl))) ⟨⟩) ⟨⟩) ⟨⟩:=rfl
end
end L2.Q.R
namespace L2
open PySem PySem.Spec PyProof.Rows
section
variable {prog:Program}{w:World}{A:Around}{E:Value->Shared->Prop}{s:Shared}
theorem iU{α β:Type _}(f:α->β)(l:List α):∀ k:Nat,(l.map f).eraseIdx k=(l.eraseIdx k).map f:=by
 induction l with
 |nil=>intro k;rfl
 |cons x l ih =>
  intro k
  cases k with
  |zero=>rfl
  |succ k=>rw[fz,GN,GN,fz,ih]
theorem vW{κ:Type}[DecidableEq κ]{kd:HeapKind prog w κ}{d b:Addr}{xs:List (κ × Addr × Value)}{k:κ}{p0:Addr × Value}{Q:Option DictEntry->Shared->Prop}(hu:kd.room A)(hk:kd.is s.heap k b)(hm:s.heap.DictOfH kd d xs)(hz:xs.length<=sizeLine)(h0:atKey xs k=some p0)
  (h:∀ j p h',xs[j]? = some (k,p)->h'.DictOfH kd d (xs.eraseIdx j)->Heap.SameBut d s.heap h'->Q (some (entryOfKey kd (k,p))) { s with heap:=h',toks:=s.toks+kd.draws k }):wpAny (model prog w) A (Builtin.Dict.takeOut d (.ref b)) Q E s:=by
 obtain⟨o,es,ep,ho,hc,hd,he,w_,hn⟩:=hm
 unfold Builtin.Dict.takeOut
 refine wpAny_holding ?_
 refine ai (kd.pyHash hu hk (ai (wpAny_dictFind_heap (s:={ s with toks:=s.toks+kd.draws k }) hu hk ho hd he w_ hn (fun no=>?_) fun j p hj=>?_)))
 ·rw[atKey_none_of_get no] at h0;cases h0
 ·refine ai (wpAny_dictEntries (s:={ s with toks:=s.toks+kd.draws k }) ho hd ?_)
  rw[entry_at he j,hj]
  have Qy:j<es.size:=by rw[size_of_entries he];exact(hV.mp hj).1
  refine ai (wpAny_updateDictKeys (hz:=by have e:=size_of_entries he;lia) (hf:=by simp[Array.eraseIdxIfInBounds,Qy];lia) (s:={ s with toks:=s.toks+kd.draws k }) ho hd (aS (h j p _ hj ?_ (Heap.SameBut.update ..))))
  refine⟨_,_,ep+1,GV _ ho (Obj.isFreed_of_dict (Obj.data_mapDictKeys hd _)),hc.mapDictKeys _,Obj.data_mapDictKeys hd _,?_,fun x hx=>?_,?_⟩
  ·show(es.eraseIdxIfInBounds j).toList=_
   rw[Array.eraseIdxIfInBounds,dif_pos Qy,Array.toList_eraseIdx,he,iU]
  ·exact kd.keeps (w_ x (List.mem_of_mem_eraseIdx hx)) ho hd (Heap.SameBut.update ..)
  ·exact(List.Sublist.map _ (List.eraseIdx_sublist ..)).nodup hn
theorem wO{κ:Type}[DecidableEq κ](kd:HeapKind prog w κ)(d b:Addr) :
  MeetsIn prog w (Builtin.«dict.pop» ⟨[.ref d,.ref b],[]⟩) (fun A R s=>kd.room A.in1/\∃ k xs p0,kd.is s.heap k b/\s.heap.DictOfH kd d xs/\xs.length<=sizeLine/\atKey xs k=some p0 /\
   ∀ j p h',xs[j]? = some (k,p)->h'.DictOfH kd d (xs.eraseIdx j)->Heap.SameBut d s.heap h'->R (.ok (.ret p.2)) { s with heap:=h',toks:=s.toks+kd.draws k }) :=
 .of_wp fun A R s dc=>by
  obtain⟨hu,k,xs,p0,hk,hm,hz,h0,h⟩:=dc
  obtain⟨o,es,ep,ho,hc,hd,he,w_,hn⟩:=id hm
  unfold Builtin.«dict.pop» Builtin.Dict.keyAndDefault
  refine ai (ai (wpAny_notOrdered_dict hm.typeIs ?_))
  refine(show wpAny _ _ (pure (d,Value.ref b,none)) _ _ s from aS ?_)
  dsimp only
  rw[if_neg (show ¬ ((keyPart (.ref b)).isSome=true) from gV)]
  refine ai (wpAny_dictEntries ho hd (ai (aS ?_)))
  have ne:es.isEmpty=false:=by
   cases e:es.isEmpty with
   |false=>rfl
   |true =>
    have:es.size=0:=by simpa[Array.isEmpty] using e
    rw[size_of_entries he] at this
    have:xs=[]:=List.eq_nil_of_length_eq_zero this
    subst this
    cases h0
  rw[ne]
  simp only[gu,if_false]
  refine ai (vW hu hk hm hz h0 fun j p h' hj Rf fN=>?_)
  simp only[Option.isNone_some,gu,if_false]
  exact ai (wpAny_letGo (aS ⟨_,rfl,h j p h' hj Rf fN⟩))
end
theorem KT.at{H:Hp}{kvs:List (List Key × V)}{xs:List (List Key × Addr × Value)}(r:KT H kvs xs){k:List Key}{p:Addr × Value}:∀ {j:Nat},xs[j]? = some (k,p)->∃ v,kvs[j]? = some (k,v)/\RelV v p.2:=by
 induction r with
 |nil=>intro j h;simp at h
 |@cons a q ps qs h t ih =>
  intro j hj
  cases j with
  |zero =>
   simp only[List.getElem?_cons_zero,Option.some.injEq] at hj
   subst hj
   obtain⟨k',v⟩:=a
   obtain⟨h1,_,h2⟩:=h
   simp only at h1
   subst h1
   exact⟨v,rfl,h2⟩
  |succ j=>exact ih (by simpa using hj)
theorem KT.erase{H:Hp}{kvs:List (List Key × V)}{xs:List (List Key × Addr × Value)}(r:KT H kvs xs):∀ j:Nat,KT H (kvs.eraseIdx j) (xs.eraseIdx j):=by
 induction r with
 |nil=>intro j;exact .nil
 |@cons a q ps qs h t ih =>
  intro j
  cases j with
  |zero=>exact t
  |succ j=>exact .cons h (ih j)
section
variable {X:Cx}
theorem Et (hu:X.A.units+1<cLine):Ph X "dict.pop" (fun x xs H Q=>∃ a b kvs k,x=.ref a/\xs=[.ref b]/\H a=some (.dT kvs)/\H b=some (.tup (k.map kV))/\k∈kvs.map (·.1)/\∀ j v,kvs[j]? = some (k,v)->Q v (upd H a (.dT (kvs.eraseIdx j)))):=by
 intro pins s σ H x vs v us Q I rx rv h
 obtain⟨a,b,kvs,k,rfl,rfl,e,eb,aw,q⟩:=h
 cases (show v=Value.ref a from rx)
 obtain⟨u,rfl,ru⟩:=Vals.one rv
 cases (show u=Value.ref b from ru)
 obtain⟨z,hd,xs,rel,dd⟩:=V7 I.aT e
 have hz:xs.length<=sizeLine:=by rw[<- Paired.length rel];exact z
 have vl:=rel.val k
 have hv:∃ p0,atKey xs k=some p0:=by
  cases ea:atKey xs k with
  |some p=>exact⟨p,rfl⟩
  |none =>
   rw[ea] at vl
   cases ev:nX kvs k with
   |some v'=>rw[ev] at vl;exact(vl:False).elim
   |none =>
    have:(kvs.any fun kv=>decide (kv.1=k))=true:=by
     obtain⟨p,hp,e⟩:=dn.mp aw
     exact EJ.mpr ⟨p,hp,decide_eq_true e⟩
    rw[RZ,ev] at this
    cases this
 obtain⟨p0,h0⟩:=hv
 refine call_meetsIn PySem.F.slot_dict_pop dd.typeIs PySem.F.entry_dict_pop (PySem.F.args_dict_pop_2 _ _) (wO (tupleKind (kQ X.prog X.w)) a b) ⟨tupleKind_room_in1 hu,k,xs,p0,IA I.aT eb,dd,hz,h0,fun j p h' hj IC hs=>?_⟩
 obtain⟨v,hkj,Qu⟩:=rel.at hj
 obtain⟨qo,es,ep,hq,g2,g3,g4,_,g5⟩:=IC
 have ob:eT X.prog X.w (upd H a (.dT (kvs.eraseIdx j))) h' a (.dT (kvs.eraseIdx j)):=by
  refine⟨?_,hd,_,(rel.erase j).keeps fun c ys ec=>?_,qo,es,ep,hq,g2,g3,g4,g5⟩
  ·rw[Oh];split<;>lia
  ·rw[eJ (U_ ec e fun z=>nomatch z)]
   exact ec
 exact⟨v,_,R3 I (by rw[e];exact True.intro) hs ⟨qo,hq⟩ ob,Qu,q j v hkj⟩
end
end L2
namespace L2.Q
open PySem PySem.Spec PyProof.Rows
section
variable {X:Cx}{K:PySem.W.Frag}{L:Str->Hp->Prop}{e e2:Expr}{p:WP}{Tc:WE}{apos dr pos:Pos}
def Em(p:WP)(tk:WE):WS:=fun E ρ=>p ρ fun fl d up=>match d with
 |.dT kvs=>tk ρ fun _ y=>match y with
  |.tup ys=>∃ ks,eE ys=some ks/\ks∈kvs.map (·.1)/\∀ j d,kvs[j]? = some (ks,d)->E.nx (up fl (.dT (kvs.eraseIdx j)))
  |_=>False
 |_=>False
theorem mj{α β:Type}:∀ (l:List α) (m:List β) (j:Nat),(l.zip m).eraseIdx j=(l.eraseIdx j).zip (m.eraseIdx j)
 |[],m,j=>by simp
 |x :: l,[],j=>by simp
 |x :: l,y :: m,0=>rfl
 |x :: l,y :: m,j+1=>by
  rw[xl,GN,GN,GN,xl,mj l m j]
theorem Dd(hu:X.A.units+1<cLine)(ho:QP X K e p)(he:QE X K e2 Tc)(hK:X.K=K:=by rfl)
  (BF:attributeBase e "pop" X.env (eval e X.env)=eval e X.env:=by rfl)
  (x3:((backTo dr (starEach [e2] X.env)).all (fun x=>!x.1) && (backToKw dr (keywordEach [] X.env)).all (fun x=>x.1.isSome)
   && decide ([e2].length+([]:List Keyword).length+(if ([]:List Keyword).isEmpty then 0 else 1)<30))=true:=by rfl)
  (hline:(apos.endLine == dr.line)=true:=by rfl) (yA:starEach (e2 :: []) X.env=(false,eval e2 X.env) :: starEach [] X.env:=by rfl) (BG:(backTo dr (starEach [] X.env)).any (·.1)=false:=by rfl)
  (hs:swapsWith (.Call (.Attribute e "pop" apos) [e2] [] dr) none pos.line X.env=pure false:=by rfl) :
  QS X K L (.Expr (.Call (.Attribute e "pop" apos) [e2] [] dr) pos) (Em p Tc):=by
 subst hK
 refine PS.imp (OY (MR PySem.F.plainAttrs_dict PySem.F.slot_dict_pop PySem.F.type_dict_pop (Et hu) ho (oz he sL yA) BF x3 hline yA BG) hs) fun D σ H hx=>gj hx fun Hs ρ ae E sr h k1 k2 k3 k4=>?_
 refine⟨Hs,ρ,ae,_,sr,h,fun v H1 aE fl d up g1 p1 q1=>?_⟩
 cases d with
 |dT kvs =>
  obtain⟨fF,r,ne,nd,own,k⟩:=p1.ex
  have lv:∀ x∈fF,aE x=none/\H1 x≠none:=fun x hx=>⟨own x hx,(r.own x hx).ne⟩
  cases r with
  |sh hf _=>exact absurd rfl ne
  |@dT a vs _ A kk ea rs =>
   refine⟨.inr (.inr (.inl ⟨rfl,.inr ⟨_,ea⟩⟩)),aE,ρ,ae,_,sr.grow g1,q1,fun w H2 ay m y Bs g2 r2 f2 q2=>?_⟩
   have ry:=r2.rep g2.wf
   cases ry with
   |tup t2 ey p2 =>
    obtain⟨ks,hk,aw,q⟩:=q2
    obtain⟨b,eb,e3⟩:=Rep.mn (.tup t2 ey p2) hk
    cases eb
    have hl:kvs.length=vs.length:=by have:=rs.length;rwa[cK] at this
    have ez:((kvs.map (·.1)).zip vs).map (·.1)=kvs.map (·.1):=LZ (by rw[cK];exact HC hl)
    refine⟨a,_,_,ks,rfl,rfl,g2.all _ _ ea,e3,by rw[ez];exact aw,fun j v hj=>?_⟩
    have hjk:∃ d,kvs[j]? = some (ks,d):=by
     have h1:(kvs.map (·.1))[j]? = some ks:=by rw[<- ez,kN,hj];rfl
     rw[kN] at h1
     obtain⟨q',Qk,e'⟩:=OL.mp h1
     obtain⟨a',d'⟩:=q'
     simp only at e'
     subst e'
     exact⟨d',Qk⟩
    obtain⟨d,hd⟩:=hjk
    obtain⟨nA,ndA⟩:=ly.mp nd
    obtain⟨B,sb,rb⟩:=(rs.grow g2.sh g2.all).erase j
    have rr:bI X.K ay (upd H2 a (.dT (((kvs.map (·.1)).zip vs).eraseIdx j))) fl (.dT (kvs.eraseIdx j)) (.ref a) (a :: B):=by
     refine .dT (vs:=vs.eraseIdx j) ⟨by have:=kk.1;rw[Oh];split<;>lia,fun p hp=>kk.2 p (List.mem_of_mem_eraseIdx hp)⟩ ?_ ?_
     ·rw[ki,mj,iU]
     ·rw[<- iU]
      exact rb.eM (aC.refl _) fun c hc=>eJ fun z=>nA (by subst z;exact sb.subset hc)
    obtain⟨df,ip⟩:=k.node (fl2:=fl) (d2:=.dT (kvs.eraseIdx j)) (C:=B) g2 lv (fun _ z=>by cases z) id rr (sb.nodup ndA) (fun z=>nA (sb.subset z)) fun x hx=>.inl (sb.subset hx)
    exact k1 _ _ ay _ df (g1.sh.trans g2.sh) ip (q j d hd)
   |_=>exact q2.elim
 |_=>exact q1.elim
end
end L2.Q
namespace L2.Q.R
open PySem PySem.Spec PyProof.Rows L2.Q
abbrev X2:=List (List Key × L2.Q.D)
section
variable {E:jw}{ρ:Env}{p:WP}{tk:WE}
def X3(d:L2.Q.D)(k:X2->Prop):Prop:=match d with
 |.dT kvs=>k kvs
 |_=>False
theorem Lz{kvs:List (List Key × L2.Q.D)}{k:X2->Prop}:X3 (.dT kvs) k=k kvs:=rfl
theorem J4:Em p tk E ρ=p ρ fun fl d up=>bS d (f:=fun d=>X3 d fun kvs=>tk ρ fun _ y=>bS y (f:=fun y=>Qp y fun ys=>∃ ks,eE ys=some ks/\ks∈kvs.map (·.1)/\∀ j d,kvs[j]? = some (ks,d)->E.nx (up fl (.dT (kvs.eraseIdx j)))) ⟨⟩) ⟨⟩:=rfl
end
end L2.Q.R
local macro_rules | `(tactic| walk_at "q") => do
 let nm (s:String):Lean.Ident:=Lean.mkIdent ((s.splitOn ".").foldl Lean.Name.mkStr .anonymous)
 let ds ← ("JS Ln J9 J3 HR J0 LC MJ Jf Hw KJ JR Kv KQ J8 Ka Lq Kq JH Ks KN Li JG K5 Ko J5 Ls K9 Lh Lp K_ Mx Mv JT Km Mu Mm KY Hu K8 JZ wB_ Lj Mw de' Lw Mh Jv HN wC_ dg' dh' Jw KR KZ Ku K7 Mt Mf K3 IK Ji Jj Ie HJ Jz Iw Ib JM KC JF Kd KD Kg Lr Ld JK Mj JQ Ez Kr JB Hx Jc Ir J4 Lz L_ K6 Lb La LR Ml LK KH J1 Kc Ms Ij Iu di' Kh Kf Lf Ma JP Ip IV dk' Hv Mp Iz Lx J7 Mq Jp K1 Ik Hq Hr Ht gN_ gT_ K4 Mi J_ Kw Kp HW I_ Jh IW Mz Ig Jk Hy Mr MF Kl J2 Kz JN HX Jt Ke JW eE' JX JV".splitOn " ").toArray.mapM fun s=>`(Lean.Parser.Tactic.simpLemma| ↓$(nm ("L2.Q.R." ++ s)):ident)
 let us ← ("L2.Q.Qx L2.Q.T1 L2.Q.cX' L2.Q.eD' L2.Q.CQ L2.Q.Cm L2.Q.AK L2.Q.Kb L2.Q.Fs L2.Q.w9 L2.Q.jD L2.Q.Nu L2.Q.Nr L2.Q.Nt L2.Q.mL L2.Q.DP L2.Q.asg L2.Q.kX L2.Q.aY L2.Q.D.flat L2.Q.cv L2.Q.D.PZ L2.Q.D.ty L2.Q.cG' L2.Q.D.key1 L2.Q.eE L2.Q.Hl L2.Q.JL List.length_map List.map_cons List.map_nil List.length_cons List.length_nil List.replicate_succ List.replicate_zero List.cons_append List.nil_append List.append_nil List.getElem?_cons_zero List.getElem?_cons_succ List.getElem?_nil List.set_cons_zero List.set_cons_succ List.all_cons List.all_nil Option.some.injEq Option.join_some Option.map_some Option.map_none Nat.reduceAdd Nat.reduceSub true_and and_true Bool.and_true Bool.true_and Bool.and_false Bool.false_and Bool.not_true Bool.not_false Bool.false_eq_true if_true if_false decide_true decide_false reduceIte cond_true cond_false PySem.sizeLine_eq L2.Q.cY' L2.Q.cZ' L2.Q.da' L2.Q.du L2.Q.Fw L2.Q.empty_app Nat.zero_add exists_eq_left' Int.reduceLT Int.reduceLE Int.reducePow Int.reduceNeg Int.reduceToNat Int.reduceAdd Int.reduceMul Int.reduceSub Nat.reduceLeDiff Nat.reduceLT false_or or_false and_self L2.Ly".splitOn " ").toArray.mapM fun s=>`(Lean.Parser.Tactic.simpLemma| $(nm s):ident)
 let as:Lean.TSyntaxArray [`Lean.Parser.Tactic.simpStar,`Lean.Parser.Tactic.simpErase,`Lean.Parser.Tactic.simpLemma]:=(ds++us).map fun x=>⟨x.raw⟩
 `(tactic| simp -dsimp only [$as,*])
namespace L2.Q.T3
open PySem PySem.Spec PyProof.Rows
def isLet(c:Nat):Bool:=decide (97<=c/\c<=122)
abbrev abc:Str := "abcdefghijklmnopqrstuvwxyz"
theorem zY:sg abc=(List.range 26).map (97 + ·):=by decide +kernel
theorem wW{i:Int}(h0:0<=i)(h1:i<26):∃ c,fq (sg abc) i=some c/\isLet c=true:=by
 refine⟨97+i.toNat,?_,?_⟩
 ·have:fq (sg abc) ((i.toNat:Nat):Int)=some (97+i.toNat):=E4 (by
   rw[zY]
   have:i.toNat<26:=by lia
   simp[this])
  rwa[zk h0] at this
 ·simp[isLet];lia
theorem sE(x:Int):∃ c,fq (sg abc) (x % 26)=some c/\isLet c=true:=wW (OD _ (by decide)) (Rb _ (by decide))
def lets(x:Str):Prop:=∀ c∈sg x,isLet c=true
def Open(x:Str):Prop:=1<=x.length/\x.length<=6/\lets x
def NV (x:Str):Prop:=x = "*"\/Open x
theorem yM{x y:Str}(hx:lets x)(hy:lets y):lets (x++y):=fun c hc=>by
 rw[sY] at hc
 exact(dy.mp hc).elim (hx c) (hy c)
theorem zy{c:Nat}(h:isLet c=true):lets ⟨#[c]⟩:=fun d hd=>by
 have:d=c:=by simpa[sg] using hd
 rw[this];exact h
theorem iW(c:Nat):(⟨#[c]⟩:Str).length=1:=rfl
theorem NV.ok{x:Str}(h:NV x):PyData.strOk x=true:=by
 rw[BV]
 rcases h with rfl|h
 ·have:sg "*" = [42]:=by decide +kernel
  intro c hc
  rw[this] at hc
  have:c=42:=by simpa using hc
  lia
 ·intro c hc
  have:=h.2.2 c hc
  simp[isLet] at this
  lia
abbrev bE:=Int × Str × Int
def iE(s:bE):List Key:=[.inl s.1,.inr s.2.1,.inl s.2.2]
def iF(s:bE):D:=.tup [.int s.1,.str s.2.1,.int s.2.2]
def mD(many:Int)(steps:List bE):D:=.tup [.int many,.list (steps.map iF)]
theorem pD:∀ (l:List bE),cv (l.map iF)=true
 |[]=>rfl
 |x :: l=>by simp[cv,pD l,iF,D.flat]
def D8(many:Int)(s:bE):Prop:=0<=s.1/\s.1<many/\NV s.2.1/\0<=s.2.2/\s.2.2<many
theorem Gq{many:Int}{s:bE}(n:Nat)(h:D8 many s):ck (n+1) (iF s)=true:=by
 have:=h.2.2.1.ok
 simp[ck,iF,this]
theorem DG{many:Int}{l:List bE}(n:Nat)(h:∀ s∈l,D8 many s):ck (n+2) (.list (l.map iF))=true:=by
 simp only[ck,Oo,GP]
 intro s hs
 exact Gq n (h s hs)
theorem X4{many:Int}{l:List bE}(n:Nat)(h:∀ s∈l,D8 many s):ck (n+3) (mD many l)=true:=by
 have h2:=DG n h
 show(ck (n+2) (.int many) && (ck (n+2) (.list (l.map iF)) && true))=true
 rw[h2]
 rfl
theorem x_:∀ (l:List bE),sR (l.map iF)=true
 |[]=>rfl
 |x :: l=>by simp[sR,x_ l,iF,D.nb]
theorem eS'(many:Int)(l:List bE):(mD many l).nb=true:=by simp[mD,D.nb,sR,x_]
theorem eq_self{x:D}(h:x.nb=true):gS x x=true:=(m7 x x h h).mpr rfl
def b5(s t:bE):Bool:=ft (iE s) (iE t)
theorem rO{P:bE->Prop}:∀ {ks:List (List Key)},(∀ k∈ks,∃ s,k=iE s/\P s)->∃ l:List bE,ks=l.map iE/\∀ s∈l,P s
 |[],_=>⟨[],rfl,fun s h=>nomatch h⟩
 |k :: ks,h=>by
  obtain⟨s,rfl,p⟩:=h k cf
  obtain⟨l,rfl,q⟩:=rO fun k hk=>h k (cc _ hk)
  refine⟨s :: l,rfl,fun t ht=>?_⟩
  rcases cS.mp ht with rfl|ht
  ·exact p
  ·exact q t ht
abbrev Kn:=List (List Key × D)
def tN(P:bE->Prop)(kvs:Kn):Prop:=(∀ p∈kvs,∃ s,p.1=iE s/\P s)/\(kvs.map (·.1)).Nodup
theorem xV{κ β:Type}[DecidableEq κ](kvs:List (κ × β))(k:κ)(v:β):(jI kvs k v).map (·.1)=if k∈kvs.map (·.1) then kvs.map (·.1) else kvs.map (·.1)++[k]:=by
 unfold jI
 by_cases h:k∈kvs.map (·.1)
 ·have:(kvs.any fun kv=>decide (kv.1=k))=true:=by
   obtain⟨p,hp,e⟩:=dn.mp h
   exact EJ.mpr ⟨p,hp,decide_eq_true e⟩
  rw[if_pos this,if_pos h,kg]
  apply Oi
  intro p _
  show(if p.1=k then (p.1,v) else p).1=p.1
  split<;>rfl
 ·have:¬ (kvs.any fun kv=>decide (kv.1=k))=true:=by
   intro z
   obtain⟨p,hp,e⟩:=EJ.mp z
   exact h (dn.mpr ⟨p,hp,of_decide_eq_true e⟩)
  rw[if_neg this,if_neg h,AV]
  rfl
theorem tN.put{P:bE->Prop}{kvs:Kn}{s:bE}{d:D}(h:tN P kvs)(hs:P s):tN P (jI kvs (iE s) d):=by
 refine⟨fun p hp=>?_,?_⟩
 ·rcases oU hp with e|e
  ·exact⟨s,e,hs⟩
  ·obtain⟨q,hq,e⟩:=dn.mp e
   rw[<- e]
   exact h.1 q hq
 ·rw[xV]
  split
  ·exact h.2
  ·rename_i hn
   exact i7.mpr ⟨h.2,by simp,fun a ha b hb e=>by
    have:b=iE s:=by simpa using hb
    subst this;subst e;exact hn ha⟩
theorem tN.nil{P:bE->Prop}:tN P []:=⟨(fun p hp=>nomatch hp),oq⟩
theorem tN.sorted{P:bE->Prop}{kvs:Kn}(h:tN P kvs){Q:Md->D->Prop}(k:∀ steps:List bE,(steps.map iE).Perm (kvs.map (·.1))->(∀ s∈steps,P s)->steps.Pairwise (fun a b=>b5 a b=true)->steps.length=kvs.length->Q (.ow true) (.list (steps.map iF))) :
  Hl (.ow true) (.list (kvs.map fun kv=>.tup (kv.1.map ti))) Q:=by
 refine⟨kvs.map (·.1),[false,true],by rw[kg];rfl,fun k hk=>?_,fun ms pm pw=>?_⟩
 ·obtain⟨p,hp,rfl⟩:=dn.mp hk
  obtain⟨s,e,_⟩:=h.1 p hp
  rw[e];rfl
 ·obtain⟨l,rfl,hl⟩:=rO (P:=P) (ks:=ms) fun k hk=>by
   obtain⟨p,hp,e⟩:=dn.mp (pm.mem_iff.mp hk)
   rw[<- e]
   exact h.1 p hp
  have e:(l.map iE).map mn=l.map iF:=by rw[kg];rfl
  rw[e]
  refine k l pm hl ?_ (by have:=pm.length_eq;simpa using this)
  have nd:(l.map iE).Nodup:=pm.nodup_iff.mpr h.2
  rw[rp] at pw
  have AR:l.Pairwise fun a b=>iE a≠iE b:=by
   rw[List.Nodup,rp] at nd
   exact nd
  refine(pw.and AR).imp fun {a b} ⟨h1,h2⟩=>?_
  unfold b5
  cases h3:ft (iE a) (iE b) with
  |true=>rfl
  |false=>exact absurd (lz (a:=iE a) (b:=iE b) rfl h3 h1) h2
theorem jN:∀ (l:List Str),cv (l.map D.str)=true
 |[]=>rfl
 |x :: l=>by simp[cv,jN l,D.flat]
theorem qx:∀ (l:List Int),cv (l.map D.int)=true
 |[]=>rfl
 |x :: l=>by simp[cv,qx l,D.flat]
theorem zK(l:List Str)(x:Str):l.map D.str++[D.str x]=(l++[x]).map D.str:=by simp
theorem bM{n i:Nat}{lo:Int}{x:D}(h:(qO lo n)[i]? = some x):i<n/\x=.int (lo+(i:Nat)):=by
 unfold qO at h
 rw[kN] at h
 by_cases hi:i<n
 ·rw[List.getElem?_range hi] at h
  exact⟨hi,(Option.some.inj h).symm⟩
 ·rw[tP (by simpa using hi)] at h
  cases h
theorem bJ(lo:Int)(n:Nat):(qO lo n).length=n:=by simp[qO]
theorem xn{names:List Str}{i:Int}(h0:0<=i)(h1:i<names.length):∃ n,n∈names/\fq (names.map D.str) i=some (.str n):=by
 have hn:i.toNat<names.length:=by lia
 refine⟨names[i.toNat],CY hn,?_⟩
 have:=E4 (xs:=names.map D.str) (j:=i.toNat) (v:=.str names[i.toNat]) (by simp[hn])
 rwa[zk h0] at this
theorem Ac{n d:Nat}{k:Int}(h0:0<=k)(h1:k<=n):HT.bG n d (some k)=k.toNat:=by
 simp only[HT.bG]
 rw[if_neg (by lia)]
 lia
theorem ie{α:Type}[DecidableEq α]:∀ {l m:List α},l.Nodup->(∀ x∈l,x∈m)->l.length<=m.length
 |[],_,_,_=>dz _
 |x :: l,m,nd,h=>by
  obtain⟨hx,nd⟩:=ly.mp nd
  have hm:=h x cf
  have:=ie (l:=l) (m:=m.erase x) nd fun y hy=>(List.mem_erase_of_ne (fun e=>by subst e;exact hx hy)).mpr (h y (cc _ hy))
  rw[List.length_erase_of_mem hm] at this
  have:=List.length_pos_of_mem hm
  simp only[sv]
  lia
def g_(n:Nat):List Int:=(List.range n).map fun i=>((i:Nat):Int)
theorem uI(n:Nat):(g_ n).length=n:=by simp[g_]
theorem ur{n:Nat}{x:Int}:x∈g_ n↔0<=x/\x<n:=by
 unfold g_
 rw[dn]
 constructor
 ·rintro⟨i,hi,rfl⟩
  have:=rq.mp hi
  lia
 ·intro ⟨h0,h1⟩
  exact⟨x.toNat,rq.mpr (by lia),by lia⟩
def fw(many:Int)(steps:List bE):Prop:=∀ s∈steps,D8 many s
theorem nZ{κ β:Type}[DecidableEq κ]{kvs:List (κ × β)}{k:κ}:(kvs.any fun kv=>decide (kv.1=k))=true↔k∈kvs.map (·.1):=by
 rw[EJ,dn]
 exact⟨fun⟨p,hp,e⟩=>⟨p,hp,of_decide_eq_true e⟩,fun⟨p,hp,e⟩=>⟨p,hp,decide_eq_true e⟩⟩
theorem oZ{κ β:Type}[DecidableEq κ]:∀ {kvs:List (κ × β)} {k:κ},(dP kvs k).isSome=true↔k∈kvs.map (·.1)
 |[],k=>by simp[dP]
 |p :: kvs,k=>by
  have ih:=oZ (kvs:=kvs) (k:=k)
  rw[fz,cS]
  by_cases h:p.1=k
  ·subst h;simp[dP]
  ·have:dP (p :: kvs) k=dP kvs k:=by simp[dP,h]
   rw[this,ih]
   exact⟨.inr,fun z=>z.elim (fun e=>absurd e.symm h) id⟩
theorem Bd{steps:List bE}{i:Nat}{x:D}(h:(steps.map iF)[i]? = some x):∃ p d r,x=.tup [.int p,.str d,.int r]/\(p,d,r)∈steps/\steps.take (i+1)=steps.take i++[(p,d,r)]:=by
 rw[kN] at h
 cases e:steps[i]? with
 |none=>rw[e] at h;cases h
 |some s =>
  rw[e] at h
  cases h
  obtain⟨p,d,r⟩:=s
  exact⟨p,d,r,rfl,mB e,by rw[EH,e];rfl⟩
theorem gw{l:List Int}{i:Int}(h0:0<=i)(h1:i<l.length):∃ c,c∈l/\fq (l.map D.int) i=some (.int c):=by
 have hn:i.toNat<l.length:=by lia
 refine⟨l[i.toNat],CY hn,?_⟩
 have:=E4 (xs:=l.map D.int) (j:=i.toNat) (v:=.int l[i.toNat]) (by simp[hn])
 rwa[zk h0] at this
theorem vY(x:Int){m:Int}(h:0<m):0<=x % m/\x % m<m:=⟨OD _ (by lia),Rb _ h⟩
theorem bA{a b:Int}(h0:-1000<=b)(h1:b<=10000000000):zS a b:=.inr ⟨by lia,by lia⟩
theorem iJ{a b:Int}(h0:-1000<=a)(h1:a<=10000000000):zS a b:=.inl ⟨by lia,by lia⟩
theorem iY:∀ l:List Nat,sg (Str.join "" (l.map fun c=>(⟨#[c]⟩:Str)))=l
 |[]=>by decide +kernel
 |[c]=>rfl
 |c :: d :: l=>by
  have ih:=iY (d :: l)
  show sg ((⟨#[c]⟩:Str) ++ "" ++ Str.join "" ((d :: l).map fun c=>(⟨#[c]⟩:Str)))=_
  rw[sY,sY,ih,show sg ("" : Str)=[] by decide +kernel]
  rfl
theorem tV:∀ l:List Nat,(l.map fun _=>1).sum=l.length
 |[]=>rfl
 |x :: l=>by simp[tV l];lia
theorem mJ:∀ (l:List Str),jD (l.map D.str)=some l
 |[]=>rfl
 |x :: l=>by simp[jD,mJ l]
def sf(n:Nat)(out:List D):Prop:=∃ cs:List Nat,out=cs.map (fun c=>D.str ⟨#[c]⟩)/\cs.length=n/\∀ c∈cs,isLet c=true
theorem sf.nil:sf 0 []:=⟨[],rfl,rfl,fun c hc=>nomatch hc⟩
theorem sf.push{n:Nat}{out:List D}{c:Nat}(h:sf n out)(hc:isLet c=true):sf (n+1) (out++[.str ⟨#[c]⟩]):=by
 obtain⟨cs,rfl,hl,ha⟩:=h
 refine⟨cs++[c],by simp,by simp[hl],fun d hd=>?_⟩
 rcases dy.mp hd with hd|hd
 ·exact ha d hd
 ·rw[kC.mp hd];exact hc
theorem sf.join{n:Nat}{out:List D}(h:sf n out)(hn:n<=100) :
  ∃ zs,jD out=some zs/\(zs.map (·.length)).sum+zs.length*(Str.ofString "").length<=16777216/\(Str.join "" zs).length=n/\lets (Str.join "" zs):=by
 obtain⟨cs,rfl,hl,ha⟩:=h
 refine⟨cs.map fun c=>⟨#[c]⟩,?_,?_,?_⟩
 ·rw[<- mJ,kg];rfl
 ·rw[show(Str.ofString "").length=0 by decide,kg,Nat.mul_zero,HG]
  show(cs.map fun _=>1).sum<=_
  rw[tV];lia
 ·have hw:=iY cs
  generalize Str.join "" (cs.map fun c=>(⟨#[c]⟩:Str))=word at hw ⊢
  refine⟨?_,fun c hc=>ha c (by rwa[hw] at hc)⟩
  have:(sg word).length=n:=by rw[hw,hl]
  rw[<- this];unfold sg Str.length;simp
theorem yQ(l:List Str)(lo hi:Option Int):pd (l.map D.str) lo hi=(pd l lo hi).map D.str:=by
 unfold pd
 rw[cK,List.map_take,List.map_drop]
theorem Gy{α:Type}{l:List α}{a b:Int}(h0:0<=a)(h1:a<b)(h2:a<l.length):1<=(pd l (some a) (some b)).length/\(pd l (some a) (some b)).length<=l.length/\∀ x∈pd l (some a) (some b),x∈l:=by
 have e:HT.bG l.length 0 (some a)=a.toNat:=Ac h0 (by lia)
 have e2:a.toNat<HT.bG l.length l.length (some b):=by
  simp only[HT.bG]
  rw[if_neg (by lia)]
  lia
 unfold pd
 rw[e,nv,CL]
 exact⟨by lia,by lia,fun x hx=>QN (Og hx)⟩
theorem tN.En{P:bE->Prop}{kvs:Kn}(h:tN P kvs){R:List (List Key)->Prop}(k:∀ steps:List bE,(steps.map iE).Perm (kvs.map (·.1))->(∀ s∈steps,P s)->steps.Pairwise (fun a b=>b5 a b=true)->steps.length=kvs.length->R (steps.map iE)) :
  ∃ b0 sh,(∀ p∈kvs,gL p.1=b0 :: sh)/\∀ ms:List (List Key),ms.Perm (kvs.map (·.1))->(ms.Pairwise fun a b=>ft b a=false)->R ms:=by
 refine⟨true,[false,true],fun p hp=>?_,fun ms pm pw=>?_⟩
 ·obtain⟨s,e,_⟩:=h.1 p hp
  rw[e];rfl
 ·obtain⟨l,rfl,hl⟩:=rO (P:=P) (ks:=ms) fun k hk=>by
   obtain⟨p,hp,e⟩:=dn.mp (pm.mem_iff.mp hk)
   rw[<- e]
   exact h.1 p hp
  refine k l pm hl ?_ (by have:=pm.length_eq;simpa using this)
  have nd:(l.map iE).Nodup:=pm.nodup_iff.mpr h.2
  rw[rp] at pw
  have AR:l.Pairwise fun a b=>iE a≠iE b:=by
   rw[List.Nodup,rp] at nd
   exact nd
  refine(pw.and AR).imp fun {a b} ⟨h1,h2⟩=>?_
  unfold b5
  cases h3:ft (iE a) (iE b) with
  |true=>rfl
  |false=>exact absurd (lz (a:=iE a) (b:=iE b) rfl h3 h1) h2
theorem uB(l:List bE):(l.map iE).map mn=l.map iF:=by rw[kg];rfl
theorem vL{one states j copies:Int}(h0:0<=one)(h1:one<states)(hj:0<=j)(Lc:j<copies):0<=one+states*j/\one+states*j<copies*states:=by
 have a:=Int.mul_le_mul_of_nonneg_left (show j+1<=copies by lia) (show 0<=states by lia)
 rw[Int.mul_add,Int.mul_one,Int.mul_comm states copies] at a
 have b:=OG (show 0<=states by lia) hj
 lia
abbrev Pr:=Str × Int
abbrev Ky:=Int × List Pr
def pf(p:Pr):List Key:=[.inr p.1,.inl p.2]
def i6(p:Pr):D:=.tup [.str p.1,.int p.2]
def fS(k:Ky):D:=.tup [.int k.1,.list (k.2.map i6)]
def xa(r:List Int):D:=.list (r.map .int)
def qV(a b:Ky):Bool:=PySem.SeqAt.b5 3 (fS a).py (fS b).py
def sj(k:Ky):Prop:=∀ p∈k.2,PyData.strOk p.1=true
theorem Bx(k:Ky):(fS k).py=.tuple [.int k.1,.list (k.2.map L2.lK)]:=by
 show PyData.tuple [.int k.1,.list (kU (k.2.map i6))]=_
 rw[iH,kg]
 rfl
theorem sj.tJ{k:Ky}(h:sj k):L2.tJ (fS k).py:=⟨k.1,k.2,Bx k,h⟩
theorem lu(a:Ky)(h:sj a):qV a a=false:=L2.Qw.ae.pe _ h.tJ
theorem Ay{a b c:Ky}(ha:sj a)(hb:sj b)(hc:sj c):qV a b=true->qV b c=true->qV a c=true:=L2.Qw.ae.tr _ _ _ ha.tJ hb.tJ hc.tJ
theorem Dt{p q:Pr}(h:i6 p=i6 q):p=q:=by
 obtain⟨a,b⟩:=p
 obtain⟨c,d⟩:=q
 simp[i6] at h
 rw[h.1,h.2]
theorem BL{p q:Pr}(h:pf p=pf q):p=q:=by
 obtain⟨a,b⟩:=p
 obtain⟨c,d⟩:=q
 simp[pf] at h
 rw[h.1,h.2]
theorem map_inj{α β:Type}{f:α->β}(hf:∀ a b,f a=f b->a=b):∀ {l m:List α},l.map f=m.map f->l=m
 |[],[],_=>rfl
 |[],_ :: _,h=>by simp at h
 |_ :: _,[],h=>by simp at h
 |x :: l,y :: m,h=>by
  simp only[fz,List.cons.injEq] at h
  rw[hf _ _ h.1,map_inj hf h.2]
theorem xg{a b:Ky}(h:fS a=fS b):a=b:=by
 simp only[fS,D.tup.injEq,List.cons.injEq,D.int.injEq,D.list.injEq] at h
 exact Prod.ext h.1 (map_inj (fun _ _=>Dt) h.2.1)
theorem Bw:∀ l:List Pr,sR (l.map i6)=true
 |[]=>rfl
 |x :: l=>by simp[sR,Bw l,i6,D.nb]
theorem Fg(k:Ky):(fS k).nb=true:=by simp[fS,D.nb,sR,Bw]
theorem uK(a b:Ky):gS (fS a) (fS b)=decide (a=b):=by
 rw[xA,m7 _ _ (Fg a) (Fg b),decide_eq_true_iff]
 exact⟨xg,fun e=>by rw[e]⟩
theorem Ep{a b:Ky}(ha:sj a)(hb:sj b)(h1:qV a b=false)(h2:qV b a=false):a=b:=by
 have e:=L2.Qw.ae.ae _ _ ha.tJ hb.tJ h1 h2
 have:gS (fS a) (fS b)=gS (fS a) (fS a):=by unfold gS;rw[e]
 rw[uK,uK] at this
 simpa using this
theorem Dq{a b:Ky}(h:a.1<b.1):qV a b=true:=by
 unfold qV
 rw[Bx,Bx,PySem.SeqAt.b5,PySem.SeqAt.nk]
 have:PyData.eqv (.int a.1) (.int b.1)=false:=by
  have:a.1≠b.1:=by lia
  simpa[PyData.eqv] using this
 rw[this,if_neg gV,PySem.SeqAt.b5]
 exact decide_eq_true h
theorem Ah{k:Ky}(h:sj k)(n:Nat):ck (n+3) (fS k)=true:=by
 have:∀ p∈k.2.map i6,ck (n+1) p=true:=fun d hd=>by
  obtain⟨p,hp,rfl⟩:=dn.mp hd
  simp[i6,ck,h p hp]
 simp only[fS,ck,AX,List.all_nil,Ow,Bool.true_and,GP]
 exact this
theorem Bp{l:List Ky}(h:∀ k∈l,sj k)(n:Nat):ck (n+4) (.list (l.map fS))=true:=by
 simp only[ck,Oo,GP]
 exact fun k hk=>Ah (h k hk) n
theorem F_(l:List Ky)(k:Ky):Ct (l.map fS) (fS k)=decide (k∈l):=by
 unfold Ct
 rw[List.any_map,xA,EJ,decide_eq_true_iff]
 constructor
 ·rintro⟨j,hj,e⟩
  have e:gS (fS j) (fS k)=true:=e
  rw[uK,decide_eq_true_iff] at e
  rwa[<- e]
 ·exact fun hk=>⟨k,hk,by show gS (fS k) (fS k)=true;rw[uK];exact decide_eq_true rfl⟩
theorem qU:∀ l:List Int,sR (l.map D.int)=true
 |[]=>rfl
 |x :: l=>by simp[sR,qU l,D.nb]
theorem Je(a b:List Int):gS (.list (a.map .int)) (.list (b.map .int))=decide (a=b):=by
 rw[xA,m7 _ _ (by simp[D.nb,qU]) (by simp[D.nb,qU]),decide_eq_true_iff]
 refine⟨fun h=>map_inj (f:=D.int) (fun _ _=>D.int.inj) (D.list.inj h),fun e=>by rw[e]⟩
theorem vq(l:List Int)(n:Nat):ck (n+1) (.list (l.map .int))=true:=by
 simp[ck,Oo]
theorem Qz{α β:Type}{f:β->α}{P:β->Prop}:∀ {ks:List α},(∀ k∈ks,∃ s,k=f s/\P s)->∃ l:List β,ks=l.map f/\∀ s∈l,P s
 |[],_=>⟨[],rfl,fun s h=>nomatch h⟩
 |k :: ks,h=>by
  obtain⟨s,rfl,p⟩:=h k cf
  obtain⟨l,rfl,q⟩:=Qz fun k hk=>h k (cc _ hk)
  refine⟨s :: l,rfl,fun t ht=>?_⟩
  rcases cS.mp ht with rfl|ht
  ·exact p
  ·exact q t ht
theorem jG{α:Type}{lt:α->α->Prop}:∀ {l m:List α},(∀ a∈l,∀ b∈l,lt a b->lt b a->False)->l.Pairwise lt->m.Pairwise lt->(∀ x,x∈l↔x∈m)->l=m
 |[],[],_,_,_,_=>rfl
 |[],y :: m,_,_,_,h=>absurd ((h y).mpr cf) (by simp)
 |x :: l,[],_,_,_,h=>absurd ((h x).mp cf) (by simp)
 |x :: l,y :: m,as,hl,hm,h=>by
  obtain⟨a1,a2⟩:=List.pairwise_cons.mp hl
  obtain⟨b1,b2⟩:=List.pairwise_cons.mp hm
  have e:x=y:=by
   rcases cS.mp ((h x).mp cf) with e|e
   ·exact e
   ·rcases cS.mp ((h y).mpr cf) with e'|e'
    ·exact e'.symm
    ·exact(as x cf y (cc _ e') (a1 y e') (b1 x e)).elim
  subst e
  have pe:¬ lt x x:=fun z=>as x cf x cf z z
  rw[jG (fun a ha b hb=>as a (cc _ ha) b (cc _ hb)) a2 b2 fun z=>⟨fun hz=>by
   rcases cS.mp ((h z).mp (cc _ hz)) with e|e
   ·subst e;exact absurd (a1 z hz) pe
   ·exact e,fun hz=>by
   rcases cS.mp ((h z).mpr (cc _ hz)) with e|e
   ·subst e;exact absurd (b1 z hz) pe
   ·exact e⟩]
def rk(bq:List Int)(s:Int):Int:=bq.getD s.toNat 0
structure D9(steps:List bE)(bq:List Int)(s:Int)(k:Ky):Prop where
 fst:k.1=rk bq s
 up:k.2.Pairwise fun a b=>ft (pf a) (pf b)=true
 mem:∀ p,p∈k.2↔∃ t∈steps,t.1=s/\p=(t.2.1,rk bq t.2.2)
theorem D9.uniq{steps:List bE}{bq:List Int}{s:Int}{k j:Ky}(a:D9 steps bq s k)(b:D9 steps bq s j):k=j:=by
 have h2:k.2=j.2:=jG (fun x _ y _ h1 h2=>by have:=pP h1 h2;rw[nJ] at this;cases this) a.up b.up fun p=>(a.mem p).trans (b.mem p).symm
 exact Prod.ext (a.fst.trans b.fst.symm) h2
theorem D9.ok{many:Int}{steps:List bE}{bq:List Int}{s:Int}{k:Ky}(a:D9 steps bq s k)(h:fw many steps):sj k:=fun p hp=>by
 obtain⟨t,ht,_,rfl⟩:=(a.mem p).mp hp
 exact(h t ht).2.2.1.ok
structure rg(many:Int)(steps:List bE)(bq r:List Int)(ky:Int->Ky)(diff:List Ky):Prop where
 len:r.length=many.toNat
 key:∀ s,0<=s->s<many->D9 steps bq s (ky s)
 up:diff.Pairwise fun a b=>qV a b=true
 mem:∀ k,k∈diff↔∃ s,(0<=s/\s<many)/\k=ky s
 pos:∀ s,0<=s->s<many->0<=rk r s/\diff[(rk r s).toNat]? = some (ky s)
def RB(many:Int)(steps:List bE)(bq r:List Int):Prop:=∃ ky diff,rg many steps bq r ky diff
section
variable {many:Int}{steps:List bE}{bq r r2:List Int}{ky X5:Int->Ky}{diff X6:List Ky}
theorem rg.ok(h:rg many steps bq r ky diff)(aw:fw many steps){k:Ky}(hk:k∈diff):sj k:=by
 obtain⟨s,hs,rfl⟩:=(h.mem k).mp hk
 exact(h.key s hs.1 hs.2).ok aw
theorem rg.as(h:rg many steps bq r ky diff)(aw:fw many steps):∀ a∈diff,∀ b∈diff,qV a b=true->qV b a=true->False:=fun a ha b hb h1 h2=>by
 have:=Ay (h.ok aw ha) (h.ok aw hb) (h.ok aw ha) h1 h2
 rw[lu a (h.ok aw ha)] at this
 cases this
theorem Bq{l m:List Int}(hl:l.length=many.toNat)(hm:m.length=many.toNat)(h:∀ s,0<=s->s<many->rk l s=rk m s):l=m:=by
 apply List.ext_getElem (by lia)
 intro i h1 h2
 have:=h (i:Nat) (by lia) (by lia)
 unfold rk at this
 simpa[List.getD,h1,h2] using this
theorem rg.inj(h:rg many steps bq r ky diff)(aw:fw many steps){i j:Nat}{k:Ky}(hi:diff[i]? = some k)(hj:diff[j]? = some k):i=j:=by
 obtain⟨kF,hX⟩:=hV.mp hi
 obtain⟨IJ,Lc⟩:=hV.mp hj
 have hk:k∈diff:=mB hi
 have pe:=lu k (h.ok aw hk)
 have pw:=CF.mp h.up
 rcases Q6 i j with e|e|e
 ·have:=pw i j kF IJ e
  rw[hX,Lc,pe] at this;cases this
 ·exact e
 ·have:=pw j i IJ kF e
  rw[hX,Lc,pe] at this;cases this
theorem rg.same(h:rg many steps bq r ky diff)(h2:rg many steps bq r2 X5 X6)(aw:fw many steps):r=r2:=by
 have ek:∀ s,0<=s->s<many->ky s=X5 s:=fun s a b=>(h.key s a b).uniq (h2.key s a b)
 have ed:diff=X6:=jG (h.as aw) h.up h2.up fun k=>by
  rw[h.mem,h2.mem]
  exact⟨fun⟨s,a,e⟩=>⟨s,a,e.trans (ek s a.1 a.2)⟩,fun⟨s,a,e⟩=>⟨s,a,e.trans (ek s a.1 a.2).symm⟩⟩
 subst ed
 refine Bq h.len h2.len fun s a b=>?_
 have p1:=h.pos s a b
 have p2:=h2.pos s a b
 rw[<- ek s a b] at p2
 have:=h.inj aw p1.2 p2.2
 lia
theorem RB.uniq(h:RB many steps bq r)(h2:RB many steps bq r2)(aw:fw many steps):r=r2:=by
 obtain⟨_,_,h⟩:=h
 obtain⟨_,_,h2⟩:=h2
 exact h.same h2 aw
theorem rg.wy(h:rg many steps bq r ky diff){s t:Int}(hs:0<=s/\s<many)(ht:0<=t/\t<many)(e:rk r s=rk r t):ky s=ky t:=by
 have p1:=(h.pos s hs.1 hs.2).2
 have p2:=(h.pos t ht.1 ht.2).2
 rw[e,p2] at p1
 exact(Option.some.inj p1).symm
theorem rg.lt(h:rg many steps bq r ky diff)(aw:fw many steps){s t:Int}(hs:0<=s/\s<many)(ht:0<=t/\t<many):rk r s<rk r t↔qV (ky s) (ky t)=true:=by
 have p1:=h.pos s hs.1 hs.2
 have p2:=h.pos t ht.1 ht.2
 have k1:=h.ok aw (mB p1.2)
 have k2:=h.ok aw (mB p2.2)
 obtain⟨a1,a2⟩:=hV.mp p1.2
 obtain⟨b1,b2⟩:=hV.mp p2.2
 have pw:=CF.mp h.up
 constructor
 ·intro l
  have:=pw _ _ a1 b1 (by lia)
  rwa[a2,b2] at this
 ·intro l
  by_cases z:rk r t<rk r s
  ·have:=pw _ _ b1 a1 (by lia)
   rw[a2,b2] at this
   have:=Ay k1 k2 k1 l this
   rw[lu _ k1] at this;cases this
  ·by_cases z2:rk r s=rk r t
   ·have:=h.wy hs ht z2
    rw[this,lu _ k2] at l;cases l
   ·lia
theorem RB.mono(h:RB many steps bq r)(aw:fw many steps){s t:Int}(hs:0<=s/\s<many)(ht:0<=t/\t<many)(l:rk bq s<rk bq t):rk r s<rk r t:=by
 obtain⟨ky,diff,h⟩:=h
 refine(h.lt aw hs ht).mpr (Dq ?_)
 rw[(h.key s hs.1 hs.2).fst,(h.key t ht.1 ht.2).fst]
 exact l
theorem RB.eT'(h:RB many steps bq r){s t:Int}(hs:0<=s/\s<many)(ht:0<=t/\t<many)(e:rk r s=rk r t):rk bq s=rk bq t:=by
 obtain⟨ky,diff,h⟩:=h
 have:=h.wy hs ht e
 rw[<- (h.key s hs.1 hs.2).fst,<- (h.key t ht.1 ht.2).fst,this]
theorem RB.X7(h:RB many steps bq r)(aw:fw many steps){t:bE}(ht:t∈steps){s:Int}(hs:0<=s/\s<many)(e:rk r t.1=rk r s):∃ u∈steps,u.1=s/\u.2.1=t.2.1/\rk bq u.2.2=rk bq t.2.2:=by
 obtain⟨ky,diff,h⟩:=h
 have hk:=h.wy ⟨(aw t ht).1,(aw t ht).2.1⟩ hs e
 have hm:=((h.key t.1 (aw t ht).1 (aw t ht).2.1).mem (t.2.1,rk bq t.2.2)).mpr ⟨t,ht,rfl,rfl⟩
 rw[hk] at hm
 obtain⟨u,hu,e1,e2⟩:=((h.key s hs.1 hs.2).mem _).mp hm
 exact⟨u,hu,e1,(Prod.mk.inj e2).1.symm,(Prod.mk.inj e2).2.symm⟩
def qe(many:Int)(r:List Int):Prop:=r.length=many.toNat/\(∀ s,0<=s->s<many->0<=rk r s/\rk r s<many)/\∀ s,0<=s->s<many->0<rk r s->∃ t,(0<=t/\t<many)/\rk r t=rk r s-1
theorem rg.short(h:rg many steps bq r ky diff)(aw:fw many steps):diff.length<=many.toNat:=by
 have nd:diff.Nodup:=by
  rw[Oa]
  have:=CF.mp h.up
  rw[CF]
  intro i j hi hj gi e
  have z:=this i j hi hj gi
  rw[e,lu _ (h.ok aw (CY hj))] at z
  cases z
 have:=ie (m:=(g_ many.toNat).map ky) nd fun k hk=>by
  obtain⟨s,hs,rfl⟩:=(h.mem k).mp hk
  exact dn.mpr ⟨s,ur.mpr (by lia),rfl⟩
 rwa[cK,uI] at this
theorem RB.wL(h:RB many steps bq r)(aw:fw many steps):qe many r:=by
 obtain⟨ky,diff,h⟩:=h
 have sh:=h.short aw
 refine⟨h.len,fun s a b=>?_,fun s a b c=>?_⟩
 ·have p:=h.pos s a b
  have:=(hV.mp p.2).1
  lia
 ·have p:=h.pos s a b
  have l:=(hV.mp p.2).1
  have l2:(rk r s-1).toNat<diff.length:=by lia
  obtain⟨t,ht,e⟩:=(h.mem _).mp (CY l2)
  have p2:=h.pos t ht.1 ht.2
  have:=h.inj aw p2.2 (hV.mpr ⟨l2,e⟩)
  exact⟨t,ht,by lia⟩
theorem RB.grows(h:RB many steps bq r)(aw:fw many steps)(d:qe many bq):∀ (n:Nat) (s:Int),0<=s->s<many->rk bq s=n->rk bq s<=rk r s
 |0,s,a,b,e=>by rw[e];exact((h.wL aw).2.1 s a b).1
 |n+1,s,a,b,e=>by
  obtain⟨t,ht,et⟩:=d.2.2 s a b (by lia)
  have:=RB.grows h aw d n t ht.1 ht.2 (by lia)
  have:=h.mono aw ht ⟨a,b⟩ (by lia)
  lia
theorem RB.le(h:RB many steps bq r)(aw:fw many steps)(d:qe many bq){s:Int}(a:0<=s)(b:s<many):rk bq s<=rk r s :=
 h.grows aw d (rk bq s).toNat s a b (by have:=(d.2.1 s a b).1;lia)
end
theorem Av:∀ {l m:List Int},l.length=m.length->(∀ (i:Nat) (h1:i<l.length) (h2:i<m.length),l[i]<=m[i])->l.sum<=m.sum/\(l≠m->l.sum<m.sum)
 |[],[],_,_=>⟨by simp,fun h=>absurd rfl h⟩
 |[],y :: m,h,_=>by simp at h
 |x :: l,[],h,_=>by simp at h
 |x :: l,y :: m,h,hl=>by
  have ih:=Av (l:=l) (m:=m) (by simpa using h) fun i h1 h2=>by
   have:=hl (i+1) (by simp;lia) (by simp;lia)
   simpa using this
  have h0:x<=y:=by have:=hl 0 (by simp) (by simp);simpa using this
  simp only[List.sum_cons]
  refine⟨by have:=ih.1;lia,fun ne=>?_⟩
  by_cases e:x=y
  ·subst e
   have:l≠m:=fun z=>ne (by rw[z])
   have:=ih.2 this
   lia
  ·have:=ih.1
   lia
theorem sum_bound{l:List Int}{b:Int}(h:∀ x∈l,x<=b)(hb:0<=b):l.sum<=l.length*b:=by
 induction l with
 |nil=>simp
 |cons x l ih =>
  have:=ih fun y hy=>h y (cc _ hy)
  have:=h x cf
  simp only[List.sum_cons,sv]
  have e:((l.length+1:Nat):Int)*b=l.length*b+b:=by rw[Int.natCast_add,Int.add_mul];simp
  lia
theorem DX{r:List Int}{i:Nat}(h:i<r.length):r[i]=rk r i:=by simp[rk,List.getD,h]
theorem RB.sum{many:Int}{steps:List bE}{bq r:List Int}(h:RB many steps bq r)(aw:fw many steps)(d:qe many bq)(hm:0<=many)(ne:r≠bq):bq.sum<r.sum/\r.sum<=many*many:=by
 have d2:=h.wL aw
 have hl:=d.1
 have wx:=d2.1
 refine⟨(Av (by lia) fun i h1 h2=>?_).2 fun e=>ne e.symm,?_⟩
 ·rw[DX h1,DX h2]
  exact h.le aw d (by lia) (by lia)
 ·have:=sum_bound (l:=r) (b:=many) (fun x hx=>by
   obtain⟨i,hi,rfl⟩:=QQ.mp hx
   rw[DX hi]
   have:=(d2.2.1 i (by lia) (by lia)).2
   lia) hm
  rwa[wx,zk hm] at this
def Chain(many:Int)(steps:List bE):List Int->List (List Int)->Prop
 |cur,[]=>RB many steps cur cur
 |cur,hG :: rest=>RB many steps cur hG/\hG≠cur/\Chain many steps hG rest
def gY(cur:List Int)(rest:List (List Int)):List Int:=(cur :: rest).getLast (by simp)
theorem uO(cur hG:List Int)(rest:List (List Int)):gY cur (hG :: rest)=gY hG rest:=by simp[gY]
theorem Chain.last{many:Int}{steps:List bE}:∀ {cur:List Int} {rest:List (List Int)},Chain many steps cur rest->RB many steps (gY cur rest) (gY cur rest)
 |_,[],h=>h
 |cur,hG :: rest,h=>by rw[uO];exact h.2.2.last
def zeros(many:Int):List Int:=List.replicate many.toNat 0
theorem gK(many s:Int):rk (zeros many) s=0:=by
 unfold rk zeros
 by_cases h:s.toNat<many.toNat
 ·simp[List.getD,h]
 ·rw[List.getD,tP (by simpa using h)];rfl
theorem jK{many:Int}(h:1<=many):qe many (zeros many) :=
 ⟨by simp[zeros],fun s _ _=>by rw[gK];lia,fun s _ _ z=>by rw[gK] at z;lia⟩
def Kinds(many:Int)(steps:List bE)(k:List Int):Prop:=∃ rest,Chain many steps (zeros many) rest/\k=gY (zeros many) rest
theorem Kinds.eM{many:Int}{steps:List bE}{k:List Int}(h:Kinds many steps k):RB many steps k k:=by
 obtain⟨a,ha,rfl⟩:=h
 exact ha.last
theorem z8{ps:List Pr}(hl:ps.length<=1000){m:Md}{Q:Md->D->Prop}(k:∀ l:List Pr,l.Pairwise (fun a b=>ft (pf a) (pf b)=true)->(∀ p,p∈l↔p∈ps)->Q (.ow true) (.list (l.map i6))) :
  fM m (.list (ps.map i6)) Q:=by
 refine⟨ps.map pf,[true],by rw[kg];rfl,by rw[cK];exact hl,fun k hk=>?_,fun ms nd mm pw=>?_⟩
 ·obtain⟨p,_,rfl⟩:=dn.mp hk
  rfl
 ·obtain⟨l,rfl,hp⟩:=Qz (f:=pf) (P:=fun p=>p∈ps) (ks:=ms) fun k hk=>by
   obtain⟨p,hp,e⟩:=dn.mp ((mm k).mp hk)
   exact⟨p,e.symm,hp⟩
  have e:(l.map pf).map mn=l.map i6:=by rw[kg];rfl
  rw[e]
  refine k l ?_ fun p=>⟨hp p,fun iX=>?_⟩
  ·rw[rp] at pw
   have AR:l.Pairwise fun a b=>pf a≠pf b:=by
    rw[List.Nodup,rp] at nd
    exact nd
   refine(pw.and AR).imp fun {a b} ⟨h1,h2⟩=>?_
   cases h3:ft (pf a) (pf b) with
   |true=>rfl
   |false=>exact absurd (lz (a:=pf a) (b:=pf b) rfl h3 h1) h2
  ·obtain⟨q,hq,e⟩:=dn.mp ((mm (pf p)).mpr (dn.mpr ⟨p,iX,rfl⟩))
   rw[<- BL e]
   exact hq
def kM(steps:List bE)(s:Int):List Pr:=(steps.filter fun t=>decide (t.1=s)).map (·.2)
def ll(many:Int)(steps:List bE):List D:=(g_ many.toNat).map fun s=>.list ((kM steps s).map i6)
def xh(many:Int)(steps:List bE):D:=.list (ll many steps)
theorem Bf(many:Int):((qO 0 many.toNat).filter fun _=>true).map (fun _=>D.list [])=ll many []:=by
 unfold ll qO g_
 rw[List.filter_eq_self.mpr fun _ _=>rfl,kg,kg]
 rfl
theorem yV{many s:Int}(steps:List bE)(h0:0<=s)(h1:s<many):(ll many steps)[s.toNat]? = some (.list ((kM steps s).map i6)):=by
 have:s.toNat<many.toNat:=by lia
 simp[ll,g_,this,zk h0]
theorem kI(many:Int)(steps:List bE):(ll many steps).length=many.toNat:=by simp[ll,g_]
theorem uh{n:Nat}{i:Int}(h0:0<=i)(h1:i<n):oC n i=some i.toNat:=by unfold oC;rw[if_pos h0,if_pos h1]
theorem yC(steps:List bE)(p:Int)(d:Str)(r s:Int):kM (steps++[(p,d,r)]) s=if p=s then kM steps s++[(d,r)] else kM steps s:=by
 unfold kM
 by_cases h:p=s
 ·simp[h]
 ·simp[h]
theorem Be{many p:Int}(steps:List bE)(d:Str)(r:Int)(h0:0<=p)(h1:p<many):(ll many steps).set p.toNat (.list ((kM steps p).map i6++[.tup [.str d,.int r]]))=ll many (steps++[(p,d,r)]):=by
 apply CH
 intro i
 by_cases hi:i<many.toNat
 ·have e:∀ st,(ll many st)[i]? = some (.list ((kM st (i:Nat)).map i6)):=fun st=>by
   have:=yV (many:=many) (s:=(i:Nat)) st (by lia) (by lia)
   simpa using this
  rw[e,yC]
  by_cases hp:p=(i:Nat)
  ·subst hp
   rw[if_pos rfl]
   simp[kI,hi,i6]
  ·rw[if_neg hp,GO (by lia),e]
 ·rw[tP (by rw[List.length_set,kI];lia),tP (by rw[kI];lia)]
theorem xH{many s:Int}(steps:List bE)(h0:0<=s)(h1:s<many):fq (ll many steps) s=some (.list ((kM steps s).map i6)) :=
 yN (uh h0 (by rw[kI];lia)) (yV steps h0 h1)
theorem yR{many s:Int}{r:List Int}(hl:r.length=many.toNat)(h0:0<=s)(h1:s<many):fq (r.map D.int) s=some (.int (rk r s)):=by
 have h:s.toNat<r.length:=by lia
 refine yN (uh h0 (by rw[cK];lia)) ?_
 simp[rk,List.getD,h]
theorem rD{steps:List bE}{s:Int}{p:Pr}(h:p∈kM steps s):∃ t∈steps,t.1=s/\t.2=p:=by
 obtain⟨t,ht,e⟩:=dn.mp h
 obtain⟨ht,hs⟩:=Dp.mp ht
 exact⟨t,ht,of_decide_eq_true hs,e⟩
theorem xM{steps:List bE}{t:bE}(h:t∈steps):t.2∈kM steps t.1:=dn.mpr ⟨t,Dp.mpr ⟨h,decide_eq_true rfl⟩,rfl⟩
theorem sG(steps:List bE)(s:Int):(kM steps s).length<=steps.length:=by
 unfold kM
 rw[cK]
 exact List.length_filter_le _ _
theorem xK(many:Int):(List.replicate many.toNat [D.int 0]).flatten=(zeros many).map D.int:=by
 unfold zeros
 generalize many.toNat=n
 induction n with
 |zero=>rfl
 |succ n ih=>rw[y9,AU,ih,y9];rfl
theorem RB.len{many:Int}{steps:List bE}{bq r:List Int}(h:RB many steps bq r):r.length=many.toNat:=by
 obtain⟨ky,diff,h⟩:=h
 exact h.len
theorem RB.top{many:Int}{steps:List bE}{bq r:List Int}(h:RB many steps bq r)(aw:fw many steps)(d:qe many bq){s0:Int}(hs0:0<=s0/\s0<many)(hM:∀ s,0<=s->s<many->rk r s<=rk bq s0):r=bq:=by
 have A:∀ (n:Nat) (j:Int),rk bq s0-j=n->0<=j->∃ u,(0<=u/\u<many)/\rk bq u=j:=by
  intro n
  induction n with
  |zero=>exact fun j e _=>⟨s0,hs0,by lia⟩
  |succ n ih =>
   intro j e hj
   obtain⟨u,hu,eu⟩:=ih (j+1) (by lia) (by lia)
   obtain⟨t,ht,et⟩:=d.2.2 u hu.1 hu.2 (by lia)
   exact⟨t,ht,by lia⟩
 have B:∀ (n:Nat) (s:Int),0<=s->s<many->rk bq s0-rk bq s=n->rk r s<=rk bq s:=by
  intro n
  induction n with
  |zero=>exact fun s a b e=>by have:=hM s a b;lia
  |succ n ih =>
   intro s a b e
   obtain⟨u,hu,eu⟩:=A n (rk bq s+1) (by lia) (by have:=(d.2.1 s a b).1;lia)
   have:=h.mono aw ⟨a,b⟩ hu (by lia)
   have:=ih u hu.1 hu.2 (by lia)
   lia
 refine Bq h.len d.1 fun s a b=>?_
 have h1:=h.le aw d a b
 have h2:=hM s a b
 have:=B (rk bq s0-rk bq s).toNat s a b (by lia)
 lia
theorem vp(f:Int->Int):∀ n:Nat,1<=n->∃ s0:Int,(0<=s0/\s0<n)/\∀ s:Int,0<=s->s<n->f s<=f s0
 |0,h=>by lia
 |1,_=>⟨0,by lia,fun s a b=>by
  have e:s=0:=by lia
  rw[e]
  exact sD _⟩
 |n+2,_=>by
  obtain⟨s0,h0,hm⟩:=vp f (n+1) (by lia)
  by_cases z:f s0<=f (n+1:Nat)
  ·refine⟨(n+1:Nat),by lia,fun s a b=>?_⟩
   by_cases e:s<(n+1:Nat)
   ·have:=hm s a e;lia
   ·have:s=(n+1:Nat):=by lia
    subst this;exact sD _
  ·refine⟨s0,by lia,fun s a b=>?_⟩
   by_cases e:s<(n+1:Nat)
   ·exact hm s a e
   ·have:s=(n+1:Nat):=by lia
    subst this;lia
def pV(many:Int)(steps:List bE)(i:Nat)(bq:List Int):Prop:=Kinds many steps bq\/∃ pre,(∀ rest,Chain many steps bq rest->Chain many steps (zeros many) (pre++rest))/\gY (zeros many) pre=bq/\qe many bq/\∃ s,(0<=s/\s<many)/\(i:Int)<=rk bq s
theorem pV.zero{many:Int}{steps:List bE}(h:1<=many):pV many steps 0 (zeros many):=.inr ⟨[],fun _ hc=>hc,rfl,jK h,0,by lia,by rw[gK];lia⟩
theorem rM(cur hG:List Int)(pre:List (List Int)):gY cur (pre++[hG])=hG:=by
 unfold gY
 rw[List.getLast_cons (by simp),List.getLast_concat]
theorem pV.next{many:Int}{steps:List bE}{i:Nat}{bq r:List Int}(h:pV many steps i bq)(aw:fw many steps)(hm:1<=many)(b:RB many steps bq r):pV many steps (i+1) r:=by
 rcases h with k|⟨pre,hc,hl,d,s,hs,hi⟩
 ·have:=b.uniq k.eM aw
  subst this
  exact .inl k
 ·by_cases e:r=bq
  ·subst e
   have:=hc [] b
   rw[nL] at this
   exact .inl ⟨pre,this,hl.symm⟩
  ·refine .inr ⟨pre++[r],fun rest hr=>?_,rM _ _ _,b.wL aw,?_⟩
   ·have:=hc (r :: rest) ⟨b,e,hr⟩
    simpa using this
   ·obtain⟨s0,h0,hmx⟩:=vp (rk bq) many.toNat (by lia)
    apply Classical.byContradiction
    intro no
    refine e (b.top aw d (s0:=s0) (by lia) fun t a c=>?_)
    have h1:=hmx s hs.1 (by lia)
    apply Classical.byContradiction
    intro z
    exact no ⟨t,⟨a,c⟩,by lia⟩
theorem pV.done{many:Int}{steps:List bE}{bq:List Int}(h:pV many steps many.toNat bq):Kinds many steps bq:=by
 rcases h with k|⟨pre,hc,hl,d,s,hs,hi⟩
 ·exact k
 ·have:=(d.2.1 s hs.1 hs.2).2
  lia
abbrev P2:=Int × Int
def fA(p:P2):List Key:=[.inl p.1,.inl p.2]
def kH(p:P2):D:=.tup [.int p.1,.int p.2]
theorem rN{p q:P2}(h:fA p=fA q):p=q:=by
 obtain⟨a,b⟩:=p
 obtain⟨c,d⟩:=q
 simp only[fA,List.cons.injEq,Sum.inl.injEq,and_true] at h
 rw[h.1,h.2]
theorem Il(l:List P2)(n:Nat):ck (n+2) (.list (l.map kH))=true:=by
 simp only[ck,Oo,GP]
 intro x _
 cases n<;>rfl
theorem De{l:List P2}{i:Nat}{x:D}(h:(l.map kH)[i]? = some x):∃ p q,x=.tup [.int p,.int q]/\(p,q)∈l/\l.take (i+1)=l.take i++[(p,q)]:=by
 rw[kN] at h
 cases e:l[i]? with
 |none=>rw[e] at h;cases h
 |some s =>
  rw[e] at h
  cases h
  exact⟨s.1,s.2,rfl,mB e,by rw[EH,e];rfl⟩
def fT(many:Int)(p:P2):Prop:=(0<=p.1/\p.1<many)/\0<=p.2/\p.2<many
def kB(ks:List P2):Kn:=ks.map fun p=>(fA p,.bl true)
theorem iu(ks:List P2):(kB ks).map (·.1)=ks.map fA:=by simp[kB,kg,Function.comp_def]
theorem zB(ks:List P2):(kB ks).length=ks.length:=by simp[kB]
theorem mZ{ks:List P2}{x:P2}:fA x∈ks.map fA↔x∈ks:=by
 rw[dn]
 exact⟨fun⟨y,hy,e⟩=>rN e ▸ hy,fun h=>⟨x,h,rfl⟩⟩
def CB(ks:List P2)(x:P2):List P2:=if x∈ks then ks else ks++[x]
theorem zx(ks:List P2)(x:P2):jI (kB ks) (fA x) (.bl true)=kB (CB ks x):=by
 unfold jI CB
 by_cases h:x∈ks
 ·rw[if_pos (nZ.mpr (by rw[iu];exact mZ.mpr h)),if_pos h]
  unfold kB
  rw[kg]
  apply Oi
  intro p _
  show(if fA p=fA x then (fA p,D.bl true) else (fA p,D.bl true))=_
  split<;>rfl
 ·rw[if_neg fun z=>h (mZ.mp (by rw[<- iu];exact nZ.mp z)),if_neg h]
  simp[kB]
theorem tH(ks:List P2)(x:P2):(dP (kB ks) (fA x)).isSome=decide (x∈ks):=by
 rw[xA,oZ,iu,mZ,decide_eq_true_eq]
theorem zN{ks:List P2}{x y:P2}:y∈CB ks x↔y∈ks\/y=x:=by
 unfold CB
 split
 ·rename_i h
  exact⟨.inl,fun z=>z.elim id fun e=>e ▸ h⟩
 ·simp
theorem uG{ks:List P2}{x:P2}(h:ks.Nodup):(CB ks x).Nodup:=by
 unfold CB
 split
 ·exact h
 ·rename_i n
  exact i7.mpr ⟨h,by simp,fun a ha b hb e=>n (by rw[<- kC.mp hb,<- e];exact ha)⟩
theorem zW(ks:List P2)(x:P2):(CB ks x).length<=ks.length+1:=by
 unfold CB
 split<;>simp
structure FV(ps ks:List P2):Prop where
 nd:ks.Nodup
 mem:∀ x,x∈ks↔x∈ps
 len:ks.length<=ps.length
theorem FV.nil:FV [] []:=⟨oq,fun _=>Iff.rfl,by simp⟩
theorem FV.put{ps ks:List P2}(h:FV ps ks)(x:P2):FV (ps++[x]) (CB ks x):=⟨uG h.nd,fun y=>by rw[zN,dy,kC,h.mem],by
 have:=zW ks x
 have:=h.len
 rw[tS,List.length_singleton]
 lia⟩
def T4(l:List bE)(ps:List P2)(p q:Int):Prop:=∀ d e,(p,d,e)∈l->∃ o,(q,d,o)∈l/\(e,o)∈ps
def X8(l:List bE)(ps:List P2)(p q:Int):Prop:=∀ d o,(q,d,o)∈l->∃ e,(p,d,e)∈l/\(e,o)∈ps
def FX(l:List bE)(ps:List P2)(p:P2):Prop:=T4 l ps p.1 p.2/\X8 l ps p.1 p.2
theorem G4(ks:List P2):(kB ks).map (fun kv=>mn kv.1)=ks.map kH:=by unfold kB;rw[kg];rfl
theorem Gd{l:List Pr}{i:Nat}{x:D}(h:(l.map i6)[i]? = some x):∃ d e,x=.tup [.str d,.int e]/\(d,e)∈l/\l.take (i+1)=l.take i++[(d,e)]:=by
 rw[kN] at h
 cases e:l[i]? with
 |none=>rw[e] at h;cases h
 |some s =>
  rw[e] at h
  cases h
  exact⟨s.1,s.2,rfl,mB e,by rw[EH,e];rfl⟩
theorem iK{steps:List bE}{s:Int}{d:Str}{e:Int}:(d,e)∈kM steps s↔(s,d,e)∈steps:=by
 constructor
 ·intro h
  obtain⟨t,ht,e1,e2⟩:=rD h
  obtain⟨a,b,c⟩:=t
  cases e1
  cases e2
  exact ht
 ·exact fun h=>xM h
theorem tX{α:Type}{l:List α}{i:Nat}{x:α}{P:α->Prop}(tk:l.take (i+1)=l.take i++[x])(h:∀ y∈l.take i,P y)(hx:P x):∀ y∈l.take (i+1),P y:=fun y hy=>by
 rw[tk] at hy
 rcases dy.mp hy with hy|hy
 ·exact h y hy
 ·rw[kC.mp hy];exact hx
def nQ(l:List bE)(ks:List P2)(p:P2):Bool:=@decide (FX l ks p) (Classical.propDecidable _)
theorem qg{l:List bE}{ks:List P2}{p:P2}:nQ l ks p=true↔FX l ks p:=@decide_eq_true_iff _ (Classical.propDecidable _)
def X9(f:P2->Bool)(x:D):Bool:=match x with
 |.tup [.int a,.int b]=>f (a,b)
 |_=>false
theorem yO(ks:List P2)(f:P2->Bool):((ks.map kH).filter (X9 f)).map (fun x=>x)=(ks.filter f).map kH:=by
 rw[List.filter_map,kg]
 rfl
theorem xF(l:List P2):gS (.list (l.map kH)) (.list [])=decide (l=[]):=by
 cases l<;>rfl
theorem zJ(l:List P2):(l.map fA).map mn=l.map kH:=by rw[kg];rfl
theorem mK:∀ (ks:List P2) (j:Nat),(kB ks).eraseIdx j=kB (ks.eraseIdx j)
 |[],_=>rfl
 |_ :: _,0=>rfl
 |k :: ks,j+1=>congrArg ((fA k,D.bl true) :: ·) (mK ks j)
theorem Bb:∀ (ks:List P2) (j:Nat) (g:P2),ks.Nodup->ks[j]? = some g->∀ x,x∈ks.eraseIdx j↔x∈ks/\x≠g
 |[],j,g,_,h,x=>by simp at h
 |k :: ks,0,g,nd,h,x=>by
  cases h
  have n:=(ly.mp nd).1
  rw[List.eraseIdx_cons_zero,cS]
  exact⟨fun a=>⟨.inr a,fun e=>n (by rw[<- e];exact a)⟩,fun a=>a.1.elim (fun e=>absurd e a.2) id⟩
 |k :: ks,j+1,g,nd,h,x=>by
  have n:=ly.mp nd
  have h:ks[j]? = some g:=h
  have hg:=mB h
  rw[GN,cS,cS,Bb ks j g n.2 h x]
  exact⟨fun a=>a.elim (fun e=>⟨.inl e,fun z=>n.1 (by rw[<- e,z];exact hg)⟩) fun a=>⟨.inr a.1,a.2⟩,fun a=>a.1.elim .inl fun b=>.inr ⟨b,a.2⟩⟩
theorem Ei{x y many:Int}(x0:0<=x)(x1:x<many)(y0:0<=y)(y1:y<many):(x*many+y) / many=x/\(x*many+y) % many=y/\0<=x*many+y/\x*many+y<many*many:=by
 have a:=OG x0 (show 0<=many by lia)
 have b:=Int.mul_le_mul_of_nonneg_right (show x+1<=many by lia) (show 0<=many by lia)
 rw[Int.add_mul,Int.one_mul] at b
 refine⟨?_,?_,by lia,by lia⟩
 ·rw[Int.add_comm,Int.add_mul_ediv_right _ _ (by lia),Int.ediv_eq_zero_of_lt y0 y1,Int.zero_add]
 ·rw[Int.add_comm,Int.add_mul_emod_self_right,Int.emod_eq_of_lt y0 y1]
theorem zV{many:Int}{n:Nat}{ps:List P2}(hn:(n:Int)=many*many)(h:∀ i:Nat,i<n->(((i:Int) / many,(i:Int) % many):P2)∈ps){x:P2}(hx:fT many x):x∈ps:=by
 have d:=Ei hx.1.1 hx.1.2 hx.2.1 hx.2.2
 have:=h (x.1*many+x.2).toNat (by lia)
 rw[zk d.2.2.1,d.1,d.2.1] at this
 exact this
theorem RB.iff{many:Int}{steps:List bE}{bq r:List Int}(h:RB many steps bq r)(aw:fw many steps){s t:Int}(hs:0<=s/\s<many)(ht:0<=t/\t<many) :
  rk r s=rk r t↔rk bq s=rk bq t/\(∀ d e,(s,d,e)∈steps->∃ o,(t,d,o)∈steps/\rk bq e=rk bq o)/\∀ d o,(t,d,o)∈steps->∃ e,(s,d,e)∈steps/\rk bq e=rk bq o:=by
 constructor
 ·intro e
  refine⟨h.eT' hs ht e,fun d x hx=>?_,fun d o ho=>?_⟩
  ·obtain⟨⟨a,b,c⟩,hu,e1,e2,e3⟩:=h.X7 aw hx ht e
   cases e1
   cases e2
   exact⟨c,hu,e3.symm⟩
  ·obtain⟨⟨a,b,c⟩,hu,e1,e2,e3⟩:=h.X7 aw ho hs e.symm
   cases e1
   cases e2
   exact⟨c,hu,e3⟩
 ·rintro⟨e0,f,b⟩
  obtain⟨ky,diff,h⟩:=h
  have ks:=h.key s hs.1 hs.2
  have kt:=h.key t ht.1 ht.2
  have e:ky s=ky t:=by
   refine Prod.ext (by rw[ks.fst,kt.fst,e0]) (jG (fun x _ y _ h1 h2=>by have:=pP h1 h2;rw[nJ] at this;cases this) ks.up kt.up fun p=>?_)
   rw[ks.mem,kt.mem]
   constructor
   ·rintro⟨⟨a,d,e⟩,hu,rfl,rfl⟩
    obtain⟨o,ho,m⟩:=f d e hu
    exact⟨_,ho,rfl,by show(d,rk bq e)=(d,rk bq o);rw[m]⟩
   ·rintro⟨⟨a,d,o⟩,hu,rfl,rfl⟩
    obtain⟨e,he,m⟩:=b d o hu
    exact⟨_,he,rfl,by show(d,rk bq o)=(d,rk bq e);rw[m]⟩
  have p1:=h.pos s hs.1 hs.2
  have p2:=h.pos t ht.1 ht.2
  rw[<- e] at p2
  have:=h.inj aw p1.2 p2.2
  lia
structure nr(many:Int)(steps:List bE)(rest:List (List Int))(f:Nat->List Int):Prop where
 zero:f 0=zeros many
 hG:∀ k,RB many steps (f k) (f (k+1))
 at':∀ k,k<=rest.length->(zeros many :: rest)[k]? = some (f k)
 eM:∀ k,rest.length<=k->f k=f rest.length
theorem Chain.sq{many:Int}{steps:List bE}:∀ {cur:List Int} {rest:List (List Int)},Chain many steps cur rest->∃ f:Nat->List Int,f 0=cur/\(∀ k,RB many steps (f k) (f (k+1)))/\(∀ k,k<=rest.length->(cur :: rest)[k]? = some (f k))/\∀ k,rest.length<=k->f k=f rest.length
 |cur,[],h=>⟨fun _=>cur,rfl,fun _=>h,fun k hk=>by
   have:k=0:=Nat.le_zero.mp hk
   subst this
   rfl,fun _ _=>rfl⟩
 |cur,hG :: rest,h=>by
  obtain⟨f,f0,fn,fa,fs⟩:=h.2.2.sq
  refine⟨fun k=>Nat.casesOn k cur f,rfl,fun k=>?_,fun k hk=>?_,fun k hk=>?_⟩
  ·cases k with
   |zero=>show RB many steps cur (f 0);rw[f0];exact h.1
   |succ k=>exact fn k
  ·cases k with
   |zero=>rfl
   |succ k=>exact fa k (Nat.le_of_succ_le_succ hk)
  ·cases k with
   |zero=>exact absurd hk (by simp)
   |succ k=>exact fs k (Nat.le_of_succ_le_succ hk)
theorem Chain.rds{many:Int}{steps:List bE}{rest:List (List Int)}(h:Chain many steps (zeros many) rest):∃ f,nr many steps rest f:=by
 obtain⟨f,a,b,c,d⟩:=h.sq
 exact⟨f,a,b,c,d⟩
def y2(f:Nat->List Int)(x:P2)(v:Nat):Prop:=rk (f v) x.1≠rk (f v) x.2/\∀ u,u<v->rk (f u) x.1=rk (f u) x.2
theorem y2.uniq{f:Nat->List Int}{x:P2}{u v:Nat}(a:y2 f x u)(b:y2 f x v):u=v:=by
 rcases Q6 u v with h|h|h
 ·exact absurd (b.2 u h) a.1
 ·exact h
 ·exact absurd (a.2 v h) b.1
theorem y2.swap{f:Nat->List Int}{p q:Int}{v:Nat}(a:y2 f (p,q) v):y2 f (q,p) v:=⟨fun e=>a.1 e.symm,fun u hu=>(a.2 u hu).symm⟩
section
variable {many:Int}{steps:List bE}{rest:List (List Int)}{f:Nat->List Int}
theorem nr.still(h:nr many steps rest f)(aw:fw many steps){k:Nat}(hk:∀ x:P2,fT many x->rk (f k) x.1=rk (f k) x.2->rk (f (k+1)) x.1=rk (f (k+1)) x.2):∀ n:Nat,∀ x:P2,fT many x->rk (f (k+n)) x.1=rk (f (k+n)) x.2->rk (f (k+n+1)) x.1=rk (f (k+n+1)) x.2
 |0,x,hx,e=>hk x hx e
 |n+1,x,hx,e=>by
  have ih:=h.still aw hk n
  have e:rk (f (k+n+1)) x.1=rk (f (k+n+1)) x.2:=e
  have a:=((h.hG (k+n)).iff aw hx.1 hx.2).mp e
  refine((h.hG (k+n+1)).iff aw hx.1 hx.2).mpr ⟨e,fun d y hy=>?_,fun d o ho=>?_⟩
  ·obtain⟨o,ho,m⟩:=a.2.1 d y hy
   exact⟨o,ho,ih (y,o) ⟨⟨(aw _ hy).2.2.2.1,(aw _ hy).2.2.2.2⟩,(aw _ ho).2.2.2.1,(aw _ ho).2.2.2.2⟩ m⟩
  ·obtain⟨y,hy,m⟩:=a.2.2 d o ho
   exact⟨y,hy,ih (y,o) ⟨⟨(aw _ hy).2.2.2.1,(aw _ hy).2.2.2.2⟩,(aw _ ho).2.2.2.1,(aw _ ho).2.2.2.2⟩ m⟩
theorem nr.Jo(h:nr many steps rest f)(aw:fw many steps){k:Nat}(hk:∀ x:P2,fT many x->rk (f k) x.1=rk (f k) x.2->rk (f (k+1)) x.1=rk (f (k+1)) x.2){x:P2}(hx:fT many x){v:Nat}(a:y2 f x v):v<=k:=by
 rcases xv k v with l|l
 ·obtain⟨n,rfl⟩:∃ n,v=k+n+1:=⟨v-k-1,by lia⟩
  exact absurd (h.still aw hk n x hx (a.2 _ (L8 _))) a.1
 ·exact l
theorem nr.X_(h:nr many steps rest f)(aw:fw many steps)(hm:1<=many):∀ k,pV many steps k (f k)
 |0=>by rw[h.zero];exact pV.zero hm
 |k+1=>(h.X_ aw hm k).next aw hm (h.hG k)
theorem nr.ends(h:nr many steps rest f)(aw:fw many steps)(hm:1<=many):f (many.toNat+1)=f many.toNat:=by
 obtain⟨r2,hc,e⟩:=(h.X_ aw hm many.toNat).done
 have:=hc.last
 rw[<- e] at this
 exact(h.hG many.toNat).uniq this aw
end
def LS(many:Int)(l:List bE):Nat->P2->Prop
 |0,x=>fT many x
 |k+1,x=>LS many l k x/\(∀ d e,(x.1,d,e)∈l->∃ o,(x.2,d,o)∈l/\LS many l k (e,o))/\∀ d o,(x.2,d,o)∈l->∃ e,(x.1,d,e)∈l/\LS many l k (e,o)
theorem LS.both{many:Int}{l:List bE}{k:Nat}{ks:List P2}(h:∀ x,x∈ks↔LS many l k x)(x:P2):LS many l (k+1) x↔x∈ks/\FX l ks x:=by
 unfold FX T4 X8
 simp only[h]
 exact Iff.rfl
theorem LS.le{many:Int}{l:List bE}{x:P2}:∀ {v u:Nat},u<=v->LS many l v x->LS many l u x
 |0,u,hu,e=>by
  have:u=0:=Nat.le_zero.mp hu
  subst this
  exact e
 |v+1,u,hu,e=>by
  rcases xv v u with z|z
  ·have:u=v+1:=by lia
   subst this
   exact e
  ·exact LS.le z e.1
theorem LS.Ya{many:Int}{l:List bE}{x:P2}{v:Nat}(h:LS many l v x):fT many x:=LS.le (dz v) h
theorem nr.ls{many:Int}{steps:List bE}{rest:List (List Int)}{f:Nat->List Int}(h:nr many steps rest f)(aw:fw many steps):∀ (k:Nat) (x:P2),LS many steps k x↔fT many x/\rk (f k) x.1=rk (f k) x.2
 |0,x=>by
  rw[h.zero,gK,gK]
  exact⟨fun z=>⟨z,rfl⟩,fun z=>z.1⟩
 |k+1,x=>by
  have ih:=h.ls aw k
  constructor
  ·rintro⟨a,b,c⟩
   have a:=(ih x).mp a
   refine⟨a.1,((h.hG k).iff aw a.1.1 a.1.2).mpr ⟨a.2,fun d e he=>?_,fun d o ho=>?_⟩⟩
   ·obtain⟨o,ho,m⟩:=b d e he
    exact⟨o,ho,((ih _).mp m).2⟩
   ·obtain⟨e,he,m⟩:=c d o ho
    exact⟨e,he,((ih _).mp m).2⟩
  ·rintro⟨hx,e⟩
   obtain⟨a,b,c⟩:=((h.hG k).iff aw hx.1 hx.2).mp e
   refine⟨(ih x).mpr ⟨hx,a⟩,fun d e he=>?_,fun d o ho=>?_⟩
   ·obtain⟨o,ho,m⟩:=b d e he
    exact⟨o,ho,(ih _).mpr ⟨⟨⟨(aw _ he).2.2.2.1,(aw _ he).2.2.2.2⟩,(aw _ ho).2.2.2.1,(aw _ ho).2.2.2.2⟩,m⟩⟩
   ·obtain⟨e,he,m⟩:=c d o ho
    exact⟨e,he,(ih _).mpr ⟨⟨⟨(aw _ he).2.2.2.1,(aw _ he).2.2.2.2⟩,(aw _ ho).2.2.2.1,(aw _ ho).2.2.2.2⟩,m⟩⟩
def Ee(many:Int)(l:List bE)(x:P2)(v:Nat):Prop:=¬ LS many l v x/\∀ u,u<v->LS many l u x
theorem Ee.uniq{many:Int}{l:List bE}{x:P2}{u v:Nat}(a:Ee many l x u)(b:Ee many l x v):u=v:=by
 rcases Q6 u v with h|h|h
 ·exact absurd (b.2 u h) a.1
 ·exact h
 ·exact absurd (a.2 v h) b.1
theorem nr.QB{many:Int}{steps:List bE}{rest:List (List Int)}{f:Nat->List Int}(h:nr many steps rest f)(aw:fw many steps){x:P2}(hx:fT many x)(v:Nat):Ee many steps x v↔y2 f x v:=by
 unfold Ee y2
 simp only[h.ls aw,hx,true_and]
structure EA(many:Int)(l:List bE)(k:Nat)(kvs:Kn):Prop where
 get:∀ x:P2,fT many x->∀ d,dP kvs (fA x)=some d↔∃ v:Nat,v<=k/\d=.int (v:Nat)/\Ee many l x v
 key:∀ kv∈kvs,∃ x:P2,fT many x/\kv.1=fA x
def xi(f:Nat->List Int)(x:P2)(d:D):Prop:=(∃ v:Nat,d=.int (v:Nat)/\y2 f x v)\/(d=.non/\∀ v,¬ y2 f x v)
theorem xi.uniq{f:Nat->List Int}{x:P2}{d e:D}(a:xi f x d)(b:xi f x e):d=e:=by
 rcases a with⟨v,rfl,a⟩|⟨rfl,a⟩<;>rcases b with⟨u,rfl,b⟩|⟨rfl,b⟩
 ·rw[a.uniq b]
 ·exact absurd a (b v)
 ·exact absurd b (a u)
 ·rfl
theorem xi.flat{f:Nat->List Int}{x:P2}{d:D}(a:xi f x d):d.flat=true:=by
 rcases a with⟨v,rfl,_⟩|⟨rfl,_⟩<;>rfl
theorem xi.swap{f:Nat->List Int}{p q:Int}{d:D}(a:xi f (p,q) d):xi f (q,p) d:=by
 rcases a with⟨v,rfl,a⟩|⟨rfl,a⟩
 ·exact .inl ⟨v,rfl,a.swap⟩
 ·exact .inr ⟨rfl,fun v z=>a v z.swap⟩
def EB(many:Int)(l:List bE)(kvs:Kn):Prop:=∃ k,EA many l k kvs/\(k=many.toNat\/∀ x,LS many l k x->LS many l (k+1) x)
theorem EB.QB{many:Int}{steps:List bE}{rest:List (List Int)}{f:Nat->List Int}{kvs:Kn}(w:EB many steps kvs)(h:nr many steps rest f)(aw:fw many steps)(hm:1<=many){x:P2}(hx:fT many x):xi f x ((dP kvs (fA x)).getD .non):=by
 obtain⟨k,hp,hk⟩:=w
 have hs:∀ x:P2,fT many x->rk (f k) x.1=rk (f k) x.2->rk (f (k+1)) x.1=rk (f (k+1)) x.2:=fun x hx e=>by
  rcases hk with rfl|hk
  ·rw[h.ends aw hm]
   exact e
  ·exact((h.ls aw (k+1) x).mp (hk x ((h.ls aw k x).mpr ⟨hx,e⟩))).2
 cases e:dP kvs (fA x) with
 |some d =>
  obtain⟨v,_,rfl,a⟩:=(hp.get x hx d).mp e
  exact .inl ⟨v,rfl,(h.QB aw hx v).mp a⟩
 |none =>
  refine .inr ⟨rfl,fun v a=>?_⟩
  have:=(hp.get x hx (.int (v:Nat))).mpr ⟨v,h.Jo aw hs hx a,rfl,(h.QB aw hx v).mpr a⟩
  rw[e] at this
  cases this
theorem zz{κ β:Type}[DecidableEq κ](k k':κ)(d:β)(kvs:List (κ × β)):dP (jI kvs k d) k'=if k'=k then some d else dP kvs k':=by
 have cons:∀ (p:κ × β) (r:List (κ × β)),dP (p :: r) k'=if p.1=k' then some p.2 else dP r k':=fun p r=>by
  unfold dP
  rw[EK]
  by_cases e:p.1=k'<;>simp[e]
 have mp:∀ kvs:List (κ × β),dP (kvs.map fun p=>if p.1=k then (p.1,d) else p) k'=if k'=k/\(dP kvs k').isSome then some d else dP kvs k':=by
  intro kvs
  induction kvs with
  |nil=>simp[dP]
  |cons p r ih =>
   rw[fz,cons,cons,ih]
   by_cases e:p.1=k
   ·by_cases e2:k=k'
    ·simp[e,e2]
    ·simp[e,e2]
   ·by_cases e2:p.1=k'
    ·subst e2
     simp[e]
    ·simp[e,e2]
 have sn:∀ kvs:List (κ × β),dP (kvs++[(k,d)]) k'=(dP kvs k').or (if k=k' then some d else none):=by
  intro kvs
  induction kvs with
  |nil=>rw[AW,cons];simp[dP]
  |cons p r ih =>
   rw[List.cons_append,cons,cons,ih]
   by_cases e2:p.1=k'<;>simp[e2]
 unfold jI
 by_cases h:(kvs.any fun kv=>decide (kv.1=k))=true
 ·rw[if_pos h,mp]
  by_cases e:k'=k
  ·subst e
   have:=oZ.mpr (nZ.mp h)
   simp[this]
  ·simp[e]
 ·rw[if_neg h,sn]
  by_cases e:k'=k
  ·subst e
   have:dP kvs k'=none:=by
    cases z:dP kvs k' with
    |none=>rfl
    |some v=>exact absurd (nZ.mpr (oZ.mp (by rw[z];rfl))) h
   simp[this]
  ·have e2:¬ k=k':=fun z=>e z.symm
   simp[e,e2]
theorem EA.step{many:Int}{l:List bE}{k:Nat}{kvs vx:Kn}{ks gone:List P2}(h:EA many l k kvs)(n5:∀ x,x∈ks↔LS many l k x)(hg:∀ x,x∈gone↔x∈ks/\¬ FX l ks x)
  (hk:∀ x:P2,dP vx (fA x)=if x∈gone then some (.int ((k+1:Nat):Int)) else dP kvs (fA x)) (hy:∀ kv∈vx,∃ x:P2,fT many x/\kv.1=fA x):EA many l (k+1) vx:=by
 have ga:∀ x,x∈gone↔Ee many l x (k+1):=fun x=>by
  rw[hg]
  unfold Ee
  rw[LS.both n5]
  constructor
  ·rintro⟨a,b⟩
   exact⟨fun z=>b z.2,fun u hu=>LS.le (L7 hu) ((n5 x).mp a)⟩
  ·rintro⟨a,b⟩
   have:=(n5 x).mpr (b k (L8 k))
   exact⟨this,fun z=>a ⟨this,z⟩⟩
 refine⟨fun x hx d=>?_,hy⟩
 rw[hk]
 by_cases z:x∈gone
 ·rw[if_pos z]
  have a:=(ga x).mp z
  constructor
  ·intro e
   cases e
   exact⟨k+1,bT _,rfl,a⟩
  ·rintro⟨v,_,rfl,b⟩
   rw[a.uniq b]
 ·rw[if_neg z,h.get x hx d]
  constructor
  ·rintro⟨v,hv,e,a⟩
   exact⟨v,by lia,e,a⟩
  ·rintro⟨v,hv,e,a⟩
   refine⟨v,?_,e,a⟩
   rcases xv k v with y|y
   ·have:v=k+1:=by lia
    subst this
    exact absurd ((ga x).mpr a) z
   ·exact y
theorem EA.nil{many:Int}{l:List bE}:EA many l 0 []:=by
 refine⟨fun x hx d=>⟨fun e=>(by cases e),?_⟩,fun kv h=>nomatch h⟩
 rintro⟨v,hv,_,a⟩
 have:v=0:=Nat.le_zero.mp hv
 subst this
 exact absurd hx a.1
def d_:WS :=
 (mr (AJ (wB (qu S8 Nm (wC (.int 0)) (ah 1) (ax fv (ah 0) (wC (.int 0))))))
 (v_ "NoState" (wC (.str "the machine has no such state")))
 dM)
def aO:fP:=fun ds Q=>∃ (many:Int) (l:List bE) (s:Int),ds=[mD many l,.int s]/\((0<=s/\s<many)->Q .sh .non)/\(¬ (0<=s/\s<many)->Q (.ow false) (.str "NoState"))
theorem kJ (ds Q) (h:aO ds Q):ds.length=["m", "state"].length:=by obtain⟨_,_,_,rfl,_⟩:=h;rfl
theorem nG:∀ ds Q,aO ds Q->d_ { nx:=fun _=>Q .sh .non,rt:=Q } (aY 2 ds):=by
 rintro ds Q ⟨many,l,s,rfl,h1,h2⟩
 unfold d_ mD
 walk_at "q"
 refine R.D (fun a=>?_) fun a=>?_
 ·walk_at "q"
  by_cases b:s<many
  ·refine R.F (by simp[b]) ?_
   walk_at "q"
   exact h1 ⟨a,b⟩
  ·refine R.T (by simp[b]) ?_
   walk_at "q"
   exact h2 fun z=>b z.2
 ·walk_at "q"
  exact h2 fun z=>a z.1
def iQ:WS :=
 (b9 (eB 1 (e_ (cA (ax fv (ah 0) (wC (.int 0)))) (gN 0) vt (tf b4) 1 []))
 (b9 (hU 0 (ng (eY (ax fv (ah 0) (wC (.int 1)))) (gT 3 (bZ (gN 2) (bZ (gN 3) (bZ (gN 4) jF))))
 (hU 4 (hU 3 (B7 (Nw (tq 1) (ah 2)) (og (aj (ah 3) (aj (ah 4) b4))))))))
 (n6 1)))
def cO:fP:=fun ds Q=>∃ (many:Int) (steps:List bE),ds=[mD many steps]/\(0<=many/\many<=1000)/\fw many steps/\steps.length<=1000/\Q (.ow true) (xh many steps)
theorem qJ (ds Q) (h:cO ds Q):ds.length=["m"].length:=by obtain⟨_,_,rfl,_⟩:=h;rfl
theorem uN:∀ ds Q,cO ds Q->iQ { nx:=fun _=>Q .sh .non,rt:=Q } (aY 5 ds):=by
 rintro ds Q ⟨many,steps,rfl,hm,aw,hl,h⟩
 unfold iQ mD
 walk_at "q"
 refine⟨by lia,by lia,?_⟩
 refine dF (fun _=>true) (fun _=>.list []) (fun ρ=>∃ o,ρ=[o]) _ _ _ ⟨_,rfl⟩ ?_ ?_
 ·rintro x hx ρ ⟨o,rfl⟩ N1 N2 n1 n2
  walk_at "q"
  exact⟨.inr rfl,n2 _ ⟨_,rfl⟩ rfl⟩
 rw[Bf]
 refine bH _ (fun i ρ=>∃ o2 o3 o4,ρ=[some (.sh (.tup [.int many,.list (steps.map iF)])),some (.ow true (.list (ll many (steps.take i)))),o2,o3,o4]) ⟨none,none,none,by simp⟩ ?_ ?_
 ·rintro i x ρ hx ⟨o2,o3,o4,rfl⟩ N hN
  obtain⟨p,d,r,rfl,hs,ht⟩:=Bd hx
  have ok:=aw _ hs
  walk_at "q"
  refine⟨p.toNat,.list ((kM (steps.take i) p).map i6),uh ok.1 (by rw[kI];have:=ok.2.1;lia),yV _ ok.1 ok.2.1,rfl,?_⟩
  walk_at "q"
  refine⟨?_,?_⟩
  ·have:=sG (steps.take i) p
   have:(steps.take i).length<=steps.length:=by rw[nv];lia
   lia
  ·refine hN _ ⟨some (.sh (.int p)),some (.sh (.str d)),some (.sh (.int r)),?_⟩
   rw[Be _ _ _ ok.1 ok.2.1,<- ht]
 ·rintro ρ ⟨o2,o3,o4,rfl⟩
  walk_at "q"
  rw[CM]
  exact h
def mY:WS :=
 (lh (og (aj (ax fv (ah 1) (ah 2)) (aj (g9 fM (e_ (i_ (ax fv (ah 0) (ah 2))) (gT 2 (bZ (gN 0) (bZ (gN 1) jF))) vt (og (aj (ah 0) (aj (ax fv (ah 2) (ah 1)) b4))) 2 [1])) b4))))
def dR:fP:=fun ds Q=>∃ (many:Int) (steps:List bE) (bq:List Int) (s:Int),ds=[xh many steps,.list (bq.map .int),.int s]/\(0<=s/\s<many)/\bq.length=many.toNat/\fw many steps/\steps.length<=1000/\∀ k,D9 steps bq s k->Q (.ow true) (fS k)
theorem uH (ds Q) (h:dR ds Q):ds.length=["exits", "ranks", "state"].length:=by obtain⟨_,_,_,_,rfl,_⟩:=h;rfl
theorem zc:∀ ds Q,dR ds Q->mY { nx:=fun _=>Q .sh .non,rt:=Q } (aY 3 ds):=by
 rintro ds Q ⟨many,steps,bq,s,rfl,hs,hr,aw,hl,h⟩
 unfold mY xh
 walk_at "q"
 refine⟨_,yR hr hs.1 hs.2,?_⟩
 walk_at "q"
 refine⟨_,xH steps hs.1 hs.2,?_⟩
 walk_at "q"
 refine dF (fun _=>true) (fun d=>match d with
  |.tup [.str x,.int e]=>.tup [.str x,.int (rk bq e)]
  |d=>d) (fun ρ=>∃ o0 o1,ρ=[o0,o1,some (.sh (.list (bq.map .int)))]) _ _ _ ⟨_,_,rfl⟩ ?_ ?_
 ·rintro x hx ρ ⟨o0,o1,rfl⟩ N1 N2 n1 n2
  obtain⟨p,hp,rfl⟩:=dn.mp hx
  obtain⟨t,ht,e1,e2⟩:=rD hp
  obtain⟨x,e⟩:=p
  have ok:=aw t ht
  obtain⟨t1,t2,t3⟩:=t
  cases e2
  unfold i6
  walk_at "q"
  refine⟨_,yR hr ok.2.2.2.1 ok.2.2.2.2,?_⟩
  walk_at "q"
  exact⟨.inl rfl,n2 _ ⟨_,_,rfl⟩ rfl⟩
 have e1:((kM steps s).map i6 |>.filter fun _=>true).map (fun d=>match d with
   |.tup [.str x,.int e]=>.tup [.str x,.int (rk bq e)]
   |d=>d)=((kM steps s).map fun p=>(p.1,rk bq p.2)).map i6:=by
  rw[List.filter_eq_self.mpr fun _ _=>rfl,kg,kg]
  rfl
 rw[e1]
 refine z8 (ps:=(kM steps s).map fun p=>(p.1,rk bq p.2)) (m:=.ow true) (Q:=fun _ d=>Q (.ow true) (.tup [.int (rk bq s),d])) (by rw[cK];exact iN (sG steps s) hl) fun l up mem=>?_
 refine h (rk bq s,l) ⟨rfl,up,fun p=>(mem p).trans ⟨fun hp=>?_,fun hp=>?_⟩⟩
 ·obtain⟨q,hq,rfl⟩:=dn.mp hp
  obtain⟨t,ht,e1,rfl⟩:=rD hq
  exact⟨t,ht,e1,rfl⟩
 ·obtain⟨t,ht,rfl,rfl⟩:=hp
  exact dn.mpr ⟨t.2,xM ht,rfl⟩
def eN:WS :=
 (b9 (hU 0 (ng (uc (ah 0)) (gT 2 (bZ (gN 3) (bZ (gN 4) jF)))
 (mr (wB (ax Nn (ax fv (ah 4) (ah 1)) (ax fv (ah 4) (ah 2))))
 (n6 3)
 dM)))
 (lh (wC .non)))
def aZ:fP:=fun ds Q=>∃ (many:Int) (l:List bE) (rest:List (List Int)) (f:Nat->List Int) (x:P2),ds=[.list ((zeros many :: rest).map xa),.int x.1,.int x.2]/\nr many l rest f/\fT many x/\∀ d,xi f x d->Q .sh d
theorem jJ (ds Q) (h:aZ ds Q):ds.length=["rounds", "p", "q"].length:=by obtain⟨_,_,_,_,_,rfl,_⟩:=h;rfl
theorem nr.len{many:Int}{l:List bE}{rest:List (List Int)}{f:Nat->List Int}(h:nr many l rest f)(k:Nat):(f k).length=many.toNat:=by
 cases k with
 |zero=>rw[h.zero];simp[zeros]
 |succ k=>exact(h.hG k).len
theorem Jq{many:Int}{l:List bE}{rest:List (List Int)}{f:Nat->List Int}(hf:nr many l rest f){i:Nat}{y:D}(h:(l_ ((zeros many :: rest).map xa))[i]? = some y):y=.tup [.int i,.list ((f i).map .int)]:=by
 rw[l_,List.getElem?_mapIdx,kN] at h
 cases e:(zeros many :: rest)[i]? with
 |none=>rw[e] at h;cases h
 |some r =>
  have hi:=(hV.mp e).1
  have:=hf.at' i (by simp at hi;lia)
  rw[this] at e
  cases e
  rw[this] at h
  cases h
  rfl
theorem ph:∀ ds Q,aZ ds Q->eN { nx:=fun _=>Q .sh .non,rt:=Q } (aY 5 ds):=by
 rintro ds Q ⟨many,l,rest,f,⟨p,q⟩,rfl,hf,hx,h⟩
 unfold eN
 walk_at "q"
 refine bH _ (fun i ρ=>∃ (o3 o4:Option Sl),(∀ u,u<i->rk (f u) p=rk (f u) q)/\ρ=[some (.sh (.list ((zeros many :: rest).map xa))),some (.sh (.int p)),some (.sh (.int q)),o3,o4]) ⟨_,_,(fun u hu=>absurd hu (Dx u)),rfl⟩ ?_ ?_
 ·rintro i y ρ hy ⟨o3,o4,he,rfl⟩ N hN
  obtain rfl:=Jq hf hy
  walk_at "q"
  refine⟨_,yR (hf.len i) hx.1.1 hx.1.2,?_⟩
  walk_at "q"
  refine⟨_,yR (hf.len i) hx.2.1 hx.2.2,?_⟩
  walk_at "q"
  by_cases e:rk (f i) p=rk (f i) q
  ·refine R.F (by simp[e]) ?_
   walk_at "q"
   refine hN _ ⟨_,_,fun u hu=>?_,rfl⟩
   rcases xv u i with z|z
   ·exact he u z
   ·have:u=i:=by lia
    subst this
    exact e
  ·refine R.T (by simp[e]) ?_
   walk_at "q"
   exact h _ (.inl ⟨i,rfl,e,he⟩)
 ·rintro ρ ⟨o3,o4,he,rfl⟩
  have he:∀ u,u<rest.length+1->rk (f u) p=rk (f u) q:=fun u hu=>he u (by simp[l_];lia)
  walk_at "q"
  refine h _ (.inr ⟨rfl,fun v a=>a.1 ?_⟩)
  rcases xv v (rest.length+1) with z|z
  ·exact he v z
  ·have:=he rest.length (L8 _)
   rw[hf.eM v (by lia)]
   exact this
def dO:WS :=
 (b9 (mr (wB (ax Nm (ah 1) (g9 vk (ah 0))))
 (lh (ax fv (ah 0) (ah 1)))
 dM)
 (lh (wC (.int 0))))
def aF:fP:=fun ds Q=>∃ (ns:List Int) (k:Int),ds=[.list (ns.map .int),.int k]/\0<=k/\Q .sh (.int (ns.getD k.toNat 0))
theorem jB (ds Q) (h:aF ds Q):ds.length=["_law_script", "_law_k"].length:=by obtain⟨_,_,rfl,_⟩:=h;rfl
theorem lF:∀ ds Q,aF ds Q->dO { nx:=fun _=>Q .sh .non,rt:=Q } (aY 2 ds):=by
 rintro ds Q ⟨ns,k,rfl,hk,h⟩
 unfold dO
 walk_at "q"
 refine R.D (fun hl=>?_) fun hl=>?_
 ·walk_at "q"
  have hn:k.toNat<ns.length:=by lia
  refine⟨.int ns[k.toNat],?_,?_⟩
  ·have:=E4 (xs:=ns.map D.int) (j:=k.toNat) (v:=.int ns[k.toNat]) (by simp[hn])
   rwa[zk hk] at this
  ·show Q .sh _;simpa[List.getD,hn] using h
 ·walk_at "q"
  have:ns.getD k.toNat 0=0:=by
   have:ns.length<=k.toNat:=by lia
   simp[List.getD,tP this]
  rwa[this] at h
def fO:WS :=
 (b9 (eB 3 (ax fv (tf (aj (wC (.int 1000003)) (aj (wC (.int 998244353)) (aj (wC (.int 104729)) (aj (wC (.int 2147483647)) (aj (wC (.int 15485863)) (aj (wC (.int 32452843)) b4))))))) (ah 1)))
 (lh (ax sT (ax B5 (ax sT (ax oa (ah 0) (ax fv (tf (aj (wC (.int 48271)) (aj (wC (.int 69621)) (aj (wC (.int 16807)) (aj (wC (.int 40692)) (aj (wC (.int 39373)) (aj (wC (.int 22571)) b4))))))) (ah 1))) (ah 3)) (wC (.int 11))) (ah 2))))
def az:fP:=fun ds Q=>∃ c w m:Int,ds=[.int c,.int w,.int m]/\(0<=w/\w<6)/\0<m/\∀ r,0<=r->r<m->Q .sh (.int r)
theorem lV (ds Q) (h:az ds Q):ds.length=["_law_cell", "_law_way", "_law_many"].length:=by obtain⟨_,_,_,rfl,_⟩:=h;rfl
theorem ql:∀ ds Q,az ds Q->fO { nx:=fun _=>Q .sh .non,rt:=Q } (aY 4 ds):=by
 rintro ds Q ⟨c,w,m,rfl,hw,hm,h⟩
 unfold fO
 walk_at "q"
 obtain⟨p,hp,ep⟩:=gw (l:=[1000003,998244353,104729,2147483647,15485863,32452843]) hw.1 hw.2
 obtain⟨q,hq,eq⟩:=gw (l:=[48271,69621,16807,40692,39373,22571]) hw.1 hw.2
 have iX:=(by decide:∀ p∈([1000003,998244353,104729,2147483647,15485863,32452843]:List Int),0<p) p hp
 have Qk:=(by decide:∀ p∈([48271,69621,16807,40692,39373,22571]:List Int),0<p/\p<100000) q hq
 refine⟨.int p,ep,?_⟩
 walk_at "q"
 refine⟨.int q,eq,?_⟩
 walk_at "q"
 have:=vY (c*q % p / 11) hm
 exact⟨bA (by lia) (by lia),iX,hm,h _ this.1 this.2⟩
def gC:WS :=
 (b9 (eB 2 (e_ (cA (ah 0)) (gN 0) vt (tf b4) 1 []))
 (b9 (hU 1 (ng (eY (ah 1)) (gT 3 (bZ (gN 3) (bZ (gN 4) (bZ (gN 5) jF))))
 (hU 5 (hU 4 (B7 (Nw (tq 2) (ah 3)) (og (aj (ah 4) (aj (ah 5) b4))))))))
 (n6 2)))
def cB:fP:=fun ds Q=>∃ (many:Int) (steps:List bE),ds=[.int many,.list (steps.map iF)]/\(0<=many/\many<=1000)/\fw many steps/\steps.length<=10000/\Q (.ow true) (xh many steps)
theorem n8 (ds Q) (h:cB ds Q):ds.length=["_law_many", "_law_steps"].length:=by obtain⟨_,_,rfl,_⟩:=h;rfl
theorem qT:∀ ds Q,cB ds Q->gC { nx:=fun _=>Q .sh .non,rt:=Q } (aY 6 ds):=by
 rintro ds Q ⟨many,steps,rfl,hm,aw,hl,h⟩
 unfold gC
 walk_at "q"
 refine⟨by lia,by lia,?_⟩
 refine dF (fun _=>true) (fun _=>.list []) (fun ρ=>∃ o,ρ=[o]) _ _ _ ⟨_,rfl⟩ ?_ ?_
 ·rintro x hx ρ ⟨o,rfl⟩ N1 N2 n1 n2
  walk_at "q"
  exact⟨.inr rfl,n2 _ ⟨_,rfl⟩ rfl⟩
 rw[Bf]
 refine bH _ (fun i ρ=>∃ o2 o3 o4,ρ=[some (.sh (.int many)),some (.sh (.list (steps.map iF))),some (.ow true (.list (ll many (steps.take i)))),o2,o3,o4]) ⟨none,none,none,by simp⟩ ?_ ?_
 ·rintro i x ρ hx ⟨o2,o3,o4,rfl⟩ N hN
  obtain⟨p,d,r,rfl,hs,ht⟩:=Bd hx
  have ok:=aw _ hs
  walk_at "q"
  refine⟨p.toNat,.list ((kM (steps.take i) p).map i6),uh ok.1 (by rw[kI];have:=ok.2.1;lia),yV _ ok.1 ok.2.1,rfl,?_⟩
  walk_at "q"
  refine⟨?_,?_⟩
  ·have:=sG (steps.take i) p
   have:(steps.take i).length<=steps.length:=by rw[nv];lia
   lia
  ·refine hN _ ⟨some (.sh (.int p)),some (.sh (.str d)),some (.sh (.int r)),?_⟩
   rw[Be _ _ _ ok.1 ok.2.1,<- ht]
 ·rintro ρ ⟨o2,o3,o4,rfl⟩
  walk_at "q"
  rw[CM]
  exact h
def cV:WS :=
 (b9 (hU 0 (ng (eY (ax fv (ah 0) (ah 1))) (gT 2 (bZ (gN 4) (bZ (gN 5) jF)))
 (mr (AJ (wB (g9 Qr (e_ (i_ (ax fv (ah 0) (ah 2))) (gT 2 (bZ (gN 0) (bZ (gN 1) jF))) (wB (ax nc (ah 0) (ah 2))) (ax (Np false) (og (aj (ah 4) (aj (ah 1) b4))) (ah 3)) 2 [4,3,5]))))
 (lh (wC (.bl false)))
 dM)))
 (b9 (hU 0 (ng (eY (ax fv (ah 0) (ah 2))) (gT 2 (bZ (gN 4) (bZ (gN 6) jF)))
 (mr (AJ (wB (g9 Qr (e_ (i_ (ax fv (ah 0) (ah 1))) (gT 2 (bZ (gN 0) (bZ (gN 1) jF))) (wB (ax nc (ah 0) (ah 2))) (ax (Np false) (og (aj (ah 1) (aj (ah 3) b4))) (ah 4)) 2 [4,6,3]))))
 (lh (wC (.bl false)))
 dM)))
 (lh (wC (.bl true)))))
def aQ:fP:=fun ds Q=>∃ (many:Int) (l:List bE) (ks:List P2) (p:P2),ds=[xh many l,.int p.1,.int p.2,.dT (kB ks)]/\fT many p/\∀ b,(b=true↔FX l ks p)->Q .sh (.bl b)
theorem ig (ds Q) (h:aQ ds Q):ds.length=["_law_rows_here", "_law_one", "_law_other", "_law_pairs"].length:=by obtain⟨_,_,_,_,rfl,_⟩:=h;rfl
def T5(d:Str)(x:D):Bool:=match x with
 |.tup [.str n,_]=>decide (n=d)
 |_=>false
def T6(f:Int->Bool)(x:D):D:=match x with
 |.tup [_,.int o]=>.bl (f o)
 |_=>.non
theorem vK{l:List bE}{s:Int}{d:Str}{f:Int->Bool}:∃ bs:List Bool,(((kM l s).map i6).filter (T5 d)).map (T6 f)=bs.map D.bl/\(bs.any (fun b=>b)=true↔∃ o,(s,d,o)∈l/\f o=true):=by
 refine⟨((kM l s).filter fun t=>decide (t.1=d)).map fun t=>f t.2,?_,?_⟩
 ·rw[List.filter_map,kg,kg]
  rfl
 ·rw[List.any_map,EJ]
  constructor
  ·rintro⟨⟨n,o⟩,ho,z⟩
   obtain⟨ho,e⟩:=Dp.mp ho
   have e:n=d:=of_decide_eq_true e
   exact⟨o,iK.mp (e ▸ ho),z⟩
  ·rintro⟨o,ho,z⟩
   exact⟨(d,o),Dp.mpr ⟨iK.mpr ho,decide_eq_true rfl⟩,z⟩
theorem jz:∀ ds Q,aQ ds Q->cV { nx:=fun _=>Q .sh .non,rt:=Q } (aY 7 ds):=by
 rintro ds Q ⟨many,l,ks,⟨p,q⟩,rfl,hp,h⟩
 unfold cV
 walk_at "q"
 refine⟨_,xH l hp.1.1 hp.1.2,?_⟩
 walk_at "q"
 refine bH _ (fun j ρ=>∃ (o4 o5:Option Sl),(∀ t∈(kM l p).take j,∃ o,(q,t.1,o)∈l/\(t.2,o)∈ks)/\ρ=[some (.sh (xh many l)),some (.sh (.int p)),some (.sh (.int q)),some (.sh (.dT (kB ks))),o4,o5,none]) ⟨_,_,(fun p hp=>by simp at hp),rfl⟩ ?_ ?_
 ·rintro j x ρ hx ⟨o4,o5,hj,rfl⟩ N hN
  obtain⟨d,e,rfl,qh,Qe⟩:=Gd hx
  walk_at "q"
  refine⟨_,xH l hp.2.1 hp.2.2,?_⟩
  walk_at "q"
  refine dF (T5 d) (T6 fun o=>decide ((e,o)∈ks)) (fun ρ=>∃ o0 o1,ρ=[o0,o1,some (.sh (.str d)),some (.sh (.dT (kB ks))),some (.sh (.int e))]) _ _ _ ⟨_,_,rfl⟩ ?_ ?_
  ·rintro x hx ρ ⟨o0,o1,rfl⟩ N1 N2 n1 n2
   obtain⟨⟨n,o⟩,hc,rfl⟩:=dn.mp hx
   rw[show i6 (n,o)=.tup [.str n,.int o] from rfl] at *
   walk_at "q"
   by_cases en:n=d
   ·rw[if_pos (by simp[en])]
    have e1:=tH ks (e,o)
    unfold fA at e1
    rw[e1]
    exact⟨.inl rfl,n2 _ ⟨_,_,rfl⟩ (decide_eq_true en)⟩
   ·rw[if_neg (by simp[en])]
    exact n1 _ ⟨_,_,rfl⟩ (decide_eq_false en)
  obtain⟨bs,e1,e2⟩:=vK (l:=l) (s:=q) (d:=d) (f:=fun o=>decide ((e,o)∈ks))
  refine⟨bs,e1,?_⟩
  refine R.B (fun hb=>?_) fun hb=>?_
  ·walk_at "q"
   refine h false ⟨(fun z=>by cases z),fun z=>?_⟩
   obtain⟨o,ho,m⟩:=z.1 d e (iK.mp qh)
   rw[e2.mpr ⟨o,ho,decide_eq_true m⟩] at hb
   cases hb
  ·walk_at "q"
   have hb:bs.any (fun b=>b)=true:=by simpa using hb
   obtain⟨o,ho,m⟩:=e2.mp hb
   exact hN _ ⟨_,_,tX Qe hj ⟨o,ho,of_decide_eq_true m⟩,rfl⟩
 rintro ρ ⟨o4,o5,hj,rfl⟩
 rw[cK,CM] at hj
 have hf:T4 l ks p q:=fun d e he=>hj (d,e) (iK.mpr he)
 walk_at "q"
 refine⟨_,xH l hp.2.1 hp.2.2,?_⟩
 walk_at "q"
 refine bH _ (fun j ρ=>∃ (o4 o6:Option Sl),(∀ t∈(kM l q).take j,∃ e,(p,t.1,e)∈l/\(e,t.2)∈ks)/\ρ=[some (.sh (xh many l)),some (.sh (.int p)),some (.sh (.int q)),some (.sh (.dT (kB ks))),o4,o5,o6]) ⟨_,_,(fun p hp=>by simp at hp),rfl⟩ ?_ ?_
 ·rintro j x ρ hx ⟨o4,o6,hj,rfl⟩ N hN
  obtain⟨d,o,rfl,qh,Qe⟩:=Gd hx
  walk_at "q"
  refine⟨_,xH l hp.1.1 hp.1.2,?_⟩
  walk_at "q"
  refine dF (T5 d) (T6 fun e=>decide ((e,o)∈ks)) (fun ρ=>∃ o0 o1,ρ=[o0,o1,some (.sh (.str d)),some (.sh (.int o)),some (.sh (.dT (kB ks)))]) _ _ _ ⟨_,_,rfl⟩ ?_ ?_
  ·rintro x hx ρ ⟨o0,o1,rfl⟩ N1 N2 n1 n2
   obtain⟨⟨n,e⟩,hc,rfl⟩:=dn.mp hx
   rw[show i6 (n,e)=.tup [.str n,.int e] from rfl] at *
   walk_at "q"
   by_cases en:n=d
   ·rw[if_pos (by simp[en])]
    have e1:=tH ks (e,o)
    unfold fA at e1
    rw[e1]
    exact⟨.inl rfl,n2 _ ⟨_,_,rfl⟩ (decide_eq_true en)⟩
   ·rw[if_neg (by simp[en])]
    exact n1 _ ⟨_,_,rfl⟩ (decide_eq_false en)
  obtain⟨bs,e1,e2⟩:=vK (l:=l) (s:=p) (d:=d) (f:=fun e=>decide ((e,o)∈ks))
  refine⟨bs,e1,?_⟩
  refine R.B (fun hb=>?_) fun hb=>?_
  ·walk_at "q"
   refine h false ⟨(fun z=>by cases z),fun z=>?_⟩
   obtain⟨e,he,m⟩:=z.2 d o (iK.mp qh)
   rw[e2.mpr ⟨e,he,decide_eq_true m⟩] at hb
   cases hb
  ·walk_at "q"
   have hb:bs.any (fun b=>b)=true:=by simpa using hb
   obtain⟨e,he,m⟩:=e2.mp hb
   exact hN _ ⟨_,_,tX Qe hj ⟨e,he,of_decide_eq_true m⟩,rfl⟩
 ·rintro ρ ⟨o4,o6,hj,rfl⟩
  rw[cK,CM] at hj
  walk_at "q"
  exact h true ⟨fun _=>⟨hf,fun d o ho=>hj (d,o) (iK.mpr ho)⟩,fun _=>rfl⟩
def gF:WS :=
 (b9 (mr (wB (ax P0 (ah 1) (wC .non)))
 (lh (ax P0 (ah 0) (wC .non)))
 dM)
 (lh (uL (g9 (P4 "int") (ah 0)) (uL (y_ (g9 (P4 "bool") (ah 0))) (ax nc (ah 0) (ah 1))))))
def bx:fP:=fun ds Q=>∃ d:D,ds=[d,d]/\(d=.non\/∃ v:Int,d=.int v)/\Q .sh (.bl true)
theorem m5 (ds Q) (h:bx ds Q):ds.length=["_law_found", "_law_due"].length:=by obtain⟨_,rfl,_⟩:=h;rfl
theorem rG:∀ ds Q,bx ds Q->gF { nx:=fun _=>Q .sh .non,rt:=Q } (aY 2 ds):=by
 rintro ds Q ⟨d,rfl,hd,h⟩
 unfold gF
 rcases hd with rfl|⟨v,rfl⟩
 ·walk_at "q"
  exact h
 ·walk_at "q"
  refine R.T (by decide) ?_
  walk_at "q"
  refine R.T (by decide) ?_
  walk_at "q"
  exact h
def dI:WS :=
 (b9 (eB 2 (e_ (cA (g9 vk (ah 1))) (gN 0) vt (aX dR (aj (ah 1) (aj (ah 2) (aj (ah 0) b4)))) 1 [0,1]))
 (b9 (eB 3 (tf b4))
 (b9 (hU 2 (ng (eY (g9 yj (ah 2))) (gN 4)
 (mr (wB (ax (Qo true) (ah 4) (ah 3)))
 (hU 4 (B7 (tq 3) (ah 4)))
 dM)))
 (lh (e_ (i_ (ah 2)) (gN 0) vt (um (ah 1) (ah 0)) 1 [3])))))
def aU:fP:=fun ds Q=>∃ (many:Int) (steps:List bE) (bq:List Int),ds=[xh many steps,.list (bq.map .int)]/\(0<=many/\many<=1000)/\bq.length=many.toNat/\fw many steps/\steps.length<=1000/\∀ r,RB many steps bq r->Q (.ow true) (.list (r.map .int))
theorem jE (ds Q) (h:aU ds Q):ds.length=["exits", "ranks"].length:=by obtain⟨_,_,_,rfl,_⟩:=h;rfl
theorem lG:∀ ds Q,aU ds Q->dI { nx:=fun _=>Q .sh .non,rt:=Q } (aY 5 ds):=by
 rintro ds Q ⟨many,steps,bq,rfl,hm,hr,aw,hl,h⟩
 unfold dI xh
 walk_at "q"
 refine⟨by lia,by lia,?_⟩
 refine cD (fun n out=>∃ l:List Ky,out=l.map fS/\l.length=n/\∀ (i:Nat) k,l[i]? = some k->D9 steps bq i k) (fun ρ=>∃ o,ρ=[o,some (.sh (.list (ll many steps))),some (.sh (.list (bq.map .int)))]) _ 0 [] _ _ ⟨_,rfl⟩ ⟨[],rfl,rfl,fun i k hk=>by simp at hk⟩ ?_ ?_
 ·rintro j y hy ρ ⟨o,rfl⟩ out ⟨l,rfl,T7,hk⟩ N1 N2 oP
  have hj:=(bM hy).1
  obtain⟨_,rfl⟩:=bM hy
  walk_at "q"
  refine⟨many,steps,bq,0+(j:Nat),rfl,by lia,hr,aw,hl,fun k D3=>?_⟩
  walk_at "q"
  refine⟨.inr rfl,oP _ _ ⟨_,rfl⟩ ⟨l++[k],by simp,by simp[T7],fun i k' iS=>?_⟩⟩
  rcases xv i l.length with hi|hi
  ·rw[EG hi] at iS
   exact hk i k' iS
  ·rw[y6 hi] at iS
   have ve:i-l.length=0:=by
    rcases Nat.eq_zero_or_pos (i-l.length) with z|z
    ·exact z
    ·rw[tP (by simp;lia)] at iS;cases iS
   rw[ve] at iS
   cases iS
   have:((i:Nat):Int)=0+(j:Nat):=by lia
   rw[this]
   exact D3
 rintro out ⟨l,e,T7,hk⟩
 simp only[AW] at e
 subst e
 rw[bJ,sC] at T7
 have FY:∀ k∈l,sj k:=fun k rh=>by
  obtain⟨i,hi⟩:=LV.mp rh
  exact(hk i k hi).ok aw
 refine⟨fun d hd=>?_,fun ms pm pw=>?_⟩
 ·obtain⟨k,rh,rfl⟩:=dn.mp hd
  exact⟨Ah (FY k rh) 9,(FY k rh).tJ⟩
 obtain⟨l2,rfl,wx⟩:=Qz (f:=fS) (P:=fun k=>k∈l) (ks:=ms) fun d hd=>by
  obtain⟨k,rh,e⟩:=dn.mp (pm.mem_iff.mp hd)
  exact⟨k,e.symm,rh⟩
 have back:∀ k∈l,k∈l2:=fun k rh=>by
  obtain⟨j,hj,e⟩:=dn.mp (pm.mem_iff.mpr (dn.mpr ⟨k,rh,rfl⟩))
  rw[<- xg e];exact hj
 have gQ':l2.length=l.length:=by have:=pm.length_eq;simpa using this
 rw[rp] at pw
 have pw:l2.Pairwise fun a b=>qV b a=false:=pw
 refine bH _ (fun i ρ=>∃ (diff:List Ky) (fl:Bool) (o4:Option Sl),diff.Pairwise (fun a b=>qV a b=true)/\(∀ k,k∈diff↔k∈l2.take i)/\diff.length<=i/\ρ=[some (.sh (.list (ll many steps))),some (.sh (.list (bq.map .int))),some (.sh (.list (l.map fS))),some (.ow fl (.list (diff.map fS))),o4]) ⟨[],true,none,.nil,by simp,by simp,rfl⟩ ?_ ?_
 ·rintro i x ρ hx ⟨diff,fl,o4,up,mem,dl,rfl⟩ N hN
  obtain⟨hi,hx'⟩:=hV.mp hx
  have kA:i<l2.length:=by simpa using hi
  have hxe:x=fS l2[i]:=by rw[<- hx'];simp
  subst hxe
  have rh:l2[i]∈l:=wx _ (CY kA)
  have tk:l2.take (i+1)=l2.take i++[l2[i]]:=by rw[EH,mz kA];rfl
  have QC:∀ k∈diff,sj k:=fun k NW=>FY k (wx k (Og ((mem k).mp NW)))
  generalize ek:l2[i]=k at *
  walk_at "q"
  refine⟨Ah (FY k rh) 9,Bp QC 8,?_⟩
  rw[F_]
  by_cases hd:k∈diff
  ·refine R.F (by simp[hd]) ?_
   walk_at "q"
   refine hN _ ⟨diff,fl,_,up,fun k'=>?_,by lia,rfl⟩
   rw[mem,tk,dy,kC]
   exact⟨.inl,fun z=>z.elim id fun e=>by rw[e];exact(mem k).mp hd⟩
  ·refine R.T (by simp[hd]) ?_
   walk_at "q"
   refine⟨by lia,?_⟩
   refine hN _ ⟨diff++[k],fl && (fS k).flat,some (.sh (fS k)),?_,fun k'=>?_,by simp;lia,by simp⟩
   ·refine LW.mpr ⟨up,by simp,fun a ha b hb=>?_⟩
    rw[kC.mp hb]
    cases h3:qV a k with
    |true=>rfl
    |false =>
     have h4:qV k a=false:=by
      obtain⟨j,hj⟩:=LV.mp ((mem a).mp ha)
      obtain⟨IJ,Lc⟩:=hV.mp hj
      have Tp:j<i:=by rw[nv] at IJ;lia
      have:=CF.mp pw j i (by lia) kA Tp
      rw[ek] at this
      rw[List.getElem_take] at Lc
      rwa[Lc] at this
     exact absurd (Ep (QC a ha) (FY k rh) h3 h4) fun e=>hd (by rw[<- e];exact ha)
   ·rw[dy,kC,mem,tk,dy,kC]
 ·rintro ρ ⟨diff,fl,o4,up,mem,dl,rfl⟩
  rw[cK,CM] at mem
  have md:∀ k,k∈diff↔k∈l:=fun k=>(mem k).trans ⟨wx k,back k⟩
  have QC:∀ k∈diff,sj k:=fun k NW=>FY k ((md k).mp NW)
  walk_at "q"
  refine cD (fun n out=>∃ r:List Int,out=r.map .int/\r.length=n/\∀ (i:Nat) x,r[i]? = some x->0<=x/\diff[x.toNat]? = l[i]?) (fun ρ=>∃ o,ρ=[o,some (.sh (.list (diff.map fS)))]) _ 0 [] _ _ ⟨_,rfl⟩ ⟨[],rfl,rfl,fun i k hk=>by simp at hk⟩ ?_ ?_
  ·rintro j y hy ρ ⟨o,rfl⟩ out ⟨r,rfl,T8,E9⟩ N1 N2 oP
   obtain⟨hj,NX⟩:=hV.mp hy
   have n9:j<l.length:=by simpa using hj
   have hye:y=fS l[j]:=by rw[<- NX];simp
   subst hye
   have rh:l[j]∈l:=CY n9
   have hlj:l[j]? = some l[j]:=mz n9
   generalize l[j]=k at *
   have NW:=(md k).mpr rh
   have w4:=List.idxOf_lt_length_of_mem NW
   walk_at "q"
   refine⟨Bp QC 8,Ah (FY k rh) 9,diff.idxOf k,⟨fS k,?_,by rw[uK];exact decide_eq_true rfl⟩,fun i z hi hz=>?_,.inl rfl,oP _ _ ⟨_,rfl⟩ ⟨r++[((diff.idxOf k:Nat):Int)],by simp,by simp[T8],fun i x hx=>?_⟩⟩
   ·rw[kN,mz w4,List.getElem_idxOf w4];rfl
   ·rw[kN,mz (by lia)] at hz
    cases hz
    rw[uK]
    refine decide_eq_false fun e=>?_
    have:=List.not_of_lt_findIdx (p:=(· == k)) (xs:=diff) hi
    rw[show diff[i]=k from e] at this
    simp at this
   ·rcases xv i r.length with hi|hi
    ·rw[EG hi] at hx
     exact E9 i x hx
    ·rw[y6 hi] at hx
     have ve:i-r.length=0:=by
      rcases Nat.eq_zero_or_pos (i-r.length) with z|z
      ·exact z
      ·rw[tP (by simp;lia)] at hx;cases hx
     rw[ve] at hx
     cases hx
     have:i=j:=by lia
     subst this
     refine⟨by lia,?_⟩
     rw[hlj,HM,mz w4,List.getElem_idxOf w4]
  rintro out ⟨r,e,T8,E9⟩
  simp only[AW] at e
  subst e
  rw[cK,sC] at T8
  refine h r ⟨fun s=>l.getD s.toNat (0,[]),diff,by lia,fun s a b=>?_,up,fun k=>?_,fun s a b=>?_⟩
  ·have hs:s.toNat<l.length:=by lia
   have:=hk s.toNat l[s.toNat] (mz hs)
   rw[zk a] at this
   simpa[List.getD,hs] using this
  ·rw[md]
   constructor
   ·intro rh
    obtain⟨i,hi,rfl⟩:=QQ.mp rh
    exact⟨(i:Nat),by lia,by simp[List.getD,hi]⟩
   ·rintro⟨s,hs,rfl⟩
    have hs:s.toNat<l.length:=by lia
    simp[List.getD,hs]
  ·have hs:s.toNat<r.length:=by lia
   have fN:s.toNat<l.length:=by lia
   have:=E9 s.toNat r[s.toNat] (mz hs)
   simpa[rk,List.getD,hs,fN] using this
def eF:WS :=
 (b9 (ng (cA (wC (.int 6))) (gN 7)
 (b9 (eB 8 (jW (wC (.str "")) (e_ (cA (ah 2)) (gN 0) vt (ax fv (ah 4) (ax sT (ax fo (ax fv (ah 2) (ah 0)) (ax oa (ah 3) (g9 Qs (ax nc (ah 0) (ah 1))))) (wC (.int 26)))) 1 [3,4,7,1])))
 (b9 (mr (wB (ax nc (ah 5) (wC (.int 1))))
 (eB 8 (jW (wC (.str "")) (e_ (cA (ax fo (ah 7) (wC (.int 1)))) (gN 0) vt (ax fv (ah 2) (ax fv (ah 1) (ah 0))) 1 [4,1])))
 dM)
 (b9 (mr (wB (ax nc (ah 5) (wC (.int 2))))
 (b9 (eB 9 (e_ (cA (aX az (aj (ax fo (ah 0) (ah 7)) (aj (wC (.int 4)) (aj (wC (.int 6)) b4))))) (gN 0) vt (ax fv (ah 2) (ax fv (ah 1) (ah 0))) 1 [4,1]))
 (eB 8 (ax fo (ax fv (ah 1) (ax sT (ax fo (ax fv (ah 4) (wC (.int 0))) (ax oa (wC (.int 11)) (ah 7))) (wC (.int 26)))) (jW (wC (.str "")) (ah 9)))))
 dM)
 (b9 (mr (wB (ax nc (ah 5) (wC (.int 3))))
 (eB 8 (jW (wC (.str "")) (e_ (cA (wC (.int 6))) (gN 0) vt (ax fv (ah 3) (ax sT (ax fo (ax fv (ah 1) (wC (.int 0))) (ax sT (ax fo (ah 0) (ah 2)) (wC (.int 6)))) (wC (.int 26)))) 1 [4,7,1])))
 dM)
 (hU 8 (B7 (tq 6) (ah 8))))))))
 (b9 (eB 10 (aX az (aj (ah 0) (aj (wC (.int 4)) (aj (wC (.int 2)) b4)))))
 (lh (Ta (ax fo (tf (aj (wC (.str "*")) b4)) (ah 6)) (vm (ah 10)) (vm (ax fo (ax fo (ah 10) (wC (.int 1))) (aX az (aj (ah 0) (aj (wC (.int 5)) (aj (wC (.int 7)) b4))))))))))
def gA:WS :=
 (b9 (eB 1 (wC (.str "abcdefghijklmnopqrstuvwxyz")))
 (b9 (eB 2 (ax fo (wC (.int 1)) (aX az (aj (ah 0) (aj (wC (.int 0)) (aj (wC (.int 6)) b4))))))
 (b9 (eB 3 (aX az (aj (ah 0) (aj (wC (.int 1)) (aj (ah 2) b4)))))
 (b9 (eB 4 (e_ (cA (wC (.int 6))) (gN 0) vt (aX az (aj (ax fo (ax oa (ah 1) (ax fo (ah 0) (wC (.int 1)))) (ah 0)) (aj (wC (.int 2)) (aj (wC (.int 26)) b4)))) 1 [0]))
 (b9 (eB 5 (aX az (aj (ah 0) (aj (wC (.int 3)) (aj (wC (.int 4)) b4)))))
 (b9 (eB 6 (tf b4))
 eF))))))
def cC:fP:=fun ds Q=>∃ c:Int,ds=[.int c]/\∀ names:List Str,1<=names.length->names.length<=7->(∀ n∈names,NV n)->Q (.ow true) (.list (names.map .str))
theorem oO (ds Q) (h:cC ds Q):ds.length=["_law_cell"].length:=by obtain⟨_,rfl,_⟩:=h;rfl
theorem oN(Q:Md->D->Prop)(c size at' kind:Int)(base:List Int)(hs:1<=size/\size<=6)(hk:0<=kind/\kind<4)(hb:base.length=6)(Ap:∀ b∈base,0<=b/\b<26)
  (h:∀ names:List Str,1<=names.length->names.length<=7->(∀ n∈names,NV n)->Q (.ow true) (.list (names.map .str))) :
  eF { nx:=fun _=>Q .sh .non,rt:=Q } [some (.sh (.int c)),some (.sh (.str abc)),some (.sh (.int size)),some (.sh (.int at')),some (.ow true (.list (base.map .int))),some (.sh (.int kind)),some (.ow true (.list [])),none,none,none,none]:=by
 unfold eF
 walk_at "q"
 refine bH _ (fun i ρ=>∃ (words:List Str) (o7 o8 o9:Option Sl),words.length=i/\(∀ n∈words,Open n)/\ρ=[some (.sh (.int c)),some (.sh (.str abc)),some (.sh (.int size)),some (.sh (.int at')),some (.ow true (.list (base.map .int))),some (.sh (.int kind)),some (.ow true (.list (words.map .str))),o7,o8,o9,none]) ⟨[],_,_,_,rfl,(fun n hn=>nomatch hn),rfl⟩ ?_ ?_
 ·rintro i x ρ hx ⟨words,o7,o8,o9,hl,ho,rfl⟩ N hN
  obtain⟨hi,rfl⟩:=bM hx
  have hi:i<6:=hi
  have push:∀ (w:Str) (Yb:Option Sl),Open w->N [some (.sh (.int c)),some (.sh (.str abc)),some (.sh (.int size)),some (.sh (.int at')),some (.ow true (.list (base.map .int))),some (.sh (.int kind)),some (.ow true (.list (words.map .str++[.str w]))),some (.sh (.int (0+(i:Nat)))),some (.sh (.str w)),Yb,none]:=fun w Yb hw=>by
   rw[zK]
   refine hN _ ⟨words++[w],_,_,_,by simp[hl],fun n hn=>?_,rfl⟩
   rcases dy.mp hn with hn|hn
   ·exact ho n hn
   ·rw[kC.mp hn];exact hw
  walk_at "q"
  refine⟨by lia,by lia,?_⟩
  refine cD (fun n out=>sf n out) (fun ρ=>∃ o,ρ=[o,some (.sh (.int at')),some (.sh (.list (base.map .int))),some (.sh (.int (0+(i:Nat)))),some (.sh (.str abc))]) _ 0 [] _ _ ⟨_,rfl⟩ sf.nil ?_ ?_
  ·rintro j y hy ρ ⟨o,rfl⟩ out ho N1 N2 oP
   obtain⟨hj,rfl⟩:=bM hy
   walk_at "q"
   obtain⟨b,_,eb⟩:=gw (l:=base) (i:=0+(j:Nat)) (by lia) (by lia)
   refine⟨.int b,eb,?_⟩
   walk_at "q"
   refine⟨iJ (by lia) (by lia),?_⟩
   obtain⟨ch,ec,lc⟩:=sE (b+(0+(i:Nat))*(if decide (0+(j:Int)=at')=true then 1 else 0))
   refine⟨ch,ec,.inl rfl,oP _ _ ⟨_,rfl⟩ ?_⟩
   rw[sC] at ho ⊢
   exact ho.push lc
  intro out mh
  rw[bJ] at mh
  simp only[sC,AW] at mh
  obtain⟨zs,ez,zl,wl0,we0⟩:=mh.join (by lia)
  refine⟨zs,ez,zl,?_⟩
  generalize Str.join _ zs=w0 at *
  have hw0:Open w0:=⟨by lia,by lia,we0⟩
  clear ez zl
  rcases (show kind=0\/kind=1\/kind=2\/kind=3 by lia) with rfl|rfl|rfl|rfl
  ·refine R.F (by decide) ?_
   walk_at "q"
   refine R.F (by decide) ?_
   walk_at "q"
   refine R.F (by decide) ?_
   walk_at "q"
   exact⟨by lia,push w0 _ hw0⟩
  ·refine R.T (by decide) ?_
   walk_at "q"
   refine⟨by lia,by lia,?_⟩
   refine cD (fun n out=>sf n out) (fun ρ=>∃ o,ρ=[o,some (.sh (.list (base.map .int))),some (.sh (.str abc))]) _ 0 [] _ _ ⟨_,rfl⟩ sf.nil ?_ ?_
   ·rintro j y hy ρ ⟨o,rfl⟩ out ho N1 N2 oP
    obtain⟨hj,rfl⟩:=bM hy
    walk_at "q"
    obtain⟨b,mb,eb⟩:=gw (l:=base) (i:=0+(j:Nat)) (by lia) (by lia)
    refine⟨.int b,eb,?_⟩
    walk_at "q"
    obtain⟨ch,ec,lc⟩:=wW (Ap b mb).1 (Ap b mb).2
    refine⟨ch,ec,.inl rfl,oP _ _ ⟨_,rfl⟩ ?_⟩
    rw[sC] at ho ⊢
    exact ho.push lc
   intro out mh
   rw[bJ] at mh
   simp only[sC,AW] at mh
   obtain⟨zs,ez,zl,QD,NZ⟩:=mh.join (by lia)
   refine⟨zs,ez,zl,?_⟩
   generalize Str.join _ zs=w1 at *
   refine R.F (by decide) ?_
   walk_at "q"
   refine R.F (by decide) ?_
   walk_at "q"
   exact⟨by lia,push w1 _ ⟨by lia,by lia,NZ⟩⟩
  ·refine R.F (by decide) ?_
   walk_at "q"
   refine⟨_,4,6,rfl,by decide,by decide,fun r r0 r1=>?_⟩
   walk_at "q"
   refine⟨by lia,by lia,?_⟩
   refine cD (fun n out=>sf n out) (fun ρ=>∃ o,ρ=[o,some (.sh (.list (base.map .int))),some (.sh (.str abc))]) _ 0 [] _ _ ⟨_,rfl⟩ sf.nil ?_ ?_
   ·rintro j y hy ρ ⟨o,rfl⟩ out ho N1 N2 oP
    obtain⟨hj,rfl⟩:=bM hy
    walk_at "q"
    obtain⟨b,mb,eb⟩:=gw (l:=base) (i:=0+(j:Nat)) (by lia) (by lia)
    refine⟨.int b,eb,?_⟩
    walk_at "q"
    obtain⟨ch,ec,lc⟩:=wW (Ap b mb).1 (Ap b mb).2
    refine⟨ch,ec,.inl rfl,oP _ _ ⟨_,rfl⟩ ?_⟩
    rw[sC] at ho ⊢
    exact ho.push lc
   intro out mh
   rw[bJ] at mh
   simp only[sC,AW] at mh
   obtain⟨b0,mb0,eb0⟩:=gw (l:=base) (i:=0) (by lia) (by lia)
   refine⟨.int b0,eb0,?_⟩
   walk_at "q"
   obtain⟨ch,ec,lc⟩:=sE (b0+11*(0+(i:Nat)))
   refine⟨iJ (by lia) (by lia),ch,ec,?_⟩
   obtain⟨zs,ez,zl,QD,NZ⟩:=mh.join (by lia)
   refine⟨zs,ez,zl,?_⟩
   generalize Str.join _ zs=w1 at *
   refine⟨by rw[iW];lia,?_⟩
   refine R.F (by decide) ?_
   walk_at "q"
   exact⟨by lia,push _ _ ⟨by rw[du,iW];lia,by rw[du,iW];lia,yM (zy lc) NZ⟩⟩
  ·refine R.F (by decide) ?_
   walk_at "q"
   refine R.F (by decide) ?_
   walk_at "q"
   refine cD (fun n out=>sf n out) (fun ρ=>∃ o,ρ=[o,some (.sh (.list (base.map .int))),some (.sh (.int (0+(i:Nat)))),some (.sh (.str abc))]) _ 0 [] _ _ ⟨_,rfl⟩ sf.nil ?_ ?_
   ·rintro j y hy ρ ⟨o,rfl⟩ out ho N1 N2 oP
    obtain⟨hj,rfl⟩:=bM hy
    walk_at "q"
    obtain⟨b,mb,eb⟩:=gw (l:=base) (i:=0) (by lia) (by lia)
    refine⟨.int b,eb,?_⟩
    walk_at "q"
    obtain⟨ch,ec,lc⟩:=sE (b+(0+(j:Int)+(0+(i:Nat))) % 6)
    refine⟨ch,ec,.inl rfl,oP _ _ ⟨_,rfl⟩ ?_⟩
    rw[sC] at ho ⊢
    exact ho.push lc
   intro out mh
   rw[bJ] at mh
   simp only[sC,AW] at mh
   obtain⟨zs,ez,zl,QD,NZ⟩:=mh.join (by decide)
   refine⟨zs,ez,zl,?_⟩
   generalize Str.join _ zs=w1 at *
   exact⟨by lia,push w1 _ ⟨by rw[QD];decide,by rw[QD];decide,NZ⟩⟩
 ·rintro ρ ⟨words,o7,o8,o9,hl,ho,rfl⟩
  rw[bJ] at hl
  walk_at "q"
  refine⟨c,4,2,rfl,by decide,by decide,fun f f0 f1=>?_⟩
  walk_at "q"
  refine⟨by lia,.inl ⟨jN words,?_⟩⟩
  refine⟨c,5,7,rfl,by decide,by decide,fun r r0 r1=>?_⟩
  walk_at "q"
  refine .inl ⟨jN words,?_⟩
  have e:(D.str "*" :: words.map D.str)=(("*" : Str) :: words).map D.str:=rfl
  rw[e,yQ]
  have hc:=Gy (l:=("*" : Str) :: words) (a:=f) (b:=f+1+r) f0 (by lia) (by simp;lia)
  refine h _ hc.1 (iN hc.2.1 (by simp;lia)) fun n hn=>?_
  rcases cS.mp (hc.2.2 n hn) with rfl|hn
  ·exact .inl rfl
  ·exact .inr (ho n hn)
theorem sI:∀ ds Q,cC ds Q->gA { nx:=fun _=>Q .sh .non,rt:=Q } (aY 11 ds):=by
 rintro ds Q ⟨c,rfl,h⟩
 unfold gA
 walk_at "q"
 refine⟨c,0,6,rfl,by decide,by decide,fun s s0 s1=>?_⟩
 walk_at "q"
 refine⟨c,1,1+s,rfl,by decide,by lia,fun at' a0 a1=>?_⟩
 walk_at "q"
 refine cD (fun n out=>∃ bs:List Int,out=bs.map .int/\bs.length=n/\∀ b∈bs,0<=b/\b<26) (fun ρ=>∃ o,ρ=[o,some (.sh (.int c))]) _ 0 [] _ _ ⟨_,rfl⟩ ⟨[],rfl,rfl,fun b hb=>nomatch hb⟩ ?_ ?_
 ·rintro j y hy ρ ⟨o,rfl⟩ out ⟨bs,rfl,hl,Ap⟩ N1 N2 oP
  have hj:=(bM hy).1
  obtain⟨hj,rfl⟩:=bM hy
  walk_at "q"
  refine⟨bA (by lia) (by lia),_,2,26,rfl,by decide,by decide,fun r r0 r1=>?_⟩
  walk_at "q"
  refine⟨.inl rfl,oP _ _ ⟨_,rfl⟩ ⟨bs++[r],by simp,by simp[hl],fun b hb=>?_⟩⟩
  rcases dy.mp hb with hb|hb
  ·exact Ap b hb
  ·rw[kC.mp hb];exact⟨r0,r1⟩
 rintro out ⟨base,e,hb,Ap⟩
 simp only[AW] at e
 subst e
 rw[bJ] at hb
 refine⟨c,3,4,rfl,by decide,by decide,fun kind k0 k1=>?_⟩
 walk_at "q"
 exact oN Q c _ at' kind base (by lia) ⟨k0,k1⟩ (by simpa using hb) Ap h
def gD:WS :=
 (b9 (eB 4 (aX aF (aj (ah 0) (aj (ax fo (wC (.int 3)) (ax sT (ax fo (ax oa (wC (.int 7)) (ah 1)) (ax oa (wC (.int 11)) (ah 2))) (wC (.int 60)))) b4))))
 (lh (aX az (aj (ax fo (ax fo (ah 4) (ax oa (aX aF (aj (ah 0) (aj (wC (.int 2)) b4))) (ax fo (ah 1) (wC (.int 2))))) (ax oa (ax fo (ah 1) (wC (.int 1))) (ax fo (ax fo (ah 1) (wC (.int 5))) (ah 2)))) (aj (ah 2) (aj (ah 3) b4))))))
def aG:fP:=fun ds Q=>∃ (ns:List Int) (k w m:Int),ds=[.list (ns.map .int),.int k,.int w,.int m]/\(0<=k/\k<=1000)/\(0<=w/\w<6)/\0<m/\∀ r,0<=r->r<m->Q .sh (.int r)
theorem o_ (ds Q) (h:aG ds Q):ds.length=["_law_script", "_law_k", "_law_way", "_law_many"].length:=by obtain⟨_,_,_,_,rfl,_⟩:=h;rfl
theorem su:∀ ds Q,aG ds Q->gD { nx:=fun _=>Q .sh .non,rt:=Q } (aY 5 ds):=by
 rintro ds Q ⟨ns,k,w,m,rfl,hk,hw,hm,h⟩
 unfold gD
 walk_at "q"
 have a:=vY (7*k+11*w) (show(0:Int)<60 by decide)
 refine⟨bA (by lia) (by lia),bA (by lia) (by lia),ns,_,rfl,by lia,?_⟩
 generalize ns.getD _ 0=c1
 walk_at "q"
 refine⟨ns,2,rfl,by decide,?_⟩
 generalize ns.getD _ 0=c2
 walk_at "q"
 refine⟨bA (by lia) (by lia),bA (by lia) (by lia),_,w,m,rfl,hw,hm,fun r r0 r1=>?_⟩
 walk_at "q"
 exact h r r0 r1
def cQ:WS :=
 (b9 (eB 5 qN)
 (b9 (ng (cA (ah 1)) (gN 6)
 (b9 (eB 7 (e_ (i_ (g9 yo (ah 3))) (gN 0) (AJ (wB (aX aQ (aj (ah 2) (aj (ax fv (ah 0) (wC (.int 0))) (aj (ax fv (ah 0) (wC (.int 1))) (aj (ah 1) b4))))))) (ah 0) 1 [3,0]))
 (b9 (mr (wB (ax nc (ah 7) (tf b4)))
 (n6 5)
 dM)
 (hU 7 (ng (eY (ah 7)) (gN 4)
 (b9 (hU 4 (Em (tq 3) (ah 4)))
 (q_ (tq 5) (ah 4) (ax fo (ah 6) (wC (.int 1))))))))))
 (n6 5)))
def fc:WS :=
 (b9 (eB 2 (e_ (cA (ax oa (g9 vk (ah 0)) (g9 vk (ah 0)))) (gN 0) vt (og (aj (ax B5 (ah 0) (g9 vk (ah 1))) (aj (ax sT (ah 0) (g9 vk (ah 1))) b4))) 1 [0]))
 (b9 (eB 3 qN)
 (b9 (hU 2 (ng (eY (ah 2)) (gN 4)
 (q_ (tq 3) (ah 4) (wC (.bl true)))))
 cQ)))
def bU:fP:=fun ds Q=>∃ (many:Int) (l:List bE),ds=[xh many l,.int many]/\(1<=many/\many<=20)/\∀ kvs,EB many l kvs->Q (.ow true) (.dT kvs)
theorem lL (ds Q) (h:bU ds Q):ds.length=["_law_rows_here", "_law_most"].length:=by obtain⟨_,_,rfl,_⟩:=h;rfl
theorem Ew{kvs:Kn}{k:List Key}{d:D}{P:List Key->Prop}(h:∀ kv∈kvs,P kv.1)(hk:P k):∀ kv∈jI kvs k d,P kv.1:=by
 unfold jI
 split
 ·intro kv T9
  obtain⟨p,hp,rfl⟩:=dn.mp T9
  split<;>exact h p hp
 ·intro kv T9
  rcases dy.mp T9 with z|z
  ·exact h kv z
  ·rw[kC.mp z];exact hk
theorem lX{Q:Md->D->Prop}{many:Int}{l:List bE}{Lv:List P2}{o2 o4:Option Sl}(hm:1<=many/\many<=20)(N0:Lv.Nodup)(n5:∀ x,x∈Lv↔fT many x)(hl0:Lv.length<=400)(h:∀ kvs,EB many l kvs->Q (.ow true) (.dT kvs)) :
  cQ { nx:=fun _=>Q .sh .non,rt:=Q } [some (.sh (.list (ll many l))),some (.sh (.int many)),o2,some (.ow true (.dT (kB Lv))),o4,none,none,none]:=by
 unfold cQ
 walk_at "q"
 refine⟨by lia,by lia,?_⟩
 refine bH _ (fun i ρ=>∃ (ks:List P2) (kvs:Kn) (o4 o6 o7:Option Sl),(ks.Nodup/\(∀ x,x∈ks↔LS many l i x)/\EA many l i kvs/\kvs.length+ks.length<=400)/\ρ=[some (.sh (.list (ll many l))),some (.sh (.int many)),o2,some (.ow true (.dT (kB ks))),o4,some (.ow true (.dT kvs)),o6,o7]) ⟨Lv,[],_,_,_,⟨N0,n5,EA.nil,by simp;lia⟩,rfl⟩ ?_ ?_
 ·rintro i x ρ hx ⟨ks,kvs,o4,o6,o7,⟨N0,n5,hp,kG⟩,rfl⟩ N hN
  obtain⟨hi,rfl⟩:=bM hx
  walk_at "q"
  rw[show List.map (fun kv:List Key × D=>D.tup (kv.1.map ti)) (kB ks)=ks.map kH from G4 ks]
  refine dF (X9 fun p=>!nQ l ks p) (fun x=>x) (fun ρ=>∃ o,ρ=[o,some (.sh (.dT (kB ks))),some (.sh (.list (ll many l)))]) _ _ _ ⟨_,rfl⟩ ?_ ?_
  ·rintro x hx ρ ⟨o,rfl⟩ N1 N2 n1 n2
   obtain⟨c,hc,rfl⟩:=dn.mp hx
   rw[show kH c=.tup [.int c.1,.int c.2] from rfl] at *
   walk_at "q"
   refine⟨many,l,ks,c,rfl,((n5 c).mp hc).Ya,fun b hb=>?_⟩
   walk_at "q"
   have eb:b=nQ l ks c:=by rw[xA,qg];exact hb
   subst eb
   cases e:nQ l ks c with
   |true=>exact n1 _ ⟨_,rfl⟩ (by show(!nQ l ks c)=false;rw[e];rfl)
   |false=>exact⟨.inl rfl,n2 _ ⟨_,rfl⟩ (by show(!nQ l ks c)=true;rw[e];rfl)⟩
  rw[yO]
  have hg:∀ x,x∈ks.filter (fun p=>!nQ l ks p)↔x∈ks/\¬ FX l ks x:=fun x=>by
   rw[Dp,<- qg (l:=l) (ks:=ks) (p:=x)]
   simp
  have Yc:(ks.filter fun p=>!nQ l ks p).Nodup:=N0.sublist List.filter_sublist
  generalize ks.filter (fun p=>!nQ l ks p)=gone at hg Yc ⊢
  refine⟨Il _ 10,rfl,?_⟩
  rw[xF]
  by_cases ge:gone=[]
  ·refine R.T (decide_eq_true ge) ?_
   walk_at "q"
   refine h kvs ⟨i,hp,.inr fun x hx=>(LS.both n5 x).mpr ⟨(n5 x).mpr hx,Classical.byContradiction fun z=>?_⟩⟩
   have:=(hg x).mpr ⟨(n5 x).mpr hx,z⟩
   rw[ge] at this
   cases this
  ·refine R.F (decide_eq_false ge) ?_
   walk_at "q"
   refine bH _ (fun j ρ=>∃ (fm:List P2) (vx:Kn) (o4:Option Sl),(fm.Nodup/\(∀ x,x∈fm↔x∈ks/\x∉gone.take j)/\fm.length+j=ks.length/\(∀ x:P2,dP vx (fA x)=if x∈gone.take j then some (.int ((i+1:Nat):Int)) else dP kvs (fA x))/\(∀ kv∈vx,∃ x:P2,fT many x/\kv.1=fA x)/\vx.length<=kvs.length+j)/\ρ=[some (.sh (.list (ll many l))),some (.sh (.int many)),o2,some (.ow true (.dT (kB fm))),o4,some (.ow true (.dT vx)),some (.sh (.int (0+(i:Nat)))),some (.sh (.list (gone.map kH)))]) ⟨ks,kvs,_,⟨N0,(fun x=>by simp),rfl,(fun x=>by simp),hp.key,bT _⟩,rfl⟩ ?_ ?_
   ·rintro j x ρ hx ⟨fm,vx,o4,⟨AR,D5,Qj,tF,NX,NJ⟩,rfl⟩ N hN
    obtain⟨p,q,rfl,Yd,tk⟩:=De hx
    walk_at "q"
    have hn:(p,q)∉gone.take j:=fun z=>by
     have:(gone.take (j+1)).Nodup:=Yc.sublist (List.take_sublist _ _)
     rw[tk,i7] at this
     exact this.2.2 _ z _ (kC.mpr rfl) rfl
    refine⟨by rw[iu];exact mZ.mpr ((D5 _).mpr ⟨((hg _).mp Yd).1,hn⟩),fun n d hj=>?_⟩
    have n9:fm[n]? = some (p,q):=by
     unfold kB at hj
     rw[kN] at hj
     obtain⟨y,hy,e⟩:=OL.mp hj
     rw[hy,rN (q:=(p,q)) (Prod.mk.inj e).1]
    rw[mK]
    have Qy:=(hV.mp n9).1
    refine⟨by lia,?_⟩
    have pl:=gP vx (fA (p,q)) (D.int (0+(i:Nat)+1))
    refine hN _ ⟨fm.eraseIdx n,jI vx (fA (p,q)) (.int (0+(i:Nat)+1)),_,⟨AR.sublist (List.eraseIdx_sublist _ _),fun x=>?_,by rw[List.length_eraseIdx_of_lt Qy];lia,fun x=>?_,Ew (P:=fun k=>∃ x:P2,fT many x/\k=fA x) NX ⟨(p,q),((n5 _).mp ((hg _).mp Yd).1).Ya,rfl⟩,by lia⟩,rfl⟩
    ·rw[Bb fm n _ AR n9,D5,tk,dy,kC,not_or,and_assoc]
    ·rw[zz,tF,tk]
     by_cases e:x=(p,q)
     ·subst e
      rw[if_pos rfl,if_pos (fh _ (kC.mpr rfl))]
      congr 2
      lia
     ·rw[if_neg fun z=>e (rN z)]
      simp[e]
   ·rintro ρ ⟨fm,vx,o4,⟨AR,D5,Qj,tF,NX,NJ⟩,rfl⟩
    rw[cK] at D5 Qj tF NJ
    rw[CM] at D5 tF
    refine hN _ ⟨fm,vx,_,_,_,⟨AR,fun x=>?_,hp.step n5 hg tF NX,by lia⟩,rfl⟩
    rw[D5,LS.both n5,hg]
    exact⟨fun⟨a,b⟩=>⟨a,Classical.byContradiction fun z=>b ⟨a,z⟩⟩,fun⟨a,b⟩=>⟨a,fun z=>z.2 b⟩⟩
 ·rintro ρ ⟨ks,kvs,o4,o6,o7,⟨N0,n5,hp,kG⟩,rfl⟩
  rw[bJ] at hp
  walk_at "q"
  exact h kvs ⟨_,hp,.inl (by simp)⟩
theorem pK:∀ ds Q,bU ds Q->fc { nx:=fun _=>Q .sh .non,rt:=Q } (aY 8 ds):=by
 rintro ds Q ⟨many,l,rfl,hm,h⟩
 have el:(((ll many l).length:Nat):Int)=many:=by rw[kI];lia
 have mm:0<=many*many/\many*many<=400:=⟨OG (by lia) (by lia),Int.mul_le_mul hm.2 hm.2 (by lia) (by lia)⟩
 obtain⟨w3,e3⟩:∃ w3,w3=cQ:=⟨_,rfl⟩
 unfold xh
 obtain⟨xs,Ye⟩:∃ xs,xs=ll many l:=⟨_,rfl⟩
 rw[<- Ye] at el ⊢
 rw[show aY 8 [.list xs,.int many]=[some (.sh (.list xs)),some (.sh (.int many)),none,none,none,none,none,none] from rfl]
 unfold fc
 rw[<- e3]
 walk_at "q"
 rw[el]
 refine⟨bA (by lia) (by lia),by lia,by lia,?_⟩
 refine cD (fun n out=>∃ ps:List P2,out=ps.map kH/\ps.length=n/\(∀ p∈ps,fT many p)/\∀ i:Nat,i<n->(((i:Int) / many,(i:Int) % many):P2)∈ps) (fun ρ=>∃ o,ρ=[o,some (.sh (.list (xs)))]) _ 0 [] _ _ ⟨_,rfl⟩ ⟨[],rfl,rfl,(fun p hp=>nomatch hp),fun i hi=>by lia⟩ ?_ ?_
 ·rintro j y hy ρ ⟨o,rfl⟩ out ⟨ps,rfl,gI,T_,FE⟩ N1 N2 oP
  obtain⟨hj,rfl⟩:=bM hy
  walk_at "q"
  rw[el]
  refine⟨by lia,by lia,.inl rfl,oP _ _ ⟨_,rfl⟩ ⟨ps++[(((j:Int) / many,(j:Int) % many):P2)],?_,by simp[gI],fun x hx=>?_,fun i hi=>?_⟩⟩
  ·rw[AV]
   simp[kH]
  ·rcases dy.mp hx with hx|hx
   ·exact T_ x hx
   rw[kC.mp hx]
   have:=vY (j:Int) (show 0<many by lia)
   exact⟨⟨Int.ediv_nonneg (by lia) (by lia),Int.ediv_lt_of_lt_mul (by lia) (by lia)⟩,this⟩
  ·by_cases gi:i<j
   ·exact kc _ (FE i (by lia))
   ·have:i=j:=by lia
    subst this
    exact fh _ (kC.mpr rfl)
 rintro out ⟨ps,e,gI,T_,FE⟩
 simp only[AW] at e
 subst e
 rw[bJ] at gI FE
 have all:∀ x,fT many x->x∈ps:=fun x hx=>zV (n:=(many*many).toNat) (zk mm.1) (by simpa using FE) hx
 refine bH _ (fun i ρ=>∃ (ks:List P2) (o4:Option Sl),FV (ps.take i) ks/\ρ=[some (.sh (.list (xs))),some (.sh (.int many)),some (.sh (.list (ps.map kH))),some (.ow true (.dT (kB ks))),o4,none,none,none]) ⟨[],_,FV.nil,rfl⟩ ?_ ?_
 ·rintro i x ρ hx ⟨ks,o4,hd,rfl⟩ N hN
  obtain⟨p,q,rfl,hm,tk⟩:=De hx
  have kG:=hd.len
  rw[nv] at kG
  walk_at "q"
  refine⟨by rw[zB];lia,?_⟩
  have e:=zx ks (p,q)
  unfold fA at e
  rw[e]
  exact hN _ ⟨_,_,by rw[tk];exact hd.put (p,q),rfl⟩
 rintro ρ ⟨Lv,o4,hd,rfl⟩
 rw[cK,CM] at hd
 rw[e3]
 rw[Ye]
 exact lX hm hd.nd (fun x=>(hd.mem x).trans ⟨T_ x,all x⟩) (by have:=hd.len;lia) h
def gH:WS :=
 (b9 (eB 1 (aX cO (aj (ah 0) b4)))
 (b9 (eB 2 (tf (aj (ax zL (tf (aj (wC (.int 0)) b4)) (ax fv (ah 0) (wC (.int 0)))) b4)))
 (b9 (eB 3 (aX aU (aj (ah 1) (aj (ax fv (ah 2) (wC (.int 0))) b4))))
 (b9 (Bu (wB (ax Nn (ah 3) (ax fv (ah 2) (g9 JY (wC (.int 1))))))
 (wD 2 3 (aX aU (aj (ah 1) (aj (ah 3) b4)))))
 (n6 2)))))
def rdD(rs:List (List Int)):D:=.list (rs.map xa)
def bL:fP:=fun ds Q=>∃ (many:Int) (steps:List bE),ds=[mD many steps]/\(1<=many/\many<=100)/\fw many steps/\steps.length<=1000/\∀ rest,Chain many steps (zeros many) rest->rest.length<=10000->Q (.ow true) (rdD (zeros many :: rest))
theorem nT (ds Q) (h:bL ds Q):ds.length=["m"].length:=by obtain⟨_,_,rfl,_⟩:=h;rfl
theorem Ea(cur:List Int)(pre:List (List Int)):fq ((cur :: pre).map xa) (-1)=some (xa (gY cur pre)):=by
 have e:(cur :: pre).map xa=((cur :: pre).dropLast.map xa)++[xa (gY cur pre)]:=by
  conv=>lhs;rw[<- List.dropLast_concat_getLast (show cur :: pre≠[] by simp)]
  rw[AV]
  rfl
 rw[e]
 exact ay' _ _
theorem uF(cur hG:List Int)(pre:List (List Int)):gY cur (pre++[hG])=hG:=by
 unfold gY
 rw[List.getLast_cons (by simp),List.getLast_concat]
theorem rQ:∀ ds Q,bL ds Q->gH { nx:=fun _=>Q .sh .non,rt:=Q } (aY 4 ds):=by
 rintro ds Q ⟨many,steps,rfl,hm,aw,hl,h⟩
 unfold gH
 have hmm:many*many<=10000:=by
  have:=Int.mul_le_mul hm.2 hm.2 (by lia) (by lia)
  lia
 have e0:aY 4 [mD many steps]=[some (.sh (mD many steps)),none,none,none]:=rfl
 rw[e0]
 walk_at "q"
 refine⟨many,steps,rfl,by lia,aw,hl,?_⟩
 unfold xh
 walk_at "q"
 unfold mD
 walk_at "q"
 refine⟨by lia,?_⟩
 rw[xK]
 refine⟨many,steps,zeros many,rfl,by lia,by simp[zeros],aw,hl,fun r hr=>?_⟩
 walk_at "q"
 refine⟨fun ρ=>∃ (pre:List (List Int)) (cur hG:List Int),qe many cur/\RB many steps cur hG/\(∀ rest,Chain many steps cur rest->Chain many steps (zeros many) (pre++rest))/\gY (zeros many) pre=cur/\(pre.length:Int)<=cur.sum/\cur.sum<=many*many /\
   ρ=[some (.sh (.tup [.int many,.list (steps.map iF)])),some (.ow true (.list (ll many steps))),some (.ow true (.list ((zeros many :: pre).map xa))),some (.ow true (.list (hG.map .int)))],
  fun ρ=>match ρ with
   |[_,_,some (.ow _ (.list rs)),_]=>20000-rs.length
   |_=>0,⟨[],zeros many,r,jK hm.1,hr,fun rest hc=>hc,rfl,?_,?_,rfl⟩,?_⟩
 ·simp[zeros]
 ·have:0<=many*many:=OG (by lia) (by lia)
  simp[zeros];lia
 rintro ρ ⟨pre,cur,hG,hd,hb,hc,hla,hp,hs,rfl⟩
 walk_at "q"
 refine⟨_,Ea _ _,?_⟩
 rw[hla]
 unfold xa
 walk_at "q"
 refine⟨vq _ _,vq _ _,?_⟩
 rw[Je]
 by_cases e:hG=cur
 ·rw[if_neg (by simp[e])]
  rw[e] at hb
  have:=hc [] hb
  rw[nL] at this
  exact h pre this (by lia)
 ·rw[if_pos (by simp[e])]
  have fj':=hb.sum aw hd (by lia) e
  refine⟨qx _,by lia,?_⟩
  refine⟨many,steps,hG,rfl,by lia,(hb.wL aw).1,aw,hl,fun r2 SF=>?_⟩
  walk_at "q"
  refine⟨⟨pre++[hG],hG,r2,hb.wL aw,SF,fun rest wa=>?_,uF _ _ _,by simp;lia,fj'.2,by simp[xa]⟩,?_⟩
  ·have:=hc (hG :: rest) ⟨hb,e,wa⟩
   simpa using this
  ·simp
   lia
def b_:WS :=
 (b9 (eB 7 (aX cC (aj (aX aF (aj (ah 0) (aj (wC (.int 1)) b4))) b4)))
 (b9 (eB 8 qN)
 (b9 (ng (cA (ax zM (ah 6) (ax B5 (ah 1) (ax oa (ah 3) (ah 3))))) (gN 9)
 (b9 (eB 10 (aX aG (aj (ah 0) (aj (ah 9) (aj (wC (.int 0)) (aj (ah 4) b4))))))
 (b9 (eB 11 (aX aG (aj (ah 0) (aj (ah 9) (aj (wC (.int 1)) (aj (ah 4) b4))))))
 (b9 (eB 12 (ax fv (ah 7) (aX aG (aj (ah 0) (aj (ah 9) (aj (wC (.int 2)) (aj (g9 vk (ah 7)) b4)))))))
 (b9 (eB 13 (aX aG (aj (ah 0) (aj (ah 9) (aj (wC (.int 3)) (aj (wC (.int 3)) b4))))))
 (ng (cA (ah 3)) (gN 14)
 (ng (cA (ah 3)) (gN 15)
 (mr (PX (wB (ax nc (ah 13) (wC (.int 2)))) (wB (ax nc (ah 15) (ax sT (ax fo (ah 13) (ah 14)) (ah 3)))))
 (q_ (tq 8) (og (aj (ax fo (ah 10) (ax oa (ah 4) (ah 14))) (aj (ah 12) (aj (ax fo (ah 11) (ax oa (ah 4) (ah 15))) b4)))) (wC (.bl true)))
 dM))))))))
 (b9 (ng (cA (ax Nk (ax oa (ah 3) (ah 4)) (wC (.int 1)))) (gN 9)
 (mr (S5 (wB (ax nc (aX az (aj (ah 2) (aj (wC (.int 4)) (aj (wC (.int 3)) b4)))) (wC (.int 1)))) (wB (ax S9 (ax sT (ax fo (ah 9) (wC (.int 1))) (ah 4)) (wC (.int 0)))))
 (q_ (tq 8) (og (aj (ah 9) (aj (ax fv (ah 7) (wC (.int 0))) (aj (ax fo (ah 9) (wC (.int 1))) b4)))) (wC (.bl true)))
 dM))
 (lh (og (aj (ax oa (ah 3) (ah 4)) (aj (g9 oE (ah 8)) b4))))))))
def b8:WS :=
 (b9 (eB 6 (aX az (aj (ah 2) (aj (wC (.int 3)) (aj (ax oa (wC (.int 3)) (ah 4)) b4)))))
 (b9 (mr (wB (ax nc (ah 5) (wC (.int 2))))
 (hU 1 (eB 6 (ah 1)))
 dM)
 b_))
def dJ:WS :=
 (b9 (eB 2 (aX aF (aj (ah 0) (aj (wC (.int 0)) b4))))
 (b9 (eB 3 (ax fo (wC (.int 1)) (ax B5 (aX az (aj (ah 2) (aj (wC (.int 0)) (aj (wC (.int 3)) b4)))) (wC (.int 2)))))
 (b9 (eB 4 (ax fo (wC (.int 1)) (aX az (aj (ah 2) (aj (wC (.int 1)) (aj (wC (.int 8)) b4))))))
 (b9 (eB 5 (aX az (aj (ah 2) (aj (wC (.int 2)) (aj (wC (.int 8)) b4)))))
 (b9 (mr (wB (ax nc (ah 5) (wC (.int 1))))
 (eB 4 (ax B5 (wC (.int 20)) (ah 3)))
 dM)
 (b9 (mr (wB (ax nc (ah 5) (wC (.int 3))))
 (eB 4 (ax fo (wC (.int 1)) (aX az (aj (ah 2) (aj (wC (.int 5)) (aj (ax B5 (wC (.int 20)) (ah 3)) b4))))))
 dM)
 b8))))))
def bh:fP:=fun ds Q=>∃ (ns:List Int) (most:Int),ds=[.list (ns.map .int),.int most]/\(1<=most/\most<=100)/\∀ (many:Int) (steps:List bE),1<=many->many<=20->fw many steps->steps.length<=500->steps.Pairwise (fun a b=>b5 a b=true)->Q (.ow true) (mD many steps)
theorem jx (ds Q) (h:bh ds Q):ds.length=["_law_script", "_law_most"].length:=by obtain⟨_,_,rfl,_⟩:=h;rfl
theorem eZ{Q:Md->D->Prop}{ns:List Int}{most shape copies states size many:Int}(hc:copies=1\/copies=2)(hs:1<=states)(oB:copies*states<=20)(hmm:0<=many/\many<=1000)(GA:1<=most/\most<=100)
  (h:∀ (many:Int) (steps:List bE),1<=many->many<=20->fw many steps->steps.length<=500->steps.Pairwise (fun a b=>b5 a b=true)->Q (.ow true) (mD many steps)) :
  b_ { nx:=fun _=>Q .sh .non,rt:=Q } [some (.sh (.list (ns.map .int))),some (.sh (.int most)),some (.sh (.int shape)),some (.sh (.int copies)),some (.sh (.int states)),some (.sh (.int size)),some (.sh (.int many)),none,none,none,none,none,none,none,none,none]:=by
 have kE:states<=20:=by rcases hc with rfl|rfl<;>lia
 unfold b_
 walk_at "q"
 refine⟨ns,1,rfl,by decide,?_⟩
 generalize ns.getD _ 0=c1
 walk_at "q"
 refine⟨c1,rfl,fun names n1 n7 hd=>?_⟩
 walk_at "q"
 have HZ:copies*copies=1\/copies*copies=4:=by rcases hc with rfl|rfl<;>decide
 refine⟨bA (by lia) (by lia),by lia,?_⟩
 have Ua:∃ r:Int,(if most / (copies*copies)<many then most / (copies*copies) else many)=r/\0<=r/\r<=100:=by
  refine⟨_,rfl,?_⟩
  have:0<=most / (copies*copies)/\most / (copies*copies)<=100:=by rcases HZ with e|e<;>rw[e]<;>lia
  split<;>lia
 obtain⟨r,er,r0,r1⟩:=Ua
 rw[er]
 refine⟨by lia,by lia,?_⟩
 refine bH _ (fun i ρ=>∃ (kvs:Kn) (o9 CC N3 N4 N5 CD vE:Option Sl),tN (D8 (copies*states)) kvs/\kvs.length<=4*i/\ρ=[some (.sh (.list (ns.map .int))),some (.sh (.int most)),some (.sh (.int shape)),some (.sh (.int copies)),some (.sh (.int states)),some (.sh (.int size)),some (.sh (.int many)),some (.ow true (.list (names.map .str))),some (.ow true (.dT kvs)),o9,CC,N3,N4,N5,CD,vE]) ⟨[],_,_,_,_,_,_,_,tN.nil,bT _,rfl⟩ ?_ ?_
 ·rintro i x ρ hx ⟨kvs,o9,CC,N3,N4,N5,CD,vE,hk,kG,rfl⟩ N hN
  obtain⟨hi,rfl⟩:=bM hx
  walk_at "q"
  refine⟨ns,_,0,states,rfl,by lia,by decide,by lia,fun one a0 a1=>?_⟩
  walk_at "q"
  refine⟨ns,_,1,states,rfl,by lia,by decide,by lia,fun two b0 b1=>?_⟩
  walk_at "q"
  refine⟨ns,_,2,(names.length:Nat),rfl,by lia,by decide,by lia,fun w w0 w1=>?_⟩
  obtain⟨n,hn,en⟩:=xn (names:=names) w0 w1
  walk_at "q"
  refine⟨_,en,?_⟩
  walk_at "q"
  refine⟨ns,_,3,3,rfl,by lia,by decide,by decide,fun way y0 y1=>?_⟩
  walk_at "q"
  refine⟨by lia,by lia,?_⟩
  refine bH _ (fun j ρ=>∃ (kvs:Kn) (CD vE:Option Sl),tN (D8 (copies*states)) kvs/\kvs.length<=4*i+2*j/\ρ=[some (.sh (.list (ns.map .int))),some (.sh (.int most)),some (.sh (.int shape)),some (.sh (.int copies)),some (.sh (.int states)),some (.sh (.int size)),some (.sh (.int many)),some (.ow true (.list (names.map .str))),some (.ow true (.dT kvs)),some (.sh (.int (0+(i:Nat)))),some (.sh (.int one)),some (.sh (.int two)),some (.sh (.str n)),some (.sh (.int way)),CD,vE]) ⟨kvs,_,_,hk,by lia,rfl⟩ ?_ ?_
  ·clear hk kG
   rintro j x ρ hx ⟨kvs,CD,vE,hk,kG,rfl⟩ N hN
   obtain⟨hj,rfl⟩:=bM hx
   walk_at "q"
   refine⟨by lia,by lia,?_⟩
   refine bH _ (fun l ρ=>∃ (kvs:Kn) (vE:Option Sl),tN (D8 (copies*states)) kvs/\kvs.length<=4*i+2*j+l/\ρ=[some (.sh (.list (ns.map .int))),some (.sh (.int most)),some (.sh (.int shape)),some (.sh (.int copies)),some (.sh (.int states)),some (.sh (.int size)),some (.sh (.int many)),some (.ow true (.list (names.map .str))),some (.ow true (.dT kvs)),some (.sh (.int (0+(i:Nat)))),some (.sh (.int one)),some (.sh (.int two)),some (.sh (.str n)),some (.sh (.int way)),some (.sh (.int (0+(j:Nat)))),vE]) ⟨kvs,_,hk,by lia,rfl⟩ ?_ ?_
   ·clear hk kG
    rintro l x ρ hx ⟨kvs,vE,hk,kG,rfl⟩ N hN
    obtain⟨hl,rfl⟩:=bM hx
    have go:zS states (0+(j:Nat))/\zS states (0+(l:Nat))/\kvs.length<16777216/\N [some (.sh (.list (ns.map .int))),some (.sh (.int most)),some (.sh (.int shape)),some (.sh (.int copies)),some (.sh (.int states)),some (.sh (.int size)),some (.sh (.int many)),some (.ow true (.list (names.map .str))),some (.ow true (.dT (jI kvs (iE (one+states*(0+(j:Nat)),n,two+states*(0+(l:Nat)))) (.bl true)))),some (.sh (.int (0+(i:Nat)))),some (.sh (.int one)),some (.sh (.int two)),some (.sh (.str n)),some (.sh (.int way)),some (.sh (.int (0+(j:Nat)))),some (.sh (.int (0+(l:Nat))))]:=by
     have c1:=vL (one:=one) (states:=states) (j:=0+(j:Nat)) (copies:=copies) a0 a1 (by lia) (by lia)
     have c2:=vL (one:=two) (states:=states) (j:=0+(l:Nat)) (copies:=copies) b0 b1 (by lia) (by lia)
     refine⟨bA (by lia) (by lia),bA (by lia) (by lia),by lia,?_⟩
     have:=gP kvs (iE (one+states*(0+(j:Nat)),n,two+states*(0+(l:Nat)))) (D.bl true)
     exact hN _ ⟨_,_,hk.put (s:=(one+states*(0+(j:Nat)),n,two+states*(0+(l:Nat)))) ⟨c1.1,c1.2,hd n hn,c2.1,c2.2⟩,by omega,rfl⟩
    walk_at "q"
    refine R.D (fun e=>?_) fun e=>?_
    ·walk_at "q"
     exact go
    ·walk_at "q"
     refine⟨by lia,R.D (fun e=>?_) fun e=>?_⟩
     ·walk_at "q"
      exact go
     ·walk_at "q"
      exact hN _ ⟨kvs,_,hk,by lia,rfl⟩
   ·clear hk kG
    rintro ρ ⟨kvs,vE,hk,kG,rfl⟩
    rw[bJ] at kG
    exact hN _ ⟨kvs,_,_,hk,by lia,rfl⟩
  ·clear hk kG
   rintro ρ ⟨kvs,CD,vE,hk,kG,rfl⟩
   rw[bJ] at kG
   exact hN _ ⟨kvs,_,_,_,_,_,_,_,hk,by lia,rfl⟩
 ·rintro ρ ⟨kvs,o9,CC,N3,N4,N5,CD,vE,hk,kG,rfl⟩
  rw[bJ] at kG
  walk_at "q"
  have gU':1<=copies*states:=by rcases hc with rfl|rfl<;>lia
  refine⟨bA (by lia) (by lia),by lia,by lia,?_⟩
  refine bH _ (fun i ρ=>∃ (kvs:Kn) (o9:Option Sl),tN (D8 (copies*states)) kvs/\kvs.length<=400+i/\ρ=[some (.sh (.list (ns.map .int))),some (.sh (.int most)),some (.sh (.int shape)),some (.sh (.int copies)),some (.sh (.int states)),some (.sh (.int size)),some (.sh (.int many)),some (.ow true (.list (names.map .str))),some (.ow true (.dT kvs)),o9,CC,N3,N4,N5,CD,vE]) ⟨kvs,_,hk,by lia,rfl⟩ ?_ ?_
  ·clear hk kG
   rintro i x ρ hx ⟨kvs,o9,hk,kG,rfl⟩ N hN
   obtain⟨hi,rfl⟩:=bM hx
   walk_at "q"
   refine⟨_,4,3,rfl,by decide,by decide,fun q q0 q1=>?_⟩
   walk_at "q"
   refine R.D (fun e=>?_) fun e=>?_
   ·walk_at "q"
    refine⟨by lia,R.D (fun e2=>?_) fun e2=>?_⟩
    ·obtain⟨n,hn,en⟩:=xn (names:=names) (i:=0) (by decide) (by lia)
     walk_at "q"
     refine⟨_,en,?_⟩
     walk_at "q"
     refine⟨by lia,?_⟩
     have:=gP kvs (iE (0+(i:Nat),n,0+(i:Nat)+1)) (D.bl true)
     exact hN _ ⟨_,_,hk.put (s:=(0+(i:Nat),n,0+(i:Nat)+1)) ⟨(by lia : (0:Int)<=0+(i:Nat)),(by lia : 0+((i:Nat):Int)<copies*states),hd n hn,(by lia : (0:Int)<=0+(i:Nat)+1),(by lia : 0+((i:Nat):Int)+1<copies*states)⟩,by lia,rfl⟩
    ·walk_at "q"
     exact hN _ ⟨kvs,_,hk,by lia,rfl⟩
   ·walk_at "q"
    exact hN _ ⟨kvs,_,hk,by lia,rfl⟩
  ·clear hk kG
   rintro ρ ⟨kvs,o9,hk,kG,rfl⟩
   rw[bJ] at kG
   walk_at "q"
   refine⟨bA (by lia) (by lia),?_⟩
   refine hk.En fun steps pm hP pw hlen=>?_
   rw[uB]
   exact h _ steps (by rcases hc with rfl|rfl<;>lia) oB hP (by lia) pw
theorem cW{Q:Md->D->Prop}{ns:List Int}{most shape copies states size:Int}(hc:copies=1\/copies=2)(hs:1<=states)(oB:copies*states<=20)(GA:1<=most/\most<=100)
  (h:∀ (many:Int) (steps:List bE),1<=many->many<=20->fw many steps->steps.length<=500->steps.Pairwise (fun a b=>b5 a b=true)->Q (.ow true) (mD many steps)) :
  b8 { nx:=fun _=>Q .sh .non,rt:=Q } [some (.sh (.list (ns.map .int))),some (.sh (.int most)),some (.sh (.int shape)),some (.sh (.int copies)),some (.sh (.int states)),some (.sh (.int size)),none,none,none,none,none,none,none,none,none,none]:=by
 have kE:states<=20:=by rcases hc with rfl|rfl<;>lia
 obtain⟨w8,e8⟩:∃ w8,w8=b_:=⟨_,rfl⟩
 unfold b8
 rw[<- e8]
 walk_at "q"
 refine⟨iJ (by lia) (by lia),_,3,_,rfl,by decide,by lia,fun many m0 m1=>?_⟩
 walk_at "q"
 refine R.D (fun e=>?_) fun e=>?_
 ·walk_at "q"
  rw[e8]
  exact eZ hc hs oB ⟨by lia,by lia⟩ GA h
 ·walk_at "q"
  rw[e8]
  exact eZ hc hs oB ⟨by lia,by lia⟩ GA h
theorem lQ:∀ ds Q,bh ds Q->dJ { nx:=fun _=>Q .sh .non,rt:=Q } (aY 16 ds):=by
 rintro ds Q ⟨ns,most,rfl,GA,h⟩
 obtain⟨w6,e6⟩:∃ w6,w6=b8:=⟨_,rfl⟩
 unfold dJ
 rw[<- e6]
 walk_at "q"
 refine⟨ns,0,rfl,by decide,?_⟩
 generalize ns.getD _ 0=shape
 walk_at "q"
 refine⟨shape,0,3,rfl,by decide,by decide,fun c c0 c1=>?_⟩
 walk_at "q"
 refine⟨shape,1,8,rfl,by decide,by decide,fun st s0 s1=>?_⟩
 walk_at "q"
 refine⟨shape,2,8,rfl,by decide,by decide,fun size z0 z1=>?_⟩
 walk_at "q"
 have hc:1+c / 2=1\/1+c / 2=2:=by lia
 generalize 1+c / 2=copies at hc ⊢
 refine R.D (fun e=>?_) fun e=>?_
 ·walk_at "q"
  refine⟨by lia,?_⟩
  refine R.F (by simp;lia) ?_
  walk_at "q"
  rw[e6]
  exact cW hc (by rcases hc with rfl|rfl<;>lia) (by rcases hc with rfl|rfl<;>lia) GA h
 ·walk_at "q"
  refine R.D (fun e=>?_) fun e=>?_
  ·walk_at "q"
   refine⟨by lia,?_⟩
   refine⟨shape,5,_,rfl,by decide,by rcases hc with rfl|rfl<;>lia,fun q q0 q1=>?_⟩
   walk_at "q"
   rw[e6]
   exact cW hc (by lia) (by rcases hc with rfl|rfl<;>lia) GA h
  ·walk_at "q"
   rw[e6]
   exact cW hc (by lia) (by rcases hc with rfl|rfl<;>lia) GA h
def gq:WS :=
 (b9 (qi aO (aj (ah 0) (aj (ah 1) b4)))
 (b9 (qi aO (aj (ah 0) (aj (ah 2) b4)))
 (lh (aX aZ (aj (aX bL (aj (ah 0) b4)) (aj (ah 1) (aj (ah 2) b4)))))))
def aP:fP:=fun ds Q=>∃ (many:Int) (l:List bE) (p q:Int),ds=[mD many l,.int p,.int q]/\(1<=many/\many<=100)/\fw many l/\l.length<=1000/\(fT many (p,q)->∀ rest f,nr many l rest f->∀ d,xi f (p,q) d->Q .sh d)/\(¬ fT many (p,q)->Q (.ow false) (.str "NoState"))
theorem nP (ds Q) (h:aP ds Q):ds.length=["m", "p", "q"].length:=by obtain⟨_,_,_,_,rfl,_⟩:=h;rfl
theorem qW:∀ ds Q,aP ds Q->gq { nx:=fun _=>Q .sh .non,rt:=Q } (aY 3 ds):=by
 rintro ds Q ⟨many,l,p,q,rfl,hm,aw,hl,h1,h2⟩
 unfold gq
 rw[show aY 3 [mD many l,.int p,.int q]=[some (.sh (mD many l)),some (.sh (.int p)),some (.sh (.int q))] from rfl]
 walk_at "q"
 refine⟨many,l,p,rfl,fun a=>?_,fun a=>?_⟩
 ·walk_at "q"
  refine⟨many,l,q,rfl,fun b=>?_,fun b=>?_⟩
  ·walk_at "q"
   refine⟨many,l,rfl,hm,aw,hl,fun rest hc _=>?_⟩
   obtain⟨f,hf⟩:=hc.rds
   walk_at "q"
   refine⟨many,l,rest,f,(p,q),rfl,hf,⟨a,b⟩,fun d hd=>?_⟩
   walk_at "q"
   rw[hd.flat]
   exact h1 ⟨a,b⟩ rest f hf d hd
  ·walk_at "q"
   exact h2 fun z=>b z.2
 ·walk_at "q"
  exact h2 fun z=>a z.1
def dN:WS :=
 (b9 (eB 3 (wC .non))
 (CP (qi aP (aj (ah 0) (aj (ah 1) (aj (ah 2) b4)))) (fun a=>[none,none,none,some (.xc a),none]) (fun a n=>(lh (Tx 3 a (decide (n = "NoState")))))))
def aR:fP:=fun ds Q=>∃ (many:Int) (l:List bE) (p q:Int),ds=[mD many l,.int p,.int q]/\(1<=many/\many<=100)/\fw many l/\l.length<=1000/\¬ fT many (p,q)/\Q .sh (.bl true)
theorem jy (ds Q) (h:aR ds Q):ds.length=["_law_m", "_law_p", "_law_q"].length:=by obtain⟨_,_,_,_,rfl,_⟩:=h;rfl
theorem lZ:∀ ds Q,aR ds Q->dN { nx:=fun _=>Q .sh .non,rt:=Q } (aY 5 ds):=by
 rintro ds Q ⟨many,l,p,q,rfl,hm,aw,hl,hx,h⟩
 unfold dN
 walk_at "q"
 refine⟨many,l,p,q,rfl,hm,aw,hl,fun z=>absurd z hx,fun _=>?_⟩
 walk_at "q"
 exact fun _=>h
def oF:WS :=
 (b9 (eB 9 (ax sT (aX aF (aj (ah 0) (aj (wC (.int 3)) b4))) (ax PY (wC (.int 10)) (wC (.int 59)))))
 (b9 (hU 1 (ng (eY (tf (aj (g9 JY (wC (.int 1))) (aj (ah 1) (aj (ax Nk (g9 JY (wC (.int 2))) (ah 9)) (aj (ax fo (ah 1) (ah 9)) b4)))))) (gN 10)
 (mr (PX (AJ (wB (aX aR (aj (ah 6) (aj (ah 10) (aj (ah 7) b4)))))) (AJ (wB (aX aR (aj (ah 6) (aj (ah 8) (aj (ah 10) b4)))))))
 (lh (wC (.bl false)))
 dM)))
 (hU 8 (hU 7 (hU 2 (hU 1 (lh (uL (aX bx (aj (pO aP (aj (ah 6) (aj (ah 7) (aj (ah 8) b4)))) (aj (K2 (ah 3) (og (aj (ah 7) (aj (ah 8) b4))) (wC .non)) b4))) (ax nc (ah 6) (og (aj (ah 1) (aj (ah 2) b4))))))))))))
def oJ:WS :=
 (b9 (hU 1 (eB 6 (og (aj (ah 1) (aj (g9 yo (ah 2)) b4)))))
 (b9 (hU 4 (ng (eY (ah 4)) (gT 2 (bZ (gN 7) (bZ (gN 8) jF)))
 (b9 (hU 8 (hU 7 (mr (AJ (wB (aX bx (aj (pO aP (aj (ah 6) (aj (ah 7) (aj (ah 8) b4)))) (aj (K2 (ah 3) (og (aj (ah 7) (aj (ah 8) b4))) (wC .non)) b4)))))
 (lh (wC (.bl false)))
 dM)))
 (hU 8 (hU 7 (mr (AJ (wB (aX bx (aj (pO aP (aj (ah 6) (aj (ah 8) (aj (ah 7) b4)))) (aj (K2 (ah 3) (og (aj (ah 7) (aj (ah 8) b4))) (wC .non)) b4)))))
 (lh (wC (.bl false)))
 dM))))))
 oF))
def nH:WS :=
 (b9 (eB 4 (tf b4))
 (b9 (ng (cA (wC (.int 10))) (gN 5)
 (B7 (tq 4) (og (aj (aX aG (aj (ah 0) (aj (ax fo (wC (.int 90)) (ah 5)) (aj (wC (.int 0)) (aj (ah 1) b4))))) (aj (aX aG (aj (ah 0) (aj (ax fo (wC (.int 90)) (ah 5)) (aj (wC (.int 1)) (aj (ah 1) b4))))) b4)))))
 (b9 (ng (cA (ax zM (wC (.int 4)) (g9 vk (ah 3)))) (gN 5)
 (B7 (tq 4) (ax fv (g9 oE (ah 3)) (aX aG (aj (ah 0) (aj (ax fo (wC (.int 80)) (ah 5)) (aj (wC (.int 2)) (aj (g9 vk (ah 3)) b4))))))))
 oJ)))
def Eh:WS :=
 (b9 (Cv 1 2 (TJ (aX bh (aj (ah 0) (aj (wC (.int 100)) b4)))))
 (b9 (eB 3 (aX bU (aj (aX cB (aj (ah 1) (aj (ah 2) b4))) (aj (ah 1) b4))))
 nH))
abbrev LB:fP:=Xj
theorem Eb (ds Q) (h:LB ds Q):ds.length=["_law_script"].length:=by obtain⟨_,rfl,_⟩:=h;rfl
theorem Jl{l:List P2}{i:Int}(h0:0<=i)(h1:i<l.length):∃ x,x∈l/\fq (l.map kH) i=some (kH x):=by
 have hn:i.toNat<l.length:=by lia
 refine⟨l[i.toNat],CY hn,?_⟩
 have:=E4 (xs:=l.map kH) (j:=i.toNat) (v:=kH l[i.toNat]) (by simp[hn])
 rwa[zk h0] at this
theorem sortedK{many:Int}{kvs:Kn}(hk:∀ kv∈kvs,∃ x:P2,fT many x/\kv.1=fA x){R:List (List Key)->Prop}(k:∀ out:List P2,(∀ x∈out,fT many x)->out.length=kvs.length->R (out.map fA)) :
  ∃ b0 sh,(∀ p∈kvs,gL p.1=b0 :: sh)/\∀ ms:List (List Key),ms.Perm (kvs.map (·.1))->(ms.Pairwise fun a b=>ft b a=false)->R ms:=by
 refine⟨true,[true],fun p hp=>?_,fun ms pm _=>?_⟩
 ·obtain⟨x,_,e⟩:=hk p hp
  rw[e]
  rfl
 ·obtain⟨out,rfl,ho⟩:=Qz (f:=fA) (P:=fT many) (ks:=ms) fun y hy=>by
   obtain⟨p,hp,e⟩:=dn.mp (pm.mem_iff.mp hy)
   obtain⟨x,hx,e2⟩:=hk p hp
   exact⟨x,by rw[<- e,e2],hx⟩
  exact k out ho (by have:=pm.length_eq;simpa using this)
theorem sJ{many:Int}{steps:List bE}{kvs:Kn}(hw:EB many steps kvs)(aw:fw many steps)(m1:1<=many){x:P2}(hx:fT many x){rest:List (List Int)}{f:Nat->List Int}(hf:nr many steps rest f){d:D}(hd:xi f x d){m:Md}{Q:Md->D->Prop}(h:(d=.non\/∃ v:Int,d=.int v)->Q .sh d):D7 (dP kvs (fA x)) m .sh .non Q:=by
 have a:=hw.QB hf aw m1 hx
 have e:=hd.uniq a
 cases g:dP kvs (fA x) with
 |none =>
  rw[g] at e
  subst e
  exact h (.inl rfl)
 |some d' =>
  rw[g] at e a
  subst e
  rcases a with⟨v,e,_⟩|⟨e,_⟩
  ·rw[show(some d).getD D.non=d from rfl] at *
   subst e
   show Q (kX m _) _
   cases m<;>exact h (.inr ⟨_,rfl⟩)
  ·rw[show(some d).getD D.non=d from rfl] at *
   subst e
   show Q (kX m _) _
   cases m<;>exact h (.inl rfl)
theorem Dm{Q:Md->D->Prop}{ns:List Int}{many p q:Int}{steps:List bE}{kvs:Kn}{pairs:List P2}{o5:Option Sl}(m1:1<=many)(m2:many<=20)(aw:fw many steps)(hl:steps.length<=1000)(hw:EB many steps kvs)(hx:fT many (p,q))(h:∀ m,Q m (.bl true)) :
  oF { nx:=fun _=>Q .sh .non,rt:=Q } [some (.sh (.list (ns.map .int))),some (.sh (.int many)),some (.sh (.list (steps.map iF))),some (.ow true (.dT kvs)),some (.sh (.list (pairs.map kH))),o5,some (.ow true (.tup [.int many,.list (steps.map iF)])),some (.sh (.int p)),some (.sh (.int q)),none,none]:=by
 unfold oF
 walk_at "q"
 refine⟨ns,3,rfl,by decide,?_⟩
 generalize ns.getD _ 0=Yf
 walk_at "q"
 have p1:=OD Yf (show(100000000000000000000000000000000000000000000000000000000000:Int)≠0 by decide)
 generalize Yf % 100000000000000000000000000000000000000000000000000000000000=far at *
 have cp:Iq 10 59:=by unfold Iq;decide
 refine⟨cp,?_⟩
 refine bH _ (fun i ρ=>∃ (CC:Option Sl),ρ=[some (.sh (.list (ns.map .int))),some (.sh (.int many)),some (.sh (.list (steps.map iF))),some (.ow true (.dT kvs)),some (.sh (.list (pairs.map kH))),o5,some (.ow true (.tup [.int many,.list (steps.map iF)])),some (.sh (.int p)),some (.sh (.int q)),some (.sh (.int far)),CC]) ⟨_,rfl⟩ ?_ ?_
 ·rintro i x ρ NP ⟨CC,rfl⟩ N hN
  obtain⟨w,rfl,Yg⟩:∃ w:Int,x=.int w/\¬ (0<=w/\w<many):=by
   have:=mB NP
   simp only[cS,EI,or_false] at this
   rcases this with e|e|e|e<;>exact⟨_,e,by lia⟩
  walk_at "q"
  refine⟨many,steps,w,p,rfl,by lia,aw,hl,fun z=>Yg z.1,?_⟩
  walk_at "q"
  refine⟨many,steps,q,w,rfl,by lia,aw,hl,fun z=>Yg z.2,?_⟩
  walk_at "q"
  exact hN _ ⟨_,rfl⟩
 rintro ρ ⟨CC,rfl⟩
 walk_at "q"
 refine⟨many,steps,p,q,rfl,by lia,aw,hl,fun _ rest f hf d hd=>?_,fun z=>absurd hx z⟩
 walk_at "q"
 refine sJ (x:=(p,q)) hw aw m1 hx hf hd fun hd2=>?_
 refine⟨d,rfl,hd2,?_⟩
 walk_at "q"
 refine⟨X4 9 aw,X4 9 aw,?_⟩
 rw[show gS (.tup [.int many,.list (steps.map iF)]) (.tup [.int many,.list (steps.map iF)])=true from eq_self (eS' _ _)]
 exact h _
theorem Ec{Q:Md->D->Prop}{ns:List Int}{many:Int}{steps:List bE}{kvs:Kn}{pairs:List P2}{o5:Option Sl}(m1:1<=many)(m2:many<=20)(aw:fw many steps)(hl:steps.length<=1000)(hw:EB many steps kvs)(hp:∀ x∈pairs,fT many x)(gI:0<pairs.length)(h:∀ m,Q m (.bl true)) :
  oJ { nx:=fun _=>Q .sh .non,rt:=Q } [some (.sh (.list (ns.map .int))),some (.sh (.int many)),some (.sh (.list (steps.map iF))),some (.ow true (.dT kvs)),some (.ow true (.list (pairs.map kH))),o5,none,none,none,none,none]:=by
 obtain⟨w7,e7⟩:∃ w7,w7=oF:=⟨_,rfl⟩
 unfold oJ
 rw[<- e7]
 walk_at "q"
 refine .inl ⟨pD _,?_⟩
 refine bH _ (fun i ρ=>∃ (o7 o8:Option Sl),(i=0\/∃ p q,fT many (p,q)/\o7=some (.sh (.int p))/\o8=some (.sh (.int q)))/\ρ=[some (.sh (.list (ns.map .int))),some (.sh (.int many)),some (.sh (.list (steps.map iF))),some (.ow true (.dT kvs)),some (.sh (.list (pairs.map kH))),o5,some (.ow true (.tup [.int many,.list (steps.map iF)])),o7,o8,none,none]) ⟨_,_,.inl rfl,rfl⟩ ?_ ?_
 ·rintro i x ρ hx ⟨o7,o8,_,rfl⟩ N hN
  obtain⟨p,q,rfl,hm,tk⟩:=De hx
  have EC:=hp _ hm
  walk_at "q"
  refine⟨many,steps,p,q,rfl,by lia,aw,hl,fun _ rest f hf d hd=>?_,fun z=>absurd EC z⟩
  walk_at "q"
  refine sJ (x:=(p,q)) hw aw m1 EC hf hd fun hd2=>?_
  refine⟨d,rfl,hd2,?_⟩
  walk_at "q"
  refine⟨many,steps,q,p,rfl,by lia,aw,hl,fun _ rest f hf d hd=>?_,fun z=>absurd ⟨EC.2,EC.1⟩ z⟩
  walk_at "q"
  refine sJ (x:=(p,q)) hw aw m1 EC hf hd.swap fun hd2=>?_
  refine⟨d,rfl,hd2,?_⟩
  walk_at "q"
  exact hN _ ⟨_,_,.inr ⟨p,q,EC,rfl,rfl⟩,rfl⟩
 ·rintro ρ ⟨o7,o8,hz,rfl⟩
  rw[cK] at hz
  obtain⟨p,q,EC,rfl,rfl⟩:=hz.resolve_left (by lia)
  rw[e7]
  exact Dm m1 m2 aw hl hw EC h
theorem Cp{Q:Md->D->Prop}{ns:List Int}{many:Int}{steps:List bE}{kvs:Kn}(m1:1<=many)(m2:many<=20)(aw:fw many steps)(hl:steps.length<=1000)(hw:EB many steps kvs)(h:∀ m,Q m (.bl true)) :
  nH { nx:=fun _=>Q .sh .non,rt:=Q } [some (.sh (.list (ns.map .int))),some (.sh (.int many)),some (.sh (.list (steps.map iF))),some (.ow true (.dT kvs)),none,none,none,none,none,none,none]:=by
 obtain⟨w5,e5⟩:∃ w5,w5=oJ:=⟨_,rfl⟩
 have RD:∀ kv∈kvs,∃ x:P2,fT many x/\kv.1=fA x:=by
  obtain⟨k,hp,_⟩:=hw
  exact hp.key
 unfold nH
 rw[<- e5]
 walk_at "q"
 refine bH _ (fun i ρ=>∃ (ds:List P2) (o5:Option Sl),ds.length=i/\(∀ p∈ds,fT many p)/\ρ=[some (.sh (.list (ns.map .int))),some (.sh (.int many)),some (.sh (.list (steps.map iF))),some (.ow true (.dT kvs)),some (.ow true (.list (ds.map kH))),o5,none,none,none,none,none]) ⟨[],_,rfl,(fun p hp=>nomatch hp),rfl⟩ ?_ ?_
 ·rintro i x ρ hx ⟨ds,o5,dl,di,rfl⟩ N hN
  obtain⟨hi,rfl⟩:=bM hx
  walk_at "q"
  refine⟨ns,_,0,many,rfl,by lia,by decide,by lia,fun p p0 p1=>?_⟩
  walk_at "q"
  refine⟨ns,_,1,many,rfl,by lia,by decide,by lia,fun q q0 q1=>?_⟩
  walk_at "q"
  refine⟨by lia,hN _ ⟨ds++[(p,q)],_,by simp[dl],(fun x hx=>?_),(by rw[AV];rfl)⟩⟩
  rcases dy.mp hx with z|z
  ·exact di x z
  ·rw[kC.mp z];exact⟨⟨p0,p1⟩,q0,q1⟩
 rintro ρ ⟨ds,o5,dl,di,rfl⟩
 rw[bJ] at dl
 walk_at "q"
 have Ua:∃ r:Int,(if (kvs.length:Int)<4 then (kvs.length:Int) else 4)=r/\0<=r/\r<=4/\r<=kvs.length:=⟨_,rfl,by split<;>lia⟩
 obtain⟨r,er,r0,r4,rk'⟩:=Ua
 rw[er]
 refine⟨by lia,by lia,?_⟩
 refine bH _ (fun i ρ=>∃ (ds:List P2) (o5:Option Sl),ds.length=10+i/\(∀ p∈ds,fT many p)/\ρ=[some (.sh (.list (ns.map .int))),some (.sh (.int many)),some (.sh (.list (steps.map iF))),some (.ow true (.dT kvs)),some (.ow true (.list (ds.map kH))),o5,none,none,none,none,none]) ⟨ds,_,by simp at dl ⊢;lia,di,rfl⟩ ?_ ?_
 ·clear dl di ds
  rintro i x ρ hx ⟨ds,o5,dl,di,rfl⟩ N hN
  obtain⟨hi,rfl⟩:=bM hx
  walk_at "q"
  refine sortedK RD fun out ho Tt=>?_
  rw[zJ]
  refine⟨ns,_,2,_,rfl,by lia,by decide,by lia,fun r2 a0 a1=>?_⟩
  walk_at "q"
  obtain⟨x,NP,ex⟩:=Jl (l:=out) a0 (by lia)
  refine⟨_,ex,?_⟩
  rw[show kH x=.tup [.int x.1,.int x.2] from rfl]
  walk_at "q"
  refine⟨by lia,hN _ ⟨ds++[x],_,by simp[dl];lia,(fun y hy=>?_),(by rw[AV];rfl)⟩⟩
  rcases dy.mp hy with z|z
  ·exact di y z
  ·rw[kC.mp z];exact ho x NP
 ·clear dl di ds
  rintro ρ ⟨ds,o5,dl,di,rfl⟩
  rw[e5]
  exact Ec m1 m2 aw hl hw di (by lia) h
theorem Ii:∀ ds Q,LB ds Q->Eh { nx:=fun _=>Q .sh .non,rt:=Q } (aY 11 ds):=by
 rintro ds Q ⟨ns,rfl,hn,h⟩
 obtain⟨w2,e2⟩:∃ w2,w2=nH:=⟨_,rfl⟩
 unfold Eh
 rw[<- e2]
 walk_at "q"
 refine⟨ns,100,rfl,by decide,fun many steps m1 m2 aw hl pw=>?_⟩
 have hl:=iN hl (show 500<=1000 by decide)
 unfold mD
 walk_at "q"
 refine⟨many,steps,rfl,by lia,aw,by lia,?_⟩
 walk_at "q"
 refine⟨many,steps,rfl,⟨m1,m2⟩,fun kvs hw=>?_⟩
 walk_at "q"
 rw[e2]
 exact Cp m1 m2 aw hl hw h
def top(i:Nat):Stmt:=PySem.Challenge.pw_kinlook_k37_parted_at.main.body.getD i (.Pass ⟨0,0,0,0⟩)
abbrev aL:Stmt:=top 4
abbrev gh:List Str:=["m", "state"]
abbrev cJ:Stmt:=top 5
abbrev j_:List Str:=["m", "exits", "start", "deed", "end"]
abbrev eG:Stmt:=top 7
abbrev pM:List Str:=["exits", "ranks", "state"]
abbrev aN:Stmt:=top 8
abbrev dq:List Str:=["exits", "ranks", "keys", "different", "key"]
abbrev cM:Stmt:=top 9
abbrev qL:List Str:=["m", "exits", "rounds", "ranks"]
abbrev bO:Stmt:=top 11
abbrev lU:List Str:=["rounds", "p", "q", "k", "ranks"]
abbrev a_:Stmt:=top 12
abbrev jh:List Str:=["m", "p", "q"]
abbrev bD:Stmt:=top 14
abbrev jV:List Str:=["_law_script", "_law_k"]
abbrev cu:Stmt:=top 15
abbrev pq:List Str:=["_law_cell", "_law_way", "_law_many", "_law_prime"]
abbrev aV:Stmt:=top 16
abbrev cj:List Str:=["_law_cell", "_law_letters", "_law_size", "_law_at", "_law_base", "_law_kind", "_law_words", "_law_k", "_law_word", "_law_tail", "_law_first"]
abbrev cP:Stmt:=top 17
abbrev qy:List Str:=["_law_script", "_law_k", "_law_way", "_law_many", "_law_cell"]
abbrev bB:Stmt:=top 18
abbrev lD:List Str:=["_law_script", "_law_most", "_law_shape", "_law_copies", "_law_states", "_law_size", "_law_many", "_law_menu_here", "_law_steps", "_law_k", "_law_one", "_law_two", "_law_deed", "_law_way", "_law_j", "_law_i"]
abbrev cg:Stmt:=top 19
abbrev jc:List Str:=["_law_many", "_law_steps", "_law_rows_here", "_law_at", "_law_deed", "_law_to"]
abbrev aK:Stmt:=top 20
abbrev cL:List Str:=["_law_rows_here", "_law_one", "_law_other", "_law_pairs", "_law_deed", "_law_to", "_law_end"]
abbrev bw:Stmt:=top 21
abbrev eO:List Str:=["_law_rows_here", "_law_most", "_law_every", "_law_left", "_law_pair", "_law_parts_here", "_law_k", "_law_gone"]
abbrev bC:Stmt:=top 22
abbrev kY:List Str:=["_law_m", "_law_p", "_law_q", "_law_kept", "e"]
abbrev cN:Stmt:=top 23
abbrev qw:List Str:=["_law_found", "_law_due"]
abbrev m9:Stmt:=top 24
abbrev Ho:List Str:=["_law_script", "_law_many", "_law_steps", "_law_parts_here", "_law_pairs", "_law_k", "_law_handed", "_law_p", "_law_q", "_law_far", "_law_out"]
abbrev rn:List Str:=["NoState"]
structure Txt(K:PySem.W.Frag)(mg:Str->Option Value):Prop where
 LD:mg "any" = none
 N6:mg "bool" = none
 N7:mg "enumerate" = none
 LG:mg "int" = none
 GB:mg "isinstance" = none
 vF:mg "len" = none
 LH:mg "list" = none
 LJ:mg "min" = none
 mw:mg "range" = none
 N8:mg "set" = none
 ED:mg "sorted" = none
 fk':XJ K mg "NoState"
 fm':GZ K mg rn "KinError"
 fn':∀ n C,n∈rn->mg n=some (.ref C)->∃ c,mg "NoState" = some (.ref c)/\PySem.W.kitOne K (.ref C) (.ref c)=some (decide (n = "NoState"))
section
variable {P:Program}{w:World}{K:PySem.W.Frag}{mg:Str->Option Value}{base:Heap}
theorem gk:kK gh ["m", "state"] (b6 aL):=⟨rfl,rfl,rfl,by decide +kernel,rfl,by decide +kernel,by decide +kernel⟩
theorem nW {f:Addr} (T:Txt K mg)  (cy:Value) (A:Around) (outer:List PySem.Env) (s:Shared) (H:Hp) (E:XK) (hr:ku 0 (A.deeper (envOfC "check_state" (b6 aL) s.heap.objs.size f cy))) :
  qA (sM (om P w mg rn) P w K mg base gh "check_state" (b6 aL) f cy A outer s H E) K (LX rn mg E) (hJ aL) d_ :=
 have nd:=gk.nd
 have hu:(A.deeper (envOfC "check_state" (b6 aL) s.heap.objs.size f cy)).units+64<cLine:=hr.units
 (aq (dZ (jk (Af Fp Bg Ju Gz au (qv 1) (gp hu (qv 0) au)))
   (aq (yE rfl Hk T.fk' (.head _) qY))
   bz))
theorem lN {f:Addr} {fd:FuncData} (F:gX K "check_state" "check_state" aL f fd) (T:Txt K mg)  : gE P w K mg base (om P w mg rn) 1 f fd ["m", "state"] (fJ K rn mg aO) :=
 XH.ok F gk kJ (nW T ) nG
theorem lr:kK j_ ["m"] (b6 cJ):=⟨rfl,rfl,rfl,by decide +kernel,rfl,by decide +kernel,by decide +kernel⟩
theorem rK {f:Addr} {fd:FuncData} (F:gX K "exits_of" "exits_of" cJ f fd) (T:Txt K mg)  : gE P w K mg base js 1 f fd ["m"] (aA K cO) :=
 qB.ok (t:=iQ) F lr qJ (fun cy A outer s H E hr =>
  have nd:=lr.nd
  have hu:=hr.units
  (ak (cZ (i:=1) (tn:=["state"]) (cn:=[]) (ix:=[]) nd rfl (Or.inl rfl) rfl (gW (bK T.mw (gp hu (qv 0) au))) (bY.of (sc:=b6 cJ) (N:=j_) rfl rfl (by decide +kernel)) (fun _ _ _ _=>(aB (i:=0) (show(["state"]:List Str).Nodup by decide +kernel) rfl (Or.inl rfl) (.inr rfl))) (fun _ _ _ _=>dB) (fun _ _ _ _=>(ju ao)))
   (ak (bu 0 (cG PassesOwn.never rfl (eQ (gp hu (qv 0) au)) (gU rfl (aM (aB (i:=2) nd rfl (Or.inl rfl)) (aM (aB (i:=3) nd rfl (Or.inl rfl)) (aM (aB (i:=4) nd rfl (Or.inl rfl)) eU))))
   (aq (bu 4 (bu 3 (mH (Fd hu (dh (pv 1)) (qv 2)) (fY (aa (qv 3) (aa (qv 4) ao)))))))))
   (aq (iR (pv 1)))))) uN
theorem qH:kK pM ["exits", "ranks", "state"] (b6 eG):=⟨rfl,rfl,rfl,by decide +kernel,rfl,by decide +kernel,by decide +kernel⟩
theorem xT {f:Addr} {fd:FuncData} (F:gX K "key_of" "key_of" eG f fd) (T:Txt K mg)  : gE P w K mg base js 1 f fd ["exits", "ranks", "state"] (aA K dR) :=
 qB.ok (t:=mY) F qH uH (fun cy A outer s H E hr =>
  have nd:=qH.nd
  have hu:=hr.units
  (aq (cz (fY (aa (gp hu (qv 1) (qv 2)) (aa (uw hu rfl T.ED rfl T.N8 (jj (tn:=["deed", "end"]) (cn:=["ranks"]) (ix:=[1]) rfl (lq (gp hu (qv 0) (qv 2))) (bY.of (sc:=b6 eG) (N:=pM) rfl rfl (by decide +kernel)) (fun _ _ _ _=>(gU rfl (aM (aB (i:=0) (show(["deed", "end", "ranks"]:List Str).Nodup by decide +kernel) rfl (Or.inl rfl) (.inr rfl)) (aM (aB (i:=1) (show(["deed", "end", "ranks"]:List Str).Nodup by decide +kernel) rfl (Or.inl rfl) (.inr rfl)) eU)))) (fun _ _ _ _=>dB) (fun _ _ _ _=>(fY (aa (qv 0) (aa (gp hu (qv 2) (qv 1)) ao)))))) ao)))))) zc
theorem gm:kK lU ["rounds", "p", "q"] (b6 bO):=⟨rfl,rfl,rfl,by decide +kernel,rfl,by decide +kernel,by decide +kernel⟩
theorem lM {f:Addr} {fd:FuncData} (F:gX K "first_apart" "first_apart" bO f fd) (T:Txt K mg)  : gE P w K mg base js 1 f fd ["rounds", "p", "q"] (aA K aZ) :=
 qB.ok (t:=eN) F gm jJ (fun cy A outer s H E hr =>
  have nd:=gm.nd
  have hu:=hr.units
  (ak (bu 0 (cG PassesOwn.never rfl (By T.N7 (qv 0)) (gU rfl (aM (aB (i:=3) nd rfl (Or.inl rfl)) (aM (aB (i:=4) nd rfl (Or.inl rfl)) eU)))
   (aq (dZ (cI (Wm (K:=K) hu) Fb (gp hu (qv 4) (qv 1)) (gp hu (qv 4) (qv 2)) (lP _))
   (aq (iR (pv 3)))
   bz))))
   (aq (cz yU)))) ph
theorem fK:kK jV ["_law_script", "_law_k"] (b6 bD):=⟨rfl,rfl,rfl,by decide +kernel,rfl,by decide +kernel,by decide +kernel⟩
theorem lB {f:Addr} {fd:FuncData} (F:gX K "_law_cell_at" "_law_cell_at" bD f fd) (T:Txt K mg)  : gE P w K mg base js 1 f fd ["_law_script", "_law_k"] (aA K aF) :=
 qB.ok (t:=dO) F fK jB (fun cy A outer s H E hr =>
  have nd:=fK.nd
  have hu:=hr.units
  (ak (dZ (cI Bg Gz (qv 1) (cF bR iB rfl T.vF iC (qv 0)) (lP _))
   (aq (cz (gp hu (qv 0) (qv 1))))
   bz)
   (aq (cz au)))) lF
theorem gM:kK pq ["_law_cell", "_law_way", "_law_many"] (b6 cu):=⟨rfl,rfl,rfl,by decide +kernel,rfl,by decide +kernel,by decide +kernel⟩
theorem oV {f:Addr} {fd:FuncData} (F:gX K "_law_digit" "_law_digit" cu f fd) (T:Txt K mg)  : gE P w K mg base js 1 f fd ["_law_cell", "_law_way", "_law_many"] (aA K az) :=
 qB.ok (t:=fO) F gM lV (fun cy A outer s H E hr =>
  have nd:=gM.nd
  have hu:=hr.units
  (ak (aJ (i:=3) nd rfl (Or.inl rfl) (gp hu (ju (aa au (aa au (aa au (aa au (aa au (aa au ao))))))) (qv 1)))
   (aq (cz (kZ (uA (kZ (gB (qv 0) (gp hu (ju (aa au (aa au (aa au (aa au (aa au (aa au ao))))))) (qv 1))) (qv 3)) au) (qv 2)))))) ql
theorem jr:kK jc ["_law_many", "_law_steps"] (b6 cg):=⟨rfl,rfl,rfl,by decide +kernel,rfl,by decide +kernel,by decide +kernel⟩
theorem pX {f:Addr} {fd:FuncData} (F:gX K "_law_rows" "_law_rows" cg f fd) (T:Txt K mg)  : gE P w K mg base js 1 f fd ["_law_many", "_law_steps"] (aA K cB) :=
 qB.ok (t:=gC) F jr n8 (fun cy A outer s H E hr =>
  have nd:=jr.nd
  have hu:=hr.units
  (ak (cZ (i:=2) (tn:=["_law_k"]) (cn:=[]) (ix:=[]) nd rfl (Or.inl rfl) rfl (gW (bK T.mw (qv 0))) (bY.of (sc:=b6 cg) (N:=jc) rfl rfl (by decide +kernel)) (fun _ _ _ _=>(aB (i:=0) (show(["_law_k"]:List Str).Nodup by decide +kernel) rfl (Or.inl rfl) (.inr rfl))) (fun _ _ _ _=>dB) (fun _ _ _ _=>(ju ao)))
   (ak (bu 1 (cG PassesOwn.never rfl (eQ (qv 1)) (gU rfl (aM (aB (i:=3) nd rfl (Or.inl rfl)) (aM (aB (i:=4) nd rfl (Or.inl rfl)) (aM (aB (i:=5) nd rfl (Or.inl rfl)) eU))))
   (aq (bu 5 (bu 4 (mH (Fd hu (dh (pv 2)) (qv 3)) (fY (aa (qv 4) (aa (qv 5) ao)))))))))
   (aq (iR (pv 2)))))) qT
theorem dU:kK cL ["_law_rows_here", "_law_one", "_law_other", "_law_pairs"] (b6 aK):=⟨rfl,rfl,rfl,by decide +kernel,rfl,by decide +kernel,by decide +kernel⟩
theorem iT {f:Addr} {fd:FuncData} (F:gX K "_law_both_ways" "_law_both_ways" aK f fd) (T:Txt K mg)  : gE P w K mg base js 1 f fd ["_law_rows_here", "_law_one", "_law_other", "_law_pairs"] (aA K aQ) :=
 qB.ok (t:=cV) F dU ig (fun cy A outer s H E hr =>
  have nd:=dU.nd
  have hu:=hr.units
  (ak (bu 0 (cG PassesOwn.never rfl (eQ (gp hu (qv 0) (qv 1))) (gU rfl (aM (aB (i:=4) nd rfl (Or.inr rfl)) (aM (aB (i:=5) nd rfl (Or.inr rfl)) eU)))
   (aq (dZ (jk (jP (cF XU Bt rfl T.LD Ak (jj (tn:=["_law_name", "_law_end"]) (cn:=["_law_deed", "_law_pairs", "_law_to"]) (ix:=[4,3,5]) rfl (lq (gp hu (qv 0) (qv 2))) (bY.of (sc:=b6 aK) (N:=cL) rfl rfl (by decide +kernel)) (fun _ _ _ _=>(gU rfl (aM (aB (i:=0) (show(["_law_name", "_law_end", "_law_deed", "_law_pairs", "_law_to"]:List Str).Nodup by decide +kernel) rfl (Or.inl rfl) (.inr rfl)) (aM (aB (i:=1) (show(["_law_name", "_law_end", "_law_deed", "_law_pairs", "_law_to"]:List Str).Nodup by decide +kernel) rfl (Or.inl rfl) (.inr rfl)) eU)))) (fun _ _ _ _=>(rH (cI (rX (K:=K) hu) gn (qv 0) (qv 2) (lP _)))) (fun _ _ _ _=>(uW (kr (K:=K) hu) Gx (fY (aa (qv 4) (aa (qv 1) ao))) (qv 3) (by rfl)))))))
   (aq (cz B4))
   bz))))
   (ak (bu 0 (cG PassesOwn.never rfl (eQ (gp hu (qv 0) (qv 2))) (gU rfl (aM (aB (i:=4) nd rfl (Or.inr rfl)) (aM (aB (i:=6) nd rfl (Or.inr rfl)) eU)))
   (aq (dZ (jk (jP (cF XU Bt rfl T.LD Ak (jj (tn:=["_law_name", "_law_to"]) (cn:=["_law_deed", "_law_end", "_law_pairs"]) (ix:=[4,6,3]) rfl (lq (gp hu (qv 0) (qv 1))) (bY.of (sc:=b6 aK) (N:=cL) rfl rfl (by decide +kernel)) (fun _ _ _ _=>(gU rfl (aM (aB (i:=0) (show(["_law_name", "_law_to", "_law_deed", "_law_end", "_law_pairs"]:List Str).Nodup by decide +kernel) rfl (Or.inl rfl) (.inr rfl)) (aM (aB (i:=1) (show(["_law_name", "_law_to", "_law_deed", "_law_end", "_law_pairs"]:List Str).Nodup by decide +kernel) rfl (Or.inl rfl) (.inr rfl)) eU)))) (fun _ _ _ _=>(rH (cI (rX (K:=K) hu) gn (qv 0) (qv 2) (lP _)))) (fun _ _ _ _=>(uW (kr (K:=K) hu) Gx (fY (aa (qv 1) (aa (qv 3) ao))) (qv 4) (by rfl)))))))
   (aq (cz B4))
   bz))))
   (aq (cz B4))))) jz
theorem jg:kK qw ["_law_found", "_law_due"] (b6 cN):=⟨rfl,rfl,rfl,by decide +kernel,rfl,by decide +kernel,by decide +kernel⟩
theorem qp {f:Addr} {fd:FuncData} (F:gX K "_law_same" "_law_same" cN f fd) (T:Txt K mg)  : gE P w K mg base js 1 f fd ["_law_found", "_law_due"] (aA K bx) :=
 qB.ok (t:=gF) F jg m5 (fun cy A outer s H E hr =>
  have nd:=jg.nd
  have hu:=hr.units
  (ak (dZ (cI VB A_ (qv 1) yU (lP _))
   (aq (cz (uW VB A_ (qv 0) yU (lP _))))
   bz)
   (aq (cz (Dl (G9 T.GB (qv 0) (GC T.LG wU)) (Dl (Js (G9 T.GB (qv 0) (GC T.N6 DW))) (Fl (uW (rX (K:=K) hu) gn (qv 0) (qv 1) (lP _))))))))) rG
theorem fD:kK dq ["exits", "ranks"] (b6 aN):=⟨rfl,rfl,rfl,by decide +kernel,rfl,by decide +kernel,by decide +kernel⟩
theorem lA {f:Addr} {fd:FuncData} (F:gX K "ranks_behind" "ranks_behind" aN f fd) (T:Txt K mg) (fo':fi P w K mg base 1 "key_of" ["exits", "ranks", "state"] (aA K dR)):gE P w K mg base js 2 f fd ["exits", "ranks"] (aA K aU) :=
 qB.ok (t:=dI) F fD jE (fun cy A outer s H E hr =>
  have nd:=fD.nd
  have hu:=hr.units
  (ak (cZ (i:=2) (tn:=["state"]) (cn:=["exits", "ranks"]) (ix:=[0,1]) nd rfl (Or.inl rfl) rfl (gW (bK T.mw (cF bR iB rfl T.vF iC (qv 1)))) (bY.of (sc:=b6 aN) (N:=dq) rfl rfl (by decide +kernel)) (fun _ _ _ _=>(aB (i:=0) (show(["state", "exits", "ranks"]:List Str).Nodup by decide +kernel) rfl (Or.inl rfl) (.inr rfl))) (fun _ _ _ _=>dB) (fun _ _ _ _=>(bf fo' (hr.mono (by decide)) (aa (qv 1) (aa (qv 2) (aa (qv 0) ao))))))
   (ak (aJ (i:=3) nd rfl (Or.inr rfl) (ju ao))
   (ak (bu 2 (cG PassesOwn.never rfl (eQ (cF (Hd hu) yX rfl T.ED gQ (qv 2))) (aB (i:=4) nd rfl (Or.inl rfl))
   (aq (dZ (cI (Dy (K:=K) hu) Fz (qv 4) (qv 3) (by rfl))
   (aq (bu 4 (mH (dh (pv 3)) (qv 4))))
   bz))))
   (aq (cz (jj (tn:=["key"]) (cn:=["different"]) (ix:=[3]) rfl (lq (qv 2)) (bY.of (sc:=b6 aN) (N:=dq) rfl rfl (by decide +kernel)) (fun _ _ _ _=>(aB (i:=0) (show(["key", "different"]:List Str).Nodup by decide +kernel) rfl (Or.inl rfl) (.inr rfl))) (fun _ _ _ _=>dB) (fun _ _ _ _=>(Eo hu (qv 1) (qv 0)))))))))) lG
theorem iZ:kK cj ["_law_cell"] (b6 aV):=⟨rfl,rfl,rfl,by decide +kernel,rfl,by decide +kernel,by decide +kernel⟩
theorem pZ {f:Addr} {fd:FuncData} (F:gX K "_law_menu" "_law_menu" aV f fd) (T:Txt K mg) (rj:fi P w K mg base 1 "_law_digit" ["_law_cell", "_law_way", "_law_many"] (aA K az)):gE P w K mg base js 2 f fd ["_law_cell"] (aA K cC) :=
 qB.ok (t:=gA) F iZ oO (fun cy A outer s H E hr =>
  have nd:=iZ.nd
  have hu:=hr.units
  (ak (aJ (i:=1) nd rfl (Or.inr rfl) qY)
   (ak (aJ (i:=2) nd rfl (Or.inl rfl) (bQ au (bf rj (hr.mono (by decide)) (aa (qv 0) (aa au (aa au ao))))))
   (ak (aJ (i:=3) nd rfl (Or.inr rfl) (bf rj (hr.mono (by decide)) (aa (qv 0) (aa au (aa (qv 2) ao)))))
   (ak (aJ (i:=4) nd rfl (Or.inr rfl) (jj (tn:=["_law_j"]) (cn:=["_law_cell"]) (ix:=[0]) rfl (gW (bK T.mw au)) (bY.of (sc:=b6 aV) (N:=cj) rfl rfl (by decide +kernel)) (fun _ _ _ _=>(aB (i:=0) (show(["_law_j", "_law_cell"]:List Str).Nodup by decide +kernel) rfl (Or.inl rfl) (.inr rfl))) (fun _ _ _ _=>dB) (fun _ _ _ _=>(bf rj (hr.mono (by decide)) (aa (bQ (gB (qv 1) (bQ (qv 0) au)) (qv 0)) (aa au (aa au ao)))))))
   (ak (aJ (i:=5) nd rfl (Or.inl rfl) (bf rj (hr.mono (by decide)) (aa (qv 0) (aa au (aa au ao)))))
   (ak (aJ (i:=6) nd rfl (Or.inl rfl) (ju ao))
   (ak (cG PassesOwn.never rfl (bK T.mw au) (aB (i:=7) nd rfl (Or.inr rfl))
   (ak (aJ (i:=8) nd rfl (Or.inl rfl) (tK qY (jj (tn:=["_law_j"]) (cn:=["_law_at", "_law_base", "_law_k", "_law_letters"]) (ix:=[3,4,7,1]) rfl (gW (bK T.mw (qv 2))) (bY.of (sc:=b6 aV) (N:=cj) rfl rfl (by decide +kernel)) (fun _ _ _ _=>(aB (i:=0) (show(["_law_j", "_law_at", "_law_base", "_law_k", "_law_letters"]:List Str).Nodup by decide +kernel) rfl (Or.inl rfl) (.inr rfl))) (fun _ _ _ _=>dB) (fun _ _ _ _=>(gp hu (qv 4) (kZ (bQ (gp hu (qv 2) (qv 0)) (gB (qv 3) (ou Z6 Hn rfl T.LG wU (uW (rX (K:=K) hu) gn (qv 0) (qv 1) (lP _))))) au))))))
   (ak (dZ (cI (rX (K:=K) hu) gn (qv 5) au (lP _))
   (aq (aJ (i:=8) nd rfl (Or.inl rfl) (tK qY (jj (tn:=["_law_j"]) (cn:=["_law_base", "_law_letters"]) (ix:=[4,1]) rfl (gW (bK T.mw (bQ (qv 7) au))) (bY.of (sc:=b6 aV) (N:=cj) rfl rfl (by decide +kernel)) (fun _ _ _ _=>(aB (i:=0) (show(["_law_j", "_law_base", "_law_letters"]:List Str).Nodup by decide +kernel) rfl (Or.inl rfl) (.inr rfl))) (fun _ _ _ _=>dB) (fun _ _ _ _=>(gp hu (qv 2) (gp hu (qv 1) (qv 0))))))))
   bz)
   (ak (dZ (cI (rX (K:=K) hu) gn (qv 5) au (lP _))
   (ak (cZ (i:=9) (tn:=["_law_j"]) (cn:=["_law_base", "_law_letters"]) (ix:=[4,1]) nd rfl (Or.inl rfl) rfl (gW (bK T.mw (bf rj (hr.mono (by decide)) (aa (bQ (qv 0) (qv 7)) (aa au (aa au ao)))))) (bY.of (sc:=b6 aV) (N:=cj) rfl rfl (by decide +kernel)) (fun _ _ _ _=>(aB (i:=0) (show(["_law_j", "_law_base", "_law_letters"]:List Str).Nodup by decide +kernel) rfl (Or.inl rfl) (.inr rfl))) (fun _ _ _ _=>dB) (fun _ _ _ _=>(gp hu (qv 2) (gp hu (qv 1) (qv 0)))))
   (aq (aJ (i:=8) nd rfl (Or.inl rfl) (bQ (gp hu (qv 1) (kZ (bQ (gp hu (qv 4) au) (gB au (qv 7))) au)) (tK qY (qv 9))))))
   bz)
   (ak (dZ (cI (rX (K:=K) hu) gn (qv 5) au (lP _))
   (aq (aJ (i:=8) nd rfl (Or.inl rfl) (tK qY (jj (tn:=["_law_j"]) (cn:=["_law_base", "_law_k", "_law_letters"]) (ix:=[4,7,1]) rfl (gW (bK T.mw au)) (bY.of (sc:=b6 aV) (N:=cj) rfl rfl (by decide +kernel)) (fun _ _ _ _=>(aB (i:=0) (show(["_law_j", "_law_base", "_law_k", "_law_letters"]:List Str).Nodup by decide +kernel) rfl (Or.inl rfl) (.inr rfl))) (fun _ _ _ _=>dB) (fun _ _ _ _=>(gp hu (qv 3) (kZ (bQ (gp hu (qv 1) au) (kZ (bQ (qv 0) (qv 2)) au)) au)))))))
   bz)
   (aq (bu 8 (mH (dh (pv 6)) (qv 8)))))))))
   (ak (aJ (i:=10) nd rfl (Or.inl rfl) (bf rj (hr.mono (by decide)) (aa (qv 0) (aa au (aa au ao)))))
   (aq (cz (CJ (bQ (ju (aa qY ao)) (qv 6)) (xQ (qv 10)) (xQ (bQ (bQ (qv 10) au) (bf rj (hr.mono (by decide)) (aa (qv 0) (aa au (aa au ao)))))))))))))))))) sI
theorem jq:kK qy ["_law_script", "_law_k", "_law_way", "_law_many"] (b6 cP):=⟨rfl,rfl,rfl,by decide +kernel,rfl,by decide +kernel,by decide +kernel⟩
theorem pC {f:Addr} {fd:FuncData} (F:gX K "_law_draw" "_law_draw" cP f fd) (T:Txt K mg) (GH:fi P w K mg base 1 "_law_cell_at" ["_law_script", "_law_k"] (aA K aF)) (rj:fi P w K mg base 1 "_law_digit" ["_law_cell", "_law_way", "_law_many"] (aA K az)):gE P w K mg base js 2 f fd ["_law_script", "_law_k", "_law_way", "_law_many"] (aA K aG) :=
 qB.ok (t:=gD) F jq o_ (fun cy A outer s H E hr =>
  have nd:=jq.nd
  have hu:=hr.units
  (ak (aJ (i:=4) nd rfl (Or.inl rfl) (bf GH (hr.mono (by decide)) (aa (qv 0) (aa (bQ au (kZ (bQ (gB au (qv 1)) (gB au (qv 2))) au)) ao))))
   (aq (cz (bf rj (hr.mono (by decide)) (aa (bQ (bQ (qv 4) (gB (bf GH (hr.mono (by decide)) (aa (qv 0) (aa au ao))) (bQ (qv 1) au))) (gB (bQ (qv 1) au) (bQ (bQ (qv 1) au) (qv 2)))) (aa (qv 2) (aa (qv 3) ao)))))))) su
theorem gZ:kK eO ["_law_rows_here", "_law_most"] (b6 bw):=⟨rfl,rfl,rfl,by decide +kernel,rfl,by decide +kernel,by decide +kernel⟩
theorem oA {f:Addr} {fd:FuncData} (F:gX K "_law_parts" "_law_parts" bw f fd) (T:Txt K mg) (fp':fi P w K mg base 1 "_law_both_ways" ["_law_rows_here", "_law_one", "_law_other", "_law_pairs"] (aA K aQ)):gE P w K mg base js 2 f fd ["_law_rows_here", "_law_most"] (aA K bU) :=
 qB.ok (t:=fc) F gZ lL (fun cy A outer s H E hr =>
  have nd:=gZ.nd
  have hu:=hr.units
  (ak (cZ (i:=2) (tn:=["_law_k"]) (cn:=["_law_rows_here"]) (ix:=[0]) nd rfl (Or.inl rfl) rfl (gW (bK T.mw (gB (cF bR iB rfl T.vF iC (qv 0)) (cF bR iB rfl T.vF iC (qv 0))))) (bY.of (sc:=b6 bw) (N:=eO) rfl rfl (by decide +kernel)) (fun _ _ _ _=>(aB (i:=0) (show(["_law_k", "_law_rows_here"]:List Str).Nodup by decide +kernel) rfl (Or.inl rfl) (.inr rfl))) (fun _ _ _ _=>dB) (fun _ _ _ _=>(fY (aa (uA (qv 0) (cF bR iB rfl T.vF iC (qv 1))) (aa (kZ (qv 0) (cF bR iB rfl T.vF iC (qv 1))) ao)))))
   (ak (aJ (i:=3) nd rfl (Or.inr rfl) sH)
   (ak (bu 2 (cG PassesOwn.never rfl (eQ (qv 2)) (aB (i:=4) nd rfl (Or.inl rfl))
   (aq (oH hu (dh (pv 3)) (qv 4) B4))))
   (ak (aJ (i:=5) nd rfl (Or.inl rfl) sH)
   (ak (cG PassesOwn.never rfl (bK T.mw (qv 1)) (aB (i:=6) nd rfl (Or.inl rfl))
   (ak (cZ (i:=7) (tn:=["_law_pair"]) (cn:=["_law_left", "_law_rows_here"]) (ix:=[3,0]) nd rfl (Or.inl rfl) rfl (lq (ou mV ye rfl T.LH xY (qv 3))) (bY.of (sc:=b6 bw) (N:=eO) rfl rfl (by decide +kernel)) (fun _ _ _ _=>(aB (i:=0) (show(["_law_pair", "_law_left", "_law_rows_here"]:List Str).Nodup by decide +kernel) rfl (Or.inl rfl) (.inr rfl))) (fun _ _ _ _=>(rH (jk (jP (bf fp' (hr.mono (by decide)) (aa (qv 2) (aa (gp hu (qv 0) au) (aa (gp hu (qv 0) au) (aa (qv 1) ao))))))))) (fun _ _ _ _=>(qv 0)))
   (ak (dZ (cI (rX (K:=K) hu) gn (qv 7) (ju ao) (lP _))
   (aq (iR (pv 5)))
   bz)
   (aq (bu 7 (cG PassesOwn.never rfl (eQ (qv 7)) (aB (i:=4) nd rfl (Or.inl rfl))
   (ak (bu 4 (Dd (YD (Nat.add_le_add_left (by decide:1<=64) _) hu) (dh (pv 3)) (qv 4)))
   (aq (oH hu (dh (pv 5)) (qv 4) (bQ (qv 6) au))))))))))
   (aq (iR (pv 5))))))))) pK
theorem jb:kK qL ["m"] (b6 cM):=⟨rfl,rfl,rfl,by decide +kernel,rfl,by decide +kernel,by decide +kernel⟩
theorem pI {f:Addr} {fd:FuncData} (F:gX K "rounds_of" "rounds_of" cM f fd) (T:Txt K mg) (fq':fi P w K mg base 1 "exits_of" ["m"] (aA K cO)) (Yh:fi P w K mg base 2 "ranks_behind" ["exits", "ranks"] (aA K aU)):gE P w K mg base js 3 f fd ["m"] (aA K bL) :=
 qB.ok (t:=gH) F jb nT (fun cy A outer s H E hr =>
  have nd:=jb.nd
  have hu:=hr.units
  (ak (aJ (i:=1) nd rfl (Or.inl rfl) (bf fq' (hr.mono (by decide)) (aa (qv 0) ao)))
   (ak (aJ (i:=2) nd rfl (Or.inl rfl) (ju (aa (Fx (ju (aa au ao)) (gp hu (qv 0) au)) ao)))
   (ak (aJ (i:=3) nd rfl (Or.inl rfl) (bf Yh (hr.mono (by decide)) (aa (qv 1) (aa (gp hu (qv 2) au) ao))))
   (ak (yW PassesOwn.never (cI (Wm (K:=K) hu) Fb (qv 3) (gp hu (qv 2) (Cy au)) (lP _))
   (zQ nd rfl (Or.inl rfl) (pv 2) (pv 3) (bf Yh (hr.mono (by decide)) (aa (qv 1) (aa (qv 3) ao)))))
   (aq (iR (pv 2)))))))) rQ
theorem fH:kK lD ["_law_script", "_law_most"] (b6 bB):=⟨rfl,rfl,rfl,by decide +kernel,rfl,by decide +kernel,by decide +kernel⟩
theorem jR {f:Addr} {fd:FuncData} (F:gX K "_law_machine" "_law_machine" bB f fd) (T:Txt K mg) (GH:fi P w K mg base 1 "_law_cell_at" ["_law_script", "_law_k"] (aA K aF)) (rj:fi P w K mg base 1 "_law_digit" ["_law_cell", "_law_way", "_law_many"] (aA K az)) (fr':fi P w K mg base 2 "_law_menu" ["_law_cell"] (aA K cC)) (EE:fi P w K mg base 2 "_law_draw" ["_law_script", "_law_k", "_law_way", "_law_many"] (aA K aG)):gE P w K mg base js 3 f fd ["_law_script", "_law_most"] (aA K bh) :=
 qB.ok (t:=dJ) F fH jx (fun cy A outer s H E hr =>
  have nd:=fH.nd
  have hu:=hr.units
  (ak (aJ (i:=2) nd rfl (Or.inl rfl) (bf GH (hr.mono (by decide)) (aa (qv 0) (aa au ao))))
   (ak (aJ (i:=3) nd rfl (Or.inl rfl) (bQ au (uA (bf rj (hr.mono (by decide)) (aa (qv 2) (aa au (aa au ao)))) au)))
   (ak (aJ (i:=4) nd rfl (Or.inl rfl) (bQ au (bf rj (hr.mono (by decide)) (aa (qv 2) (aa au (aa au ao))))))
   (ak (aJ (i:=5) nd rfl (Or.inl rfl) (bf rj (hr.mono (by decide)) (aa (qv 2) (aa au (aa au ao)))))
   (ak (dZ (cI (rX (K:=K) hu) gn (qv 5) au (lP _))
   (aq (aJ (i:=4) nd rfl (Or.inl rfl) (uA au (qv 3))))
   bz)
   (ak (dZ (cI (rX (K:=K) hu) gn (qv 5) au (lP _))
   (aq (aJ (i:=4) nd rfl (Or.inl rfl) (bQ au (bf rj (hr.mono (by decide)) (aa (qv 2) (aa au (aa (uA au (qv 3)) ao)))))))
   bz)
   (ak (aJ (i:=6) nd rfl (Or.inl rfl) (bf rj (hr.mono (by decide)) (aa (qv 2) (aa au (aa (gB au (qv 4)) ao)))))
   (ak (dZ (cI (rX (K:=K) hu) gn (qv 5) au (lP _))
   (aq (bu 1 (aJ (i:=6) nd rfl (Or.inl rfl) (qv 1))))
   bz)
   (ak (aJ (i:=7) nd rfl (Or.inl rfl) (bf fr' (hr.mono (by decide)) (aa (bf GH (hr.mono (by decide)) (aa (qv 0) (aa au ao))) ao)))
   (ak (aJ (i:=8) nd rfl (Or.inl rfl) sH)
   (ak (cG PassesOwn.never rfl (bK T.mw (vA Ba wg rfl T.LJ Ao (qv 6) (uA (qv 1) (gB (qv 3) (qv 3))))) (aB (i:=9) nd rfl (Or.inl rfl))
   (ak (aJ (i:=10) nd rfl (Or.inl rfl) (bf EE (hr.mono (by decide)) (aa (qv 0) (aa (qv 9) (aa au (aa (qv 4) ao))))))
   (ak (aJ (i:=11) nd rfl (Or.inl rfl) (bf EE (hr.mono (by decide)) (aa (qv 0) (aa (qv 9) (aa au (aa (qv 4) ao))))))
   (ak (aJ (i:=12) nd rfl (Or.inl rfl) (gp hu (qv 7) (bf EE (hr.mono (by decide)) (aa (qv 0) (aa (qv 9) (aa au (aa (cF bR iB rfl T.vF iC (qv 7)) ao)))))))
   (ak (aJ (i:=13) nd rfl (Or.inl rfl) (bf EE (hr.mono (by decide)) (aa (qv 0) (aa (qv 9) (aa au (aa au ao))))))
   (aq (cG PassesOwn.never rfl (bK T.mw (qv 3)) (aB (i:=14) nd rfl (Or.inl rfl))
   (aq (cG PassesOwn.never rfl (bK T.mw (qv 3)) (aB (i:=15) nd rfl (Or.inl rfl))
   (aq (dZ (S6 (FW (cI (rX (K:=K) hu) gn (qv 13) au (lP _)) (Bo (cI (rX (K:=K) hu) gn (qv 15) (kZ (bQ (qv 13) (qv 14)) (qv 3)) (lP _)))))
   (aq (oH hu (dh (pv 8)) (fY (aa (bQ (qv 10) (gB (qv 4) (qv 14))) (aa (qv 12) (aa (bQ (qv 11) (gB (qv 4) (qv 15))) ao)))) B4))
   bz)))))))))))
   (ak (cG PassesOwn.never rfl (bK T.mw (Hm (gB (qv 3) (qv 4)) au)) (aB (i:=9) nd rfl (Or.inl rfl))
   (aq (dZ (S6 (E_ (cI (rX (K:=K) hu) gn (bf rj (hr.mono (by decide)) (aa (qv 2) (aa au (aa au ao)))) au (lP _)) (Es (cI Gh Jb (kZ (bQ (qv 9) au) (qv 4)) au (lP _)))))
   (aq (oH hu (dh (pv 8)) (fY (aa (qv 9) (aa (gp hu (qv 7) au) (aa (bQ (qv 9) au) ao)))) B4))
   bz)))
   (aq (cz (fY (aa (gB (qv 3) (qv 4)) (aa (cF wj qC rfl T.ED gQ (qv 8)) ao)))))))))))))))))) lQ
theorem jn:kK jh ["m", "p", "q"] (b6 a_):=⟨rfl,rfl,rfl,by decide +kernel,rfl,by decide +kernel,by decide +kernel⟩
theorem rW {f:Addr} (T:Txt K mg) (QF:B9 P w K mg base rn 1 "check_state" ["m", "state"] aO) (Ub:fi P w K mg base 1 "first_apart" ["rounds", "p", "q"] (aA K aZ)) (Uc:fi P w K mg base 3 "rounds_of" ["m"] (aA K bL)) (cy:Value) (A:Around) (outer:List PySem.Env) (s:Shared) (H:Hp) (E:XK) (hr:ku 3 (A.deeper (envOfC "parted_at" (b6 a_) s.heap.objs.size f cy))) :
  qA (sM (om P w mg rn) P w K mg base jh "parted_at" (b6 a_) f cy A outer s H E) K (LX rn mg E) (hJ a_) gq :=
 have nd:=jn.nd
 have hu:(A.deeper (envOfC "parted_at" (b6 a_) s.heap.objs.size f cy)).units+64<cLine:=hr.units
 (ak (nM QF (hr.mono (by decide)) FZ (aa (qv 0) (aa (qv 1) ao)))
   (ak (nM QF (hr.mono (by decide)) FZ (aa (qv 0) (aa (qv 2) ao)))
   (aq (cz (bf Ub (hr.mono (by decide)) (aa (bf Uc (hr.mono (by decide)) (aa (qv 0) ao)) (aa (qv 1) (aa (qv 2) ao))))))))
theorem pU {f:Addr} {fd:FuncData} (F:gX K "parted_at" "parted_at" a_ f fd) (T:Txt K mg) (QF:B9 P w K mg base rn 1 "check_state" ["m", "state"] aO) (Ub:fi P w K mg base 1 "first_apart" ["rounds", "p", "q"] (aA K aZ)) (Uc:fi P w K mg base 3 "rounds_of" ["m"] (aA K bL)):gE P w K mg base (om P w mg rn) 4 f fd ["m", "p", "q"] (fJ K rn mg aP) :=
 XH.ok F jn nP (rW T QF Ub Uc) qW
theorem fU:kK kY ["_law_m", "_law_p", "_law_q"] (b6 bC):=⟨rfl,rfl,rfl,by decide +kernel,rfl,by decide +kernel,by decide +kernel⟩
theorem jU {f:Addr} {fd:FuncData} (F:gX K "_law_refused" "_law_refused" bC f fd) (T:Txt K mg) (N9:B9 P w K mg base rn 4 "parted_at" ["m", "p", "q"] aP):gE P w K mg base js 5 f fd ["_law_m", "_law_p", "_law_q"] (aA K aR) :=
 qB.ok (t:=dN) F fU jy (fun cy A outer s H E hr =>
  have nd:=fU.nd
  have hu:=hr.units
  (ak (aJ (i:=3) nd rfl (Or.inl rfl) yU)
   (zX (i:=3) (j:=4) (ρk:=fun a=>[none,none,none,some (.xc a),none]) T.fm' nd rfl rfl rfl rfl rfl rfl (fun a=>rfl) (fun pn xe E1 XE=>(aq (nM N9 (hr.mono (by decide)) XE (aa (qv 0) (aa (qv 1) (aa (qv 2) ao))))))
   (fun pn a oe n C hn hm xc hp uk=>by
    obtain⟨fs',ft',fu'⟩:=T.fn' n C hn hm
    exact(aq (cz (Jr (vc:=.ref fs') (j:=3) T.GB hp uk xc fu' (pv 3) (Y4 rfl ft' rfl) (fun _ r=>r)))))))) lZ
theorem Ar:kK Ho ["_law_script"] (b6 m9):=⟨rfl,rfl,rfl,by decide +kernel,rfl,by decide +kernel,by decide +kernel⟩
theorem fv' {f:Addr} {fd:FuncData} (F:gX K "law" "law" m9 f fd) (T:Txt K mg) (fw':fi P w K mg base 3 "_law_machine" ["_law_script", "_law_most"] (aA K bh)) (fx':fi P w K mg base 2 "_law_parts" ["_law_rows_here", "_law_most"] (aA K bU)) (fy':fi P w K mg base 1 "_law_rows" ["_law_many", "_law_steps"] (aA K cB)) (GH:fi P w K mg base 1 "_law_cell_at" ["_law_script", "_law_k"] (aA K aF)) (Ud:fi P w K mg base 1 "_law_same" ["_law_found", "_law_due"] (aA K bx)) (N9:B9 P w K mg base rn 4 "parted_at" ["m", "p", "q"] aP) (EE:fi P w K mg base 2 "_law_draw" ["_law_script", "_law_k", "_law_way", "_law_many"] (aA K aG)) (Yi:fi P w K mg base 5 "_law_refused" ["_law_m", "_law_p", "_law_q"] (aA K aR)):gE P w K mg base js 6 f fd ["_law_script"] (aA K LB) :=
 qB.ok (t:=Eh) F Ar Eb (fun cy A outer s H E hr =>
  have nd:=Ar.nd
  have hu:=hr.units
  (ak (BJ (i:=1) (j:=2) rfl nd rfl (Or.inl rfl) rfl (Or.inl rfl) (eC' (bf fw' (hr.mono (by decide)) (aa (qv 0) (aa au ao)))))
   (ak (aJ (i:=3) nd rfl (Or.inl rfl) (bf fx' (hr.mono (by decide)) (aa (bf fy' (hr.mono (by decide)) (aa (qv 1) (aa (qv 2) ao))) (aa (qv 1) ao))))
   (ak (aJ (i:=4) nd rfl (Or.inl rfl) (ju ao))
   (ak (cG PassesOwn.never rfl (bK T.mw au) (aB (i:=5) nd rfl (Or.inl rfl))
   (aq (mH (dh (pv 4)) (fY (aa (bf EE (hr.mono (by decide)) (aa (qv 0) (aa (bQ au (qv 5)) (aa au (aa (qv 1) ao))))) (aa (bf EE (hr.mono (by decide)) (aa (qv 0) (aa (bQ au (qv 5)) (aa au (aa (qv 1) ao))))) ao))))))
   (ak (cG PassesOwn.never rfl (bK T.mw (vA Ba wg rfl T.LJ Ao au (cF bR iB rfl T.vF iC (qv 3)))) (aB (i:=5) nd rfl (Or.inl rfl))
   (aq (mH (dh (pv 4)) (gp hu (cF wj qC rfl T.ED gQ (qv 3)) (bf EE (hr.mono (by decide)) (aa (qv 0) (aa (bQ au (qv 5)) (aa au (aa (cF bR iB rfl T.vF iC (qv 3)) ao)))))))))
   (ak (bu 1 (aJ (i:=6) nd rfl (Or.inl rfl) (fY (aa (qv 1) (aa (ou mV ye rfl T.LH xY (qv 2)) ao)))))
   (ak (bu 4 (cG PassesOwn.never rfl (eQ (qv 4)) (gU rfl (aM (aB (i:=7) nd rfl (Or.inl rfl)) (aM (aB (i:=8) nd rfl (Or.inl rfl)) eU)))
   (ak (bu 8 (bu 7 (dZ (jk (jP (bf Ud (hr.mono (by decide)) (aa (xO N9 (hr.mono (by decide)) (aa (qv 6) (aa (qv 7) (aa (qv 8) ao)))) (aa (wM hu (qv 3) (fY (aa (qv 7) (aa (qv 8) ao)))) ao)))))
   (aq (cz B4))
   bz)))
   (aq (bu 8 (bu 7 (dZ (jk (jP (bf Ud (hr.mono (by decide)) (aa (xO N9 (hr.mono (by decide)) (aa (qv 6) (aa (qv 8) (aa (qv 7) ao)))) (aa (wM hu (qv 3) (fY (aa (qv 7) (aa (qv 8) ao)))) ao)))))
   (aq (cz B4))
   bz)))))))
   (ak (aJ (i:=9) nd rfl (Or.inl rfl) (kZ (bf GH (hr.mono (by decide)) (aa (qv 0) (aa au ao))) (Im au au)))
   (ak (bu 1 (cG PassesOwn.never rfl (eQ (ju (aa (Cy au) (aa (qv 1) (aa (Hm (Cy au) (qv 9)) (aa (bQ (qv 1) (qv 9)) ao)))))) (aB (i:=10) nd rfl (Or.inl rfl))
   (aq (dZ (S6 (FW (jk (jP (bf Yi (hr.mono (by decide)) (aa (qv 6) (aa (qv 10) (aa (qv 7) ao)))))) (Bo (jk (jP (bf Yi (hr.mono (by decide)) (aa (qv 6) (aa (qv 8) (aa (qv 10) ao)))))))))
   (aq (cz B4))
   bz))))
   (aq (bu 8 (bu 7 (bu 2 (bu 1 (cz (Dl (bf Ud (hr.mono (by decide)) (aa (xO N9 (hr.mono (by decide)) (aa (qv 6) (aa (qv 7) (aa (qv 8) ao)))) (aa (wM hu (qv 3) (fY (aa (qv 7) (aa (qv 8) ao)))) ao))) (Fl (uW (rX (K:=K) hu) gn (qv 6) (fY (aa (qv 1) (aa (qv 2) ao))) (lP _)))))))))))))))))))) Ii
end
theorem Ue{us:List Value}(h:us.length=1):∃ a0,us=[a0]:=by
 cases us with
 |nil=>simp at h
 |cons a0 us =>
 cases us with
 |nil=>exact⟨_,rfl⟩
 |cons b us=>simp at h
theorem GL{us:List Value}(h:us.length=2):∃ a0 a1,us=[a0,a1]:=by
 cases us with
 |nil=>simp at h
 |cons a0 us =>
 cases us with
 |nil=>simp at h
 |cons a1 us =>
 cases us with
 |nil=>exact⟨_,_,rfl⟩
 |cons b us=>simp at h
theorem N_{us:List Value}(h:us.length=3):∃ a0 a1 a2,us=[a0,a1,a2]:=by
 cases us with
 |nil=>simp at h
 |cons a0 us =>
 cases us with
 |nil=>simp at h
 |cons a1 us =>
 cases us with
 |nil=>simp at h
 |cons a2 us =>
 cases us with
 |nil=>exact⟨_,_,_,rfl⟩
 |cons b us=>simp at h
theorem Yj{us:List Value}(h:us.length=4):∃ a0 a1 a2 a3,us=[a0,a1,a2,a3]:=by
 cases us with
 |nil=>simp at h
 |cons a0 us =>
 cases us with
 |nil=>simp at h
 |cons a1 us =>
 cases us with
 |nil=>simp at h
 |cons a2 us =>
 cases us with
 |nil=>simp at h
 |cons a3 us =>
 cases us with
 |nil=>exact⟨_,_,_,_,rfl⟩
 |cons b us=>simp at h
theorem all_mk {l:PySem.W.OpenLaw} {w:World} {K:PySem.W.Frag} {h:Heap} {mg:Str->Option Value} {fa:Addr} (X:K.In h) (G:h.Ns mainGlobals mg) (hfa:mg "law" = some (.ref fa))
  (a0:PySem.W.nsIn K mainGlobals "check_state" = some (some (.ref f0))) (l0:K.lookup f0=some ⟨o0,d0,.func (PySem.W.fnOf "check_state" "check_state" (kz aL) (hJ aL) (b6 aL) .none v0 j0 p0 e0 r0 u0),t0⟩) (c0:PySem.W.codeIn K r0 "check_state" = true) (k0:PySem.W.keepIn K (.ref f0)=true)
  (a1:PySem.W.nsIn K mainGlobals "exits_of" = some (some (.ref f1))) (l1:K.lookup f1=some ⟨o1,d1,.func (PySem.W.fnOf "exits_of" "exits_of" (kz cJ) (hJ cJ) (b6 cJ) .none v1 j1 p1 e1 r1 u1),t1⟩) (c1:PySem.W.codeIn K r1 "exits_of" = true) (k1:PySem.W.keepIn K (.ref f1)=true)
  (a2:PySem.W.nsIn K mainGlobals "key_of" = some (some (.ref f2))) (l2:K.lookup f2=some ⟨o2,d2,.func (PySem.W.fnOf "key_of" "key_of" (kz eG) (hJ eG) (b6 eG) .none v2 j2 p2 e2 r2 u2),t2⟩) (c2:PySem.W.codeIn K r2 "key_of" = true) (k2:PySem.W.keepIn K (.ref f2)=true)
  (a3:PySem.W.nsIn K mainGlobals "ranks_behind" = some (some (.ref f3))) (l3:K.lookup f3=some ⟨o3,d3,.func (PySem.W.fnOf "ranks_behind" "ranks_behind" (kz aN) (hJ aN) (b6 aN) .none v3 j3 p3 e3 r3 u3),t3⟩) (c3:PySem.W.codeIn K r3 "ranks_behind" = true) (k3:PySem.W.keepIn K (.ref f3)=true)
  (a4:PySem.W.nsIn K mainGlobals "rounds_of" = some (some (.ref f4))) (l4:K.lookup f4=some ⟨o4,d4,.func (PySem.W.fnOf "rounds_of" "rounds_of" (kz cM) (hJ cM) (b6 cM) .none v4 j4 p4 e4 r4 u4),t4⟩) (c4:PySem.W.codeIn K r4 "rounds_of" = true) (k4:PySem.W.keepIn K (.ref f4)=true)
  (a5:PySem.W.nsIn K mainGlobals "first_apart" = some (some (.ref f5))) (l5:K.lookup f5=some ⟨o5,d5,.func (PySem.W.fnOf "first_apart" "first_apart" (kz bO) (hJ bO) (b6 bO) .none v5 j5 p5 e5 r5 u5),t5⟩) (c5:PySem.W.codeIn K r5 "first_apart" = true) (k5:PySem.W.keepIn K (.ref f5)=true)
  (a6:PySem.W.nsIn K mainGlobals "parted_at" = some (some (.ref f6))) (l6:K.lookup f6=some ⟨o6,d6,.func (PySem.W.fnOf "parted_at" "parted_at" (kz a_) (hJ a_) (b6 a_) .none v6 j6 p6 e6 r6 u6),t6⟩) (c6:PySem.W.codeIn K r6 "parted_at" = true) (k6:PySem.W.keepIn K (.ref f6)=true)
  (a7:PySem.W.nsIn K mainGlobals "_law_cell_at" = some (some (.ref f7))) (l7:K.lookup f7=some ⟨o7,d7,.func (PySem.W.fnOf "_law_cell_at" "_law_cell_at" (kz bD) (hJ bD) (b6 bD) .none v7 j7 p7 e7 r7 u7),t7⟩) (c7:PySem.W.codeIn K r7 "_law_cell_at" = true) (k7:PySem.W.keepIn K (.ref f7)=true)
  (a8:PySem.W.nsIn K mainGlobals "_law_digit" = some (some (.ref f8))) (l8:K.lookup f8=some ⟨o8,d8,.func (PySem.W.fnOf "_law_digit" "_law_digit" (kz cu) (hJ cu) (b6 cu) .none v8 j8 p8 e8 r8 u8),t8⟩) (c8:PySem.W.codeIn K r8 "_law_digit" = true) (k8:PySem.W.keepIn K (.ref f8)=true)
  (a9:PySem.W.nsIn K mainGlobals "_law_menu" = some (some (.ref f9))) (l9:K.lookup f9=some ⟨o9,d9,.func (PySem.W.fnOf "_law_menu" "_law_menu" (kz aV) (hJ aV) (b6 aV) .none v9 j9 p9 e9 r9 u9),t9⟩) (c9:PySem.W.codeIn K r9 "_law_menu" = true) (k9:PySem.W.keepIn K (.ref f9)=true)
  (Ug:PySem.W.nsIn K mainGlobals "_law_draw" = some (some (.ref Yk))) (l10:K.lookup Yk=some ⟨CC,d10,.func (PySem.W.fnOf "_law_draw" "_law_draw" (kz cP) (hJ cP) (b6 cP) .none v10 j10 p10 e10 R9 u10),t10⟩) (Uh:PySem.W.codeIn K R9 "_law_draw" = true) (Ui:PySem.W.keepIn K (.ref Yk)=true)
  (Uj:PySem.W.nsIn K mainGlobals "_law_machine" = some (some (.ref Yl))) (Uk:K.lookup Yl=some ⟨N3,d11,.func (PySem.W.fnOf "_law_machine" "_law_machine" (kz bB) (hJ bB) (b6 bB) .none v11 j11 p11 e11 r11 u11),t11⟩) (Ul:PySem.W.codeIn K r11 "_law_machine" = true) (Um:PySem.W.keepIn K (.ref Yl)=true)
  (Uo:PySem.W.nsIn K mainGlobals "_law_rows" = some (some (.ref Ym))) (Uq:K.lookup Ym=some ⟨N4,d12,.func (PySem.W.fnOf "_law_rows" "_law_rows" (kz cg) (hJ cg) (b6 cg) .none v12 j12 p12 e12 r12 u12),t12⟩) (Ur:PySem.W.codeIn K r12 "_law_rows" = true) (Us:PySem.W.keepIn K (.ref Ym)=true)
  (Ut:PySem.W.nsIn K mainGlobals "_law_both_ways" = some (some (.ref Yn))) (Uu:K.lookup Yn=some ⟨N5,d13,.func (PySem.W.fnOf "_law_both_ways" "_law_both_ways" (kz aK) (hJ aK) (b6 aK) .none v13 j13 p13 e13 r13 u13),t13⟩) (Uv:PySem.W.codeIn K r13 "_law_both_ways" = true) (Uw:PySem.W.keepIn K (.ref Yn)=true)
  (Ux:PySem.W.nsIn K mainGlobals "_law_parts" = some (some (.ref Yo))) (Uy:K.lookup Yo=some ⟨CD,d14,.func (PySem.W.fnOf "_law_parts" "_law_parts" (kz bw) (hJ bw) (b6 bw) .none v14 j14 p14 e14 r14 u14),t14⟩) (Uz:PySem.W.codeIn K r14 "_law_parts" = true) (UA:PySem.W.keepIn K (.ref Yo)=true)
  (UB:PySem.W.nsIn K mainGlobals "_law_refused" = some (some (.ref Yp))) (UC:K.lookup Yp=some ⟨vE,d15,.func (PySem.W.fnOf "_law_refused" "_law_refused" (kz bC) (hJ bC) (b6 bC) .none v15 j15 p15 e15 r15 u15),t15⟩) (UD:PySem.W.codeIn K r15 "_law_refused" = true) (UE:PySem.W.keepIn K (.ref Yp)=true)
  (UG:PySem.W.nsIn K mainGlobals "_law_same" = some (some (.ref Yq))) (UH:K.lookup Yq=some ⟨o16,d16,.func (PySem.W.fnOf "_law_same" "_law_same" (kz cN) (hJ cN) (b6 cN) .none v16 j16 p16 e16 r16 u16),t16⟩) (c16:PySem.W.codeIn K r16 "_law_same" = true) (UI:PySem.W.keepIn K (.ref Yq)=true)
  (UJ:PySem.W.nsIn K mainGlobals "law" = some (some (.ref Yr))) (UK:K.lookup Yr=some ⟨o17,d17,.func (PySem.W.fnOf "law" "law" (kz m9) (hJ m9) (b6 m9) .none v17 j17 p17 e17 Ys u17),t17⟩) (UL:PySem.W.codeIn K Ys "law" = true) (UM:PySem.W.keepIn K (.ref Yr)=true)
  (LD:PySem.W.nsIn K mainGlobals "any" = some none)
  (N6:PySem.W.nsIn K mainGlobals "bool" = some none)
  (N7:PySem.W.nsIn K mainGlobals "enumerate" = some none)
  (LG:PySem.W.nsIn K mainGlobals "int" = some none)
  (GB:PySem.W.nsIn K mainGlobals "isinstance" = some none)
  (vF:PySem.W.nsIn K mainGlobals "len" = some none)
  (LH:PySem.W.nsIn K mainGlobals "list" = some none)
  (LJ:PySem.W.nsIn K mainGlobals "min" = some none)
  (mw:PySem.W.nsIn K mainGlobals "range" = some none)
  (N8:PySem.W.nsIn K mainGlobals "set" = some none)
  (ED:PySem.W.nsIn K mainGlobals "sorted" = some none)
  {EF:Addr} (UN:PySem.W.nsIn K mainGlobals "KinError" = some (some (.ref EF)))
  {y3:Addr} (UO:PySem.W.nsIn K mainGlobals "NoState" = some (some (.ref y3)))
  (UQ:PySem.W.excIn K EF [.type "ValueError",.type "Exception",.type "BaseException",.type "object"] "ValueError.__new__" = true) (UR:PySem.W.findIn K (.ref EF) "__getattr__" = some none) (UT:PySem.W.findIn K (.ref EF) "__getattribute__" = some (some (.builtin "BaseException.__getattribute__"))) (UU:PySem.W.findIn K (.ref EF) "__class__" = some (some (.builtin "object.__class__"))) (UW:PySem.W.mroIn K EF (.type "object")=some true)
  (UX:PySem.W.excIn K y3 [.type "ValueError",.type "Exception",.type "BaseException",.type "object"] "ValueError.__new__" = true) (UY:PySem.W.findIn K (.ref y3) "__getattr__" = some none) (UZ:PySem.W.findIn K (.ref y3) "__getattribute__" = some (some (.builtin "BaseException.__getattribute__"))) (U0:PySem.W.findIn K (.ref y3) "__class__" = some (some (.builtin "object.__class__"))) (U4:PySem.W.mroIn K y3 (.type "object")=some true)
  (U5:PySem.W.mroIn K y3 (.ref EF)=some true)
  (U6:PySem.W.kitOne K (.ref y3) (.ref y3)=some true)
  : ∃ fd:FuncData,(∀ (s:Shared) (v:Value),BindsTo s fd ⟨[v],[]⟩ [("_law_script",v)])/\∀ base:Heap,K.In base->base.Ns mainGlobals mg->gE l.prog w K mg base js 6 fa fd ["_law_script"] (aA K LB):=by
 have e:=hfa.symm.trans (PySem.W.mg_of X G UJ)
 cases e
 have fL':=PySem.W.mg_of X G UN
 have U7:=PySem.W.mg_of X G UO
 have fM':nK K EF:=⟨UQ,UR,UT,UU,UW⟩
 have Yt:nK K y3:=⟨UX,UY,UZ,U0,U4⟩
 have each:∀ {G:Str->Addr->Prop},G "NoState" y3->∀ n C,n∈rn->mg n=some (.ref C)->G n C:=by
  intro G fN' n C hn hm
  simp only[rn,cS,EI,or_false] at hn
  rcases hn with rfl
  ·rw[U7] at hm;cases hm;exact fN'
 have T:Txt K mg:=⟨PySem.W.mg_none_of X G LD,PySem.W.mg_none_of X G N6,PySem.W.mg_none_of X G N7,PySem.W.mg_none_of X G LG,PySem.W.mg_none_of X G GB,PySem.W.mg_none_of X G vF,PySem.W.mg_none_of X G LH,PySem.W.mg_none_of X G LJ,PySem.W.mg_none_of X G mw,PySem.W.mg_none_of X G N8,PySem.W.mg_none_of X G ED,⟨_,U7,Yt⟩,⟨_,fL',fM',each ⟨Yt,U5⟩⟩,each ⟨_,U7,U6⟩⟩
 have F0:=n4 (st:=aL) l0 c0 k0
 have F1:=n4 (st:=cJ) l1 c1 k1
 have F2:=n4 (st:=eG) l2 c2 k2
 have F3:=n4 (st:=aN) l3 c3 k3
 have F4:=n4 (st:=cM) l4 c4 k4
 have F5:=n4 (st:=bO) l5 c5 k5
 have F6:=n4 (st:=a_) l6 c6 k6
 have F7:=n4 (st:=bD) l7 c7 k7
 have F8:=n4 (st:=cu) l8 c8 k8
 have F9:=n4 (st:=aV) l9 c9 k9
 have Yu:=n4 (st:=cP) l10 Uh Ui
 have Yv:=n4 (st:=bB) Uk Ul Um
 have Yw:=n4 (st:=cg) Uq Ur Us
 have Yx:=n4 (st:=aK) Uu Uv Uw
 have Yy:=n4 (st:=bw) Uy Uz UA
 have Yz:=n4 (st:=bC) UC UD UE
 have YB:=n4 (st:=cN) UH c16 UI
 have F17:=n4 (st:=m9) UK UL UM
 refine⟨PySem.W.fnOf "law" "law" (kz m9) (hJ m9) (b6 m9) .none v17 j17 p17 e17 Ys u17,fun s v=>.of_eq rfl,fun base _ _=>?_⟩
 have C0:B9 l.prog w K mg base rn 1 "check_state" ["m", "state"] aO:=gX.XI F0 (PySem.W.mg_of X G a0) (lN F0 T ) fun _ _ _ _ _ _ us hl=>by obtain⟨_,_,rfl⟩:=GL hl;rfl
 have C1:fi l.prog w K mg base 1 "exits_of" ["m"] (aA K cO):=F1.rV (PySem.W.mg_of X G a1) (rK F1 T ) fun _ _ _ _ _ _ us hl=>by obtain⟨_,rfl⟩:=Ue hl;rfl
 have C2:fi l.prog w K mg base 1 "key_of" ["exits", "ranks", "state"] (aA K dR):=F2.rV (PySem.W.mg_of X G a2) (xT F2 T ) fun _ _ _ _ _ _ us hl=>by obtain⟨_,_,_,rfl⟩:=N_ hl;rfl
 have C5:fi l.prog w K mg base 1 "first_apart" ["rounds", "p", "q"] (aA K aZ):=F5.rV (PySem.W.mg_of X G a5) (lM F5 T ) fun _ _ _ _ _ _ us hl=>by obtain⟨_,_,_,rfl⟩:=N_ hl;rfl
 have C7:fi l.prog w K mg base 1 "_law_cell_at" ["_law_script", "_law_k"] (aA K aF):=F7.rV (PySem.W.mg_of X G a7) (lB F7 T ) fun _ _ _ _ _ _ us hl=>by obtain⟨_,_,rfl⟩:=GL hl;rfl
 have C8:fi l.prog w K mg base 1 "_law_digit" ["_law_cell", "_law_way", "_law_many"] (aA K az):=F8.rV (PySem.W.mg_of X G a8) (oV F8 T ) fun _ _ _ _ _ _ us hl=>by obtain⟨_,_,_,rfl⟩:=N_ hl;rfl
 have C12:fi l.prog w K mg base 1 "_law_rows" ["_law_many", "_law_steps"] (aA K cB):=Yw.rV (PySem.W.mg_of X G Uo) (pX Yw T ) fun _ _ _ _ _ _ us hl=>by obtain⟨_,_,rfl⟩:=GL hl;rfl
 have C13:fi l.prog w K mg base 1 "_law_both_ways" ["_law_rows_here", "_law_one", "_law_other", "_law_pairs"] (aA K aQ):=Yx.rV (PySem.W.mg_of X G Ut) (iT Yx T ) fun _ _ _ _ _ _ us hl=>by obtain⟨_,_,_,_,rfl⟩:=Yj hl;rfl
 have C16:fi l.prog w K mg base 1 "_law_same" ["_law_found", "_law_due"] (aA K bx):=YB.rV (PySem.W.mg_of X G UG) (qp YB T ) fun _ _ _ _ _ _ us hl=>by obtain⟨_,_,rfl⟩:=GL hl;rfl
 have C3:fi l.prog w K mg base 2 "ranks_behind" ["exits", "ranks"] (aA K aU):=F3.rV (PySem.W.mg_of X G a3) (lA F3 T C2) fun _ _ _ _ _ _ us hl=>by obtain⟨_,_,rfl⟩:=GL hl;rfl
 have C9:fi l.prog w K mg base 2 "_law_menu" ["_law_cell"] (aA K cC):=F9.rV (PySem.W.mg_of X G a9) (pZ F9 T C8) fun _ _ _ _ _ _ us hl=>by obtain⟨_,rfl⟩:=Ue hl;rfl
 have YC:fi l.prog w K mg base 2 "_law_draw" ["_law_script", "_law_k", "_law_way", "_law_many"] (aA K aG):=Yu.rV (PySem.W.mg_of X G Ug) (pC Yu T C7 C8) fun _ _ _ _ _ _ us hl=>by obtain⟨_,_,_,_,rfl⟩:=Yj hl;rfl
 have C14:fi l.prog w K mg base 2 "_law_parts" ["_law_rows_here", "_law_most"] (aA K bU):=Yy.rV (PySem.W.mg_of X G Ux) (oA Yy T C13) fun _ _ _ _ _ _ us hl=>by obtain⟨_,_,rfl⟩:=GL hl;rfl
 have C4:fi l.prog w K mg base 3 "rounds_of" ["m"] (aA K bL):=F4.rV (PySem.W.mg_of X G a4) (pI F4 T C1 C3) fun _ _ _ _ _ _ us hl=>by obtain⟨_,rfl⟩:=Ue hl;rfl
 have C11:fi l.prog w K mg base 3 "_law_machine" ["_law_script", "_law_most"] (aA K bh):=Yv.rV (PySem.W.mg_of X G Uj) (jR Yv T C7 C8 C9 YC) fun _ _ _ _ _ _ us hl=>by obtain⟨_,_,rfl⟩:=GL hl;rfl
 have C6:B9 l.prog w K mg base rn 4 "parted_at" ["m", "p", "q"] aP:=gX.XI F6 (PySem.W.mg_of X G a6) (pU F6 T C0 C5 C4) fun _ _ _ _ _ _ us hl=>by obtain⟨_,_,_,rfl⟩:=N_ hl;rfl
 have C15:fi l.prog w K mg base 5 "_law_refused" ["_law_m", "_law_p", "_law_q"] (aA K aR):=Yz.rV (PySem.W.mg_of X G UB) (jU Yz T C6) fun _ _ _ _ _ _ us hl=>by obtain⟨_,_,_,rfl⟩:=N_ hl;rfl
 exact fv' F17 T C11 C14 C12 C7 C16 C6 YC C15
theorem walk{l:PySem.W.OpenLaw}{q:Program}{loose:List Str}{XP:(Str->Option Value)->Heap->Prop}{YP:World->Heap->Prop}{d:DefRec}{K:Params->PySem.W.Frag}(hn:l.most=some 63)(MT:d.params.defaults=[])
  (hY:∀ (w:World) (h:Heap),YP w h->(K w.params).In h)
  (F:∀ (w:World) (mg:Str->Option Value) (fa:Addr) (h:Heap),(K w.params).In h->h.Ns mainGlobals mg->mg d.name=some (.ref fa) ->
   ∃ fd:FuncData,(∀ (s:Shared) (u:Value),BindsTo s fd ⟨[u],[]⟩ [("_law_script",u)])/\∀ base:Heap,(K w.params).In base->base.Ns mainGlobals mg->gE l.prog w (K w.params) mg base js 6 fa fd ["_law_script"] (aA (K w.params) LB)) :
  PySem.W.WalkO q loose XP YP l.row.toRowW d [] (fun f vs=>PySem.call f vs) :=
 L2.bu' (n:=63) (k:=6) (x := "_law_script") (CX:=fun _=>js) (sp:=fun w=>aA (K w.params) LB) hn (by decide) MT ⟨rfl,by decide,by decide⟩ hY F (fun w H a ns hl hO hS=>zT hl hS) fun _ _ _ _ _ z=>z
end L2.Q.T3
open PySem PySem.W PyProof.Rows
namespace PySem.W.Fast
def tw9008239650933660541:=0
def tw3346142554592835132:=0
def tw184603213178368216:=0
def tw14368644464637485272:=0
def tw4527041872196906944:=0
def tw10966118304140341503:=0
def tw11507492616118397177:=0
def tw8668031370787748144:=0
def tw18039584654900098333:=0
def tw9002739374063009727:=0
def tw4194114550147763669:=0
def tw15725338569735257517:=0
def tw11467642787603214395:=0
def tw4463291942181179168:=0
def tw5315556304097874833:=0
def tw10336130836905282010:=0
def tw11891616918428807654:=0
def tw10865172813471926503:=0
def tw3703211108220713530:=0
def tw9732364416508459272:=0
def tw11191045133605944088:=0
end PySem.W.Fast
set_option maxRecDepth 100000 in
set_option maxHeartbeats 0 in
theorem PySem.Challenge.cw_kinlook_k37_parted_at_holds : PySem.Challenge.rw_kinlook_k37_parted_at.Holds := by
 w_on;o_law;k_head;(case hw=>w_witness2)
 k_fill
 refine L2.Q.T3.walk (l:=PySem.Challenge.rw_kinlook_k37_parted_at) rfl rfl (fun w h Y=>PySem.W.kIn_of Y) ?F
 case F =>
  intro w mg fa h KX G MV
  refine' L2.Q.T3.all_mk KX G MV ?a0 ?l0 ?c0 ?k0 ?a1 ?l1 ?c1 ?k1 ?a2 ?l2 ?c2 ?k2 ?a3 ?l3 ?c3 ?k3 ?a4 ?l4 ?c4 ?k4 ?a5 ?l5 ?c5 ?k5 ?a6 ?l6 ?c6 ?k6 ?a7 ?l7 ?c7 ?k7 ?a8 ?l8 ?c8 ?k8 ?a9 ?l9 ?c9 ?k9 ?Ug ?l10 ?Uh ?Ui ?Uj ?Uk ?Ul ?Um ?Uo ?Uq ?Ur ?Us ?Ut ?Uu ?Uv ?Uw ?Ux ?Uy ?Uz ?UA ?UB ?UC ?UD ?UE ?UG ?UH ?c16 ?UI ?UJ ?UK ?UL ?UM ?LD ?N6 ?N7 ?LG ?GB ?vF ?LH ?LJ ?mw ?N8 ?ED ?UN ?UO ?UQ ?UR ?UT ?UU ?UW ?UX ?UY ?UZ ?U0 ?U4 ?U5 ?U6
  (case a0=>k_is)
  (case l0=>k_is)
  (case c0=>k_is)
  (case k0=>k_is)
  (case a1=>k_is)
  (case l1=>k_is)
  (case c1=>k_is)
  (case k1=>k_is)
  (case a2=>k_is)
  (case l2=>k_is)
  (case c2=>k_is)
  (case k2=>k_is)
  (case a3=>k_is)
  (case l3=>k_is)
  (case c3=>k_is)
  (case k3=>k_is)
  (case a4=>k_is)
  (case l4=>k_is)
  (case c4=>k_is)
  (case k4=>k_is)
  (case a5=>k_is)
  (case l5=>k_is)
  (case c5=>k_is)
  (case k5=>k_is)
  (case a6=>k_is)
  (case l6=>k_is)
  (case c6=>k_is)
  (case k6=>k_is)
  (case a7=>k_is)
  (case l7=>k_is)
  (case c7=>k_is)
  (case k7=>k_is)
  (case a8=>k_is)
  (case l8=>k_is)
  (case c8=>k_is)
  (case k8=>k_is)
  (case a9=>k_is)
  (case l9=>k_is)
  (case c9=>k_is)
  (case k9=>k_is)
  (case Ug=>k_is)
  (case l10=>k_is)
  (case Uh=>k_is)
  (case Ui=>k_is)
  (case Uj=>k_is)
  (case Uk=>k_is)
  (case Ul=>k_is)
  (case Um=>k_is)
  (case Uo=>k_is)
  (case Uq=>k_is)
  (case Ur=>k_is)
  (case Us=>k_is)
  (case Ut=>k_is)
  (case Uu=>k_is)
  (case Uv=>k_is)
  (case Uw=>k_is)
  (case Ux=>k_is)
  (case Uy=>k_is)
  (case Uz=>k_is)
  (case UA=>k_is)
  (case UB=>k_is)
  (case UC=>k_is)
  (case UD=>k_is)
  (case UE=>k_is)
  (case UG=>k_is)
  (case UH=>k_is)
  (case c16=>k_is)
  (case UI=>k_is)
  (case UJ=>k_is)
  (case UK=>k_is)
  (case UL=>k_is)
  (case UM=>k_is)
  (case LD=>k_is)
  (case N6=>k_is)
  (case N7=>k_is)
  (case LG=>k_is)
  (case GB=>k_is)
  (case vF=>k_is)
  (case LH=>k_is)
  (case LJ=>k_is)
  (case mw=>k_is)
  (case N8=>k_is)
  (case ED=>k_is)
  (case UN=>k_is)
  (case UO=>k_is)
  (case UQ=>k_exc)
  (case UR=>k_is)
  (case UT=>k_is)
  (case UU=>k_is)
  (case UW=>k_is)
  (case UX=>k_exc)
  (case UY=>k_is)
  (case UZ=>k_is)
  (case U0=>k_is)
  (case U4=>k_is)
  (case U5=>k_is)
  (case U6=>kit_is)
